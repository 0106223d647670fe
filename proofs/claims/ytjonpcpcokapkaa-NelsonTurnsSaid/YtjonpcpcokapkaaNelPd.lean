/- nelson's allButOne. -/
import Derived.Test.YtjonpcpcokapkaaNelPc
namespace Go.Proofs.Ytjonpcpcokapkaa
open Go.RowKit

set_option linter.unusedSimpArgs false in
set_option linter.unusedVariables false in
set_option maxHeartbeats 4000000 in
set_option maxRecDepth 100000 in
theorem but_1 (c f : Int) (b : Bool) (cl st sd na nb : Int) (hf : 0 ≤ f ∧ f ≤ 4) (hna : 0 ≤ na ∧ na ≤ 100) (hnb : 0 ≤ nb ∧ nb ≤ 100) (h1 : c < f) (h2 : -f < c) (h3 : na + 1 ≤ 1) (w : World) : Calls Try.prog 51 #[lookA c ⟨b, cl, st, sd, na, nb⟩, .int .i64 f] w fun e w' => e = .returned (.tuple #[pastA ⟨b, cl, st, sd, na + 1, nb + 1⟩, .bool true]) ∧ Below w.heap.size w w' := by
  obtain ⟨w2, hw2⟩ : ∃ w2, (((w.alloc (lookO c ⟨b, cl, st, sd, na, nb⟩)).alloc zeroO).alloc (.cells #[.bool b, .int .i64 cl, .int .i64 st, .int .i64 sd, .int .i64 (na + 1), .int .i64 (nb + 1)] 55)) = w2 := ⟨_, rfl⟩
  have hi : Three w w2 (lookV c b cl st sd na nb) zeroV [.bool b, .int .i64 cl, .int .i64 st, .int .i64 sd, .int .i64 (na + 1), .int .i64 (nb + 1)] 57 55 55 := by rw [← hw2]; exact three w _ _ _ _ _ _
  have HI := Lib.hid hi; have HW2 := Lib.hid hw2
  clear hi hw2
  go_enter Try.func51, Try.ntmps51
  go_upto_region 6 with fail
  rw [HW2.out]
  have d0 := HI.out.c.cell 0; have z0 := HI.out.b.cell 0; have y0 := HI.out.b.frozen 0
  have d1 := HI.out.c.cell 1; have z1 := HI.out.b.cell 1; have y1 := HI.out.b.frozen 1
  have d2 := HI.out.c.cell 2; have z2 := HI.out.b.cell 2; have y2 := HI.out.b.frozen 2
  have d3 := HI.out.c.cell 3; have z3 := HI.out.b.cell 3; have y3 := HI.out.b.frozen 3
  have d4 := HI.out.c.cell 4; have z4 := HI.out.b.cell 4; have y4 := HI.out.b.frozen 4
  have d5 := HI.out.c.cell 5; have z5 := HI.out.b.cell 5; have y5 := HI.out.b.frozen 5
  simp only [List.getElem?_cons_zero, List.getElem?_cons_succ] at d0 z0 d1 z1 d2 z2 d3 z3 d4 z4 d5 z5
  have l1 := HI.out.b.lt; have l2 := HI.out.c.lt
  have HR := Lib.hid (HI.out.b.put6 (.bool b) (.int .i64 cl) (.int .i64 st) (.int .i64 sd) (.int .i64 (na + 1)) (.int .i64 (nb + 1)))
  have HB := Lib.hid (Below.put6 HI.out.below (b := w.heap.size + 1) (by omega) (.bool b) (.int .i64 cl) (.int .i64 st) (.int .i64 sd) (.int .i64 (na + 1)) (.int .i64 (nb + 1)))
  go_region
  all_goals
    go_wp2
    (try simp only [Exit.inBlock, Exit.then])
    exact bodyPost_ret (results_cell_tmp rfl rfl (loadP HR.out.drew)) rfl ⟨rfl, HB.out.drew⟩
set_option linter.unusedSimpArgs false in
set_option linter.unusedVariables false in
set_option maxHeartbeats 4000000 in
set_option maxRecDepth 100000 in
theorem but_2 (c f : Int) (b : Bool) (cl st sd na nb : Int) (hf : 0 ≤ f ∧ f ≤ 4) (hna : 0 ≤ na ∧ na ≤ 100) (hnb : 0 ≤ nb ∧ nb ≤ 100) (h1 : c < f) (h2 : -f < c) (h3 : ¬ na + 1 ≤ 1) (h4 : nb + 1 ≤ 1) (w : World) : Calls Try.prog 51 #[lookA c ⟨b, cl, st, sd, na, nb⟩, .int .i64 f] w fun e w' => e = .returned (.tuple #[pastA ⟨b, cl, st, sd, na + 1, nb + 1⟩, .bool true]) ∧ Below w.heap.size w w' := by
  obtain ⟨w2, hw2⟩ : ∃ w2, (((w.alloc (lookO c ⟨b, cl, st, sd, na, nb⟩)).alloc zeroO).alloc (.cells #[.bool b, .int .i64 cl, .int .i64 st, .int .i64 sd, .int .i64 (na + 1), .int .i64 (nb + 1)] 55)) = w2 := ⟨_, rfl⟩
  have hi : Three w w2 (lookV c b cl st sd na nb) zeroV [.bool b, .int .i64 cl, .int .i64 st, .int .i64 sd, .int .i64 (na + 1), .int .i64 (nb + 1)] 57 55 55 := by rw [← hw2]; exact three w _ _ _ _ _ _
  have HI := Lib.hid hi; have HW2 := Lib.hid hw2
  clear hi hw2
  go_enter Try.func51, Try.ntmps51
  go_upto_region 6 with fail
  rw [HW2.out]
  have d0 := HI.out.c.cell 0; have z0 := HI.out.b.cell 0; have y0 := HI.out.b.frozen 0
  have d1 := HI.out.c.cell 1; have z1 := HI.out.b.cell 1; have y1 := HI.out.b.frozen 1
  have d2 := HI.out.c.cell 2; have z2 := HI.out.b.cell 2; have y2 := HI.out.b.frozen 2
  have d3 := HI.out.c.cell 3; have z3 := HI.out.b.cell 3; have y3 := HI.out.b.frozen 3
  have d4 := HI.out.c.cell 4; have z4 := HI.out.b.cell 4; have y4 := HI.out.b.frozen 4
  have d5 := HI.out.c.cell 5; have z5 := HI.out.b.cell 5; have y5 := HI.out.b.frozen 5
  simp only [List.getElem?_cons_zero, List.getElem?_cons_succ] at d0 z0 d1 z1 d2 z2 d3 z3 d4 z4 d5 z5
  have l1 := HI.out.b.lt; have l2 := HI.out.c.lt
  have HR := Lib.hid (HI.out.b.put6 (.bool b) (.int .i64 cl) (.int .i64 st) (.int .i64 sd) (.int .i64 (na + 1)) (.int .i64 (nb + 1)))
  have HB := Lib.hid (Below.put6 HI.out.below (b := w.heap.size + 1) (by omega) (.bool b) (.int .i64 cl) (.int .i64 st) (.int .i64 sd) (.int .i64 (na + 1)) (.int .i64 (nb + 1)))
  go_region
  all_goals
    go_wp2
    (try simp only [Exit.inBlock, Exit.then])
    exact bodyPost_ret (results_cell_tmp rfl rfl (loadP HR.out.drew)) rfl ⟨rfl, HB.out.drew⟩
set_option linter.unusedSimpArgs false in
set_option linter.unusedVariables false in
set_option maxHeartbeats 4000000 in
set_option maxRecDepth 100000 in
theorem but_3 (c f : Int) (b : Bool) (cl st sd na nb : Int) (hf : 0 ≤ f ∧ f ≤ 4) (hna : 0 ≤ na ∧ na ≤ 100) (hnb : 0 ≤ nb ∧ nb ≤ 100) (h1 : c < f) (h2 : -f < c) (h3 : ¬ na + 1 ≤ 1) (h4 : ¬ nb + 1 ≤ 1) (w : World) : Calls Try.prog 51 #[lookA c ⟨b, cl, st, sd, na, nb⟩, .int .i64 f] w fun e w' => e = .returned (.tuple #[pastA ⟨b, cl, st, sd, na + 1, nb + 1⟩, .bool false]) ∧ Below w.heap.size w w' := by
  obtain ⟨w2, hw2⟩ : ∃ w2, (((w.alloc (lookO c ⟨b, cl, st, sd, na, nb⟩)).alloc zeroO).alloc (.cells #[.bool b, .int .i64 cl, .int .i64 st, .int .i64 sd, .int .i64 (na + 1), .int .i64 (nb + 1)] 55)) = w2 := ⟨_, rfl⟩
  have hi : Three w w2 (lookV c b cl st sd na nb) zeroV [.bool b, .int .i64 cl, .int .i64 st, .int .i64 sd, .int .i64 (na + 1), .int .i64 (nb + 1)] 57 55 55 := by rw [← hw2]; exact three w _ _ _ _ _ _
  have HI := Lib.hid hi; have HW2 := Lib.hid hw2
  clear hi hw2
  go_enter Try.func51, Try.ntmps51
  go_upto_region 6 with fail
  rw [HW2.out]
  have d0 := HI.out.c.cell 0; have z0 := HI.out.b.cell 0; have y0 := HI.out.b.frozen 0
  have d1 := HI.out.c.cell 1; have z1 := HI.out.b.cell 1; have y1 := HI.out.b.frozen 1
  have d2 := HI.out.c.cell 2; have z2 := HI.out.b.cell 2; have y2 := HI.out.b.frozen 2
  have d3 := HI.out.c.cell 3; have z3 := HI.out.b.cell 3; have y3 := HI.out.b.frozen 3
  have d4 := HI.out.c.cell 4; have z4 := HI.out.b.cell 4; have y4 := HI.out.b.frozen 4
  have d5 := HI.out.c.cell 5; have z5 := HI.out.b.cell 5; have y5 := HI.out.b.frozen 5
  simp only [List.getElem?_cons_zero, List.getElem?_cons_succ] at d0 z0 d1 z1 d2 z2 d3 z3 d4 z4 d5 z5
  have l1 := HI.out.b.lt; have l2 := HI.out.c.lt
  have HR := Lib.hid (HI.out.b.put6 (.bool b) (.int .i64 cl) (.int .i64 st) (.int .i64 sd) (.int .i64 (na + 1)) (.int .i64 (nb + 1)))
  have HB := Lib.hid (Below.put6 HI.out.below (b := w.heap.size + 1) (by omega) (.bool b) (.int .i64 cl) (.int .i64 st) (.int .i64 sd) (.int .i64 (na + 1)) (.int .i64 (nb + 1)))
  go_region
  all_goals
    go_wp2
    (try simp only [Exit.inBlock, Exit.then])
    exact bodyPost_ret (results_cell_tmp rfl rfl (loadP HR.out.drew)) rfl ⟨rfl, HB.out.drew⟩
set_option linter.unusedSimpArgs false in
set_option linter.unusedVariables false in
set_option maxHeartbeats 4000000 in
set_option maxRecDepth 100000 in
theorem but_4 (c f : Int) (b : Bool) (cl st sd na nb : Int) (hf : 0 ≤ f ∧ f ≤ 4) (hna : 0 ≤ na ∧ na ≤ 100) (hnb : 0 ≤ nb ∧ nb ≤ 100) (h1 : c < f) (h2 : ¬ -f < c) (h3 : na + 1 ≤ 1) (w : World) : Calls Try.prog 51 #[lookA c ⟨b, cl, st, sd, na, nb⟩, .int .i64 f] w fun e w' => e = .returned (.tuple #[pastA ⟨b, cl, st, sd, na + 1, nb⟩, .bool true]) ∧ Below w.heap.size w w' := by
  obtain ⟨w2, hw2⟩ : ∃ w2, (((w.alloc (lookO c ⟨b, cl, st, sd, na, nb⟩)).alloc zeroO).alloc (.cells #[.bool b, .int .i64 cl, .int .i64 st, .int .i64 sd, .int .i64 (na + 1), .int .i64 (nb)] 55)) = w2 := ⟨_, rfl⟩
  have hi : Three w w2 (lookV c b cl st sd na nb) zeroV [.bool b, .int .i64 cl, .int .i64 st, .int .i64 sd, .int .i64 (na + 1), .int .i64 (nb)] 57 55 55 := by rw [← hw2]; exact three w _ _ _ _ _ _
  have HI := Lib.hid hi; have HW2 := Lib.hid hw2
  clear hi hw2
  go_enter Try.func51, Try.ntmps51
  go_upto_region 6 with fail
  rw [HW2.out]
  have d0 := HI.out.c.cell 0; have z0 := HI.out.b.cell 0; have y0 := HI.out.b.frozen 0
  have d1 := HI.out.c.cell 1; have z1 := HI.out.b.cell 1; have y1 := HI.out.b.frozen 1
  have d2 := HI.out.c.cell 2; have z2 := HI.out.b.cell 2; have y2 := HI.out.b.frozen 2
  have d3 := HI.out.c.cell 3; have z3 := HI.out.b.cell 3; have y3 := HI.out.b.frozen 3
  have d4 := HI.out.c.cell 4; have z4 := HI.out.b.cell 4; have y4 := HI.out.b.frozen 4
  have d5 := HI.out.c.cell 5; have z5 := HI.out.b.cell 5; have y5 := HI.out.b.frozen 5
  simp only [List.getElem?_cons_zero, List.getElem?_cons_succ] at d0 z0 d1 z1 d2 z2 d3 z3 d4 z4 d5 z5
  have l1 := HI.out.b.lt; have l2 := HI.out.c.lt
  have HR := Lib.hid (HI.out.b.put6 (.bool b) (.int .i64 cl) (.int .i64 st) (.int .i64 sd) (.int .i64 (na + 1)) (.int .i64 (nb)))
  have HB := Lib.hid (Below.put6 HI.out.below (b := w.heap.size + 1) (by omega) (.bool b) (.int .i64 cl) (.int .i64 st) (.int .i64 sd) (.int .i64 (na + 1)) (.int .i64 (nb)))
  go_region
  all_goals
    go_wp2
    (try simp only [Exit.inBlock, Exit.then])
    exact bodyPost_ret (results_cell_tmp rfl rfl (loadP HR.out.drew)) rfl ⟨rfl, HB.out.drew⟩
set_option linter.unusedSimpArgs false in
set_option linter.unusedVariables false in
set_option maxHeartbeats 4000000 in
set_option maxRecDepth 100000 in
theorem but_5 (c f : Int) (b : Bool) (cl st sd na nb : Int) (hf : 0 ≤ f ∧ f ≤ 4) (hna : 0 ≤ na ∧ na ≤ 100) (hnb : 0 ≤ nb ∧ nb ≤ 100) (h1 : c < f) (h2 : ¬ -f < c) (h3 : ¬ na + 1 ≤ 1) (h4 : nb ≤ 1) (w : World) : Calls Try.prog 51 #[lookA c ⟨b, cl, st, sd, na, nb⟩, .int .i64 f] w fun e w' => e = .returned (.tuple #[pastA ⟨b, cl, st, sd, na + 1, nb⟩, .bool true]) ∧ Below w.heap.size w w' := by
  obtain ⟨w2, hw2⟩ : ∃ w2, (((w.alloc (lookO c ⟨b, cl, st, sd, na, nb⟩)).alloc zeroO).alloc (.cells #[.bool b, .int .i64 cl, .int .i64 st, .int .i64 sd, .int .i64 (na + 1), .int .i64 (nb)] 55)) = w2 := ⟨_, rfl⟩
  have hi : Three w w2 (lookV c b cl st sd na nb) zeroV [.bool b, .int .i64 cl, .int .i64 st, .int .i64 sd, .int .i64 (na + 1), .int .i64 (nb)] 57 55 55 := by rw [← hw2]; exact three w _ _ _ _ _ _
  have HI := Lib.hid hi; have HW2 := Lib.hid hw2
  clear hi hw2
  go_enter Try.func51, Try.ntmps51
  go_upto_region 6 with fail
  rw [HW2.out]
  have d0 := HI.out.c.cell 0; have z0 := HI.out.b.cell 0; have y0 := HI.out.b.frozen 0
  have d1 := HI.out.c.cell 1; have z1 := HI.out.b.cell 1; have y1 := HI.out.b.frozen 1
  have d2 := HI.out.c.cell 2; have z2 := HI.out.b.cell 2; have y2 := HI.out.b.frozen 2
  have d3 := HI.out.c.cell 3; have z3 := HI.out.b.cell 3; have y3 := HI.out.b.frozen 3
  have d4 := HI.out.c.cell 4; have z4 := HI.out.b.cell 4; have y4 := HI.out.b.frozen 4
  have d5 := HI.out.c.cell 5; have z5 := HI.out.b.cell 5; have y5 := HI.out.b.frozen 5
  simp only [List.getElem?_cons_zero, List.getElem?_cons_succ] at d0 z0 d1 z1 d2 z2 d3 z3 d4 z4 d5 z5
  have l1 := HI.out.b.lt; have l2 := HI.out.c.lt
  have HR := Lib.hid (HI.out.b.put6 (.bool b) (.int .i64 cl) (.int .i64 st) (.int .i64 sd) (.int .i64 (na + 1)) (.int .i64 (nb)))
  have HB := Lib.hid (Below.put6 HI.out.below (b := w.heap.size + 1) (by omega) (.bool b) (.int .i64 cl) (.int .i64 st) (.int .i64 sd) (.int .i64 (na + 1)) (.int .i64 (nb)))
  go_region
  all_goals
    go_wp2
    (try simp only [Exit.inBlock, Exit.then])
    exact bodyPost_ret (results_cell_tmp rfl rfl (loadP HR.out.drew)) rfl ⟨rfl, HB.out.drew⟩
set_option linter.unusedSimpArgs false in
set_option linter.unusedVariables false in
set_option maxHeartbeats 4000000 in
set_option maxRecDepth 100000 in
theorem but_6 (c f : Int) (b : Bool) (cl st sd na nb : Int) (hf : 0 ≤ f ∧ f ≤ 4) (hna : 0 ≤ na ∧ na ≤ 100) (hnb : 0 ≤ nb ∧ nb ≤ 100) (h1 : c < f) (h2 : ¬ -f < c) (h3 : ¬ na + 1 ≤ 1) (h4 : ¬ nb ≤ 1) (w : World) : Calls Try.prog 51 #[lookA c ⟨b, cl, st, sd, na, nb⟩, .int .i64 f] w fun e w' => e = .returned (.tuple #[pastA ⟨b, cl, st, sd, na + 1, nb⟩, .bool false]) ∧ Below w.heap.size w w' := by
  obtain ⟨w2, hw2⟩ : ∃ w2, (((w.alloc (lookO c ⟨b, cl, st, sd, na, nb⟩)).alloc zeroO).alloc (.cells #[.bool b, .int .i64 cl, .int .i64 st, .int .i64 sd, .int .i64 (na + 1), .int .i64 (nb)] 55)) = w2 := ⟨_, rfl⟩
  have hi : Three w w2 (lookV c b cl st sd na nb) zeroV [.bool b, .int .i64 cl, .int .i64 st, .int .i64 sd, .int .i64 (na + 1), .int .i64 (nb)] 57 55 55 := by rw [← hw2]; exact three w _ _ _ _ _ _
  have HI := Lib.hid hi; have HW2 := Lib.hid hw2
  clear hi hw2
  go_enter Try.func51, Try.ntmps51
  go_upto_region 6 with fail
  rw [HW2.out]
  have d0 := HI.out.c.cell 0; have z0 := HI.out.b.cell 0; have y0 := HI.out.b.frozen 0
  have d1 := HI.out.c.cell 1; have z1 := HI.out.b.cell 1; have y1 := HI.out.b.frozen 1
  have d2 := HI.out.c.cell 2; have z2 := HI.out.b.cell 2; have y2 := HI.out.b.frozen 2
  have d3 := HI.out.c.cell 3; have z3 := HI.out.b.cell 3; have y3 := HI.out.b.frozen 3
  have d4 := HI.out.c.cell 4; have z4 := HI.out.b.cell 4; have y4 := HI.out.b.frozen 4
  have d5 := HI.out.c.cell 5; have z5 := HI.out.b.cell 5; have y5 := HI.out.b.frozen 5
  simp only [List.getElem?_cons_zero, List.getElem?_cons_succ] at d0 z0 d1 z1 d2 z2 d3 z3 d4 z4 d5 z5
  have l1 := HI.out.b.lt; have l2 := HI.out.c.lt
  have HR := Lib.hid (HI.out.b.put6 (.bool b) (.int .i64 cl) (.int .i64 st) (.int .i64 sd) (.int .i64 (na + 1)) (.int .i64 (nb)))
  have HB := Lib.hid (Below.put6 HI.out.below (b := w.heap.size + 1) (by omega) (.bool b) (.int .i64 cl) (.int .i64 st) (.int .i64 sd) (.int .i64 (na + 1)) (.int .i64 (nb)))
  go_region
  all_goals
    go_wp2
    (try simp only [Exit.inBlock, Exit.then])
    exact bodyPost_ret (results_cell_tmp rfl rfl (loadP HR.out.drew)) rfl ⟨rfl, HB.out.drew⟩
set_option linter.unusedSimpArgs false in
set_option linter.unusedVariables false in
set_option maxHeartbeats 4000000 in
set_option maxRecDepth 100000 in
theorem but_7 (c f : Int) (b : Bool) (cl st sd na nb : Int) (hf : 0 ≤ f ∧ f ≤ 4) (hna : 0 ≤ na ∧ na ≤ 100) (hnb : 0 ≤ nb ∧ nb ≤ 100) (h1 : ¬ c < f) (h2 : -f < c) (h3 : na ≤ 1) (w : World) : Calls Try.prog 51 #[lookA c ⟨b, cl, st, sd, na, nb⟩, .int .i64 f] w fun e w' => e = .returned (.tuple #[pastA ⟨b, cl, st, sd, na, nb + 1⟩, .bool true]) ∧ Below w.heap.size w w' := by
  obtain ⟨w2, hw2⟩ : ∃ w2, (((w.alloc (lookO c ⟨b, cl, st, sd, na, nb⟩)).alloc zeroO).alloc (.cells #[.bool b, .int .i64 cl, .int .i64 st, .int .i64 sd, .int .i64 (na), .int .i64 (nb + 1)] 55)) = w2 := ⟨_, rfl⟩
  have hi : Three w w2 (lookV c b cl st sd na nb) zeroV [.bool b, .int .i64 cl, .int .i64 st, .int .i64 sd, .int .i64 (na), .int .i64 (nb + 1)] 57 55 55 := by rw [← hw2]; exact three w _ _ _ _ _ _
  have HI := Lib.hid hi; have HW2 := Lib.hid hw2
  clear hi hw2
  go_enter Try.func51, Try.ntmps51
  go_upto_region 6 with fail
  rw [HW2.out]
  have d0 := HI.out.c.cell 0; have z0 := HI.out.b.cell 0; have y0 := HI.out.b.frozen 0
  have d1 := HI.out.c.cell 1; have z1 := HI.out.b.cell 1; have y1 := HI.out.b.frozen 1
  have d2 := HI.out.c.cell 2; have z2 := HI.out.b.cell 2; have y2 := HI.out.b.frozen 2
  have d3 := HI.out.c.cell 3; have z3 := HI.out.b.cell 3; have y3 := HI.out.b.frozen 3
  have d4 := HI.out.c.cell 4; have z4 := HI.out.b.cell 4; have y4 := HI.out.b.frozen 4
  have d5 := HI.out.c.cell 5; have z5 := HI.out.b.cell 5; have y5 := HI.out.b.frozen 5
  simp only [List.getElem?_cons_zero, List.getElem?_cons_succ] at d0 z0 d1 z1 d2 z2 d3 z3 d4 z4 d5 z5
  have l1 := HI.out.b.lt; have l2 := HI.out.c.lt
  have HR := Lib.hid (HI.out.b.put6 (.bool b) (.int .i64 cl) (.int .i64 st) (.int .i64 sd) (.int .i64 (na)) (.int .i64 (nb + 1)))
  have HB := Lib.hid (Below.put6 HI.out.below (b := w.heap.size + 1) (by omega) (.bool b) (.int .i64 cl) (.int .i64 st) (.int .i64 sd) (.int .i64 (na)) (.int .i64 (nb + 1)))
  go_region
  all_goals
    go_wp2
    (try simp only [Exit.inBlock, Exit.then])
    exact bodyPost_ret (results_cell_tmp rfl rfl (loadP HR.out.drew)) rfl ⟨rfl, HB.out.drew⟩
set_option linter.unusedSimpArgs false in
set_option linter.unusedVariables false in
set_option maxHeartbeats 4000000 in
set_option maxRecDepth 100000 in
theorem but_8 (c f : Int) (b : Bool) (cl st sd na nb : Int) (hf : 0 ≤ f ∧ f ≤ 4) (hna : 0 ≤ na ∧ na ≤ 100) (hnb : 0 ≤ nb ∧ nb ≤ 100) (h1 : ¬ c < f) (h2 : -f < c) (h3 : ¬ na ≤ 1) (h4 : nb + 1 ≤ 1) (w : World) : Calls Try.prog 51 #[lookA c ⟨b, cl, st, sd, na, nb⟩, .int .i64 f] w fun e w' => e = .returned (.tuple #[pastA ⟨b, cl, st, sd, na, nb + 1⟩, .bool true]) ∧ Below w.heap.size w w' := by
  obtain ⟨w2, hw2⟩ : ∃ w2, (((w.alloc (lookO c ⟨b, cl, st, sd, na, nb⟩)).alloc zeroO).alloc (.cells #[.bool b, .int .i64 cl, .int .i64 st, .int .i64 sd, .int .i64 (na), .int .i64 (nb + 1)] 55)) = w2 := ⟨_, rfl⟩
  have hi : Three w w2 (lookV c b cl st sd na nb) zeroV [.bool b, .int .i64 cl, .int .i64 st, .int .i64 sd, .int .i64 (na), .int .i64 (nb + 1)] 57 55 55 := by rw [← hw2]; exact three w _ _ _ _ _ _
  have HI := Lib.hid hi; have HW2 := Lib.hid hw2
  clear hi hw2
  go_enter Try.func51, Try.ntmps51
  go_upto_region 6 with fail
  rw [HW2.out]
  have d0 := HI.out.c.cell 0; have z0 := HI.out.b.cell 0; have y0 := HI.out.b.frozen 0
  have d1 := HI.out.c.cell 1; have z1 := HI.out.b.cell 1; have y1 := HI.out.b.frozen 1
  have d2 := HI.out.c.cell 2; have z2 := HI.out.b.cell 2; have y2 := HI.out.b.frozen 2
  have d3 := HI.out.c.cell 3; have z3 := HI.out.b.cell 3; have y3 := HI.out.b.frozen 3
  have d4 := HI.out.c.cell 4; have z4 := HI.out.b.cell 4; have y4 := HI.out.b.frozen 4
  have d5 := HI.out.c.cell 5; have z5 := HI.out.b.cell 5; have y5 := HI.out.b.frozen 5
  simp only [List.getElem?_cons_zero, List.getElem?_cons_succ] at d0 z0 d1 z1 d2 z2 d3 z3 d4 z4 d5 z5
  have l1 := HI.out.b.lt; have l2 := HI.out.c.lt
  have HR := Lib.hid (HI.out.b.put6 (.bool b) (.int .i64 cl) (.int .i64 st) (.int .i64 sd) (.int .i64 (na)) (.int .i64 (nb + 1)))
  have HB := Lib.hid (Below.put6 HI.out.below (b := w.heap.size + 1) (by omega) (.bool b) (.int .i64 cl) (.int .i64 st) (.int .i64 sd) (.int .i64 (na)) (.int .i64 (nb + 1)))
  go_region
  all_goals
    go_wp2
    (try simp only [Exit.inBlock, Exit.then])
    exact bodyPost_ret (results_cell_tmp rfl rfl (loadP HR.out.drew)) rfl ⟨rfl, HB.out.drew⟩
set_option linter.unusedSimpArgs false in
set_option linter.unusedVariables false in
set_option maxHeartbeats 4000000 in
set_option maxRecDepth 100000 in
theorem but_9 (c f : Int) (b : Bool) (cl st sd na nb : Int) (hf : 0 ≤ f ∧ f ≤ 4) (hna : 0 ≤ na ∧ na ≤ 100) (hnb : 0 ≤ nb ∧ nb ≤ 100) (h1 : ¬ c < f) (h2 : -f < c) (h3 : ¬ na ≤ 1) (h4 : ¬ nb + 1 ≤ 1) (w : World) : Calls Try.prog 51 #[lookA c ⟨b, cl, st, sd, na, nb⟩, .int .i64 f] w fun e w' => e = .returned (.tuple #[pastA ⟨b, cl, st, sd, na, nb + 1⟩, .bool false]) ∧ Below w.heap.size w w' := by
  obtain ⟨w2, hw2⟩ : ∃ w2, (((w.alloc (lookO c ⟨b, cl, st, sd, na, nb⟩)).alloc zeroO).alloc (.cells #[.bool b, .int .i64 cl, .int .i64 st, .int .i64 sd, .int .i64 (na), .int .i64 (nb + 1)] 55)) = w2 := ⟨_, rfl⟩
  have hi : Three w w2 (lookV c b cl st sd na nb) zeroV [.bool b, .int .i64 cl, .int .i64 st, .int .i64 sd, .int .i64 (na), .int .i64 (nb + 1)] 57 55 55 := by rw [← hw2]; exact three w _ _ _ _ _ _
  have HI := Lib.hid hi; have HW2 := Lib.hid hw2
  clear hi hw2
  go_enter Try.func51, Try.ntmps51
  go_upto_region 6 with fail
  rw [HW2.out]
  have d0 := HI.out.c.cell 0; have z0 := HI.out.b.cell 0; have y0 := HI.out.b.frozen 0
  have d1 := HI.out.c.cell 1; have z1 := HI.out.b.cell 1; have y1 := HI.out.b.frozen 1
  have d2 := HI.out.c.cell 2; have z2 := HI.out.b.cell 2; have y2 := HI.out.b.frozen 2
  have d3 := HI.out.c.cell 3; have z3 := HI.out.b.cell 3; have y3 := HI.out.b.frozen 3
  have d4 := HI.out.c.cell 4; have z4 := HI.out.b.cell 4; have y4 := HI.out.b.frozen 4
  have d5 := HI.out.c.cell 5; have z5 := HI.out.b.cell 5; have y5 := HI.out.b.frozen 5
  simp only [List.getElem?_cons_zero, List.getElem?_cons_succ] at d0 z0 d1 z1 d2 z2 d3 z3 d4 z4 d5 z5
  have l1 := HI.out.b.lt; have l2 := HI.out.c.lt
  have HR := Lib.hid (HI.out.b.put6 (.bool b) (.int .i64 cl) (.int .i64 st) (.int .i64 sd) (.int .i64 (na)) (.int .i64 (nb + 1)))
  have HB := Lib.hid (Below.put6 HI.out.below (b := w.heap.size + 1) (by omega) (.bool b) (.int .i64 cl) (.int .i64 st) (.int .i64 sd) (.int .i64 (na)) (.int .i64 (nb + 1)))
  go_region
  all_goals
    go_wp2
    (try simp only [Exit.inBlock, Exit.then])
    exact bodyPost_ret (results_cell_tmp rfl rfl (loadP HR.out.drew)) rfl ⟨rfl, HB.out.drew⟩
set_option linter.unusedSimpArgs false in
set_option linter.unusedVariables false in
set_option maxHeartbeats 4000000 in
set_option maxRecDepth 100000 in
theorem but_10 (c f : Int) (b : Bool) (cl st sd na nb : Int) (hf : 0 ≤ f ∧ f ≤ 4) (hna : 0 ≤ na ∧ na ≤ 100) (hnb : 0 ≤ nb ∧ nb ≤ 100) (h1 : ¬ c < f) (h2 : ¬ -f < c) (h3 : na ≤ 1) (w : World) : Calls Try.prog 51 #[lookA c ⟨b, cl, st, sd, na, nb⟩, .int .i64 f] w fun e w' => e = .returned (.tuple #[pastA ⟨b, cl, st, sd, na, nb⟩, .bool true]) ∧ Below w.heap.size w w' := by
  obtain ⟨w2, hw2⟩ : ∃ w2, (((w.alloc (lookO c ⟨b, cl, st, sd, na, nb⟩)).alloc zeroO).alloc (.cells #[.bool b, .int .i64 cl, .int .i64 st, .int .i64 sd, .int .i64 (na), .int .i64 (nb)] 55)) = w2 := ⟨_, rfl⟩
  have hi : Three w w2 (lookV c b cl st sd na nb) zeroV [.bool b, .int .i64 cl, .int .i64 st, .int .i64 sd, .int .i64 (na), .int .i64 (nb)] 57 55 55 := by rw [← hw2]; exact three w _ _ _ _ _ _
  have HI := Lib.hid hi; have HW2 := Lib.hid hw2
  clear hi hw2
  go_enter Try.func51, Try.ntmps51
  go_upto_region 6 with fail
  rw [HW2.out]
  have d0 := HI.out.c.cell 0; have z0 := HI.out.b.cell 0; have y0 := HI.out.b.frozen 0
  have d1 := HI.out.c.cell 1; have z1 := HI.out.b.cell 1; have y1 := HI.out.b.frozen 1
  have d2 := HI.out.c.cell 2; have z2 := HI.out.b.cell 2; have y2 := HI.out.b.frozen 2
  have d3 := HI.out.c.cell 3; have z3 := HI.out.b.cell 3; have y3 := HI.out.b.frozen 3
  have d4 := HI.out.c.cell 4; have z4 := HI.out.b.cell 4; have y4 := HI.out.b.frozen 4
  have d5 := HI.out.c.cell 5; have z5 := HI.out.b.cell 5; have y5 := HI.out.b.frozen 5
  simp only [List.getElem?_cons_zero, List.getElem?_cons_succ] at d0 z0 d1 z1 d2 z2 d3 z3 d4 z4 d5 z5
  have l1 := HI.out.b.lt; have l2 := HI.out.c.lt
  have HR := Lib.hid (HI.out.b.put6 (.bool b) (.int .i64 cl) (.int .i64 st) (.int .i64 sd) (.int .i64 (na)) (.int .i64 (nb)))
  have HB := Lib.hid (Below.put6 HI.out.below (b := w.heap.size + 1) (by omega) (.bool b) (.int .i64 cl) (.int .i64 st) (.int .i64 sd) (.int .i64 (na)) (.int .i64 (nb)))
  go_region
  all_goals
    go_wp2
    (try simp only [Exit.inBlock, Exit.then])
    exact bodyPost_ret (results_cell_tmp rfl rfl (loadP HR.out.drew)) rfl ⟨rfl, HB.out.drew⟩
set_option linter.unusedSimpArgs false in
set_option linter.unusedVariables false in
set_option maxHeartbeats 4000000 in
set_option maxRecDepth 100000 in
theorem but_11 (c f : Int) (b : Bool) (cl st sd na nb : Int) (hf : 0 ≤ f ∧ f ≤ 4) (hna : 0 ≤ na ∧ na ≤ 100) (hnb : 0 ≤ nb ∧ nb ≤ 100) (h1 : ¬ c < f) (h2 : ¬ -f < c) (h3 : ¬ na ≤ 1) (h4 : nb ≤ 1) (w : World) : Calls Try.prog 51 #[lookA c ⟨b, cl, st, sd, na, nb⟩, .int .i64 f] w fun e w' => e = .returned (.tuple #[pastA ⟨b, cl, st, sd, na, nb⟩, .bool true]) ∧ Below w.heap.size w w' := by
  obtain ⟨w2, hw2⟩ : ∃ w2, (((w.alloc (lookO c ⟨b, cl, st, sd, na, nb⟩)).alloc zeroO).alloc (.cells #[.bool b, .int .i64 cl, .int .i64 st, .int .i64 sd, .int .i64 (na), .int .i64 (nb)] 55)) = w2 := ⟨_, rfl⟩
  have hi : Three w w2 (lookV c b cl st sd na nb) zeroV [.bool b, .int .i64 cl, .int .i64 st, .int .i64 sd, .int .i64 (na), .int .i64 (nb)] 57 55 55 := by rw [← hw2]; exact three w _ _ _ _ _ _
  have HI := Lib.hid hi; have HW2 := Lib.hid hw2
  clear hi hw2
  go_enter Try.func51, Try.ntmps51
  go_upto_region 6 with fail
  rw [HW2.out]
  have d0 := HI.out.c.cell 0; have z0 := HI.out.b.cell 0; have y0 := HI.out.b.frozen 0
  have d1 := HI.out.c.cell 1; have z1 := HI.out.b.cell 1; have y1 := HI.out.b.frozen 1
  have d2 := HI.out.c.cell 2; have z2 := HI.out.b.cell 2; have y2 := HI.out.b.frozen 2
  have d3 := HI.out.c.cell 3; have z3 := HI.out.b.cell 3; have y3 := HI.out.b.frozen 3
  have d4 := HI.out.c.cell 4; have z4 := HI.out.b.cell 4; have y4 := HI.out.b.frozen 4
  have d5 := HI.out.c.cell 5; have z5 := HI.out.b.cell 5; have y5 := HI.out.b.frozen 5
  simp only [List.getElem?_cons_zero, List.getElem?_cons_succ] at d0 z0 d1 z1 d2 z2 d3 z3 d4 z4 d5 z5
  have l1 := HI.out.b.lt; have l2 := HI.out.c.lt
  have HR := Lib.hid (HI.out.b.put6 (.bool b) (.int .i64 cl) (.int .i64 st) (.int .i64 sd) (.int .i64 (na)) (.int .i64 (nb)))
  have HB := Lib.hid (Below.put6 HI.out.below (b := w.heap.size + 1) (by omega) (.bool b) (.int .i64 cl) (.int .i64 st) (.int .i64 sd) (.int .i64 (na)) (.int .i64 (nb)))
  go_region
  all_goals
    go_wp2
    (try simp only [Exit.inBlock, Exit.then])
    exact bodyPost_ret (results_cell_tmp rfl rfl (loadP HR.out.drew)) rfl ⟨rfl, HB.out.drew⟩
set_option linter.unusedSimpArgs false in
set_option linter.unusedVariables false in
set_option maxHeartbeats 4000000 in
set_option maxRecDepth 100000 in
theorem but_12 (c f : Int) (b : Bool) (cl st sd na nb : Int) (hf : 0 ≤ f ∧ f ≤ 4) (hna : 0 ≤ na ∧ na ≤ 100) (hnb : 0 ≤ nb ∧ nb ≤ 100) (h1 : ¬ c < f) (h2 : ¬ -f < c) (h3 : ¬ na ≤ 1) (h4 : ¬ nb ≤ 1) (w : World) : Calls Try.prog 51 #[lookA c ⟨b, cl, st, sd, na, nb⟩, .int .i64 f] w fun e w' => e = .returned (.tuple #[pastA ⟨b, cl, st, sd, na, nb⟩, .bool false]) ∧ Below w.heap.size w w' := by
  obtain ⟨w2, hw2⟩ : ∃ w2, (((w.alloc (lookO c ⟨b, cl, st, sd, na, nb⟩)).alloc zeroO).alloc (.cells #[.bool b, .int .i64 cl, .int .i64 st, .int .i64 sd, .int .i64 (na), .int .i64 (nb)] 55)) = w2 := ⟨_, rfl⟩
  have hi : Three w w2 (lookV c b cl st sd na nb) zeroV [.bool b, .int .i64 cl, .int .i64 st, .int .i64 sd, .int .i64 (na), .int .i64 (nb)] 57 55 55 := by rw [← hw2]; exact three w _ _ _ _ _ _
  have HI := Lib.hid hi; have HW2 := Lib.hid hw2
  clear hi hw2
  go_enter Try.func51, Try.ntmps51
  go_upto_region 6 with fail
  rw [HW2.out]
  have d0 := HI.out.c.cell 0; have z0 := HI.out.b.cell 0; have y0 := HI.out.b.frozen 0
  have d1 := HI.out.c.cell 1; have z1 := HI.out.b.cell 1; have y1 := HI.out.b.frozen 1
  have d2 := HI.out.c.cell 2; have z2 := HI.out.b.cell 2; have y2 := HI.out.b.frozen 2
  have d3 := HI.out.c.cell 3; have z3 := HI.out.b.cell 3; have y3 := HI.out.b.frozen 3
  have d4 := HI.out.c.cell 4; have z4 := HI.out.b.cell 4; have y4 := HI.out.b.frozen 4
  have d5 := HI.out.c.cell 5; have z5 := HI.out.b.cell 5; have y5 := HI.out.b.frozen 5
  simp only [List.getElem?_cons_zero, List.getElem?_cons_succ] at d0 z0 d1 z1 d2 z2 d3 z3 d4 z4 d5 z5
  have l1 := HI.out.b.lt; have l2 := HI.out.c.lt
  have HR := Lib.hid (HI.out.b.put6 (.bool b) (.int .i64 cl) (.int .i64 st) (.int .i64 sd) (.int .i64 (na)) (.int .i64 (nb)))
  have HB := Lib.hid (Below.put6 HI.out.below (b := w.heap.size + 1) (by omega) (.bool b) (.int .i64 cl) (.int .i64 st) (.int .i64 sd) (.int .i64 (na)) (.int .i64 (nb)))
  go_region
  all_goals
    go_wp2
    (try simp only [Exit.inBlock, Exit.then])
    exact bodyPost_ret (results_cell_tmp rfl rfl (loadP HR.out.drew)) rfl ⟨rfl, HB.out.drew⟩
theorem but_any (f c : Int) (p : Past) (hf : 0 ≤ f ∧ f ≤ 4) (hna : 0 ≤ p.na ∧ p.na ≤ 100) (hnb : 0 ≤ p.nb ∧ p.nb ≤ 100) (w : World) : Calls Try.prog 51 #[lookA c p, .int .i64 f] w fun e w' => e = .returned (.tuple #[pastA (butN f c p), .bool (decide ((butN f c p).na ≤ 1) || decide ((butN f c p).nb ≤ 1))]) ∧ Below w.heap.size w w' := by
  obtain ⟨b, cl, st, sd, na, nb⟩ := p
  unfold butN
  dsimp only at *
  by_cases h1 : c < f
  · by_cases h2 : -f < c
    · skip
      rw [decide_eq_true h1, decide_eq_true h2]
      rw [show oneP true = 1 from rfl]
      by_cases h3 : na + 1 ≤ 1
      · rw [decide_eq_true h3, Bool.true_or]; exact but_1 c f b cl st sd na nb hf hna hnb h1 h2 h3 w
      · rw [decide_eq_false h3, Bool.false_or]
        by_cases h4 : nb + 1 ≤ 1
        · rw [decide_eq_true h4]; exact but_2 c f b cl st sd na nb hf hna hnb h1 h2 h3 h4 w
        · rw [decide_eq_false h4]; exact but_3 c f b cl st sd na nb hf hna hnb h1 h2 h3 h4 w
    · skip
      rw [decide_eq_true h1, decide_eq_false h2]
      rw [show oneP true = 1 from rfl]
      rw [show oneP false = 0 from rfl]
      rw [show nb + 0 = nb from Int.add_zero _]
      by_cases h3 : na + 1 ≤ 1
      · rw [decide_eq_true h3, Bool.true_or]; exact but_4 c f b cl st sd na nb hf hna hnb h1 h2 h3 w
      · rw [decide_eq_false h3, Bool.false_or]
        by_cases h4 : nb ≤ 1
        · rw [decide_eq_true h4]; exact but_5 c f b cl st sd na nb hf hna hnb h1 h2 h3 h4 w
        · rw [decide_eq_false h4]; exact but_6 c f b cl st sd na nb hf hna hnb h1 h2 h3 h4 w
  · by_cases h2 : -f < c
    · skip
      rw [decide_eq_false h1, decide_eq_true h2]
      rw [show oneP true = 1 from rfl]
      rw [show oneP false = 0 from rfl]
      rw [show na + 0 = na from Int.add_zero _]
      by_cases h3 : na ≤ 1
      · rw [decide_eq_true h3, Bool.true_or]; exact but_7 c f b cl st sd na nb hf hna hnb h1 h2 h3 w
      · rw [decide_eq_false h3, Bool.false_or]
        by_cases h4 : nb + 1 ≤ 1
        · rw [decide_eq_true h4]; exact but_8 c f b cl st sd na nb hf hna hnb h1 h2 h3 h4 w
        · rw [decide_eq_false h4]; exact but_9 c f b cl st sd na nb hf hna hnb h1 h2 h3 h4 w
    · skip
      rw [decide_eq_false h1, decide_eq_false h2]
      rw [show oneP false = 0 from rfl]
      rw [show na + 0 = na from Int.add_zero _]
      rw [show nb + 0 = nb from Int.add_zero _]
      by_cases h3 : na ≤ 1
      · rw [decide_eq_true h3, Bool.true_or]; exact but_10 c f b cl st sd na nb hf hna hnb h1 h2 h3 w
      · rw [decide_eq_false h3, Bool.false_or]
        by_cases h4 : nb ≤ 1
        · rw [decide_eq_true h4]; exact but_11 c f b cl st sd na nb hf hna hnb h1 h2 h3 h4 w
        · rw [decide_eq_false h4]; exact but_12 c f b cl st sd na nb hf hna hnb h1 h2 h3 h4 w
end Go.Proofs.Ytjonpcpcokapkaa
