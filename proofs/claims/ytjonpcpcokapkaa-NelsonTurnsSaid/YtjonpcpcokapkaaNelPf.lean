/- nelson's rules 2, 3, 4. -/
import Derived.Test.YtjonpcpcokapkaaNelPe
namespace Go.Proofs.Ytjonpcpcokapkaa
open Go.RowKit

set_option linter.unusedSimpArgs false in
set_option linter.unusedVariables false in
set_option maxHeartbeats 8000000 in
set_option maxRecDepth 100000 in
theorem one_1 (c D : Int) (b : Bool) (cl st sd na nb : Int) (hsd : -1 ≤ sd ∧ sd ≤ 1) (h0 : D = 0) (HC : Hid (∀ W, Calls Try.prog 49 #[.int .i64 c, .int .i64 0] W fun e w' => e = .returned (.int .i64 D) ∧ W = w')) (w : World) : Calls Try.prog 34 #[lookA c ⟨b, cl, st, sd, na, nb⟩] w fun e w' => e = .returned (.tuple #[pastA ⟨false, 0, 0, D, 0, 0⟩, .bool (false)]) ∧ Below w.heap.size w w' := by
  have g0 : (D == 0) = true := by rw [h0]; rfl
  have g1 : (D != 0) = false := by rw [h0]; rfl
  clear h0
  obtain ⟨w2, hw2⟩ : ∃ w2, ((w.alloc (lookO c ⟨b, cl, st, sd, na, nb⟩)).alloc zeroO) = w2 := ⟨_, rfl⟩
  have hi : TwoB w w2 (lookV c b cl st sd na nb) zeroV 57 55 := by rw [← hw2]; exact twoB w _ _ _ _
  have HI := Lib.hid hi; have HW2 := Lib.hid hw2
  clear hi hw2
  go_enter Try.func34, Try.ntmps34
  go_upto_region 1 with fail
  rw [HW2.out]
  have c0 := HI.out.a.cell 0
  have c1 := HI.out.a.cell 1
  have c2 := HI.out.a.cell 2
  have c3 := HI.out.a.cell 3
  have c4 := HI.out.a.cell 4
  have c5 := HI.out.a.cell 5
  have c6 := HI.out.a.cell 6
  have z0 := HI.out.b.cell 0; have fz0 := HI.out.b.frozen 0
  have z1 := HI.out.b.cell 1; have fz1 := HI.out.b.frozen 1
  have z2 := HI.out.b.cell 2; have fz2 := HI.out.b.frozen 2
  have z3 := HI.out.b.cell 3; have fz3 := HI.out.b.frozen 3
  have z4 := HI.out.b.cell 4; have fz4 := HI.out.b.frozen 4
  have z5 := HI.out.b.cell 5; have fz5 := HI.out.b.frozen 5
  simp only [List.getElem?_cons_zero, List.getElem?_cons_succ] at c0 c1 c2 c3 c4 c5 c6 z0 z1 z2 z3 z4 z5
  have l1 := HI.out.a.lt; have l2 := HI.out.b.lt
  go_wp2_with fail
  refine (HC.out _).mono ?_
  rintro e w3 ⟨rfl, rfl⟩
  have HR := Lib.hid (HI.out.b.put6 (.bool false) (.int .i64 0) (.int .i64 0) (.int .i64 D) (.int .i64 0) (.int .i64 0))
  have HB := Lib.hid (Below.put6 HI.out.below (b := w.heap.size + 1) (by omega) (.bool false) (.int .i64 0) (.int .i64 0) (.int .i64 D) (.int .i64 0) (.int .i64 0))
  go_upto_region 2 with fail
  go_region
  all_goals
    go_wp2
    (try simp only [Exit.inBlock, Exit.then])
    exact bodyPost_ret (results_cell_tmp rfl rfl (loadP HR.out.drew)) rfl ⟨rfl, HB.out.drew⟩
set_option linter.unusedSimpArgs false in
set_option linter.unusedVariables false in
set_option maxHeartbeats 8000000 in
set_option maxRecDepth 100000 in
theorem one_2 (c D : Int) (b : Bool) (cl st sd na nb : Int) (hsd : -1 ≤ sd ∧ sd ≤ 1) (h0 : D ≠ 0) (X : Bool) (hX : (D == -sd) = X) (HC : Hid (∀ W, Calls Try.prog 49 #[.int .i64 c, .int .i64 0] W fun e w' => e = .returned (.int .i64 D) ∧ W = w')) (w : World) : Calls Try.prog 34 #[lookA c ⟨b, cl, st, sd, na, nb⟩] w fun e w' => e = .returned (.tuple #[pastA ⟨false, 0, 0, D, 0, 0⟩, .bool (!X)]) ∧ Below w.heap.size w w' := by
  have g0 : (D == 0) = false := beq_false_of_ne h0
  have g1 : (D != 0) = true := by simp [h0]
  have g2 : (D != -sd) = !X := by rw [← hX]; rfl
  clear h0
  obtain ⟨w2, hw2⟩ : ∃ w2, ((w.alloc (lookO c ⟨b, cl, st, sd, na, nb⟩)).alloc zeroO) = w2 := ⟨_, rfl⟩
  have hi : TwoB w w2 (lookV c b cl st sd na nb) zeroV 57 55 := by rw [← hw2]; exact twoB w _ _ _ _
  have HI := Lib.hid hi; have HW2 := Lib.hid hw2
  clear hi hw2
  go_enter Try.func34, Try.ntmps34
  go_upto_region 1 with fail
  rw [HW2.out]
  have c0 := HI.out.a.cell 0
  have c1 := HI.out.a.cell 1
  have c2 := HI.out.a.cell 2
  have c3 := HI.out.a.cell 3
  have c4 := HI.out.a.cell 4
  have c5 := HI.out.a.cell 5
  have c6 := HI.out.a.cell 6
  have z0 := HI.out.b.cell 0; have fz0 := HI.out.b.frozen 0
  have z1 := HI.out.b.cell 1; have fz1 := HI.out.b.frozen 1
  have z2 := HI.out.b.cell 2; have fz2 := HI.out.b.frozen 2
  have z3 := HI.out.b.cell 3; have fz3 := HI.out.b.frozen 3
  have z4 := HI.out.b.cell 4; have fz4 := HI.out.b.frozen 4
  have z5 := HI.out.b.cell 5; have fz5 := HI.out.b.frozen 5
  simp only [List.getElem?_cons_zero, List.getElem?_cons_succ] at c0 c1 c2 c3 c4 c5 c6 z0 z1 z2 z3 z4 z5
  have l1 := HI.out.a.lt; have l2 := HI.out.b.lt
  go_wp2_with fail
  refine (HC.out _).mono ?_
  rintro e w3 ⟨rfl, rfl⟩
  have HR := Lib.hid (HI.out.b.put6 (.bool false) (.int .i64 0) (.int .i64 0) (.int .i64 D) (.int .i64 0) (.int .i64 0))
  have HB := Lib.hid (Below.put6 HI.out.below (b := w.heap.size + 1) (by omega) (.bool false) (.int .i64 0) (.int .i64 0) (.int .i64 D) (.int .i64 0) (.int .i64 0))
  go_upto_region 2 with fail
  go_region
  all_goals
    go_wp2
    (try simp only [Exit.inBlock, Exit.then])
    exact bodyPost_ret (results_cell_tmp rfl rfl (loadP HR.out.drew)) rfl ⟨rfl, HB.out.drew⟩
theorem rule2_any (c : Int) (p : Past) (hsd : -1 ≤ p.side ∧ p.side ≤ 1) (w : World) : Calls Try.prog 34 #[lookA c p] w fun e w' => e = .returned (.tuple #[pastA (pastN 2 c p), .bool (goesN 2 c p)]) ∧ Below w.heap.size w w' := by
  have HC := Lib.hid (cmp_any c 0)
  obtain ⟨b, cl, st, sd, na, nb⟩ := p
  rw [show pastN 2 c ⟨b, cl, st, sd, na, nb⟩ = ⟨false, 0, 0, cmpN c 0, 0, 0⟩ from rfl, show goesN 2 c ⟨b, cl, st, sd, na, nb⟩ = (!decide (cmpN c 0 = 0) && !decide (cmpN c 0 = -sd)) from rfl]
  obtain ⟨D, hD⟩ : ∃ D, cmpN c 0 = D := ⟨_, rfl⟩
  rw [hD] at HC ⊢
  by_cases h0 : D = 0
  · rw [decide_eq_true h0, Bool.not_true, Bool.false_and]
    exact one_1 c D b cl st sd na nb hsd h0 HC w
  · rw [decide_eq_false h0, Bool.not_false, Bool.true_and]
    exact one_2 c D b cl st sd na nb hsd h0 (decide (D = -sd)) (by rw [Bool.eq_iff_iff]; simp) HC w
/-- Two blocks were made, and a third one somewhere behind them. -/
structure TwoC (w w2 : World) (A B C : List Value) (k : Nat) (TA TB TC : TypeId) : Prop where
  below : Below w.heap.size w w2
  a : Has w2 w.heap.size A TA
  b : Has w2 (w.heap.size + 1) B TB
  c : Has w2 k C TC
  lt : w.heap.size + 2 ≤ k
theorem TwoB.three {w w2 : World} {A B : List Value} {TA TB : TypeId} (h : TwoB w w2 A B TA TB) (C : List Value) (TC : TypeId) : TwoC w (w2.alloc (.cells C.toArray TC)) A B C w2.heap.size TA TB TC :=
  ⟨h.below.alloc h.below.size _, h.a.alloc _, h.b.alloc _, Has.new _ _ _, h.b.lt⟩
set_option linter.unusedSimpArgs false in
set_option linter.unusedVariables false in
set_option maxHeartbeats 8000000 in
set_option maxRecDepth 100000 in
theorem stp3_1 (c T : Int) (cl st sd na nb : Int) (hst : -1 ≤ st ∧ st ≤ 1)  (HC : Hid (∀ W, Calls Try.prog 50 #[lookA c ⟨false, cl, st, sd, na, nb⟩] W fun e w' => e = .returned (pastA ⟨true, c, T, 0, 0, 0⟩) ∧ Below W.heap.size W w')) (w : World) : Calls Try.prog 35 #[lookA c ⟨false, cl, st, sd, na, nb⟩] w fun e w' => e = .returned (.tuple #[pastA ⟨true, c, T, 0, 0, 0⟩, .bool (true)]) ∧ Below w.heap.size w w' := by
  obtain ⟨w2, hw2⟩ : ∃ w2, ((w.alloc (lookO c ⟨false, cl, st, sd, na, nb⟩)).alloc zeroO) = w2 := ⟨_, rfl⟩
  have hi : TwoB w w2 (lookV c false cl st sd na nb) zeroV 57 55 := by rw [← hw2]; exact twoB w _ _ _ _
  have HI := Lib.hid hi; have HW2 := Lib.hid hw2
  clear hi hw2
  go_enter Try.func35, Try.ntmps35
  go_upto_region 1 with fail
  rw [HW2.out]
  have c0 := HI.out.a.cell 0
  have c1 := HI.out.a.cell 1
  have c2 := HI.out.a.cell 2
  have c3 := HI.out.a.cell 3
  have c4 := HI.out.a.cell 4
  have c5 := HI.out.a.cell 5
  have c6 := HI.out.a.cell 6
  simp only [List.getElem?_cons_zero, List.getElem?_cons_succ] at c0 c1 c2 c3 c4 c5 c6
  have l1 := HI.out.a.lt
  go_wp2_with fail
  refine (HC.out _).mono ?_
  rintro e w3 ⟨rfl, k3⟩
  have HJ := Lib.hid (HI.out.call k3)
  clear k3 l1 c0 c1 c2 c3 c4 c5 c6
  obtain ⟨w4, hw4⟩ : ∃ w4, (w3.alloc (.cells #[.bool true, .int .i64 c, .int .i64 T, .int .i64 0, .int .i64 0, .int .i64 0] 55)) = w4 := ⟨_, rfl⟩
  obtain ⟨k4, hk4⟩ : ∃ k, w3.heap.size = k := ⟨_, rfl⟩
  have hj : TwoC w w4 (lookV c false cl st sd na nb) zeroV [.bool true, .int .i64 c, .int .i64 T, .int .i64 0, .int .i64 0, .int .i64 0] k4 57 55 55 := by rw [← hw4, ← hk4]; exact HJ.out.three _ _
  have HK := Lib.hid hj; have HW4 := Lib.hid hw4; have HK4 := Lib.hid hk4
  clear hj hw4 hk4
  go_upto_region 2 with fail
  rw [HW4.out]
  (try rw [HK4.out])
  have c0 := HK.out.a.cell 0
  have c1 := HK.out.a.cell 1
  have c2 := HK.out.a.cell 2
  have c3 := HK.out.a.cell 3
  have c4 := HK.out.a.cell 4
  have c5 := HK.out.a.cell 5
  have c6 := HK.out.a.cell 6
  have z0 := HK.out.b.cell 0; have fz0 := HK.out.b.frozen 0
  have z1 := HK.out.b.cell 1; have fz1 := HK.out.b.frozen 1
  have z2 := HK.out.b.cell 2; have fz2 := HK.out.b.frozen 2
  have z3 := HK.out.b.cell 3; have fz3 := HK.out.b.frozen 3
  have z4 := HK.out.b.cell 4; have fz4 := HK.out.b.frozen 4
  have z5 := HK.out.b.cell 5; have fz5 := HK.out.b.frozen 5
  have d0 := HK.out.c.cell 0
  have d1 := HK.out.c.cell 1
  have d2 := HK.out.c.cell 2
  have d3 := HK.out.c.cell 3
  have d4 := HK.out.c.cell 4
  have d5 := HK.out.c.cell 5
  simp only [List.getElem?_cons_zero, List.getElem?_cons_succ] at c0 c1 c2 c3 c4 c5 c6 z0 d0 z1 d1 z2 d2 z3 d3 z4 d4 z5 d5
  have l1 := HK.out.a.lt; have l2 := HK.out.b.lt; have l3 := HK.out.c.lt; have l4 := HK.out.lt
  have HR := Lib.hid (HK.out.b.put6 (.bool true) (.int .i64 c) (.int .i64 T) (.int .i64 0) (.int .i64 0) (.int .i64 0))
  have HB := Lib.hid (Below.put6 HK.out.below (b := w.heap.size + 1) (by omega) (.bool true) (.int .i64 c) (.int .i64 T) (.int .i64 0) (.int .i64 0) (.int .i64 0))
  go_region
  all_goals
    go_wp2
    (try simp only [Exit.inBlock, Exit.then])
    exact bodyPost_ret (results_cell_tmp rfl rfl (loadP HR.out.drew)) rfl ⟨rfl, HB.out.drew⟩
set_option linter.unusedSimpArgs false in
set_option linter.unusedVariables false in
set_option maxHeartbeats 8000000 in
set_option maxRecDepth 100000 in
theorem stp3_2 (c T : Int) (cl st sd na nb : Int) (hst : -1 ≤ st ∧ st ≤ 1) (h0 : T = 0) (HC : Hid (∀ W, Calls Try.prog 50 #[lookA c ⟨true, cl, st, sd, na, nb⟩] W fun e w' => e = .returned (pastA ⟨true, c, T, 0, 0, 0⟩) ∧ Below W.heap.size W w')) (w : World) : Calls Try.prog 35 #[lookA c ⟨true, cl, st, sd, na, nb⟩] w fun e w' => e = .returned (.tuple #[pastA ⟨true, c, T, 0, 0, 0⟩, .bool (false)]) ∧ Below w.heap.size w w' := by
  have g0 : (T == 0) = true := by rw [h0]; rfl
  have g1 : (T != 0) = false := by rw [h0]; rfl
  clear h0
  obtain ⟨w2, hw2⟩ : ∃ w2, ((w.alloc (lookO c ⟨true, cl, st, sd, na, nb⟩)).alloc zeroO) = w2 := ⟨_, rfl⟩
  have hi : TwoB w w2 (lookV c true cl st sd na nb) zeroV 57 55 := by rw [← hw2]; exact twoB w _ _ _ _
  have HI := Lib.hid hi; have HW2 := Lib.hid hw2
  clear hi hw2
  go_enter Try.func35, Try.ntmps35
  go_upto_region 1 with fail
  rw [HW2.out]
  have c0 := HI.out.a.cell 0
  have c1 := HI.out.a.cell 1
  have c2 := HI.out.a.cell 2
  have c3 := HI.out.a.cell 3
  have c4 := HI.out.a.cell 4
  have c5 := HI.out.a.cell 5
  have c6 := HI.out.a.cell 6
  simp only [List.getElem?_cons_zero, List.getElem?_cons_succ] at c0 c1 c2 c3 c4 c5 c6
  have l1 := HI.out.a.lt
  go_wp2_with fail
  refine (HC.out _).mono ?_
  rintro e w3 ⟨rfl, k3⟩
  have HJ := Lib.hid (HI.out.call k3)
  clear k3 l1 c0 c1 c2 c3 c4 c5 c6
  obtain ⟨w4, hw4⟩ : ∃ w4, (w3.alloc (.cells #[.bool true, .int .i64 c, .int .i64 T, .int .i64 0, .int .i64 0, .int .i64 0] 55)) = w4 := ⟨_, rfl⟩
  obtain ⟨k4, hk4⟩ : ∃ k, w3.heap.size = k := ⟨_, rfl⟩
  have hj : TwoC w w4 (lookV c true cl st sd na nb) zeroV [.bool true, .int .i64 c, .int .i64 T, .int .i64 0, .int .i64 0, .int .i64 0] k4 57 55 55 := by rw [← hw4, ← hk4]; exact HJ.out.three _ _
  have HK := Lib.hid hj; have HW4 := Lib.hid hw4; have HK4 := Lib.hid hk4
  clear hj hw4 hk4
  go_upto_region 2 with fail
  rw [HW4.out]
  (try rw [HK4.out])
  have c0 := HK.out.a.cell 0
  have c1 := HK.out.a.cell 1
  have c2 := HK.out.a.cell 2
  have c3 := HK.out.a.cell 3
  have c4 := HK.out.a.cell 4
  have c5 := HK.out.a.cell 5
  have c6 := HK.out.a.cell 6
  have z0 := HK.out.b.cell 0; have fz0 := HK.out.b.frozen 0
  have z1 := HK.out.b.cell 1; have fz1 := HK.out.b.frozen 1
  have z2 := HK.out.b.cell 2; have fz2 := HK.out.b.frozen 2
  have z3 := HK.out.b.cell 3; have fz3 := HK.out.b.frozen 3
  have z4 := HK.out.b.cell 4; have fz4 := HK.out.b.frozen 4
  have z5 := HK.out.b.cell 5; have fz5 := HK.out.b.frozen 5
  have d0 := HK.out.c.cell 0
  have d1 := HK.out.c.cell 1
  have d2 := HK.out.c.cell 2
  have d3 := HK.out.c.cell 3
  have d4 := HK.out.c.cell 4
  have d5 := HK.out.c.cell 5
  simp only [List.getElem?_cons_zero, List.getElem?_cons_succ] at c0 c1 c2 c3 c4 c5 c6 z0 d0 z1 d1 z2 d2 z3 d3 z4 d4 z5 d5
  have l1 := HK.out.a.lt; have l2 := HK.out.b.lt; have l3 := HK.out.c.lt; have l4 := HK.out.lt
  have HR := Lib.hid (HK.out.b.put6 (.bool true) (.int .i64 c) (.int .i64 T) (.int .i64 0) (.int .i64 0) (.int .i64 0))
  have HB := Lib.hid (Below.put6 HK.out.below (b := w.heap.size + 1) (by omega) (.bool true) (.int .i64 c) (.int .i64 T) (.int .i64 0) (.int .i64 0) (.int .i64 0))
  go_region
  all_goals
    go_wp2
    (try simp only [Exit.inBlock, Exit.then])
    exact bodyPost_ret (results_cell_tmp rfl rfl (loadP HR.out.drew)) rfl ⟨rfl, HB.out.drew⟩
set_option linter.unusedSimpArgs false in
set_option linter.unusedVariables false in
set_option maxHeartbeats 8000000 in
set_option maxRecDepth 100000 in
theorem stp3_3 (c T : Int) (cl st sd na nb : Int) (hst : -1 ≤ st ∧ st ≤ 1) (h0 : T ≠ 0) (X : Bool) (hX : (T == -st) = X) (HC : Hid (∀ W, Calls Try.prog 50 #[lookA c ⟨true, cl, st, sd, na, nb⟩] W fun e w' => e = .returned (pastA ⟨true, c, T, 0, 0, 0⟩) ∧ Below W.heap.size W w')) (w : World) : Calls Try.prog 35 #[lookA c ⟨true, cl, st, sd, na, nb⟩] w fun e w' => e = .returned (.tuple #[pastA ⟨true, c, T, 0, 0, 0⟩, .bool (!X)]) ∧ Below w.heap.size w w' := by
  have g0 : (T == 0) = false := beq_false_of_ne h0
  have g1 : (T != 0) = true := by simp [h0]
  have g2 : (T != -st) = !X := by rw [← hX]; rfl
  clear h0
  obtain ⟨w2, hw2⟩ : ∃ w2, ((w.alloc (lookO c ⟨true, cl, st, sd, na, nb⟩)).alloc zeroO) = w2 := ⟨_, rfl⟩
  have hi : TwoB w w2 (lookV c true cl st sd na nb) zeroV 57 55 := by rw [← hw2]; exact twoB w _ _ _ _
  have HI := Lib.hid hi; have HW2 := Lib.hid hw2
  clear hi hw2
  go_enter Try.func35, Try.ntmps35
  go_upto_region 1 with fail
  rw [HW2.out]
  have c0 := HI.out.a.cell 0
  have c1 := HI.out.a.cell 1
  have c2 := HI.out.a.cell 2
  have c3 := HI.out.a.cell 3
  have c4 := HI.out.a.cell 4
  have c5 := HI.out.a.cell 5
  have c6 := HI.out.a.cell 6
  simp only [List.getElem?_cons_zero, List.getElem?_cons_succ] at c0 c1 c2 c3 c4 c5 c6
  have l1 := HI.out.a.lt
  go_wp2_with fail
  refine (HC.out _).mono ?_
  rintro e w3 ⟨rfl, k3⟩
  have HJ := Lib.hid (HI.out.call k3)
  clear k3 l1 c0 c1 c2 c3 c4 c5 c6
  obtain ⟨w4, hw4⟩ : ∃ w4, (w3.alloc (.cells #[.bool true, .int .i64 c, .int .i64 T, .int .i64 0, .int .i64 0, .int .i64 0] 55)) = w4 := ⟨_, rfl⟩
  obtain ⟨k4, hk4⟩ : ∃ k, w3.heap.size = k := ⟨_, rfl⟩
  have hj : TwoC w w4 (lookV c true cl st sd na nb) zeroV [.bool true, .int .i64 c, .int .i64 T, .int .i64 0, .int .i64 0, .int .i64 0] k4 57 55 55 := by rw [← hw4, ← hk4]; exact HJ.out.three _ _
  have HK := Lib.hid hj; have HW4 := Lib.hid hw4; have HK4 := Lib.hid hk4
  clear hj hw4 hk4
  go_upto_region 2 with fail
  rw [HW4.out]
  (try rw [HK4.out])
  have c0 := HK.out.a.cell 0
  have c1 := HK.out.a.cell 1
  have c2 := HK.out.a.cell 2
  have c3 := HK.out.a.cell 3
  have c4 := HK.out.a.cell 4
  have c5 := HK.out.a.cell 5
  have c6 := HK.out.a.cell 6
  have z0 := HK.out.b.cell 0; have fz0 := HK.out.b.frozen 0
  have z1 := HK.out.b.cell 1; have fz1 := HK.out.b.frozen 1
  have z2 := HK.out.b.cell 2; have fz2 := HK.out.b.frozen 2
  have z3 := HK.out.b.cell 3; have fz3 := HK.out.b.frozen 3
  have z4 := HK.out.b.cell 4; have fz4 := HK.out.b.frozen 4
  have z5 := HK.out.b.cell 5; have fz5 := HK.out.b.frozen 5
  have d0 := HK.out.c.cell 0
  have d1 := HK.out.c.cell 1
  have d2 := HK.out.c.cell 2
  have d3 := HK.out.c.cell 3
  have d4 := HK.out.c.cell 4
  have d5 := HK.out.c.cell 5
  simp only [List.getElem?_cons_zero, List.getElem?_cons_succ] at c0 c1 c2 c3 c4 c5 c6 z0 d0 z1 d1 z2 d2 z3 d3 z4 d4 z5 d5
  have l1 := HK.out.a.lt; have l2 := HK.out.b.lt; have l3 := HK.out.c.lt; have l4 := HK.out.lt
  have HR := Lib.hid (HK.out.b.put6 (.bool true) (.int .i64 c) (.int .i64 T) (.int .i64 0) (.int .i64 0) (.int .i64 0))
  have HB := Lib.hid (Below.put6 HK.out.below (b := w.heap.size + 1) (by omega) (.bool true) (.int .i64 c) (.int .i64 T) (.int .i64 0) (.int .i64 0) (.int .i64 0))
  go_region
  all_goals
    go_wp2
    (try simp only [Exit.inBlock, Exit.then])
    exact bodyPost_ret (results_cell_tmp rfl rfl (loadP HR.out.drew)) rfl ⟨rfl, HB.out.drew⟩
theorem rule3_any (c : Int) (p : Past) (hst : -1 ≤ p.step ∧ p.step ≤ 1) (w : World) : Calls Try.prog 35 #[lookA c p] w fun e w' => e = .returned (.tuple #[pastA (pastN 3 c p), .bool (goesN 3 c p)]) ∧ Below w.heap.size w w' := by
  have HC := Lib.hid (stepped_any c p)
  obtain ⟨b, cl, st, sd, na, nb⟩ := p
  cases b with
  | false =>
    exact stp3_1 c 0 cl st sd na nb hst HC w
  | true =>
    rw [show pastN 3 c ⟨true, cl, st, sd, na, nb⟩ = ⟨true, c, cmpN c cl, 0, 0, 0⟩ from rfl, show goesN 3 c ⟨true, cl, st, sd, na, nb⟩ = (!true || !decide (cmpN c cl = 0) && !decide (cmpN c cl = -st)) from rfl]
    rw [show steppedN c ⟨true, cl, st, sd, na, nb⟩ = ⟨true, c, cmpN c cl, 0, 0, 0⟩ from rfl] at HC
    obtain ⟨T, hT⟩ : ∃ T, cmpN c cl = T := ⟨_, rfl⟩
    rw [hT] at HC ⊢
    rw [Bool.not_true, Bool.false_or]
    by_cases h0 : T = 0
    · rw [decide_eq_true h0, Bool.not_true, Bool.false_and]
      exact stp3_2 c T cl st sd na nb hst h0 HC w
    · rw [decide_eq_false h0, Bool.not_false, Bool.true_and]
      exact stp3_3 c T cl st sd na nb hst h0 (decide (T = -st)) (by rw [Bool.eq_iff_iff]; simp) HC w
set_option linter.unusedSimpArgs false in
set_option linter.unusedVariables false in
set_option maxHeartbeats 8000000 in
set_option maxRecDepth 100000 in
theorem stp4_1 (c T : Int) (cl st sd na nb : Int) (hst : -1 ≤ st ∧ st ≤ 1)  (HC : Hid (∀ W, Calls Try.prog 50 #[lookA c ⟨false, cl, st, sd, na, nb⟩] W fun e w' => e = .returned (pastA ⟨true, c, T, 0, 0, 0⟩) ∧ Below W.heap.size W w')) (w : World) : Calls Try.prog 36 #[lookA c ⟨false, cl, st, sd, na, nb⟩] w fun e w' => e = .returned (.tuple #[pastA ⟨true, c, T, 0, 0, 0⟩, .bool (true)]) ∧ Below w.heap.size w w' := by
  obtain ⟨w2, hw2⟩ : ∃ w2, ((w.alloc (lookO c ⟨false, cl, st, sd, na, nb⟩)).alloc zeroO) = w2 := ⟨_, rfl⟩
  have hi : TwoB w w2 (lookV c false cl st sd na nb) zeroV 57 55 := by rw [← hw2]; exact twoB w _ _ _ _
  have HI := Lib.hid hi; have HW2 := Lib.hid hw2
  clear hi hw2
  go_enter Try.func36, Try.ntmps36
  go_upto_region 1 with fail
  rw [HW2.out]
  have c0 := HI.out.a.cell 0
  have c1 := HI.out.a.cell 1
  have c2 := HI.out.a.cell 2
  have c3 := HI.out.a.cell 3
  have c4 := HI.out.a.cell 4
  have c5 := HI.out.a.cell 5
  have c6 := HI.out.a.cell 6
  simp only [List.getElem?_cons_zero, List.getElem?_cons_succ] at c0 c1 c2 c3 c4 c5 c6
  have l1 := HI.out.a.lt
  go_wp2_with fail
  refine (HC.out _).mono ?_
  rintro e w3 ⟨rfl, k3⟩
  have HJ := Lib.hid (HI.out.call k3)
  clear k3 l1 c0 c1 c2 c3 c4 c5 c6
  obtain ⟨w4, hw4⟩ : ∃ w4, (w3.alloc (.cells #[.bool true, .int .i64 c, .int .i64 T, .int .i64 0, .int .i64 0, .int .i64 0] 55)) = w4 := ⟨_, rfl⟩
  obtain ⟨k4, hk4⟩ : ∃ k, w3.heap.size = k := ⟨_, rfl⟩
  have hj : TwoC w w4 (lookV c false cl st sd na nb) zeroV [.bool true, .int .i64 c, .int .i64 T, .int .i64 0, .int .i64 0, .int .i64 0] k4 57 55 55 := by rw [← hw4, ← hk4]; exact HJ.out.three _ _
  have HK := Lib.hid hj; have HW4 := Lib.hid hw4; have HK4 := Lib.hid hk4
  clear hj hw4 hk4
  go_upto_region 2 with fail
  rw [HW4.out]
  (try rw [HK4.out])
  have c0 := HK.out.a.cell 0
  have c1 := HK.out.a.cell 1
  have c2 := HK.out.a.cell 2
  have c3 := HK.out.a.cell 3
  have c4 := HK.out.a.cell 4
  have c5 := HK.out.a.cell 5
  have c6 := HK.out.a.cell 6
  have z0 := HK.out.b.cell 0; have fz0 := HK.out.b.frozen 0
  have z1 := HK.out.b.cell 1; have fz1 := HK.out.b.frozen 1
  have z2 := HK.out.b.cell 2; have fz2 := HK.out.b.frozen 2
  have z3 := HK.out.b.cell 3; have fz3 := HK.out.b.frozen 3
  have z4 := HK.out.b.cell 4; have fz4 := HK.out.b.frozen 4
  have z5 := HK.out.b.cell 5; have fz5 := HK.out.b.frozen 5
  have d0 := HK.out.c.cell 0
  have d1 := HK.out.c.cell 1
  have d2 := HK.out.c.cell 2
  have d3 := HK.out.c.cell 3
  have d4 := HK.out.c.cell 4
  have d5 := HK.out.c.cell 5
  simp only [List.getElem?_cons_zero, List.getElem?_cons_succ] at c0 c1 c2 c3 c4 c5 c6 z0 d0 z1 d1 z2 d2 z3 d3 z4 d4 z5 d5
  have l1 := HK.out.a.lt; have l2 := HK.out.b.lt; have l3 := HK.out.c.lt; have l4 := HK.out.lt
  have HR := Lib.hid (HK.out.b.put6 (.bool true) (.int .i64 c) (.int .i64 T) (.int .i64 0) (.int .i64 0) (.int .i64 0))
  have HB := Lib.hid (Below.put6 HK.out.below (b := w.heap.size + 1) (by omega) (.bool true) (.int .i64 c) (.int .i64 T) (.int .i64 0) (.int .i64 0) (.int .i64 0))
  go_region
  all_goals
    go_wp2
    (try simp only [Exit.inBlock, Exit.then])
    exact bodyPost_ret (results_cell_tmp rfl rfl (loadP HR.out.drew)) rfl ⟨rfl, HB.out.drew⟩
set_option linter.unusedSimpArgs false in
set_option linter.unusedVariables false in
set_option maxHeartbeats 8000000 in
set_option maxRecDepth 100000 in
theorem stp4_2 (c T : Int) (cl st sd na nb : Int) (hst : -1 ≤ st ∧ st ≤ 1) (h0 : T = 0) (HC : Hid (∀ W, Calls Try.prog 50 #[lookA c ⟨true, cl, st, sd, na, nb⟩] W fun e w' => e = .returned (pastA ⟨true, c, T, 0, 0, 0⟩) ∧ Below W.heap.size W w')) (w : World) : Calls Try.prog 36 #[lookA c ⟨true, cl, st, sd, na, nb⟩] w fun e w' => e = .returned (.tuple #[pastA ⟨true, c, T, 0, 0, 0⟩, .bool (false)]) ∧ Below w.heap.size w w' := by
  have g0 : (T == 0) = true := by rw [h0]; rfl
  have g1 : (T != 0) = false := by rw [h0]; rfl
  clear h0
  obtain ⟨w2, hw2⟩ : ∃ w2, ((w.alloc (lookO c ⟨true, cl, st, sd, na, nb⟩)).alloc zeroO) = w2 := ⟨_, rfl⟩
  have hi : TwoB w w2 (lookV c true cl st sd na nb) zeroV 57 55 := by rw [← hw2]; exact twoB w _ _ _ _
  have HI := Lib.hid hi; have HW2 := Lib.hid hw2
  clear hi hw2
  go_enter Try.func36, Try.ntmps36
  go_upto_region 1 with fail
  rw [HW2.out]
  have c0 := HI.out.a.cell 0
  have c1 := HI.out.a.cell 1
  have c2 := HI.out.a.cell 2
  have c3 := HI.out.a.cell 3
  have c4 := HI.out.a.cell 4
  have c5 := HI.out.a.cell 5
  have c6 := HI.out.a.cell 6
  simp only [List.getElem?_cons_zero, List.getElem?_cons_succ] at c0 c1 c2 c3 c4 c5 c6
  have l1 := HI.out.a.lt
  go_wp2_with fail
  refine (HC.out _).mono ?_
  rintro e w3 ⟨rfl, k3⟩
  have HJ := Lib.hid (HI.out.call k3)
  clear k3 l1 c0 c1 c2 c3 c4 c5 c6
  obtain ⟨w4, hw4⟩ : ∃ w4, (w3.alloc (.cells #[.bool true, .int .i64 c, .int .i64 T, .int .i64 0, .int .i64 0, .int .i64 0] 55)) = w4 := ⟨_, rfl⟩
  obtain ⟨k4, hk4⟩ : ∃ k, w3.heap.size = k := ⟨_, rfl⟩
  have hj : TwoC w w4 (lookV c true cl st sd na nb) zeroV [.bool true, .int .i64 c, .int .i64 T, .int .i64 0, .int .i64 0, .int .i64 0] k4 57 55 55 := by rw [← hw4, ← hk4]; exact HJ.out.three _ _
  have HK := Lib.hid hj; have HW4 := Lib.hid hw4; have HK4 := Lib.hid hk4
  clear hj hw4 hk4
  go_upto_region 2 with fail
  rw [HW4.out]
  (try rw [HK4.out])
  have c0 := HK.out.a.cell 0
  have c1 := HK.out.a.cell 1
  have c2 := HK.out.a.cell 2
  have c3 := HK.out.a.cell 3
  have c4 := HK.out.a.cell 4
  have c5 := HK.out.a.cell 5
  have c6 := HK.out.a.cell 6
  have z0 := HK.out.b.cell 0; have fz0 := HK.out.b.frozen 0
  have z1 := HK.out.b.cell 1; have fz1 := HK.out.b.frozen 1
  have z2 := HK.out.b.cell 2; have fz2 := HK.out.b.frozen 2
  have z3 := HK.out.b.cell 3; have fz3 := HK.out.b.frozen 3
  have z4 := HK.out.b.cell 4; have fz4 := HK.out.b.frozen 4
  have z5 := HK.out.b.cell 5; have fz5 := HK.out.b.frozen 5
  have d0 := HK.out.c.cell 0
  have d1 := HK.out.c.cell 1
  have d2 := HK.out.c.cell 2
  have d3 := HK.out.c.cell 3
  have d4 := HK.out.c.cell 4
  have d5 := HK.out.c.cell 5
  simp only [List.getElem?_cons_zero, List.getElem?_cons_succ] at c0 c1 c2 c3 c4 c5 c6 z0 d0 z1 d1 z2 d2 z3 d3 z4 d4 z5 d5
  have l1 := HK.out.a.lt; have l2 := HK.out.b.lt; have l3 := HK.out.c.lt; have l4 := HK.out.lt
  have HR := Lib.hid (HK.out.b.put6 (.bool true) (.int .i64 c) (.int .i64 T) (.int .i64 0) (.int .i64 0) (.int .i64 0))
  have HB := Lib.hid (Below.put6 HK.out.below (b := w.heap.size + 1) (by omega) (.bool true) (.int .i64 c) (.int .i64 T) (.int .i64 0) (.int .i64 0) (.int .i64 0))
  go_region
  all_goals
    go_wp2
    (try simp only [Exit.inBlock, Exit.then])
    exact bodyPost_ret (results_cell_tmp rfl rfl (loadP HR.out.drew)) rfl ⟨rfl, HB.out.drew⟩
set_option linter.unusedSimpArgs false in
set_option linter.unusedVariables false in
set_option maxHeartbeats 8000000 in
set_option maxRecDepth 100000 in
theorem stp4_3 (c T : Int) (cl st sd na nb : Int) (hst : -1 ≤ st ∧ st ≤ 1) (h0 : T ≠ 0) (X : Bool) (hX : (T == st) = X) (HC : Hid (∀ W, Calls Try.prog 50 #[lookA c ⟨true, cl, st, sd, na, nb⟩] W fun e w' => e = .returned (pastA ⟨true, c, T, 0, 0, 0⟩) ∧ Below W.heap.size W w')) (w : World) : Calls Try.prog 36 #[lookA c ⟨true, cl, st, sd, na, nb⟩] w fun e w' => e = .returned (.tuple #[pastA ⟨true, c, T, 0, 0, 0⟩, .bool (!X)]) ∧ Below w.heap.size w w' := by
  have g0 : (T == 0) = false := beq_false_of_ne h0
  have g1 : (T != 0) = true := by simp [h0]
  have g2 : (T != st) = !X := by rw [← hX]; rfl
  clear h0
  obtain ⟨w2, hw2⟩ : ∃ w2, ((w.alloc (lookO c ⟨true, cl, st, sd, na, nb⟩)).alloc zeroO) = w2 := ⟨_, rfl⟩
  have hi : TwoB w w2 (lookV c true cl st sd na nb) zeroV 57 55 := by rw [← hw2]; exact twoB w _ _ _ _
  have HI := Lib.hid hi; have HW2 := Lib.hid hw2
  clear hi hw2
  go_enter Try.func36, Try.ntmps36
  go_upto_region 1 with fail
  rw [HW2.out]
  have c0 := HI.out.a.cell 0
  have c1 := HI.out.a.cell 1
  have c2 := HI.out.a.cell 2
  have c3 := HI.out.a.cell 3
  have c4 := HI.out.a.cell 4
  have c5 := HI.out.a.cell 5
  have c6 := HI.out.a.cell 6
  simp only [List.getElem?_cons_zero, List.getElem?_cons_succ] at c0 c1 c2 c3 c4 c5 c6
  have l1 := HI.out.a.lt
  go_wp2_with fail
  refine (HC.out _).mono ?_
  rintro e w3 ⟨rfl, k3⟩
  have HJ := Lib.hid (HI.out.call k3)
  clear k3 l1 c0 c1 c2 c3 c4 c5 c6
  obtain ⟨w4, hw4⟩ : ∃ w4, (w3.alloc (.cells #[.bool true, .int .i64 c, .int .i64 T, .int .i64 0, .int .i64 0, .int .i64 0] 55)) = w4 := ⟨_, rfl⟩
  obtain ⟨k4, hk4⟩ : ∃ k, w3.heap.size = k := ⟨_, rfl⟩
  have hj : TwoC w w4 (lookV c true cl st sd na nb) zeroV [.bool true, .int .i64 c, .int .i64 T, .int .i64 0, .int .i64 0, .int .i64 0] k4 57 55 55 := by rw [← hw4, ← hk4]; exact HJ.out.three _ _
  have HK := Lib.hid hj; have HW4 := Lib.hid hw4; have HK4 := Lib.hid hk4
  clear hj hw4 hk4
  go_upto_region 2 with fail
  rw [HW4.out]
  (try rw [HK4.out])
  have c0 := HK.out.a.cell 0
  have c1 := HK.out.a.cell 1
  have c2 := HK.out.a.cell 2
  have c3 := HK.out.a.cell 3
  have c4 := HK.out.a.cell 4
  have c5 := HK.out.a.cell 5
  have c6 := HK.out.a.cell 6
  have z0 := HK.out.b.cell 0; have fz0 := HK.out.b.frozen 0
  have z1 := HK.out.b.cell 1; have fz1 := HK.out.b.frozen 1
  have z2 := HK.out.b.cell 2; have fz2 := HK.out.b.frozen 2
  have z3 := HK.out.b.cell 3; have fz3 := HK.out.b.frozen 3
  have z4 := HK.out.b.cell 4; have fz4 := HK.out.b.frozen 4
  have z5 := HK.out.b.cell 5; have fz5 := HK.out.b.frozen 5
  have d0 := HK.out.c.cell 0
  have d1 := HK.out.c.cell 1
  have d2 := HK.out.c.cell 2
  have d3 := HK.out.c.cell 3
  have d4 := HK.out.c.cell 4
  have d5 := HK.out.c.cell 5
  simp only [List.getElem?_cons_zero, List.getElem?_cons_succ] at c0 c1 c2 c3 c4 c5 c6 z0 d0 z1 d1 z2 d2 z3 d3 z4 d4 z5 d5
  have l1 := HK.out.a.lt; have l2 := HK.out.b.lt; have l3 := HK.out.c.lt; have l4 := HK.out.lt
  have HR := Lib.hid (HK.out.b.put6 (.bool true) (.int .i64 c) (.int .i64 T) (.int .i64 0) (.int .i64 0) (.int .i64 0))
  have HB := Lib.hid (Below.put6 HK.out.below (b := w.heap.size + 1) (by omega) (.bool true) (.int .i64 c) (.int .i64 T) (.int .i64 0) (.int .i64 0) (.int .i64 0))
  go_region
  all_goals
    go_wp2
    (try simp only [Exit.inBlock, Exit.then])
    exact bodyPost_ret (results_cell_tmp rfl rfl (loadP HR.out.drew)) rfl ⟨rfl, HB.out.drew⟩
theorem rule4_any (c : Int) (p : Past) (hst : -1 ≤ p.step ∧ p.step ≤ 1) (w : World) : Calls Try.prog 36 #[lookA c p] w fun e w' => e = .returned (.tuple #[pastA (pastN 4 c p), .bool (goesN 4 c p)]) ∧ Below w.heap.size w w' := by
  have HC := Lib.hid (stepped_any c p)
  obtain ⟨b, cl, st, sd, na, nb⟩ := p
  cases b with
  | false =>
    exact stp4_1 c 0 cl st sd na nb hst HC w
  | true =>
    rw [show pastN 4 c ⟨true, cl, st, sd, na, nb⟩ = ⟨true, c, cmpN c cl, 0, 0, 0⟩ from rfl, show goesN 4 c ⟨true, cl, st, sd, na, nb⟩ = (!true || !decide (cmpN c cl = 0) && !decide (cmpN c cl = st)) from rfl]
    rw [show steppedN c ⟨true, cl, st, sd, na, nb⟩ = ⟨true, c, cmpN c cl, 0, 0, 0⟩ from rfl] at HC
    obtain ⟨T, hT⟩ : ∃ T, cmpN c cl = T := ⟨_, rfl⟩
    rw [hT] at HC ⊢
    rw [Bool.not_true, Bool.false_or]
    by_cases h0 : T = 0
    · rw [decide_eq_true h0, Bool.not_true, Bool.false_and]
      exact stp4_2 c T cl st sd na nb hst h0 HC w
    · rw [decide_eq_false h0, Bool.not_false, Bool.true_and]
      exact stp4_3 c T cl st sd na nb hst h0 (decide (T = st)) (by rw [Bool.eq_iff_iff]; simp) HC w
end Go.Proofs.Ytjonpcpcokapkaa
