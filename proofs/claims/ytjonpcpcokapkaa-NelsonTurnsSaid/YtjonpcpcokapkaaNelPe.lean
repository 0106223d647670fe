/- nelson's rules 1, 5, 6, 7, 8. -/
import Derived.Test.YtjonpcpcokapkaaNelPd
namespace Go.Proofs.Ytjonpcpcokapkaa
open Go.RowKit

/-- Two blocks were made. -/
structure TwoB (w w2 : World) (A B : List Value) (TA TB : TypeId) : Prop where
  below : Below w.heap.size w w2
  a : Has w2 w.heap.size A TA
  b : Has w2 (w.heap.size + 1) B TB
theorem twoB (w : World) (A B : List Value) (TA TB : TypeId) : TwoB w ((w.alloc (.cells A.toArray TA)).alloc (.cells B.toArray TB)) A B TA TB where
  below := ((Below.refl _ _).alloc (Nat.le_refl _) _).alloc (by simp) _
  a := (Has.new w _ _).alloc _
  b := by
    have := Has.new (w.alloc (.cells A.toArray TA)) B TB
    rw [show (w.alloc (.cells A.toArray TA)).heap.size = w.heap.size + 1 by simp] at this
    exact this
theorem TwoB.call {w w2 w3 : World} {A B : List Value} {TA TB : TypeId} (h : TwoB w w2 A B TA TB) (hb : Below w2.heap.size w2 w3) : TwoB w w3 A B TA TB :=
  ⟨h.below.trans (hb.mono h.below.size), h.a.call hb, h.b.call hb⟩
set_option linter.unusedSimpArgs false in
set_option linter.unusedVariables false in
set_option maxHeartbeats 4000000 in
set_option maxRecDepth 100000 in
theorem rule1_any (c : Int) (hc : -4 ≤ c ∧ c ≤ 4) (p : Past) (hna : 0 ≤ p.na ∧ p.na ≤ 100) (hnb : 0 ≤ p.nb ∧ p.nb ≤ 100) (w : World) : Calls Try.prog 33 #[lookA c p] w fun e w' => e = .returned (.tuple #[pastA (pastN 1 c p), .bool (goesN 1 c p)]) ∧ Below w.heap.size w w' := by
  rw [show pastN 1 c p = past0 from rfl, show goesN 1 c p = decide (farN c = 4) from rfl]
  have HC := Lib.hid (fun W => far_any c hc p W)
  obtain ⟨D, hD⟩ : ∃ D, farN c = D := ⟨_, rfl⟩
  rw [hD] at HC ⊢
  clear hD hc hna hnb
  obtain ⟨b, cl, st, sd, na, nb⟩ := p
  obtain ⟨w2, hw2⟩ : ∃ w2, ((w.alloc (lookO c ⟨b, cl, st, sd, na, nb⟩)).alloc zeroO) = w2 := ⟨_, rfl⟩
  have hi : TwoB w w2 (lookV c b cl st sd na nb) zeroV 57 55 := by rw [← hw2]; exact twoB w _ _ _ _
  have HI := Lib.hid hi; have HW2 := Lib.hid hw2
  clear hi hw2
  go_enter Try.func33, Try.ntmps33
  go_upto_region 1 with fail
  rw [HW2.out]
  have c0 := HI.out.a.cell 0
  have c1 := HI.out.a.cell 1
  have c2 := HI.out.a.cell 2
  have c3 := HI.out.a.cell 3
  have c4 := HI.out.a.cell 4
  have c5 := HI.out.a.cell 5
  have c6 := HI.out.a.cell 6
  simp only [List.getElem?_cons_zero, List.getElem?_cons_succ] at c0 c1 c2 c3 c4 c5 c6
  have l1 := HI.out.a.lt
  go_wp2_with fail
  refine (HC.out _).mono ?_
  rintro e w3 ⟨rfl, k3⟩
  have HJ := Lib.hid (HI.out.call k3)
  clear k3 c0 c1 c2 c3 c4 c5 c6
  have z0 := HJ.out.b.cell 0; have y0 := HJ.out.b.frozen 0
  have z1 := HJ.out.b.cell 1; have y1 := HJ.out.b.frozen 1
  have z2 := HJ.out.b.cell 2; have y2 := HJ.out.b.frozen 2
  have z3 := HJ.out.b.cell 3; have y3 := HJ.out.b.frozen 3
  have z4 := HJ.out.b.cell 4; have y4 := HJ.out.b.frozen 4
  have z5 := HJ.out.b.cell 5; have y5 := HJ.out.b.frozen 5
  simp only [List.getElem?_cons_zero, List.getElem?_cons_succ] at z0 z1 z2 z3 z4 z5
  have l2 := HJ.out.b.lt
  have HR := Lib.hid (HJ.out.b.put6 (.bool false) (.int .i64 0) (.int .i64 0) (.int .i64 0) (.int .i64 0) (.int .i64 0))
  have HB := Lib.hid (Below.put6 HJ.out.below (b := w.heap.size + 1) (by omega) (.bool false) (.int .i64 0) (.int .i64 0) (.int .i64 0) (.int .i64 0) (.int .i64 0))
  go_wp2
  (try simp only [Exit.inBlock, Exit.then])
  exact bodyPost_ret (results_cell_tmp rfl rfl (loadP HR.out)) rfl ⟨(by first | rfl | simp [past0] | (congr 1; simp [past0])), HB.out⟩
set_option linter.unusedSimpArgs false in
set_option linter.unusedVariables false in
set_option maxHeartbeats 4000000 in
set_option maxRecDepth 100000 in
theorem rule5_any (c : Int) (hc : -4 ≤ c ∧ c ≤ 4) (p : Past) (hna : 0 ≤ p.na ∧ p.na ≤ 100) (hnb : 0 ≤ p.nb ∧ p.nb ≤ 100) (w : World) : Calls Try.prog 37 #[lookA c p] w fun e w' => e = .returned (.tuple #[pastA (pastN 5 c p), .bool (goesN 5 c p)]) ∧ Below w.heap.size w w' := by
  rw [show pastN 5 c p = butN 3 c p from rfl, show goesN 5 c p = (decide ((butN 3 c p).na ≤ 1) || decide ((butN 3 c p).nb ≤ 1)) from rfl]
  have HC := Lib.hid (fun W => but_any 3 c p (by omega) hna hnb W)
  obtain ⟨⟨b2, cl2, st2, sd2, na2, nb2⟩, hD⟩ : ∃ D, butN 3 c p = D := ⟨_, rfl⟩
  rw [hD] at HC ⊢
  dsimp only at HC ⊢
  obtain ⟨G, hG⟩ : ∃ G, (decide (na2 ≤ 1) || decide (nb2 ≤ 1)) = G := ⟨_, rfl⟩
  rw [hG] at HC ⊢
  clear hD hG hc hna hnb
  obtain ⟨b, cl, st, sd, na, nb⟩ := p
  obtain ⟨w2, hw2⟩ : ∃ w2, ((w.alloc (lookO c ⟨b, cl, st, sd, na, nb⟩)).alloc zeroO) = w2 := ⟨_, rfl⟩
  have hi : TwoB w w2 (lookV c b cl st sd na nb) zeroV 57 55 := by rw [← hw2]; exact twoB w _ _ _ _
  have HI := Lib.hid hi; have HW2 := Lib.hid hw2
  clear hi hw2
  go_enter Try.func37, Try.ntmps37
  go_upto_region 1 with fail
  rw [HW2.out]
  have c0 := HI.out.a.cell 0
  have c1 := HI.out.a.cell 1
  have c2 := HI.out.a.cell 2
  have c3 := HI.out.a.cell 3
  have c4 := HI.out.a.cell 4
  have c5 := HI.out.a.cell 5
  have c6 := HI.out.a.cell 6
  simp only [List.getElem?_cons_zero, List.getElem?_cons_succ] at c0 c1 c2 c3 c4 c5 c6
  have l1 := HI.out.a.lt
  go_wp2_with fail
  refine (HC.out _).mono ?_
  rintro e w3 ⟨rfl, k3⟩
  have HJ := Lib.hid (HI.out.call k3)
  clear k3 c0 c1 c2 c3 c4 c5 c6
  have z0 := HJ.out.b.cell 0; have y0 := HJ.out.b.frozen 0
  have z1 := HJ.out.b.cell 1; have y1 := HJ.out.b.frozen 1
  have z2 := HJ.out.b.cell 2; have y2 := HJ.out.b.frozen 2
  have z3 := HJ.out.b.cell 3; have y3 := HJ.out.b.frozen 3
  have z4 := HJ.out.b.cell 4; have y4 := HJ.out.b.frozen 4
  have z5 := HJ.out.b.cell 5; have y5 := HJ.out.b.frozen 5
  simp only [List.getElem?_cons_zero, List.getElem?_cons_succ] at z0 z1 z2 z3 z4 z5
  have l2 := HJ.out.b.lt
  have HR := Lib.hid (HJ.out.b.put6 (.bool b2) (.int .i64 cl2) (.int .i64 st2) (.int .i64 sd2) (.int .i64 na2) (.int .i64 nb2))
  have HB := Lib.hid (Below.put6 HJ.out.below (b := w.heap.size + 1) (by omega) (.bool b2) (.int .i64 cl2) (.int .i64 st2) (.int .i64 sd2) (.int .i64 na2) (.int .i64 nb2))
  go_wp2
  (try simp only [Exit.inBlock, Exit.then])
  exact bodyPost_ret (results_cell_tmp rfl rfl (loadP HR.out)) rfl ⟨rfl, HB.out⟩
set_option linter.unusedSimpArgs false in
set_option linter.unusedVariables false in
set_option maxHeartbeats 4000000 in
set_option maxRecDepth 100000 in
theorem rule6_any (c : Int) (hc : -4 ≤ c ∧ c ≤ 4) (p : Past) (hna : 0 ≤ p.na ∧ p.na ≤ 100) (hnb : 0 ≤ p.nb ∧ p.nb ≤ 100) (w : World) : Calls Try.prog 38 #[lookA c p] w fun e w' => e = .returned (.tuple #[pastA (pastN 6 c p), .bool (goesN 6 c p)]) ∧ Below w.heap.size w w' := by
  rw [show pastN 6 c p = butN 2 c p from rfl, show goesN 6 c p = (decide ((butN 2 c p).na ≤ 1) || decide ((butN 2 c p).nb ≤ 1)) from rfl]
  have HC := Lib.hid (fun W => but_any 2 c p (by omega) hna hnb W)
  obtain ⟨⟨b2, cl2, st2, sd2, na2, nb2⟩, hD⟩ : ∃ D, butN 2 c p = D := ⟨_, rfl⟩
  rw [hD] at HC ⊢
  dsimp only at HC ⊢
  obtain ⟨G, hG⟩ : ∃ G, (decide (na2 ≤ 1) || decide (nb2 ≤ 1)) = G := ⟨_, rfl⟩
  rw [hG] at HC ⊢
  clear hD hG hc hna hnb
  obtain ⟨b, cl, st, sd, na, nb⟩ := p
  obtain ⟨w2, hw2⟩ : ∃ w2, ((w.alloc (lookO c ⟨b, cl, st, sd, na, nb⟩)).alloc zeroO) = w2 := ⟨_, rfl⟩
  have hi : TwoB w w2 (lookV c b cl st sd na nb) zeroV 57 55 := by rw [← hw2]; exact twoB w _ _ _ _
  have HI := Lib.hid hi; have HW2 := Lib.hid hw2
  clear hi hw2
  go_enter Try.func38, Try.ntmps38
  go_upto_region 1 with fail
  rw [HW2.out]
  have c0 := HI.out.a.cell 0
  have c1 := HI.out.a.cell 1
  have c2 := HI.out.a.cell 2
  have c3 := HI.out.a.cell 3
  have c4 := HI.out.a.cell 4
  have c5 := HI.out.a.cell 5
  have c6 := HI.out.a.cell 6
  simp only [List.getElem?_cons_zero, List.getElem?_cons_succ] at c0 c1 c2 c3 c4 c5 c6
  have l1 := HI.out.a.lt
  go_wp2_with fail
  refine (HC.out _).mono ?_
  rintro e w3 ⟨rfl, k3⟩
  have HJ := Lib.hid (HI.out.call k3)
  clear k3 c0 c1 c2 c3 c4 c5 c6
  have z0 := HJ.out.b.cell 0; have y0 := HJ.out.b.frozen 0
  have z1 := HJ.out.b.cell 1; have y1 := HJ.out.b.frozen 1
  have z2 := HJ.out.b.cell 2; have y2 := HJ.out.b.frozen 2
  have z3 := HJ.out.b.cell 3; have y3 := HJ.out.b.frozen 3
  have z4 := HJ.out.b.cell 4; have y4 := HJ.out.b.frozen 4
  have z5 := HJ.out.b.cell 5; have y5 := HJ.out.b.frozen 5
  simp only [List.getElem?_cons_zero, List.getElem?_cons_succ] at z0 z1 z2 z3 z4 z5
  have l2 := HJ.out.b.lt
  have HR := Lib.hid (HJ.out.b.put6 (.bool b2) (.int .i64 cl2) (.int .i64 st2) (.int .i64 sd2) (.int .i64 na2) (.int .i64 nb2))
  have HB := Lib.hid (Below.put6 HJ.out.below (b := w.heap.size + 1) (by omega) (.bool b2) (.int .i64 cl2) (.int .i64 st2) (.int .i64 sd2) (.int .i64 na2) (.int .i64 nb2))
  go_wp2
  (try simp only [Exit.inBlock, Exit.then])
  exact bodyPost_ret (results_cell_tmp rfl rfl (loadP HR.out)) rfl ⟨rfl, HB.out⟩
set_option linter.unusedSimpArgs false in
set_option linter.unusedVariables false in
set_option maxHeartbeats 4000000 in
set_option maxRecDepth 100000 in
theorem rule7_any (c : Int) (hc : -4 ≤ c ∧ c ≤ 4) (p : Past) (hna : 0 ≤ p.na ∧ p.na ≤ 100) (hnb : 0 ≤ p.nb ∧ p.nb ≤ 100) (w : World) : Calls Try.prog 39 #[lookA c p] w fun e w' => e = .returned (.tuple #[pastA (pastN 7 c p), .bool (goesN 7 c p)]) ∧ Below w.heap.size w w' := by
  rw [show pastN 7 c p = past0 from rfl, show goesN 7 c p = decide (farN c ≤ 1) from rfl]
  have HC := Lib.hid (fun W => far_any c hc p W)
  obtain ⟨D, hD⟩ : ∃ D, farN c = D := ⟨_, rfl⟩
  rw [hD] at HC ⊢
  clear hD hc hna hnb
  obtain ⟨b, cl, st, sd, na, nb⟩ := p
  obtain ⟨w2, hw2⟩ : ∃ w2, ((w.alloc (lookO c ⟨b, cl, st, sd, na, nb⟩)).alloc zeroO) = w2 := ⟨_, rfl⟩
  have hi : TwoB w w2 (lookV c b cl st sd na nb) zeroV 57 55 := by rw [← hw2]; exact twoB w _ _ _ _
  have HI := Lib.hid hi; have HW2 := Lib.hid hw2
  clear hi hw2
  go_enter Try.func39, Try.ntmps39
  go_upto_region 1 with fail
  rw [HW2.out]
  have c0 := HI.out.a.cell 0
  have c1 := HI.out.a.cell 1
  have c2 := HI.out.a.cell 2
  have c3 := HI.out.a.cell 3
  have c4 := HI.out.a.cell 4
  have c5 := HI.out.a.cell 5
  have c6 := HI.out.a.cell 6
  simp only [List.getElem?_cons_zero, List.getElem?_cons_succ] at c0 c1 c2 c3 c4 c5 c6
  have l1 := HI.out.a.lt
  go_wp2_with fail
  refine (HC.out _).mono ?_
  rintro e w3 ⟨rfl, k3⟩
  have HJ := Lib.hid (HI.out.call k3)
  clear k3 c0 c1 c2 c3 c4 c5 c6
  have z0 := HJ.out.b.cell 0; have y0 := HJ.out.b.frozen 0
  have z1 := HJ.out.b.cell 1; have y1 := HJ.out.b.frozen 1
  have z2 := HJ.out.b.cell 2; have y2 := HJ.out.b.frozen 2
  have z3 := HJ.out.b.cell 3; have y3 := HJ.out.b.frozen 3
  have z4 := HJ.out.b.cell 4; have y4 := HJ.out.b.frozen 4
  have z5 := HJ.out.b.cell 5; have y5 := HJ.out.b.frozen 5
  simp only [List.getElem?_cons_zero, List.getElem?_cons_succ] at z0 z1 z2 z3 z4 z5
  have l2 := HJ.out.b.lt
  have HR := Lib.hid (HJ.out.b.put6 (.bool false) (.int .i64 0) (.int .i64 0) (.int .i64 0) (.int .i64 0) (.int .i64 0))
  have HB := Lib.hid (Below.put6 HJ.out.below (b := w.heap.size + 1) (by omega) (.bool false) (.int .i64 0) (.int .i64 0) (.int .i64 0) (.int .i64 0) (.int .i64 0))
  go_wp2
  (try simp only [Exit.inBlock, Exit.then])
  exact bodyPost_ret (results_cell_tmp rfl rfl (loadP HR.out)) rfl ⟨(by first | rfl | simp [past0] | (congr 1; simp [past0])), HB.out⟩
set_option linter.unusedSimpArgs false in
set_option linter.unusedVariables false in
set_option maxHeartbeats 4000000 in
set_option maxRecDepth 100000 in
theorem rule8_any (c : Int) (hc : -4 ≤ c ∧ c ≤ 4) (p : Past) (hna : 0 ≤ p.na ∧ p.na ≤ 100) (hnb : 0 ≤ p.nb ∧ p.nb ≤ 100) (w : World) : Calls Try.prog 40 #[lookA c p] w fun e w' => e = .returned (.tuple #[pastA (pastN 8 c p), .bool (goesN 8 c p)]) ∧ Below w.heap.size w w' := by
  rw [show pastN 8 c p = past0 from rfl, show goesN 8 c p = decide (2 ≤ farN c) from rfl]
  have HC := Lib.hid (fun W => far_any c hc p W)
  obtain ⟨D, hD⟩ : ∃ D, farN c = D := ⟨_, rfl⟩
  rw [hD] at HC ⊢
  clear hD hc hna hnb
  obtain ⟨b, cl, st, sd, na, nb⟩ := p
  obtain ⟨w2, hw2⟩ : ∃ w2, ((w.alloc (lookO c ⟨b, cl, st, sd, na, nb⟩)).alloc zeroO) = w2 := ⟨_, rfl⟩
  have hi : TwoB w w2 (lookV c b cl st sd na nb) zeroV 57 55 := by rw [← hw2]; exact twoB w _ _ _ _
  have HI := Lib.hid hi; have HW2 := Lib.hid hw2
  clear hi hw2
  go_enter Try.func40, Try.ntmps40
  go_upto_region 1 with fail
  rw [HW2.out]
  have c0 := HI.out.a.cell 0
  have c1 := HI.out.a.cell 1
  have c2 := HI.out.a.cell 2
  have c3 := HI.out.a.cell 3
  have c4 := HI.out.a.cell 4
  have c5 := HI.out.a.cell 5
  have c6 := HI.out.a.cell 6
  simp only [List.getElem?_cons_zero, List.getElem?_cons_succ] at c0 c1 c2 c3 c4 c5 c6
  have l1 := HI.out.a.lt
  go_wp2_with fail
  refine (HC.out _).mono ?_
  rintro e w3 ⟨rfl, k3⟩
  have HJ := Lib.hid (HI.out.call k3)
  clear k3 c0 c1 c2 c3 c4 c5 c6
  have z0 := HJ.out.b.cell 0; have y0 := HJ.out.b.frozen 0
  have z1 := HJ.out.b.cell 1; have y1 := HJ.out.b.frozen 1
  have z2 := HJ.out.b.cell 2; have y2 := HJ.out.b.frozen 2
  have z3 := HJ.out.b.cell 3; have y3 := HJ.out.b.frozen 3
  have z4 := HJ.out.b.cell 4; have y4 := HJ.out.b.frozen 4
  have z5 := HJ.out.b.cell 5; have y5 := HJ.out.b.frozen 5
  simp only [List.getElem?_cons_zero, List.getElem?_cons_succ] at z0 z1 z2 z3 z4 z5
  have l2 := HJ.out.b.lt
  have HR := Lib.hid (HJ.out.b.put6 (.bool false) (.int .i64 0) (.int .i64 0) (.int .i64 0) (.int .i64 0) (.int .i64 0))
  have HB := Lib.hid (Below.put6 HJ.out.below (b := w.heap.size + 1) (by omega) (.bool false) (.int .i64 0) (.int .i64 0) (.int .i64 0) (.int .i64 0) (.int .i64 0))
  go_wp2
  (try simp only [Exit.inBlock, Exit.then])
  exact bodyPost_ret (results_cell_tmp rfl rfl (loadP HR.out)) rfl ⟨(by first | rfl | simp [past0] | (congr 1; simp [past0])), HB.out⟩
end Go.Proofs.Ytjonpcpcokapkaa
