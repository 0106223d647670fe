/- The reference's Right: whether stats may be. -/
import Derived.Test.YtbpdapggdccmiaaStaB
import Derived.BigQuiet
namespace Go.Proofs.Ytbpdapggdccmiaa
open Go.RowKit

theorem eqSta6 (n1 z1 h1 o1 l1 g1 n2 z2 h2 o2 l2 g2 : Int) (w : World) : (Op.equalIn 10000 27 (.agg #[.int .i64 n1, .int .i64 z1, .int .u64 h1, .int .u64 o1, .int .i64 l1, .int .i64 g1]) (.agg #[.int .i64 n2, .int .i64 z2, .int .u64 h2, .int .u64 o2, .int .i64 l2, .int .i64 g2])).run Try.prog w = .ok (decide (n1 = n2 ∧ z1 = z2 ∧ h1 = h2 ∧ o1 = o2 ∧ l1 = l2 ∧ g1 = g2)) w := by
  by_cases c0 : n1 = n2
  · subst c0
    by_cases c1 : z1 = z2
    · subst c1
      by_cases c2 : h1 = h2
      · subst c2
        by_cases c3 : o1 = o2
        · subst c3
          by_cases c4 : l1 = l2
          · subst c4
            by_cases c5 : g1 = g2
            · subst c5
              rw [decide_eq_true ⟨rfl, rfl, rfl, rfl, rfl, rfl⟩]
              go_simp
            · rw [decide_eq_false (fun h => c5 (h.2.2.2.2.2))]
              have e5 : (g1 == g2) = false := beq_false_of_ne c5
              go_simp
          · rw [decide_eq_false (fun h => c4 (h.2.2.2.2.1))]
            have e4 : (l1 == l2) = false := beq_false_of_ne c4
            go_simp
        · rw [decide_eq_false (fun h => c3 (h.2.2.2.1))]
          have e3 : (o1 == o2) = false := beq_false_of_ne c3
          go_simp
      · rw [decide_eq_false (fun h => c2 (h.2.2.1))]
        have e2 : (h1 == h2) = false := beq_false_of_ne c2
        go_simp
    · rw [decide_eq_false (fun h => c1 (h.2.1))]
      have e1 : (z1 == z2) = false := beq_false_of_ne c1
      go_simp
  · rw [decide_eq_false (fun h => c0 (h.1))]
    have e0 : (n1 == n2) = false := beq_false_of_ne c0
    go_simp
def staEq (s t : Sta) : Prop := s.n = t.n ∧ s.sum = t.sum ∧ s.sq = t.sq ∧ s.lo = t.lo ∧ s.hi = t.hi
instance (s t : Sta) : Decidable (staEq s t) := by unfold staEq; infer_instance
theorem eqStaS (s t : Sta) (w : World) : (Op.equalIn 10000 27 (staV s) (staV t)).run Try.prog w = .ok (decide (staEq s t)) w := by
  unfold staV
  rw [eqSta6]
  congr 1
  refine decide_eq_decide.2 ⟨fun h => ⟨h.1, h.2.1, hi_lo_ext _ _ (by have := h.2.2.1; omega) (by have := h.2.2.2.1; omega), h.2.2.2.2.1, h.2.2.2.2.2⟩, fun h => ?_⟩
  obtain ⟨h1, h2, h3, h4, h5⟩ := h
  rw [h1, h2, h3, h4, h5]
  exact ⟨rfl, rfl, rfl, rfl, rfl, rfl⟩
theorem eqStaZ (s : Sta) (w : World) : (Op.equalIn 10000 27 (staV s) (.agg #[.int .i64 0, .int .i64 0, .int .u64 0, .int .u64 0, .int .i64 0, .int .i64 0])).run Try.prog w = .ok (decide (staZ s)) w := eqStaS s sta0 w
theorem Below.drewN {B : Nat} {a w : World} (h : Below B a w) (m : Nat) : Below B a (w.drewN m) := h.trans ⟨rfl, rfl, rfl, Nat.le_refl _, fun _ _ => rfl⟩
theorem staB_z {s : Sta} (h : staZ s) : staB s = true := decide_eq_true (.inl h)
theorem staB_of {s : Sta} (h : ¬ staZ s) : staB s = decide (staOk s) := by
  unfold staB
  exact decide_eq_decide.2 ⟨fun c => c.resolve_left h, .inr⟩
set_option linter.unusedSimpArgs false in
set_option maxHeartbeats 4000000 in
set_option maxRecDepth 100000 in
theorem rright11_any (s : Sta) (hs : IsInt s.sum) (hq : s.sq < M128) (w : World) :
    Calls Try.prog 11 #[staV s] w fun e w' => e = .returned (.bool (staB s)) ∧ Below w.heap.size w w' := by
  have heq := eqStaZ s
  obtain ⟨X, hX⟩ : ∃ X, staB s = X := ⟨_, rfl⟩
  rw [hX]
  have hB := (Below.refl w.heap.size w).alloc (Nat.le_refl _) (.cells #[.int .i64 s.n, .int .i64 s.sum, .int .u64 (hi s.sq : Nat), .int .u64 (lo s.sq : Nat), .int .i64 s.lo, .int .i64 s.hi] 27)
  by_cases hz : staZ s
  · rw [← hX, staB_z hz]
    rw [decide_eq_true hz] at heq
    unfold staV at heq ⊢
    clear hX hz
    go_enter Try.func11, Try.ntmps11
    go_wp2
    go_ret
    exact ⟨rfl, hB⟩
  · have hXE : X = decide (staOk s) := by rw [← hX, staB_of hz]
    rw [decide_eq_false hz] at heq
    have HXE := Lib.hid hXE
    have HNO := Lib.hid (fun (h : ¬ staOk s) => hXE.trans (decide_eq_false h))
    clear hX hz hXE
    obtain ⟨n, z, q, l, g⟩ := s
    unfold staV at heq ⊢
    dsimp only at heq hs hq hB ⊢
    by_cases h1 : 1 ≤ n
    · by_cases h2 : n ≤ 1000000000
      · by_cases h3 : l ≤ g
        · by_cases h4 : -1000000 ≤ l
          · by_cases h5 : g ≤ 1000000
            · obtain ⟨m, rfl⟩ : ∃ m : Nat, n = (m : Int) := ⟨n.toNat, by omega⟩
              have k1 := Int.mul_nonneg (show 0 ≤ (m : Int) by omega) (show 0 ≤ l + 1000000 by omega)
              have k2 := Int.mul_nonneg (show 0 ≤ (m : Int) by omega) (show 0 ≤ 1000000 - l by omega)
              have k3 := Int.mul_nonneg (show 0 ≤ (m : Int) by omega) (show 0 ≤ g + 1000000 by omega)
              have k4 := Int.mul_nonneg (show 0 ≤ (m : Int) by omega) (show 0 ≤ 1000000 - g by omega)
              rw [Int.mul_add] at k1 k3
              rw [Int.mul_sub] at k2 k4
              obtain ⟨P1, hP1⟩ : ∃ P, (m : Int) * l = P := ⟨_, rfl⟩
              obtain ⟨P2, hP2⟩ : ∃ P, (m : Int) * g = P := ⟨_, rfl⟩
              rw [hP1] at k1 k2
              rw [hP2] at k3 k4
              have hw1 : IntKind.i64.wrap ((m : Int) * l) = P1 := by rw [hP1, IntKind.wrap_i64]; omega
              have hw2 : IntKind.i64.wrap ((m : Int) * g) = P2 := by rw [hP2, IntKind.wrap_i64]; omega
              have hv1 : wrap64 ((m : Int) * l) = P1 := by rw [hP1]; unfold wrap64; omega
              have hv2 : wrap64 ((m : Int) * g) = P2 := by rw [hP2]; unfold wrap64; omega
              have hm1 : 1 ≤ m := by omega
              have hm2 : m ≤ 1000000000 := by omega
              have HOK := Lib.hid (show staOk ⟨(m : Int), z, q, l, g⟩ ↔ (P1 ≤ z ∧ z ≤ P2 ∧ (q : Int) ≤ (m : Int) * 1000000000000) ∧ z * z ≤ (m : Int) * (q : Int) by
                unfold staOk
                dsimp only
                rw [hP1, hP2]
                exact ⟨fun h => h.2, fun h => ⟨⟨by omega, by omega, h3, h4, h5⟩, h⟩⟩)
              have n1 : ((m : Int) < 1) = False := eq_false (by omega)
              have n2 : ((1000000000 : Int) < (m : Int)) = False := eq_false (by omega)
              have n3 : (g < l) = False := eq_false (by omega)
              have n4 : (l < -1000000) = False := eq_false (by omega)
              have n5 : ((1000000 : Int) < g) = False := eq_false (by omega)
              have hx := Has.new w [.int .i64 (m : Int), .int .i64 z, .int .u64 (hi q : Nat), .int .u64 (lo q : Nat), .int .i64 l, .int .i64 g] 27
              have HX := Lib.hid hx
              have HBB := Lib.hid hB
              clear k1 k2 k3 k4 hP1 hP2 h1 h2 hx
              by_cases ca : z < P1
              · have HE := Lib.hid (HNO.out (fun h => by have := (HOK.out.1 h).1.1; omega))
                have d1 : decide (z < P1) = true := decide_eq_true ca
                go_enter Try.func11, Try.ntmps11
                go_wp2
                go_quiet (fail)
                go_wp2
                go_ret
                exact ⟨by rw [HE.out]; rfl, Below.drewN hB _⟩
              · have d1 : decide (z < P1) = false := decide_eq_false ca
                by_cases cb : P2 < z
                · have HE := Lib.hid (HNO.out (fun h => by have := (HOK.out.1 h).1.2.1; omega))
                  have d2 : decide (P2 < z) = true := decide_eq_true cb
                  go_enter Try.func11, Try.ntmps11
                  go_wp2
                  go_quiet (fail)
                  go_wp2
                  go_ret
                  exact ⟨by rw [HE.out]; rfl, Below.drewN hB _⟩
                · have d2 : decide (P2 < z) = false := decide_eq_false cb
                  have mp := fun w => product_any (m : Int) 1000000000000 ⟨by omega, by omega⟩ ⟨by omega, by omega⟩ w
                  have hna : ((m : Int) * 1000000000000).natAbs = m * 1000000000000 := by omega
                  unfold zS at mp
                  rw [hna] at mp
                  generalize decide ((m : Int) * 1000000000000 < 0) = D at mp
                  obtain ⟨N, hN⟩ : ∃ N, m * 1000000000000 = N := ⟨_, rfl⟩
                  rw [hN] at mp
                  have hfm := fieldM D (hi N : Nat) (lo N : Nat)
                  have ml := fun w => rless_any N q w
                  have HNN := Lib.hid hN
                  clear hna hN
                  by_cases cc : N < q
                  · rw [show ltW N q = true from decide_eq_true cc] at ml
                    have HE := Lib.hid (HNO.out (fun h => by have := (HOK.out.1 h).1.2.2; have := HNN.out; omega))
                    clear cc
                    go_enter Try.func11, Try.ntmps11
                    go_upto_region 5 with fail
                    go_region_held3 (fun W => W.cell? ⟨w.heap.size, 0, none⟩ = some (.int .i64 (m : Int)) ∧ W.cell? ⟨w.heap.size, 1, none⟩ = some (.int .i64 z) ∧ W.cell? ⟨w.heap.size, 2, none⟩ = some (.int .u64 (hi q : Nat)) ∧ W.cell? ⟨w.heap.size, 3, none⟩ = some (.int .u64 (lo q : Nat)) ∧ W.cell? ⟨w.heap.size, 4, none⟩ = some (.int .i64 l) ∧ W.cell? ⟨w.heap.size, 5, none⟩ = some (.int .i64 g)) (first | exact ⟨y20, y21, y22, y23, y24, y25⟩ | exact ⟨y10, y11, y12, y13, y14, y15⟩ | simp [go_sem, *]) (first | (go_at_call 28; refine (mp _).mono ?_; rintro e wr1 ⟨rfl, kr1⟩; (have HBr1 := Lib.hid (show Below w.heap.size w wr1 by first | exact (HBB.out).trans (kr1.mono (by have := HBB.out.size; first | omega | (simp; omega) | simp)) | exact (Below.drew (HBB.out)).trans (kr1.mono (by have := HBB.out.size; first | omega | (simp; omega) | simp)) | exact (Below.drew (Below.drew (HBB.out))).trans (kr1.mono (by have := HBB.out.size; first | omega | (simp; omega) | simp)) | exact (Below.drew (Below.drew (Below.drew (HBB.out)))).trans (kr1.mono (by have := HBB.out.size; first | omega | (simp; omega) | simp)))); (have HXr1 := Lib.hid (show Has wr1 w.heap.size [.int .i64 (m : Int), .int .i64 z, .int .u64 (hi q : Nat), .int .u64 (lo q : Nat), .int .i64 l, .int .i64 g] 27 from HX.out.step kr1 rfl)); (have y10 : wr1.cell? ⟨w.heap.size, 0, none⟩ = some (.int .i64 (m : Int)) := HXr1.out.cell 0); (have y11 : wr1.cell? ⟨w.heap.size, 1, none⟩ = some (.int .i64 z) := HXr1.out.cell 1); (have y12 : wr1.cell? ⟨w.heap.size, 2, none⟩ = some (.int .u64 (hi q : Nat)) := HXr1.out.cell 2); (have y13 : wr1.cell? ⟨w.heap.size, 3, none⟩ = some (.int .u64 (lo q : Nat)) := HXr1.out.cell 3); (have y14 : wr1.cell? ⟨w.heap.size, 4, none⟩ = some (.int .i64 l) := HXr1.out.cell 4); (have y15 : wr1.cell? ⟨w.heap.size, 5, none⟩ = some (.int .i64 g) := HXr1.out.cell 5)) | (go_at_call 27; refine (ml _).mono ?_; rintro e wr2 ⟨rfl, kr2⟩; (have HBr2 := Lib.hid (show Below w.heap.size w wr2 by first | exact (HBr1.out).trans (kr2.mono (by have := HBr1.out.size; first | omega | (simp; omega) | simp)) | exact (Below.drew (HBr1.out)).trans (kr2.mono (by have := HBr1.out.size; first | omega | (simp; omega) | simp)) | exact (Below.drew (Below.drew (HBr1.out))).trans (kr2.mono (by have := HBr1.out.size; first | omega | (simp; omega) | simp)) | exact (Below.drew (Below.drew (Below.drew (HBr1.out)))).trans (kr2.mono (by have := HBr1.out.size; first | omega | (simp; omega) | simp)))); (have HXr2 := Lib.hid (show Has wr2 w.heap.size [.int .i64 (m : Int), .int .i64 z, .int .u64 (hi q : Nat), .int .u64 (lo q : Nat), .int .i64 l, .int .i64 g] 27 from HXr1.out.step kr2 rfl)); (have y20 : wr2.cell? ⟨w.heap.size, 0, none⟩ = some (.int .i64 (m : Int)) := HXr2.out.cell 0); (have y21 : wr2.cell? ⟨w.heap.size, 1, none⟩ = some (.int .i64 z) := HXr2.out.cell 1); (have y22 : wr2.cell? ⟨w.heap.size, 2, none⟩ = some (.int .u64 (hi q : Nat)) := HXr2.out.cell 2); (have y23 : wr2.cell? ⟨w.heap.size, 3, none⟩ = some (.int .u64 (lo q : Nat)) := HXr2.out.cell 3); (have y24 : wr2.cell? ⟨w.heap.size, 4, none⟩ = some (.int .i64 l) := HXr2.out.cell 4); (have y25 : wr2.cell? ⟨w.heap.size, 5, none⟩ = some (.int .i64 g) := HXr2.out.cell 5)))
                    go_wp2
                    go_ret
                    exact ⟨by rw [HE.out]; rfl, HBr2.out⟩
                  · rw [show ltW N q = false from decide_eq_false cc] at ml
                    have hq3 : (q : Int) ≤ (m : Int) * 1000000000000 := by have := HNN.out; omega
                    have hq4 : q ≤ 1000000000000000000000 := by omega
                    have hmq : m * q ≤ 1000000000 * 1000000000000000000000 := Nat.mul_le_mul hm2 hq4
                    have hmM : m * q < M128 := by unfold M128; omega
                    have mt := rtimes11_any m q (by omega) hq hmM
                    have ms := fun w => rsquare_any z hs w
                    have ml2 := fun w => rless_any (m * q) (z * z).toNat w
                    have hzz := sq_nonneg' z
                    have hcast : ((m * q : Nat) : Int) = (m : Int) * (q : Int) := Int.natCast_mul _ _
                    have hE : X = !(ltW (m * q) (z * z).toNat) := by
                      rw [HXE.out]
                      unfold ltW
                      rw [← decide_not]
                      refine decide_eq_decide.2 ⟨fun h => ?_, fun h => HOK.out.2 ⟨⟨by omega, by omega, hq3⟩, by omega⟩⟩
                      have := (HOK.out.1 h).2
                      omega
                    have HE := Lib.hid hE
                    generalize m * q = p at *
                    generalize (z * z).toNat = t at *
                    generalize ltW p t = Y at *
                    clear hE cc hzz hcast hmM hmq hq4 hq3
                    go_enter Try.func11, Try.ntmps11
                    go_upto_region 5 with fail
                    go_region_held3 (fun W => W.cell? ⟨w.heap.size, 0, none⟩ = some (.int .i64 (m : Int)) ∧ W.cell? ⟨w.heap.size, 1, none⟩ = some (.int .i64 z) ∧ W.cell? ⟨w.heap.size, 2, none⟩ = some (.int .u64 (hi q : Nat)) ∧ W.cell? ⟨w.heap.size, 3, none⟩ = some (.int .u64 (lo q : Nat)) ∧ W.cell? ⟨w.heap.size, 4, none⟩ = some (.int .i64 l) ∧ W.cell? ⟨w.heap.size, 5, none⟩ = some (.int .i64 g)) (first | exact ⟨y20, y21, y22, y23, y24, y25⟩ | exact ⟨y10, y11, y12, y13, y14, y15⟩ | simp [go_sem, *]) (first | (go_at_call 28; refine (mp _).mono ?_; rintro e wr1 ⟨rfl, kr1⟩; (have HBr1 := Lib.hid (show Below w.heap.size w wr1 by first | exact (HBB.out).trans (kr1.mono (by have := HBB.out.size; first | omega | (simp; omega) | simp)) | exact (Below.drew (HBB.out)).trans (kr1.mono (by have := HBB.out.size; first | omega | (simp; omega) | simp)) | exact (Below.drew (Below.drew (HBB.out))).trans (kr1.mono (by have := HBB.out.size; first | omega | (simp; omega) | simp)) | exact (Below.drew (Below.drew (Below.drew (HBB.out)))).trans (kr1.mono (by have := HBB.out.size; first | omega | (simp; omega) | simp)))); (have HXr1 := Lib.hid (show Has wr1 w.heap.size [.int .i64 (m : Int), .int .i64 z, .int .u64 (hi q : Nat), .int .u64 (lo q : Nat), .int .i64 l, .int .i64 g] 27 from HX.out.step kr1 rfl)); (have y10 : wr1.cell? ⟨w.heap.size, 0, none⟩ = some (.int .i64 (m : Int)) := HXr1.out.cell 0); (have y11 : wr1.cell? ⟨w.heap.size, 1, none⟩ = some (.int .i64 z) := HXr1.out.cell 1); (have y12 : wr1.cell? ⟨w.heap.size, 2, none⟩ = some (.int .u64 (hi q : Nat)) := HXr1.out.cell 2); (have y13 : wr1.cell? ⟨w.heap.size, 3, none⟩ = some (.int .u64 (lo q : Nat)) := HXr1.out.cell 3); (have y14 : wr1.cell? ⟨w.heap.size, 4, none⟩ = some (.int .i64 l) := HXr1.out.cell 4); (have y15 : wr1.cell? ⟨w.heap.size, 5, none⟩ = some (.int .i64 g) := HXr1.out.cell 5)) | (go_at_call 27; refine (ml _).mono ?_; rintro e wr2 ⟨rfl, kr2⟩; (have HBr2 := Lib.hid (show Below w.heap.size w wr2 by first | exact (HBr1.out).trans (kr2.mono (by have := HBr1.out.size; first | omega | (simp; omega) | simp)) | exact (Below.drew (HBr1.out)).trans (kr2.mono (by have := HBr1.out.size; first | omega | (simp; omega) | simp)) | exact (Below.drew (Below.drew (HBr1.out))).trans (kr2.mono (by have := HBr1.out.size; first | omega | (simp; omega) | simp)) | exact (Below.drew (Below.drew (Below.drew (HBr1.out)))).trans (kr2.mono (by have := HBr1.out.size; first | omega | (simp; omega) | simp)))); (have HXr2 := Lib.hid (show Has wr2 w.heap.size [.int .i64 (m : Int), .int .i64 z, .int .u64 (hi q : Nat), .int .u64 (lo q : Nat), .int .i64 l, .int .i64 g] 27 from HXr1.out.step kr2 rfl)); (have y20 : wr2.cell? ⟨w.heap.size, 0, none⟩ = some (.int .i64 (m : Int)) := HXr2.out.cell 0); (have y21 : wr2.cell? ⟨w.heap.size, 1, none⟩ = some (.int .i64 z) := HXr2.out.cell 1); (have y22 : wr2.cell? ⟨w.heap.size, 2, none⟩ = some (.int .u64 (hi q : Nat)) := HXr2.out.cell 2); (have y23 : wr2.cell? ⟨w.heap.size, 3, none⟩ = some (.int .u64 (lo q : Nat)) := HXr2.out.cell 3); (have y24 : wr2.cell? ⟨w.heap.size, 4, none⟩ = some (.int .i64 l) := HXr2.out.cell 4); (have y25 : wr2.cell? ⟨w.heap.size, 5, none⟩ = some (.int .i64 g) := HXr2.out.cell 5)))
                    go_upto_region 7 with fail
                    go_region_held3 (fun W => W.cell? ⟨w.heap.size, 0, none⟩ = some (.int .i64 (m : Int)) ∧ W.cell? ⟨w.heap.size, 1, none⟩ = some (.int .i64 z) ∧ W.cell? ⟨w.heap.size, 2, none⟩ = some (.int .u64 (hi q : Nat)) ∧ W.cell? ⟨w.heap.size, 3, none⟩ = some (.int .u64 (lo q : Nat)) ∧ W.cell? ⟨w.heap.size, 4, none⟩ = some (.int .i64 l) ∧ W.cell? ⟨w.heap.size, 5, none⟩ = some (.int .i64 g)) (first | exact ⟨y50, y51, y52, y53, y54, y55⟩ | exact ⟨y40, y41, y42, y43, y44, y45⟩ | exact ⟨y30, y31, y32, y33, y34, y35⟩ | exact ⟨y20, y21, y22, y23, y24, y25⟩ | simp [go_sem, *]) (first | (go_at_call 29; refine (mt _).mono ?_; rintro e wr3 ⟨rfl, kr3⟩; (have HBr3 := Lib.hid (show Below w.heap.size w wr3 by first | exact (HBr2.out).trans (kr3.mono (by have := HBr2.out.size; first | omega | (simp; omega) | simp)) | exact (Below.drew (HBr2.out)).trans (kr3.mono (by have := HBr2.out.size; first | omega | (simp; omega) | simp)) | exact (Below.drew (Below.drew (HBr2.out))).trans (kr3.mono (by have := HBr2.out.size; first | omega | (simp; omega) | simp)) | exact (Below.drew (Below.drew (Below.drew (HBr2.out)))).trans (kr3.mono (by have := HBr2.out.size; first | omega | (simp; omega) | simp)))); (have HXr3 := Lib.hid (show Has wr3 w.heap.size [.int .i64 (m : Int), .int .i64 z, .int .u64 (hi q : Nat), .int .u64 (lo q : Nat), .int .i64 l, .int .i64 g] 27 from HXr2.out.step kr3 rfl)); (have y30 : wr3.cell? ⟨w.heap.size, 0, none⟩ = some (.int .i64 (m : Int)) := HXr3.out.cell 0); (have y31 : wr3.cell? ⟨w.heap.size, 1, none⟩ = some (.int .i64 z) := HXr3.out.cell 1); (have y32 : wr3.cell? ⟨w.heap.size, 2, none⟩ = some (.int .u64 (hi q : Nat)) := HXr3.out.cell 2); (have y33 : wr3.cell? ⟨w.heap.size, 3, none⟩ = some (.int .u64 (lo q : Nat)) := HXr3.out.cell 3); (have y34 : wr3.cell? ⟨w.heap.size, 4, none⟩ = some (.int .i64 l) := HXr3.out.cell 4); (have y35 : wr3.cell? ⟨w.heap.size, 5, none⟩ = some (.int .i64 g) := HXr3.out.cell 5)) | (go_at_call 30; refine (ms _).mono ?_; rintro e wr4 ⟨rfl, kr4⟩; (have HBr4 := Lib.hid (show Below w.heap.size w wr4 by first | exact (HBr3.out).trans (kr4.mono (by have := HBr3.out.size; first | omega | (simp; omega) | simp)) | exact (Below.drew (HBr3.out)).trans (kr4.mono (by have := HBr3.out.size; first | omega | (simp; omega) | simp)) | exact (Below.drew (Below.drew (HBr3.out))).trans (kr4.mono (by have := HBr3.out.size; first | omega | (simp; omega) | simp)) | exact (Below.drew (Below.drew (Below.drew (HBr3.out)))).trans (kr4.mono (by have := HBr3.out.size; first | omega | (simp; omega) | simp)))); (have HXr4 := Lib.hid (show Has wr4 w.heap.size [.int .i64 (m : Int), .int .i64 z, .int .u64 (hi q : Nat), .int .u64 (lo q : Nat), .int .i64 l, .int .i64 g] 27 from HXr3.out.step kr4 rfl)); (have y40 : wr4.cell? ⟨w.heap.size, 0, none⟩ = some (.int .i64 (m : Int)) := HXr4.out.cell 0); (have y41 : wr4.cell? ⟨w.heap.size, 1, none⟩ = some (.int .i64 z) := HXr4.out.cell 1); (have y42 : wr4.cell? ⟨w.heap.size, 2, none⟩ = some (.int .u64 (hi q : Nat)) := HXr4.out.cell 2); (have y43 : wr4.cell? ⟨w.heap.size, 3, none⟩ = some (.int .u64 (lo q : Nat)) := HXr4.out.cell 3); (have y44 : wr4.cell? ⟨w.heap.size, 4, none⟩ = some (.int .i64 l) := HXr4.out.cell 4); (have y45 : wr4.cell? ⟨w.heap.size, 5, none⟩ = some (.int .i64 g) := HXr4.out.cell 5)) | (go_at_call 27; refine (ml2 _).mono ?_; rintro e wr5 ⟨rfl, kr5⟩; (have HBr5 := Lib.hid (show Below w.heap.size w wr5 by first | exact (HBr4.out).trans (kr5.mono (by have := HBr4.out.size; first | omega | (simp; omega) | simp)) | exact (Below.drew (HBr4.out)).trans (kr5.mono (by have := HBr4.out.size; first | omega | (simp; omega) | simp)) | exact (Below.drew (Below.drew (HBr4.out))).trans (kr5.mono (by have := HBr4.out.size; first | omega | (simp; omega) | simp)) | exact (Below.drew (Below.drew (Below.drew (HBr4.out)))).trans (kr5.mono (by have := HBr4.out.size; first | omega | (simp; omega) | simp)))); (have HXr5 := Lib.hid (show Has wr5 w.heap.size [.int .i64 (m : Int), .int .i64 z, .int .u64 (hi q : Nat), .int .u64 (lo q : Nat), .int .i64 l, .int .i64 g] 27 from HXr4.out.step kr5 rfl)); (have y50 : wr5.cell? ⟨w.heap.size, 0, none⟩ = some (.int .i64 (m : Int)) := HXr5.out.cell 0); (have y51 : wr5.cell? ⟨w.heap.size, 1, none⟩ = some (.int .i64 z) := HXr5.out.cell 1); (have y52 : wr5.cell? ⟨w.heap.size, 2, none⟩ = some (.int .u64 (hi q : Nat)) := HXr5.out.cell 2); (have y53 : wr5.cell? ⟨w.heap.size, 3, none⟩ = some (.int .u64 (lo q : Nat)) := HXr5.out.cell 3); (have y54 : wr5.cell? ⟨w.heap.size, 4, none⟩ = some (.int .i64 l) := HXr5.out.cell 4); (have y55 : wr5.cell? ⟨w.heap.size, 5, none⟩ = some (.int .i64 g) := HXr5.out.cell 5)))
                    go_wp2
                    go_ret
                    exact ⟨by rw [HE.out]; rfl, HBr5.out⟩
            · have HE := Lib.hid (HNO.out (fun h => by have := h.1; dsimp only at this; omega))
              go_enter Try.func11, Try.ntmps11
              go_wp2
              go_ret
              exact ⟨by rw [HE.out]; rfl, hB⟩
          · have HE := Lib.hid (HNO.out (fun h => by have := h.1; dsimp only at this; omega))
            go_enter Try.func11, Try.ntmps11
            go_wp2
            go_ret
            exact ⟨by rw [HE.out]; rfl, hB⟩
        · have HE := Lib.hid (HNO.out (fun h => by have := h.1; dsimp only at this; omega))
          go_enter Try.func11, Try.ntmps11
          go_wp2
          go_ret
          exact ⟨by rw [HE.out]; rfl, hB⟩
      · have HE := Lib.hid (HNO.out (fun h => by have := h.1; dsimp only at this; omega))
        go_enter Try.func11, Try.ntmps11
        go_wp2
        go_ret
        exact ⟨by rw [HE.out]; rfl, hB⟩
    · have HE := Lib.hid (HNO.out (fun h => by have := h.1; dsimp only at this; omega))
      go_enter Try.func11, Try.ntmps11
      go_wp2
      go_ret
      exact ⟨by rw [HE.out]; rfl, hB⟩
end Go.Proofs.Ytbpdapggdccmiaa
