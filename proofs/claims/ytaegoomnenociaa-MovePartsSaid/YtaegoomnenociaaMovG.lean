/- move.Run, whatever it is asked; move.Next; datumlaw12.alive. -/
import Derived.Test.YtaegoomnenociaaMovF
namespace Go.Proofs.Ytaegoomnenociaa
open Go.RowKit

theorem first_bad : ∀ l : List Int, inB l = false → ∃ j, j < l.length ∧ goodI (l.getD j 0) = false ∧ ∀ i, i < j → goodI (l.getD i 0) = true
  | [], h => by cases h
  | x :: r, h => by
    cases hx : goodI x with
    | false => exact ⟨0, Nat.succ_pos _, hx, fun i hi => absurd hi (Nat.not_lt_zero _)⟩
    | true =>
      have hr : inB r = false := by
        have e : inB (x :: r) = (goodI x && inB r) := rfl
        rw [e, hx, Bool.true_and] at h
        exact h
      obtain ⟨j, h1, h2, h3⟩ := first_bad r hr
      refine ⟨j + 1, Nat.succ_lt_succ h1, h2, fun i hi => ?_⟩
      cases i with
      | zero => exact hx
      | succ i => exact h3 i (Nat.lt_of_succ_lt_succ hi)
theorem inB_all {l : List Int} (h : inB l = true) : ∀ i, i < l.length → goodI (l.getD i 0) = true := fun _ hi => decide_eq_true (inB_get h hi)
theorem run12_any (m : Mov) (l : List Int) (v : Value) (w : World) (hr : ReadsI w v l) (hlen : l.length ≤ 1000) :
    Calls Try.prog 7 #[movV m, v] w fun e w' => ∃ v', e = .returned (.tuple #[movV (raM m l), v', .int .i64 (raE m l)]) ∧ IRow w.heap.size v' (raL m l) w' ∧ Below w.heap.size w w' := by
  cases hm : movB m with
  | false =>
    have h1 : raE m l = 1 := if_neg (of_decide_eq_false hm)
    unfold raM raL
    rw [h1, if_neg (by decide), if_neg (by decide)]
    exact run12_arg m l v w hm hr
  | true =>
    have hmo : movOk m := of_decide_eq_true hm
    cases hi : inB l with
    | false =>
      have h1 : raE m l = 3 := by unfold raE; rw [if_pos hmo, if_neg (by rw [hi]; decide)]
      unfold raM raL
      rw [h1, if_neg (by decide), if_neg (by decide)]
      obtain ⟨j, h2, h3, h4⟩ := first_bad l hi
      exact run12_range m l v w hm hr j h2 h4 h3
    | true =>
      by_cases hf : m.n + (l.length : Int) ≤ 1000000000
      · have h1 : raE m l = 0 := raE_zero.2 ⟨hmo, hi, hf⟩
        unfold raM raL
        rw [h1, if_pos rfl, if_pos rfl]
        exact run12_ok m l v w hm hr (inB_all hi) hf hlen
      · have h1 : raE m l = 11 := by unfold raE; rw [if_pos hmo, if_pos hi, if_neg hf]
        unfold raM raL
        rw [h1, if_neg (by decide), if_neg (by decide)]
        exact run12_full m l v w hm hr (inB_all hi) hf
/-- What Next answers besides: the step. -/
def naS (m : Mov) (x : Int) : Int := if raE m [x] = 0 then sumI (stepsM m [x]) else 0
set_option linter.unusedSimpArgs false in
set_option linter.unusedVariables false in
set_option maxHeartbeats 4000000 in
set_option maxRecDepth 100000 in
theorem next12_any (m : Mov) (x : Int) (w : World) :
    Calls Try.prog 6 #[movV m, .int .i64 x] w fun e w' => e = .returned (.tuple #[movV (raM m [x]), .int .i64 (naS m x), .int .i64 (raE m [x])]) ∧ Below w.heap.size w w' := by
  obtain ⟨N, L, S⟩ := m
  have hsub : raE ⟨N, L, S⟩ [x] = 0 → wrap64 ((raM ⟨N, L, S⟩ [x]).sum - S) = naS ⟨N, L, S⟩ x := fun h0 => by
    have hok := raE_zero.1 h0
    have hb := sumI_bounds (stepsM_bounds hok.1 hok.2.1)
    have hl := stepsM_len ⟨N, L, S⟩ [x]
    have hl2 : (stepsM ⟨N, L, S⟩ [x]).length ≤ 1 := by rw [hl]; split <;> simp
    unfold raM naS
    rw [if_pos h0, if_pos h0, runM_sum]
    dsimp only
    rw [show S + sumI (stepsM ⟨N, L, S⟩ [x]) - S = sumI (stepsM ⟨N, L, S⟩ [x]) by omega]
    unfold wrap64
    omega
  have hzero : raE ⟨N, L, S⟩ [x] ≠ 0 → raM ⟨N, L, S⟩ [x] = mov0 ∧ naS ⟨N, L, S⟩ x = 0 := fun h => ⟨if_neg h, if_neg h⟩
  obtain ⟨w2, hw2⟩ : ∃ w2, (w.alloc (.cells #[.int .i64 N, .int .i64 L, .int .i64 S] 23)).alloc (.cells #[.int .i64 0, .int .i64 0, .int .i64 0] 23) = w2 := ⟨_, rfl⟩
  have HB2 := Lib.hid (show Below w.heap.size w w2 by rw [← hw2]; exact ((Below.refl _ _).alloc (Nat.le_refl _) _).alloc (by simp) _)
  have HA2 := Lib.hid (show Has w2 w.heap.size [.int .i64 N, .int .i64 L, .int .i64 S] 23 by rw [← hw2]; exact (Has.new w _ _).alloc _)
  have HZ2 := Lib.hid (show Has w2 (w.heap.size + 1) [.int .i64 0, .int .i64 0, .int .i64 0] 23 by
    have := Has.new (w.alloc (.cells #[.int .i64 N, .int .i64 L, .int .i64 S] 23)) [.int .i64 0, .int .i64 0, .int .i64 0] 23
    rw [show (w.alloc (.cells #[.int .i64 N, .int .i64 L, .int .i64 S] 23)).heap.size = w.heap.size + 1 by simp] at this
    rw [← hw2]; exact this)
  have HW2 := Lib.hid hw2
  obtain ⟨w3, hw3⟩ : ∃ w3, w2.alloc (.cells #[.int .i64 x] 3) = w3 := ⟨_, rfl⟩
  have k3 : Below w2.heap.size w2 w3 := by rw [← hw3]; exact (Below.refl _ _).alloc (Nat.le_refl _) _
  have HB3 := Lib.hid (HB2.out.trans (k3.mono HB2.out.size))
  have HA3 := Lib.hid (HA2.out.call k3)
  have HZ3 := Lib.hid (HZ2.out.call k3)
  have hrun := run12_any ⟨N, L, S⟩ [x] (.slice (some ⟨w2.heap.size, 0, none⟩) 1 1) w3 (by rw [← hw3]; exact ReadsI.one w2 x) (by show 1 ≤ 1000; omega)
  have HW3 := Lib.hid hw3
  obtain ⟨⟨A, B, C⟩, hM⟩ : ∃ M, raM ⟨N, L, S⟩ [x] = M := ⟨_, rfl⟩
  obtain ⟨E, hE⟩ : ∃ E, raE ⟨N, L, S⟩ [x] = E := ⟨_, rfl⟩
  obtain ⟨D, hD⟩ : ∃ D, naS ⟨N, L, S⟩ x = D := ⟨_, rfl⟩
  rw [hM, hE] at hrun
  rw [hM, hE, hD] at hsub hzero
  rw [hM, hE, hD]
  unfold movV at hrun ⊢
  dsimp only at hrun hsub ⊢
  have HRUN := Lib.hid hrun
  have HSUB := Lib.hid hsub
  have HZERO := Lib.hid hzero
  clear hw2 hw3 k3 hrun hsub hzero hM hE hD
  go_enter Try.func6, Try.ntmps6
  go_upto_region 1 with fail
  rw [HW2.out]
  have a0 : w2.cell? ⟨w.heap.size, 0, none⟩ = some (.int .i64 N) := HA2.out.cell 0
  have a1 : w2.cell? ⟨w.heap.size, 1, none⟩ = some (.int .i64 L) := HA2.out.cell 1
  have a2 : w2.cell? ⟨w.heap.size, 2, none⟩ = some (.int .i64 S) := HA2.out.cell 2
  have al := HA2.out.lt
  go_wp2_with fail
  rw [HW3.out]
  refine HRUN.out.mono ?_
  rintro e w4 ⟨v', rfl, hrow, k4⟩
  obtain ⟨aos, cps, rfl, -⟩ := hrow.reads
  clear hrow a0 a1 a2 al
  have HB4 := Lib.hid (HB3.out.trans (k4.mono HB3.out.size))
  have HA4 := Lib.hid (HA3.out.call k4)
  have HZ4 := Lib.hid (HZ3.out.call k4)
  obtain ⟨w5, hw5⟩ : ∃ w5, w4.alloc (.cells #[.int .i64 A, .int .i64 B, .int .i64 C] 23) = w5 := ⟨_, rfl⟩
  have k5 : Below w4.heap.size w4 w5 := by rw [← hw5]; exact (Below.refl _ _).alloc (Nat.le_refl _) _
  have HN5 := Lib.hid (show Has w5 w4.heap.size [.int .i64 A, .int .i64 B, .int .i64 C] 23 by rw [← hw5]; exact Has.new w4 _ _)
  have HB5 := Lib.hid (HB4.out.trans (k5.mono HB4.out.size))
  have HA5 := Lib.hid (HA4.out.call k5)
  have HZ5 := Lib.hid (HZ4.out.call k5)
  have HW5 := Lib.hid hw5
  clear k4 k5 hw5
  go_upto_region 2 with fail
  rw [HW5.out]
  have z0 : w5.cell? ⟨w.heap.size + 1, 0, none⟩ = some (.int .i64 0) := HZ5.out.cell 0
  have z1 : w5.cell? ⟨w.heap.size + 1, 1, none⟩ = some (.int .i64 0) := HZ5.out.cell 1
  have z2 : w5.cell? ⟨w.heap.size + 1, 2, none⟩ = some (.int .i64 0) := HZ5.out.cell 2
  have f0 : w5.frozen? ⟨w.heap.size + 1, 0, none⟩ = false := HZ5.out.frozen 0
  have f1 : w5.frozen? ⟨w.heap.size + 1, 1, none⟩ = false := HZ5.out.frozen 1
  have f2 : w5.frozen? ⟨w.heap.size + 1, 2, none⟩ = false := HZ5.out.frozen 2
  have zl := HZ5.out.lt
  by_cases hE0 : E = 0
  · have hD := HSUB.out hE0
    subst hE0
    clear HSUB HZERO
    have n0 : w5.cell? ⟨w4.heap.size, 0, none⟩ = some (.int .i64 A) := HN5.out.cell 0
    have n1 : w5.cell? ⟨w4.heap.size, 1, none⟩ = some (.int .i64 B) := HN5.out.cell 1
    have n2 : w5.cell? ⟨w4.heap.size, 2, none⟩ = some (.int .i64 C) := HN5.out.cell 2
    have nl := HN5.out.lt
    have a2 : w5.cell? ⟨w.heap.size, 2, none⟩ = some (.int .i64 S) := HA5.out.cell 2
    have al := HA5.out.lt
    have HE := Lib.hid (HZ5.out.put3 (.int .i64 A) (.int .i64 B) (.int .i64 C))
    have HBE := Lib.hid (Below.put3 (b := w.heap.size + 1) HB5.out (by omega) (.int .i64 A) (.int .i64 B) (.int .i64 C))
    have hlt4 := HZ4.out.lt
    have ne1 : w.heap.size + 1 ≠ w4.heap.size := by omega
    have ne2 : w4.heap.size ≠ w.heap.size + 1 := by omega
    go_upto_region 4 with fail
    go_region
    all_goals go_wp2
    all_goals (try simp only [Exit.inBlock, Exit.then])
    all_goals exact bodyPost_ret (res_cell2 Try.results6 rfl (loadM (HE.out.of rfl))) rfl ⟨by first | rfl | (rw [hD]; rfl), HBE.out.drew⟩
  · obtain ⟨h1, rfl⟩ := HZERO.out hE0
    injection h1 with h1 h2 h3
    subst h1 h2 h3
    have g0 : (E == 0) = false := beq_false_of_ne hE0
    have HE := Lib.hid (HZ5.out.put3 (.int .i64 0) (.int .i64 0) (.int .i64 0))
    have HBE := Lib.hid (Below.put3 (b := w.heap.size + 1) HB5.out (by omega) (.int .i64 0) (.int .i64 0) (.int .i64 0))
    clear HSUB HZERO
    go_wp2
    (try simp only [Exit.inBlock, Exit.then])
    exact bodyPost_ret (res_cell2 Try.results6 rfl (loadM HE.out)) rfl ⟨rfl, HBE.out⟩
theorem alive_run : raM mov0 [1, 4, -2] = ⟨3, -2, 9⟩ ∧ raL mov0 [1, 4, -2] = [3, 6] ∧ raE mov0 [1, 4, -2] = 0 := ⟨by kernel_rfl, by kernel_rfl, by kernel_rfl⟩
set_option maxHeartbeats 2000000 in
set_option maxRecDepth 100000 in
theorem alive12_any (w : World) : Calls Try.prog 10 #[] w fun e w' => e = .returned (.bool true) ∧ Below w.heap.size w w' := by
  obtain ⟨w1, hw1⟩ : ∃ w1, w.alloc (.cells #[.int .i64 1, .int .i64 4, .int .i64 (-2)] 3) = w1 := ⟨_, rfl⟩
  have hb1 : Below w.heap.size w w1 := by rw [← hw1]; exact (Below.refl _ _).alloc (Nat.le_refl _) _
  have hh1 : Has w1 w.heap.size [.int .i64 1, .int .i64 4, .int .i64 (-2)] 3 := by rw [← hw1]; exact Has.new _ _ _
  have hf := run12_any mov0 [1, 4, -2] (.slice (some ⟨w.heap.size, 0, none⟩) 3 3) w1 (hh1.readsI (cap := 3) rfl rfl (Nat.le_refl _) (by omega) rfl) (by decide)
  rw [alive_run.1, alive_run.2.1, alive_run.2.2] at hf
  have HB1 := Lib.hid hb1
  have HW1 := Lib.hid hw1
  unfold movV mov0 at hf
  dsimp only at hf
  clear hb1 hh1 hw1
  go_enter Try.func10, Try.ntmps10
  go_wp2_with fail
  rw [HW1.out]
  refine hf.mono ?_
  rintro e w2 ⟨v', rfl, hrow, k2⟩
  have HB2 := HB1.out.trans (k2.mono HB1.out.size)
  obtain ⟨w3, hw3⟩ : ∃ w3, w2.alloc (.cells #[.int .i64 3, .int .i64 (-2), .int .i64 9] 23) = w3 := ⟨_, rfl⟩
  have k3 : Below w2.heap.size w2 w3 := by rw [← hw3]; exact (Below.refl _ _).alloc (Nat.le_refl _) _
  have HB3 := Lib.hid (show Below w.heap.size w w3 by rw [← hw3]; exact HB2.alloc HB2.size _)
  have HX3 := Lib.hid (show Has w3 w2.heap.size [.int .i64 3, .int .i64 (-2), .int .i64 9] 23 by rw [← hw3]; exact Has.new _ _ _)
  have HW3 := Lib.hid hw3
  obtain ⟨ao, cap, rfl, -, -, hc⟩ := hrow.reads.below k3
  obtain ⟨b, off, rfl, hlt, hcx⟩ := hc 1 (by decide)
  have hcx : w3.cell? ⟨b, off + 1, none⟩ = some (.int .i64 6) := hcx
  clear hw3 k2 k3 hf HB2 hrow hc
  go_upto_region 2 with fail
  rw [HW3.out]
  have xc0 : w3.cell? ⟨w2.heap.size, 0, none⟩ = some (.int .i64 3) := HX3.out.cell 0
  have xc1 : w3.cell? ⟨w2.heap.size, 1, none⟩ = some (.int .i64 (-2)) := HX3.out.cell 1
  have xc2 : w3.cell? ⟨w2.heap.size, 2, none⟩ = some (.int .i64 9) := HX3.out.cell 2
  have xl := HX3.out.lt
  go_wp2
  go_ret
  exact ⟨rfl, HB3.out⟩
end Go.Proofs.Ytaegoomnenociaa
