/- Tallies as values; the reference of stage 16. -/
import Derived.Test.YtgmifimpeefpcaaTalN
import Derived.Test.YtgmifimpeefpcaaPut5
import Derived.BigRegion
import Derived.BigQuiet
import Derived.Deep.QuietTactic
namespace Go.Proofs.Ytgmifimpeefpcaa
open Go.RowKit

abbrev talV (t : Tal) : Value := .agg #[.int .i64 t.kind, .int .i64 t.size, .int .i64 t.m, .int .i64 t.sum]
theorem sizeTal : ((Try.prog).info? 23).map (·.size) = some 4 := by kernel_rfl
theorem loadTal {w : World} {b : Nat} {c0 c1 c2 c3 : Value} (h : Has w b [c0, c1, c2, c3] 23) : (loadVar 23 ⟨b, 0, none⟩).run Try.prog w = .ok (.agg #[c0, c1, c2, c3]) w :=
  run_loadVar_mid w b 0 23 [c0, c1, c2, c3] _ h.range Try.underlying23 rfl sizeTal
theorem Has.put4B {w : World} {b : Nat} {a0 a1 a2 a3 : Value} {T : TypeId} (h : Has w b [a0, a1, a2, a3] T) (c0 c1 c2 c3 : Value) : Has ((((w.setCell ⟨b, 0, none⟩ c0).setCell ⟨b, 1, none⟩ c1).setCell ⟨b, 2, none⟩ c2).setCell ⟨b, 3, none⟩ c3) b [c0, c1, c2, c3] T :=
  (((h.set 0 c0).set 1 c1).set 2 c2).set 3 c3
theorem Below.put4B {B b : Nat} {x y : World} (h : Below B x y) (hb : B ≤ b) (c0 c1 c2 c3 : Value) : Below B x ((((y.setCell ⟨b, 0, none⟩ c0).setCell ⟨b, 1, none⟩ c1).setCell ⟨b, 2, none⟩ c2).setCell ⟨b, 3, none⟩ c3) :=
  (((h.setCell (p := ⟨b, 0, none⟩) hb c0).setCell (p := ⟨b, 1, none⟩) hb c1).setCell (p := ⟨b, 2, none⟩) hb c2).setCell (p := ⟨b, 3, none⟩) hb c3
theorem below16 {f : FuncId} {args : Array Value} {v : Value} {W : World} (h : Calls Try.prog f args W fun e w' => e = .returned v ∧ w' = W) : Calls Try.prog f args W fun e w' => e = .returned v ∧ Below W.heap.size W w' :=
  h.mono fun _ _ ⟨h1, h2⟩ => ⟨h1, h2 ▸ Below.refl _ _⟩
set_option linter.unusedSimpArgs false in
set_option linter.unusedVariables false in
set_option maxHeartbeats 8000000 in
set_option maxRecDepth 100000 in
theorem most16_0 (kind size m sum : Int) (h : kind ≤ 3) (w : World) : Calls Try.prog 23 #[.agg #[.int .i64 kind, .int .i64 size, .int .i64 m, .int .i64 sum]] w fun e w' => e = .returned (.int .i64 size) ∧ Below w.heap.size w w' := by
  obtain ⟨w2, hw2⟩ : ∃ w2, w.alloc (.cells #[.int .i64 kind, .int .i64 size, .int .i64 m, .int .i64 sum] 23) = w2 := ⟨_, rfl⟩
  have HB2 := Lib.hid (show Below w.heap.size w w2 by rw [← hw2]; exact (Below.refl _ _).alloc (Nat.le_refl _) _)
  have HV2 := Lib.hid (show Has w2 w.heap.size [.int .i64 kind, .int .i64 size, .int .i64 m, .int .i64 sum] 23 by rw [← hw2]; exact Has.new w _ _)
  have HW2 := Lib.hid hw2
  clear hw2
  have hbase := Nat.le_refl w.heap.size
  go_enter Try.func23, Try.ntmps23
  go_upto_region 1 with fail
  rw [HW2.out]
  have qb0_0 : w2.cell? ⟨w.heap.size, 0, none⟩ = some (.int .i64 kind) := HV2.out.cell 0
  have qb1_0 : w2.cell? ⟨w.heap.size, 1, none⟩ = some (.int .i64 size) := HV2.out.cell 1
  have qb2_0 : w2.cell? ⟨w.heap.size, 2, none⟩ = some (.int .i64 m) := HV2.out.cell 2
  have qb3_0 : w2.cell? ⟨w.heap.size, 3, none⟩ = some (.int .i64 sum) := HV2.out.cell 3
  have lb_0 : w.heap.size < w2.heap.size := HV2.out.lt
  go_wp2
  go_ret
  exact ⟨rfl, HB2.out⟩
set_option linter.unusedSimpArgs false in
set_option linter.unusedVariables false in
set_option maxHeartbeats 8000000 in
set_option maxRecDepth 100000 in
theorem most16_1 (kind size m sum : Int) (h : ¬ kind ≤ 3) (w : World) : Calls Try.prog 23 #[.agg #[.int .i64 kind, .int .i64 size, .int .i64 m, .int .i64 sum]] w fun e w' => e = .returned (.int .i64 1000000) ∧ Below w.heap.size w w' := by
  obtain ⟨w2, hw2⟩ : ∃ w2, w.alloc (.cells #[.int .i64 kind, .int .i64 size, .int .i64 m, .int .i64 sum] 23) = w2 := ⟨_, rfl⟩
  have HB2 := Lib.hid (show Below w.heap.size w w2 by rw [← hw2]; exact (Below.refl _ _).alloc (Nat.le_refl _) _)
  have HV2 := Lib.hid (show Has w2 w.heap.size [.int .i64 kind, .int .i64 size, .int .i64 m, .int .i64 sum] 23 by rw [← hw2]; exact Has.new w _ _)
  have HW2 := Lib.hid hw2
  clear hw2
  have hbase := Nat.le_refl w.heap.size
  go_enter Try.func23, Try.ntmps23
  go_upto_region 1 with fail
  rw [HW2.out]
  have qb0_0 : w2.cell? ⟨w.heap.size, 0, none⟩ = some (.int .i64 kind) := HV2.out.cell 0
  have qb1_0 : w2.cell? ⟨w.heap.size, 1, none⟩ = some (.int .i64 size) := HV2.out.cell 1
  have qb2_0 : w2.cell? ⟨w.heap.size, 2, none⟩ = some (.int .i64 m) := HV2.out.cell 2
  have qb3_0 : w2.cell? ⟨w.heap.size, 3, none⟩ = some (.int .i64 sum) := HV2.out.cell 3
  have lb_0 : w.heap.size < w2.heap.size := HV2.out.lt
  go_wp2
  go_ret
  exact ⟨rfl, HB2.out⟩
theorem most16_any (t : Tal) (w : World) : Calls Try.prog 23 #[talV t] w fun e w' => e = .returned (.int .i64 (mostT t)) ∧ Below w.heap.size w w' := by
  unfold mostT
  by_cases h : t.kind ≤ 3
  · rw [if_pos h]; exact most16_0 _ _ _ _ h w
  · rw [if_neg h]; exact most16_1 _ _ _ _ h w
set_option linter.unusedSimpArgs false in
set_option linter.unusedVariables false in
set_option maxHeartbeats 8000000 in
set_option maxRecDepth 100000 in
theorem sizes16_0 (k n : Int)  (h0 : ¬ 2 ≤ k) (w : World) : Calls Try.prog 12 #[.int .i64 k, .int .i64 n] w fun e w' => e = .returned (.bool false) ∧ w' = w := by
  go_enter Try.func12, Try.ntmps12
  go_wp2
  go_ret
  exact ⟨rfl, rfl⟩
set_option linter.unusedSimpArgs false in
set_option linter.unusedVariables false in
set_option maxHeartbeats 8000000 in
set_option maxRecDepth 100000 in
theorem sizes16_1 (k n : Int) (h0 : 2 ≤ k) (h1 : ¬ k ≤ 5) (w : World) : Calls Try.prog 12 #[.int .i64 k, .int .i64 n] w fun e w' => e = .returned (.bool false) ∧ w' = w := by
  go_enter Try.func12, Try.ntmps12
  go_wp2
  go_ret
  exact ⟨rfl, rfl⟩
set_option linter.unusedSimpArgs false in
set_option linter.unusedVariables false in
set_option maxHeartbeats 8000000 in
set_option maxRecDepth 100000 in
theorem sizes16_2 (k n : Int) (h0 : 2 ≤ k) (h1 : k ≤ 5) (h2 : ¬ 1 ≤ n) (w : World) : Calls Try.prog 12 #[.int .i64 k, .int .i64 n] w fun e w' => e = .returned (.bool false) ∧ w' = w := by
  go_enter Try.func12, Try.ntmps12
  go_wp2
  go_ret
  exact ⟨rfl, rfl⟩
set_option linter.unusedSimpArgs false in
set_option linter.unusedVariables false in
set_option maxHeartbeats 8000000 in
set_option maxRecDepth 100000 in
theorem sizes16_3 (k n : Int) (h0 : 2 ≤ k) (h1 : k ≤ 5) (h2 : 1 ≤ n) (h3 : ¬ n ≤ 1000) (w : World) : Calls Try.prog 12 #[.int .i64 k, .int .i64 n] w fun e w' => e = .returned (.bool false) ∧ w' = w := by
  go_enter Try.func12, Try.ntmps12
  go_wp2
  go_ret
  exact ⟨rfl, rfl⟩
set_option linter.unusedSimpArgs false in
set_option linter.unusedVariables false in
set_option maxHeartbeats 8000000 in
set_option maxRecDepth 100000 in
theorem sizes16_4 (k n : Int) (h0 : 2 ≤ k) (h1 : k ≤ 5) (h2 : 1 ≤ n) (h3 : n ≤ 1000) (g1 : (k != 4) = true) (w : World) : Calls Try.prog 12 #[.int .i64 k, .int .i64 n] w fun e w' => e = .returned (.bool true) ∧ w' = w := by
  go_enter Try.func12, Try.ntmps12
  go_wp2
  go_ret
  exact ⟨rfl, rfl⟩
set_option linter.unusedSimpArgs false in
set_option linter.unusedVariables false in
set_option maxHeartbeats 8000000 in
set_option maxRecDepth 100000 in
theorem sizes16_5 (k n : Int) (h0 : 2 ≤ k) (h1 : k ≤ 5) (h2 : 1 ≤ n) (h3 : n ≤ 1000) (g1 : (k != 4) = false) (D : Bool) (g2 : (n == 1) = D) (w : World) : Calls Try.prog 12 #[.int .i64 k, .int .i64 n] w fun e w' => e = .returned (.bool D) ∧ w' = w := by
  go_enter Try.func12, Try.ntmps12
  go_wp2
  go_ret
  exact ⟨rfl, rfl⟩
theorem sizes16_any (k n : Int) (w : World) : Calls Try.prog 12 #[.int .i64 k, .int .i64 n] w fun e w' => e = .returned (.bool (sizesB k n)) ∧ w' = w := by
  have no : ¬ sizesP k n → sizesB k n = false := fun h => decide_eq_false h
  have unf : sizesP k n ↔ 2 ≤ k ∧ k ≤ 5 ∧ 1 ≤ n ∧ n ≤ 1000 ∧ (k = 4 → n = 1) := Iff.rfl
  by_cases h0 : 2 ≤ k
  rotate_left
  · rw [no (fun h => by have := unf.1 h; omega)]; exact sizes16_0 k n h0 w
  by_cases h1 : k ≤ 5
  rotate_left
  · rw [no (fun h => by have := unf.1 h; omega)]; exact sizes16_1 k n h0 h1 w
  by_cases h2 : 1 ≤ n
  rotate_left
  · rw [no (fun h => by have := unf.1 h; omega)]; exact sizes16_2 k n h0 h1 h2 w
  by_cases h3 : n ≤ 1000
  rotate_left
  · rw [no (fun h => by have := unf.1 h; omega)]; exact sizes16_3 k n h0 h1 h2 h3 w
  by_cases h4 : k = 4
  · refine sizes16_5 k n h0 h1 h2 h3 (by rw [h4]; rfl) _ ?_ w
    by_cases h5 : n = 1
    · rw [show sizesB k n = true from decide_eq_true (unf.2 (by omega)), h5]; rfl
    · rw [no (fun h => by have := unf.1 h; omega)]; exact beq_false_of_ne h5
  · rw [show sizesB k n = true from decide_eq_true (unf.2 (by omega))]
    exact sizes16_4 k n h0 h1 h2 h3 (by rw [bne, beq_false_of_ne h4]; rfl) w
set_option linter.unusedSimpArgs false in
set_option linter.unusedVariables false in
set_option maxHeartbeats 8000000 in
set_option maxRecDepth 100000 in
theorem right16_0 (kind size m sum : Int) (w : World) (ms : (∀ W, Calls Try.prog 12 #[.int .i64 kind, .int .i64 size] W fun e w' => e = .returned (.bool false) ∧ Below W.heap.size W w'))  : Calls Try.prog 10 #[.agg #[.int .i64 kind, .int .i64 size, .int .i64 m, .int .i64 sum]] w fun e w' => e = .returned (.bool false) ∧ Below w.heap.size w w' := by
  have MS := Lib.hid ms
  clear ms
  obtain ⟨w2, hw2⟩ : ∃ w2, w.alloc (.cells #[.int .i64 kind, .int .i64 size, .int .i64 m, .int .i64 sum] 23) = w2 := ⟨_, rfl⟩
  have HB2 := Lib.hid (show Below w.heap.size w w2 by rw [← hw2]; exact (Below.refl _ _).alloc (Nat.le_refl _) _)
  have HV2 := Lib.hid (show Has w2 w.heap.size [.int .i64 kind, .int .i64 size, .int .i64 m, .int .i64 sum] 23 by rw [← hw2]; exact Has.new w _ _)
  have HW2 := Lib.hid hw2
  clear hw2
  have hbase := Nat.le_refl w.heap.size
  go_enter Try.func10, Try.ntmps10
  go_upto_region 1 with fail
  rw [HW2.out]
  refine wp_region_held_drew (S := (fun W' => W'.cell? ⟨w.heap.size, 0, none⟩ = some (.int .i64 kind) ∧ W'.cell? ⟨w.heap.size, 1, none⟩ = some (.int .i64 size) ∧ W'.cell? ⟨w.heap.size, 2, none⟩ = some (.int .i64 m) ∧ W'.cell? ⟨w.heap.size, 3, none⟩ = some (.int .i64 sum))) (by kernel_rfl) ⟨HV2.out.cell 0, HV2.out.cell 1, HV2.out.cell 2, HV2.out.cell 3⟩ (fun hHeld => ?_)
  refine regTake 0 (some 3) (v := ?_) rfl rfl (by kernel_rfl) (by kernel_rfl) (by kernel_rfl) (fun _ _ _ h => h) (by rfl) hHeld ?_ ?_
  rotate_left 1
  · (intro w hSw; (try dsimp only at hSw); go_simp; try with_reducible rfl)
  simp only [Act.put, List.setIfInBounds_toArray, List.set_cons_zero, List.set_cons_succ]
  refine regTake 1 (some 4) (v := ?_) rfl rfl (by kernel_rfl) (by kernel_rfl) (by kernel_rfl) (fun _ _ _ h => h) (by rfl) hHeld ?_ ?_
  rotate_left 1
  · (intro w hSw; (try dsimp only at hSw); go_simp; try with_reducible rfl)
  simp only [Act.put, List.setIfInBounds_toArray, List.set_cons_zero, List.set_cons_succ]
  refine regTake 2 (some 5) (v := ?_) rfl rfl (by kernel_rfl) (by kernel_rfl) (by kernel_rfl) (fun _ _ _ h => h) (by rfl) hHeld ?_ ?_
  rotate_left 1
  · (intro w hSw; (try dsimp only at hSw); go_simp; try with_reducible rfl)
  simp only [Act.put, List.setIfInBounds_toArray, List.set_cons_zero, List.set_cons_succ]
  refine regTake 3 (some 6) (v := ?_) rfl rfl (by kernel_rfl) (by kernel_rfl) (by kernel_rfl) (fun _ _ _ h => h) (by rfl) hHeld ?_ ?_
  rotate_left 1
  · (intro w hSw; (try dsimp only at hSw); go_simp; try with_reducible rfl)
  simp only [Act.put, List.setIfInBounds_toArray, List.set_cons_zero, List.set_cons_succ]
  refine regCall 4 (some 7) (f := 12) (args := ?_) rfl rfl (by kernel_rfl) (by rfl) ?_ ?_
  rotate_left 1
  · (go_simp; try with_reducible rfl)
  refine (MS.out _).mono ?_
  rintro e wx4 ⟨rfl, kg1⟩
  refine ⟨_, rfl, ⟨(HV2.out.step kg1 rfl).cell 0, (HV2.out.step kg1 rfl).cell 1, (HV2.out.step kg1 rfl).cell 2, (HV2.out.step kg1 rfl).cell 3⟩, fun hHeld => ?_⟩
  simp only [Act.put, List.setIfInBounds_toArray, List.set_cons_zero, List.set_cons_succ]
  have HBg1 := Lib.hid ((HB2.out.drew).trans (kg1.mono (Nat.le_trans hbase (HB2.out.drew).size)))
  have Hbg1 := Lib.hid (HV2.out.step kg1 rfl)
  clear kg1
  refine regTake 5 (some 8) (v := ?_) rfl rfl (by kernel_rfl) (by kernel_rfl) (by kernel_rfl) (fun _ _ _ h => h) (by rfl) hHeld ?_ ?_
  rotate_left 1
  · (intro w hSw; (try dsimp only at hSw); go_simp; try with_reducible rfl)
  simp only [Act.put, List.setIfInBounds_toArray, List.set_cons_zero, List.set_cons_succ]
  refine regSkip 6 (some 9) rfl rfl (by kernel_rfl) (by kernel_rfl) (by kernel_rfl) (fun _ _ _ h => h) (by rfl) hHeld ?_
  simp only [Act.put, List.setIfInBounds_toArray, List.set_cons_zero, List.set_cons_succ]
  refine regSkip 7 (some 10) rfl rfl (by kernel_rfl) (by kernel_rfl) (by kernel_rfl) (fun _ _ _ h => h) (by rfl) hHeld ?_
  simp only [Act.put, List.setIfInBounds_toArray, List.set_cons_zero, List.set_cons_succ]
  refine regSkip 8 (some 11) rfl rfl (by kernel_rfl) (by kernel_rfl) (by kernel_rfl) (fun _ _ _ h => h) (by rfl) hHeld ?_
  simp only [Act.put, List.setIfInBounds_toArray, List.set_cons_zero, List.set_cons_succ]
  refine regTake 9 (some 12) (v := ?_) rfl rfl (by kernel_rfl) (by kernel_rfl) (by kernel_rfl) (fun _ _ _ h => h) (by rfl) hHeld ?_ ?_
  rotate_left 1
  · (intro w hSw; (try dsimp only at hSw); go_simp; try with_reducible rfl)
  simp only [Act.put, List.setIfInBounds_toArray, List.set_cons_zero, List.set_cons_succ]
  refine regTake 10 (some 13) (v := ?_) rfl rfl (by kernel_rfl) (by kernel_rfl) (by kernel_rfl) (fun _ _ _ h => h) (by rfl) hHeld ?_ ?_
  rotate_left 1
  · (intro w hSw; (try dsimp only at hSw); go_simp; try with_reducible rfl)
  simp only [Act.put, List.setIfInBounds_toArray, List.set_cons_zero, List.set_cons_succ]
  refine regSkip 11 (some 14) rfl rfl (by kernel_rfl) (by kernel_rfl) (by kernel_rfl) (fun _ _ _ h => h) (by rfl) hHeld ?_
  simp only [Act.put, List.setIfInBounds_toArray, List.set_cons_zero, List.set_cons_succ]
  refine regSkip 12 (some 15) rfl rfl (by kernel_rfl) (by kernel_rfl) (by kernel_rfl) (fun _ _ _ h => h) (by rfl) hHeld ?_
  simp only [Act.put, List.setIfInBounds_toArray, List.set_cons_zero, List.set_cons_succ]
  refine regSkip 13 (some 16) rfl rfl (by kernel_rfl) (by kernel_rfl) (by kernel_rfl) (fun _ _ _ h => h) (by rfl) hHeld ?_
  simp only [Act.put, List.setIfInBounds_toArray, List.set_cons_zero, List.set_cons_succ]
  refine regTake 14 (some 17) (v := ?_) rfl rfl (by kernel_rfl) (by kernel_rfl) (by kernel_rfl) (fun _ _ _ h => h) (by rfl) hHeld ?_ ?_
  rotate_left 1
  · (intro w hSw; (try dsimp only at hSw); go_simp; try with_reducible rfl)
  simp only [Act.put, List.setIfInBounds_toArray, List.set_cons_zero, List.set_cons_succ]
  refine regTake 15 (some 18) (v := ?_) rfl rfl (by kernel_rfl) (by kernel_rfl) (by kernel_rfl) (fun _ _ _ h => h) (by rfl) hHeld ?_ ?_
  rotate_left 1
  · (intro w hSw; (try dsimp only at hSw); go_simp; try with_reducible rfl)
  simp only [Act.put, List.setIfInBounds_toArray, List.set_cons_zero, List.set_cons_succ]
  refine regSkip 16 (some 19) rfl rfl (by kernel_rfl) (by kernel_rfl) (by kernel_rfl) (fun _ _ _ h => h) (by rfl) hHeld ?_
  simp only [Act.put, List.setIfInBounds_toArray, List.set_cons_zero, List.set_cons_succ]
  refine regSkip 17 (some 20) rfl rfl (by kernel_rfl) (by kernel_rfl) (by kernel_rfl) (fun _ _ _ h => h) (by rfl) hHeld ?_
  simp only [Act.put, List.setIfInBounds_toArray, List.set_cons_zero, List.set_cons_succ]
  refine regSkip 18 (some 21) rfl rfl (by kernel_rfl) (by kernel_rfl) (by kernel_rfl) (fun _ _ _ h => h) (by rfl) hHeld ?_
  simp only [Act.put, List.setIfInBounds_toArray, List.set_cons_zero, List.set_cons_succ]
  refine regTake 19 (some 22) (v := ?_) rfl rfl (by kernel_rfl) (by kernel_rfl) (by kernel_rfl) (fun _ _ _ h => h) (by rfl) hHeld ?_ ?_
  rotate_left 1
  · (intro w hSw; (try dsimp only at hSw); go_simp; try with_reducible rfl)
  simp only [Act.put, List.setIfInBounds_toArray, List.set_cons_zero, List.set_cons_succ]
  refine regTake 20 (some 23) (v := ?_) rfl rfl (by kernel_rfl) (by kernel_rfl) (by kernel_rfl) (fun _ _ _ h => h) (by rfl) hHeld ?_ ?_
  rotate_left 1
  · (intro w hSw; (try dsimp only at hSw); go_simp; try with_reducible rfl)
  simp only [Act.put, List.setIfInBounds_toArray, List.set_cons_zero, List.set_cons_succ]
  refine regSkip 21 (some 24) rfl rfl (by kernel_rfl) (by kernel_rfl) (by kernel_rfl) (fun _ _ _ h => h) (by rfl) hHeld ?_
  simp only [Act.put, List.setIfInBounds_toArray, List.set_cons_zero, List.set_cons_succ]
  refine regSkip 22 (some 25) rfl rfl (by kernel_rfl) (by kernel_rfl) (by kernel_rfl) (fun _ _ _ h => h) (by rfl) hHeld ?_
  simp only [Act.put, List.setIfInBounds_toArray, List.set_cons_zero, List.set_cons_succ]
  refine regSkip 23 (some 26) rfl rfl (by kernel_rfl) (by kernel_rfl) (by kernel_rfl) (fun _ _ _ h => h) (by rfl) hHeld ?_
  simp only [Act.put, List.setIfInBounds_toArray, List.set_cons_zero, List.set_cons_succ]
  refine regSkip 24 (some 27) rfl rfl (by kernel_rfl) (by kernel_rfl) (by kernel_rfl) (fun _ _ _ h => h) (by rfl) hHeld ?_
  simp only [Act.put, List.setIfInBounds_toArray, List.set_cons_zero, List.set_cons_succ]
  refine regSkip 25 (some 28) rfl rfl (by kernel_rfl) (by kernel_rfl) (by kernel_rfl) (fun _ _ _ h => h) (by rfl) hHeld ?_
  simp only [Act.put, List.setIfInBounds_toArray, List.set_cons_zero, List.set_cons_succ]
  refine regSkip 26 (some 29) rfl rfl (by kernel_rfl) (by kernel_rfl) (by kernel_rfl) (fun _ _ _ h => h) (by rfl) hHeld ?_
  simp only [Act.put, List.setIfInBounds_toArray, List.set_cons_zero, List.set_cons_succ]
  refine regSkip 27 (some 30) rfl rfl (by kernel_rfl) (by kernel_rfl) (by kernel_rfl) (fun _ _ _ h => h) (by rfl) hHeld ?_
  simp only [Act.put, List.setIfInBounds_toArray, List.set_cons_zero, List.set_cons_succ]
  refine regSkip 28 (some 31) rfl rfl (by kernel_rfl) (by kernel_rfl) (by kernel_rfl) (fun _ _ _ h => h) (by rfl) hHeld ?_
  simp only [Act.put, List.setIfInBounds_toArray, List.set_cons_zero, List.set_cons_succ]
  refine regTake 29 (some 32) (v := ?_) rfl rfl (by kernel_rfl) (by kernel_rfl) (by kernel_rfl) (fun _ _ _ h => h) (by rfl) hHeld ?_ ?_
  rotate_left 1
  · (intro w hSw; (try dsimp only at hSw); go_simp; try with_reducible rfl)
  simp only [Act.put, List.setIfInBounds_toArray, List.set_cons_zero, List.set_cons_succ]
  refine regTake 30 (some 2) (v := ?_) rfl rfl (by kernel_rfl) (by kernel_rfl) (by kernel_rfl) (fun _ _ _ h => h) (by rfl) hHeld ?_ ?_
  rotate_left 1
  · (intro w hSw; (try dsimp only at hSw); go_simp; try with_reducible rfl)
  simp only [Act.put, List.setIfInBounds_toArray, List.set_cons_zero, List.set_cons_succ]
  refine wpAnyH_done (by kernel_rfl) ?_ _
  clear hHeld
  go_wp2
  go_ret
  exact ⟨rfl, HBg1.out⟩
set_option linter.unusedSimpArgs false in
set_option linter.unusedVariables false in
set_option maxHeartbeats 8000000 in
set_option maxRecDepth 100000 in
theorem right16_1 (kind size m sum : Int) (w : World) (ms : (∀ W, Calls Try.prog 12 #[.int .i64 kind, .int .i64 size] W fun e w' => e = .returned (.bool true) ∧ Below W.heap.size W w')) (h1 : ¬ 0 ≤ m) : Calls Try.prog 10 #[.agg #[.int .i64 kind, .int .i64 size, .int .i64 m, .int .i64 sum]] w fun e w' => e = .returned (.bool false) ∧ Below w.heap.size w w' := by
  have MS := Lib.hid ms
  clear ms
  obtain ⟨w2, hw2⟩ : ∃ w2, w.alloc (.cells #[.int .i64 kind, .int .i64 size, .int .i64 m, .int .i64 sum] 23) = w2 := ⟨_, rfl⟩
  have HB2 := Lib.hid (show Below w.heap.size w w2 by rw [← hw2]; exact (Below.refl _ _).alloc (Nat.le_refl _) _)
  have HV2 := Lib.hid (show Has w2 w.heap.size [.int .i64 kind, .int .i64 size, .int .i64 m, .int .i64 sum] 23 by rw [← hw2]; exact Has.new w _ _)
  have HW2 := Lib.hid hw2
  clear hw2
  have hbase := Nat.le_refl w.heap.size
  go_enter Try.func10, Try.ntmps10
  go_upto_region 1 with fail
  rw [HW2.out]
  refine wp_region_held_drew (S := (fun W' => W'.cell? ⟨w.heap.size, 0, none⟩ = some (.int .i64 kind) ∧ W'.cell? ⟨w.heap.size, 1, none⟩ = some (.int .i64 size) ∧ W'.cell? ⟨w.heap.size, 2, none⟩ = some (.int .i64 m) ∧ W'.cell? ⟨w.heap.size, 3, none⟩ = some (.int .i64 sum))) (by kernel_rfl) ⟨HV2.out.cell 0, HV2.out.cell 1, HV2.out.cell 2, HV2.out.cell 3⟩ (fun hHeld => ?_)
  refine regTake 0 (some 3) (v := ?_) rfl rfl (by kernel_rfl) (by kernel_rfl) (by kernel_rfl) (fun _ _ _ h => h) (by rfl) hHeld ?_ ?_
  rotate_left 1
  · (intro w hSw; (try dsimp only at hSw); go_simp; try with_reducible rfl)
  simp only [Act.put, List.setIfInBounds_toArray, List.set_cons_zero, List.set_cons_succ]
  refine regTake 1 (some 4) (v := ?_) rfl rfl (by kernel_rfl) (by kernel_rfl) (by kernel_rfl) (fun _ _ _ h => h) (by rfl) hHeld ?_ ?_
  rotate_left 1
  · (intro w hSw; (try dsimp only at hSw); go_simp; try with_reducible rfl)
  simp only [Act.put, List.setIfInBounds_toArray, List.set_cons_zero, List.set_cons_succ]
  refine regTake 2 (some 5) (v := ?_) rfl rfl (by kernel_rfl) (by kernel_rfl) (by kernel_rfl) (fun _ _ _ h => h) (by rfl) hHeld ?_ ?_
  rotate_left 1
  · (intro w hSw; (try dsimp only at hSw); go_simp; try with_reducible rfl)
  simp only [Act.put, List.setIfInBounds_toArray, List.set_cons_zero, List.set_cons_succ]
  refine regTake 3 (some 6) (v := ?_) rfl rfl (by kernel_rfl) (by kernel_rfl) (by kernel_rfl) (fun _ _ _ h => h) (by rfl) hHeld ?_ ?_
  rotate_left 1
  · (intro w hSw; (try dsimp only at hSw); go_simp; try with_reducible rfl)
  simp only [Act.put, List.setIfInBounds_toArray, List.set_cons_zero, List.set_cons_succ]
  refine regCall 4 (some 7) (f := 12) (args := ?_) rfl rfl (by kernel_rfl) (by rfl) ?_ ?_
  rotate_left 1
  · (go_simp; try with_reducible rfl)
  refine (MS.out _).mono ?_
  rintro e wx4 ⟨rfl, kg1⟩
  refine ⟨_, rfl, ⟨(HV2.out.step kg1 rfl).cell 0, (HV2.out.step kg1 rfl).cell 1, (HV2.out.step kg1 rfl).cell 2, (HV2.out.step kg1 rfl).cell 3⟩, fun hHeld => ?_⟩
  simp only [Act.put, List.setIfInBounds_toArray, List.set_cons_zero, List.set_cons_succ]
  have HBg1 := Lib.hid ((HB2.out.drew).trans (kg1.mono (Nat.le_trans hbase (HB2.out.drew).size)))
  have Hbg1 := Lib.hid (HV2.out.step kg1 rfl)
  clear kg1
  refine regTake 5 (some 8) (v := ?_) rfl rfl (by kernel_rfl) (by kernel_rfl) (by kernel_rfl) (fun _ _ _ h => h) (by rfl) hHeld ?_ ?_
  rotate_left 1
  · (intro w hSw; (try dsimp only at hSw); go_simp; try with_reducible rfl)
  simp only [Act.put, List.setIfInBounds_toArray, List.set_cons_zero, List.set_cons_succ]
  refine regTake 6 (some 9) (v := ?_) rfl rfl (by kernel_rfl) (by kernel_rfl) (by kernel_rfl) (fun _ _ _ h => h) (by rfl) hHeld ?_ ?_
  rotate_left 1
  · (intro w hSw; (try dsimp only at hSw); go_simp; try with_reducible rfl)
  simp only [Act.put, List.setIfInBounds_toArray, List.set_cons_zero, List.set_cons_succ]
  refine regTake 7 (some 10) (v := ?_) rfl rfl (by kernel_rfl) (by kernel_rfl) (by kernel_rfl) (fun _ _ _ h => h) (by rfl) hHeld ?_ ?_
  rotate_left 1
  · (intro w hSw; (try dsimp only at hSw); go_simp; try with_reducible rfl)
  simp only [Act.put, List.setIfInBounds_toArray, List.set_cons_zero, List.set_cons_succ]
  refine regTake 8 (some 11) (v := .bool false) rfl rfl (by kernel_rfl) (by kernel_rfl) (by kernel_rfl) (fun _ _ _ h => h) (by rfl) hHeld ?_ ?_
  · (intro w hSw; (try dsimp only at hSw); go_simp; try with_reducible rfl)
  simp only [Act.put, List.setIfInBounds_toArray, List.set_cons_zero, List.set_cons_succ]
  refine regTake 9 (some 12) (v := ?_) rfl rfl (by kernel_rfl) (by kernel_rfl) (by kernel_rfl) (fun _ _ _ h => h) (by rfl) hHeld ?_ ?_
  rotate_left 1
  · (intro w hSw; (try dsimp only at hSw); go_simp; try with_reducible rfl)
  simp only [Act.put, List.setIfInBounds_toArray, List.set_cons_zero, List.set_cons_succ]
  refine regTake 10 (some 13) (v := ?_) rfl rfl (by kernel_rfl) (by kernel_rfl) (by kernel_rfl) (fun _ _ _ h => h) (by rfl) hHeld ?_ ?_
  rotate_left 1
  · (intro w hSw; (try dsimp only at hSw); go_simp; try with_reducible rfl)
  simp only [Act.put, List.setIfInBounds_toArray, List.set_cons_zero, List.set_cons_succ]
  refine regSkip 11 (some 14) rfl rfl (by kernel_rfl) (by kernel_rfl) (by kernel_rfl) (fun _ _ _ h => h) (by rfl) hHeld ?_
  simp only [Act.put, List.setIfInBounds_toArray, List.set_cons_zero, List.set_cons_succ]
  refine regSkip 12 (some 15) rfl rfl (by kernel_rfl) (by kernel_rfl) (by kernel_rfl) (fun _ _ _ h => h) (by rfl) hHeld ?_
  simp only [Act.put, List.setIfInBounds_toArray, List.set_cons_zero, List.set_cons_succ]
  refine regSkip 13 (some 16) rfl rfl (by kernel_rfl) (by kernel_rfl) (by kernel_rfl) (fun _ _ _ h => h) (by rfl) hHeld ?_
  simp only [Act.put, List.setIfInBounds_toArray, List.set_cons_zero, List.set_cons_succ]
  refine regTake 14 (some 17) (v := ?_) rfl rfl (by kernel_rfl) (by kernel_rfl) (by kernel_rfl) (fun _ _ _ h => h) (by rfl) hHeld ?_ ?_
  rotate_left 1
  · (intro w hSw; (try dsimp only at hSw); go_simp; try with_reducible rfl)
  simp only [Act.put, List.setIfInBounds_toArray, List.set_cons_zero, List.set_cons_succ]
  refine regTake 15 (some 18) (v := ?_) rfl rfl (by kernel_rfl) (by kernel_rfl) (by kernel_rfl) (fun _ _ _ h => h) (by rfl) hHeld ?_ ?_
  rotate_left 1
  · (intro w hSw; (try dsimp only at hSw); go_simp; try with_reducible rfl)
  simp only [Act.put, List.setIfInBounds_toArray, List.set_cons_zero, List.set_cons_succ]
  refine regSkip 16 (some 19) rfl rfl (by kernel_rfl) (by kernel_rfl) (by kernel_rfl) (fun _ _ _ h => h) (by rfl) hHeld ?_
  simp only [Act.put, List.setIfInBounds_toArray, List.set_cons_zero, List.set_cons_succ]
  refine regSkip 17 (some 20) rfl rfl (by kernel_rfl) (by kernel_rfl) (by kernel_rfl) (fun _ _ _ h => h) (by rfl) hHeld ?_
  simp only [Act.put, List.setIfInBounds_toArray, List.set_cons_zero, List.set_cons_succ]
  refine regSkip 18 (some 21) rfl rfl (by kernel_rfl) (by kernel_rfl) (by kernel_rfl) (fun _ _ _ h => h) (by rfl) hHeld ?_
  simp only [Act.put, List.setIfInBounds_toArray, List.set_cons_zero, List.set_cons_succ]
  refine regTake 19 (some 22) (v := ?_) rfl rfl (by kernel_rfl) (by kernel_rfl) (by kernel_rfl) (fun _ _ _ h => h) (by rfl) hHeld ?_ ?_
  rotate_left 1
  · (intro w hSw; (try dsimp only at hSw); go_simp; try with_reducible rfl)
  simp only [Act.put, List.setIfInBounds_toArray, List.set_cons_zero, List.set_cons_succ]
  refine regTake 20 (some 23) (v := ?_) rfl rfl (by kernel_rfl) (by kernel_rfl) (by kernel_rfl) (fun _ _ _ h => h) (by rfl) hHeld ?_ ?_
  rotate_left 1
  · (intro w hSw; (try dsimp only at hSw); go_simp; try with_reducible rfl)
  simp only [Act.put, List.setIfInBounds_toArray, List.set_cons_zero, List.set_cons_succ]
  refine regSkip 21 (some 24) rfl rfl (by kernel_rfl) (by kernel_rfl) (by kernel_rfl) (fun _ _ _ h => h) (by rfl) hHeld ?_
  simp only [Act.put, List.setIfInBounds_toArray, List.set_cons_zero, List.set_cons_succ]
  refine regSkip 22 (some 25) rfl rfl (by kernel_rfl) (by kernel_rfl) (by kernel_rfl) (fun _ _ _ h => h) (by rfl) hHeld ?_
  simp only [Act.put, List.setIfInBounds_toArray, List.set_cons_zero, List.set_cons_succ]
  refine regSkip 23 (some 26) rfl rfl (by kernel_rfl) (by kernel_rfl) (by kernel_rfl) (fun _ _ _ h => h) (by rfl) hHeld ?_
  simp only [Act.put, List.setIfInBounds_toArray, List.set_cons_zero, List.set_cons_succ]
  refine regSkip 24 (some 27) rfl rfl (by kernel_rfl) (by kernel_rfl) (by kernel_rfl) (fun _ _ _ h => h) (by rfl) hHeld ?_
  simp only [Act.put, List.setIfInBounds_toArray, List.set_cons_zero, List.set_cons_succ]
  refine regSkip 25 (some 28) rfl rfl (by kernel_rfl) (by kernel_rfl) (by kernel_rfl) (fun _ _ _ h => h) (by rfl) hHeld ?_
  simp only [Act.put, List.setIfInBounds_toArray, List.set_cons_zero, List.set_cons_succ]
  refine regSkip 26 (some 29) rfl rfl (by kernel_rfl) (by kernel_rfl) (by kernel_rfl) (fun _ _ _ h => h) (by rfl) hHeld ?_
  simp only [Act.put, List.setIfInBounds_toArray, List.set_cons_zero, List.set_cons_succ]
  refine regSkip 27 (some 30) rfl rfl (by kernel_rfl) (by kernel_rfl) (by kernel_rfl) (fun _ _ _ h => h) (by rfl) hHeld ?_
  simp only [Act.put, List.setIfInBounds_toArray, List.set_cons_zero, List.set_cons_succ]
  refine regSkip 28 (some 31) rfl rfl (by kernel_rfl) (by kernel_rfl) (by kernel_rfl) (fun _ _ _ h => h) (by rfl) hHeld ?_
  simp only [Act.put, List.setIfInBounds_toArray, List.set_cons_zero, List.set_cons_succ]
  refine regTake 29 (some 32) (v := ?_) rfl rfl (by kernel_rfl) (by kernel_rfl) (by kernel_rfl) (fun _ _ _ h => h) (by rfl) hHeld ?_ ?_
  rotate_left 1
  · (intro w hSw; (try dsimp only at hSw); go_simp; try with_reducible rfl)
  simp only [Act.put, List.setIfInBounds_toArray, List.set_cons_zero, List.set_cons_succ]
  refine regTake 30 (some 2) (v := ?_) rfl rfl (by kernel_rfl) (by kernel_rfl) (by kernel_rfl) (fun _ _ _ h => h) (by rfl) hHeld ?_ ?_
  rotate_left 1
  · (intro w hSw; (try dsimp only at hSw); go_simp; try with_reducible rfl)
  simp only [Act.put, List.setIfInBounds_toArray, List.set_cons_zero, List.set_cons_succ]
  refine wpAnyH_done (by kernel_rfl) ?_ _
  clear hHeld
  go_wp2
  go_ret
  exact ⟨rfl, HBg1.out⟩
set_option linter.unusedSimpArgs false in
set_option linter.unusedVariables false in
set_option maxHeartbeats 8000000 in
set_option maxRecDepth 100000 in
theorem right16_2 (kind size m sum : Int) (w : World) (ms : (∀ W, Calls Try.prog 12 #[.int .i64 kind, .int .i64 size] W fun e w' => e = .returned (.bool true) ∧ Below W.heap.size W w')) (h1 : 0 ≤ m) (h2 : ¬ m ≤ 25) : Calls Try.prog 10 #[.agg #[.int .i64 kind, .int .i64 size, .int .i64 m, .int .i64 sum]] w fun e w' => e = .returned (.bool false) ∧ Below w.heap.size w w' := by
  have MS := Lib.hid ms
  clear ms
  obtain ⟨w2, hw2⟩ : ∃ w2, w.alloc (.cells #[.int .i64 kind, .int .i64 size, .int .i64 m, .int .i64 sum] 23) = w2 := ⟨_, rfl⟩
  have HB2 := Lib.hid (show Below w.heap.size w w2 by rw [← hw2]; exact (Below.refl _ _).alloc (Nat.le_refl _) _)
  have HV2 := Lib.hid (show Has w2 w.heap.size [.int .i64 kind, .int .i64 size, .int .i64 m, .int .i64 sum] 23 by rw [← hw2]; exact Has.new w _ _)
  have HW2 := Lib.hid hw2
  clear hw2
  have hbase := Nat.le_refl w.heap.size
  go_enter Try.func10, Try.ntmps10
  go_upto_region 1 with fail
  rw [HW2.out]
  refine wp_region_held_drew (S := (fun W' => W'.cell? ⟨w.heap.size, 0, none⟩ = some (.int .i64 kind) ∧ W'.cell? ⟨w.heap.size, 1, none⟩ = some (.int .i64 size) ∧ W'.cell? ⟨w.heap.size, 2, none⟩ = some (.int .i64 m) ∧ W'.cell? ⟨w.heap.size, 3, none⟩ = some (.int .i64 sum))) (by kernel_rfl) ⟨HV2.out.cell 0, HV2.out.cell 1, HV2.out.cell 2, HV2.out.cell 3⟩ (fun hHeld => ?_)
  refine regTake 0 (some 3) (v := ?_) rfl rfl (by kernel_rfl) (by kernel_rfl) (by kernel_rfl) (fun _ _ _ h => h) (by rfl) hHeld ?_ ?_
  rotate_left 1
  · (intro w hSw; (try dsimp only at hSw); go_simp; try with_reducible rfl)
  simp only [Act.put, List.setIfInBounds_toArray, List.set_cons_zero, List.set_cons_succ]
  refine regTake 1 (some 4) (v := ?_) rfl rfl (by kernel_rfl) (by kernel_rfl) (by kernel_rfl) (fun _ _ _ h => h) (by rfl) hHeld ?_ ?_
  rotate_left 1
  · (intro w hSw; (try dsimp only at hSw); go_simp; try with_reducible rfl)
  simp only [Act.put, List.setIfInBounds_toArray, List.set_cons_zero, List.set_cons_succ]
  refine regTake 2 (some 5) (v := ?_) rfl rfl (by kernel_rfl) (by kernel_rfl) (by kernel_rfl) (fun _ _ _ h => h) (by rfl) hHeld ?_ ?_
  rotate_left 1
  · (intro w hSw; (try dsimp only at hSw); go_simp; try with_reducible rfl)
  simp only [Act.put, List.setIfInBounds_toArray, List.set_cons_zero, List.set_cons_succ]
  refine regTake 3 (some 6) (v := ?_) rfl rfl (by kernel_rfl) (by kernel_rfl) (by kernel_rfl) (fun _ _ _ h => h) (by rfl) hHeld ?_ ?_
  rotate_left 1
  · (intro w hSw; (try dsimp only at hSw); go_simp; try with_reducible rfl)
  simp only [Act.put, List.setIfInBounds_toArray, List.set_cons_zero, List.set_cons_succ]
  refine regCall 4 (some 7) (f := 12) (args := ?_) rfl rfl (by kernel_rfl) (by rfl) ?_ ?_
  rotate_left 1
  · (go_simp; try with_reducible rfl)
  refine (MS.out _).mono ?_
  rintro e wx4 ⟨rfl, kg1⟩
  refine ⟨_, rfl, ⟨(HV2.out.step kg1 rfl).cell 0, (HV2.out.step kg1 rfl).cell 1, (HV2.out.step kg1 rfl).cell 2, (HV2.out.step kg1 rfl).cell 3⟩, fun hHeld => ?_⟩
  simp only [Act.put, List.setIfInBounds_toArray, List.set_cons_zero, List.set_cons_succ]
  have HBg1 := Lib.hid ((HB2.out.drew).trans (kg1.mono (Nat.le_trans hbase (HB2.out.drew).size)))
  have Hbg1 := Lib.hid (HV2.out.step kg1 rfl)
  clear kg1
  refine regTake 5 (some 8) (v := ?_) rfl rfl (by kernel_rfl) (by kernel_rfl) (by kernel_rfl) (fun _ _ _ h => h) (by rfl) hHeld ?_ ?_
  rotate_left 1
  · (intro w hSw; (try dsimp only at hSw); go_simp; try with_reducible rfl)
  simp only [Act.put, List.setIfInBounds_toArray, List.set_cons_zero, List.set_cons_succ]
  refine regTake 6 (some 9) (v := ?_) rfl rfl (by kernel_rfl) (by kernel_rfl) (by kernel_rfl) (fun _ _ _ h => h) (by rfl) hHeld ?_ ?_
  rotate_left 1
  · (intro w hSw; (try dsimp only at hSw); go_simp; try with_reducible rfl)
  simp only [Act.put, List.setIfInBounds_toArray, List.set_cons_zero, List.set_cons_succ]
  refine regTake 7 (some 10) (v := ?_) rfl rfl (by kernel_rfl) (by kernel_rfl) (by kernel_rfl) (fun _ _ _ h => h) (by rfl) hHeld ?_ ?_
  rotate_left 1
  · (intro w hSw; (try dsimp only at hSw); go_simp; try with_reducible rfl)
  simp only [Act.put, List.setIfInBounds_toArray, List.set_cons_zero, List.set_cons_succ]
  refine regTake 8 (some 11) (v := .bool true) rfl rfl (by kernel_rfl) (by kernel_rfl) (by kernel_rfl) (fun _ _ _ h => h) (by rfl) hHeld ?_ ?_
  · (intro w hSw; (try dsimp only at hSw); go_simp; try with_reducible rfl)
  simp only [Act.put, List.setIfInBounds_toArray, List.set_cons_zero, List.set_cons_succ]
  refine regTake 9 (some 12) (v := ?_) rfl rfl (by kernel_rfl) (by kernel_rfl) (by kernel_rfl) (fun _ _ _ h => h) (by rfl) hHeld ?_ ?_
  rotate_left 1
  · (intro w hSw; (try dsimp only at hSw); go_simp; try with_reducible rfl)
  simp only [Act.put, List.setIfInBounds_toArray, List.set_cons_zero, List.set_cons_succ]
  refine regTake 10 (some 13) (v := ?_) rfl rfl (by kernel_rfl) (by kernel_rfl) (by kernel_rfl) (fun _ _ _ h => h) (by rfl) hHeld ?_ ?_
  rotate_left 1
  · (intro w hSw; (try dsimp only at hSw); go_simp; try with_reducible rfl)
  simp only [Act.put, List.setIfInBounds_toArray, List.set_cons_zero, List.set_cons_succ]
  refine regTake 11 (some 14) (v := ?_) rfl rfl (by kernel_rfl) (by kernel_rfl) (by kernel_rfl) (fun _ _ _ h => h) (by rfl) hHeld ?_ ?_
  rotate_left 1
  · (intro w hSw; (try dsimp only at hSw); go_simp; try with_reducible rfl)
  simp only [Act.put, List.setIfInBounds_toArray, List.set_cons_zero, List.set_cons_succ]
  refine regTake 12 (some 15) (v := ?_) rfl rfl (by kernel_rfl) (by kernel_rfl) (by kernel_rfl) (fun _ _ _ h => h) (by rfl) hHeld ?_ ?_
  rotate_left 1
  · (intro w hSw; (try dsimp only at hSw); go_simp; try with_reducible rfl)
  simp only [Act.put, List.setIfInBounds_toArray, List.set_cons_zero, List.set_cons_succ]
  refine regTake 13 (some 16) (v := .bool false) rfl rfl (by kernel_rfl) (by kernel_rfl) (by kernel_rfl) (fun _ _ _ h => h) (by rfl) hHeld ?_ ?_
  · (intro w hSw; (try dsimp only at hSw); go_simp; try with_reducible rfl)
  simp only [Act.put, List.setIfInBounds_toArray, List.set_cons_zero, List.set_cons_succ]
  refine regTake 14 (some 17) (v := ?_) rfl rfl (by kernel_rfl) (by kernel_rfl) (by kernel_rfl) (fun _ _ _ h => h) (by rfl) hHeld ?_ ?_
  rotate_left 1
  · (intro w hSw; (try dsimp only at hSw); go_simp; try with_reducible rfl)
  simp only [Act.put, List.setIfInBounds_toArray, List.set_cons_zero, List.set_cons_succ]
  refine regTake 15 (some 18) (v := ?_) rfl rfl (by kernel_rfl) (by kernel_rfl) (by kernel_rfl) (fun _ _ _ h => h) (by rfl) hHeld ?_ ?_
  rotate_left 1
  · (intro w hSw; (try dsimp only at hSw); go_simp; try with_reducible rfl)
  simp only [Act.put, List.setIfInBounds_toArray, List.set_cons_zero, List.set_cons_succ]
  refine regSkip 16 (some 19) rfl rfl (by kernel_rfl) (by kernel_rfl) (by kernel_rfl) (fun _ _ _ h => h) (by rfl) hHeld ?_
  simp only [Act.put, List.setIfInBounds_toArray, List.set_cons_zero, List.set_cons_succ]
  refine regSkip 17 (some 20) rfl rfl (by kernel_rfl) (by kernel_rfl) (by kernel_rfl) (fun _ _ _ h => h) (by rfl) hHeld ?_
  simp only [Act.put, List.setIfInBounds_toArray, List.set_cons_zero, List.set_cons_succ]
  refine regSkip 18 (some 21) rfl rfl (by kernel_rfl) (by kernel_rfl) (by kernel_rfl) (fun _ _ _ h => h) (by rfl) hHeld ?_
  simp only [Act.put, List.setIfInBounds_toArray, List.set_cons_zero, List.set_cons_succ]
  refine regTake 19 (some 22) (v := ?_) rfl rfl (by kernel_rfl) (by kernel_rfl) (by kernel_rfl) (fun _ _ _ h => h) (by rfl) hHeld ?_ ?_
  rotate_left 1
  · (intro w hSw; (try dsimp only at hSw); go_simp; try with_reducible rfl)
  simp only [Act.put, List.setIfInBounds_toArray, List.set_cons_zero, List.set_cons_succ]
  refine regTake 20 (some 23) (v := ?_) rfl rfl (by kernel_rfl) (by kernel_rfl) (by kernel_rfl) (fun _ _ _ h => h) (by rfl) hHeld ?_ ?_
  rotate_left 1
  · (intro w hSw; (try dsimp only at hSw); go_simp; try with_reducible rfl)
  simp only [Act.put, List.setIfInBounds_toArray, List.set_cons_zero, List.set_cons_succ]
  refine regSkip 21 (some 24) rfl rfl (by kernel_rfl) (by kernel_rfl) (by kernel_rfl) (fun _ _ _ h => h) (by rfl) hHeld ?_
  simp only [Act.put, List.setIfInBounds_toArray, List.set_cons_zero, List.set_cons_succ]
  refine regSkip 22 (some 25) rfl rfl (by kernel_rfl) (by kernel_rfl) (by kernel_rfl) (fun _ _ _ h => h) (by rfl) hHeld ?_
  simp only [Act.put, List.setIfInBounds_toArray, List.set_cons_zero, List.set_cons_succ]
  refine regSkip 23 (some 26) rfl rfl (by kernel_rfl) (by kernel_rfl) (by kernel_rfl) (fun _ _ _ h => h) (by rfl) hHeld ?_
  simp only [Act.put, List.setIfInBounds_toArray, List.set_cons_zero, List.set_cons_succ]
  refine regSkip 24 (some 27) rfl rfl (by kernel_rfl) (by kernel_rfl) (by kernel_rfl) (fun _ _ _ h => h) (by rfl) hHeld ?_
  simp only [Act.put, List.setIfInBounds_toArray, List.set_cons_zero, List.set_cons_succ]
  refine regSkip 25 (some 28) rfl rfl (by kernel_rfl) (by kernel_rfl) (by kernel_rfl) (fun _ _ _ h => h) (by rfl) hHeld ?_
  simp only [Act.put, List.setIfInBounds_toArray, List.set_cons_zero, List.set_cons_succ]
  refine regSkip 26 (some 29) rfl rfl (by kernel_rfl) (by kernel_rfl) (by kernel_rfl) (fun _ _ _ h => h) (by rfl) hHeld ?_
  simp only [Act.put, List.setIfInBounds_toArray, List.set_cons_zero, List.set_cons_succ]
  refine regSkip 27 (some 30) rfl rfl (by kernel_rfl) (by kernel_rfl) (by kernel_rfl) (fun _ _ _ h => h) (by rfl) hHeld ?_
  simp only [Act.put, List.setIfInBounds_toArray, List.set_cons_zero, List.set_cons_succ]
  refine regSkip 28 (some 31) rfl rfl (by kernel_rfl) (by kernel_rfl) (by kernel_rfl) (fun _ _ _ h => h) (by rfl) hHeld ?_
  simp only [Act.put, List.setIfInBounds_toArray, List.set_cons_zero, List.set_cons_succ]
  refine regTake 29 (some 32) (v := ?_) rfl rfl (by kernel_rfl) (by kernel_rfl) (by kernel_rfl) (fun _ _ _ h => h) (by rfl) hHeld ?_ ?_
  rotate_left 1
  · (intro w hSw; (try dsimp only at hSw); go_simp; try with_reducible rfl)
  simp only [Act.put, List.setIfInBounds_toArray, List.set_cons_zero, List.set_cons_succ]
  refine regTake 30 (some 2) (v := ?_) rfl rfl (by kernel_rfl) (by kernel_rfl) (by kernel_rfl) (fun _ _ _ h => h) (by rfl) hHeld ?_ ?_
  rotate_left 1
  · (intro w hSw; (try dsimp only at hSw); go_simp; try with_reducible rfl)
  simp only [Act.put, List.setIfInBounds_toArray, List.set_cons_zero, List.set_cons_succ]
  refine wpAnyH_done (by kernel_rfl) ?_ _
  clear hHeld
  go_wp2
  go_ret
  exact ⟨rfl, HBg1.out⟩
set_option linter.unusedSimpArgs false in
set_option linter.unusedVariables false in
set_option maxHeartbeats 8000000 in
set_option maxRecDepth 100000 in
theorem right16_3 (kind size m sum : Int) (w : World) (ms : (∀ W, Calls Try.prog 12 #[.int .i64 kind, .int .i64 size] W fun e w' => e = .returned (.bool true) ∧ Below W.heap.size W w')) (h1 : 0 ≤ m) (h2 : m ≤ 25) (h3 : ¬ 0 ≤ sum) : Calls Try.prog 10 #[.agg #[.int .i64 kind, .int .i64 size, .int .i64 m, .int .i64 sum]] w fun e w' => e = .returned (.bool false) ∧ Below w.heap.size w w' := by
  have MS := Lib.hid ms
  clear ms
  obtain ⟨w2, hw2⟩ : ∃ w2, w.alloc (.cells #[.int .i64 kind, .int .i64 size, .int .i64 m, .int .i64 sum] 23) = w2 := ⟨_, rfl⟩
  have HB2 := Lib.hid (show Below w.heap.size w w2 by rw [← hw2]; exact (Below.refl _ _).alloc (Nat.le_refl _) _)
  have HV2 := Lib.hid (show Has w2 w.heap.size [.int .i64 kind, .int .i64 size, .int .i64 m, .int .i64 sum] 23 by rw [← hw2]; exact Has.new w _ _)
  have HW2 := Lib.hid hw2
  clear hw2
  have hbase := Nat.le_refl w.heap.size
  go_enter Try.func10, Try.ntmps10
  go_upto_region 1 with fail
  rw [HW2.out]
  refine wp_region_held_drew (S := (fun W' => W'.cell? ⟨w.heap.size, 0, none⟩ = some (.int .i64 kind) ∧ W'.cell? ⟨w.heap.size, 1, none⟩ = some (.int .i64 size) ∧ W'.cell? ⟨w.heap.size, 2, none⟩ = some (.int .i64 m) ∧ W'.cell? ⟨w.heap.size, 3, none⟩ = some (.int .i64 sum))) (by kernel_rfl) ⟨HV2.out.cell 0, HV2.out.cell 1, HV2.out.cell 2, HV2.out.cell 3⟩ (fun hHeld => ?_)
  refine regTake 0 (some 3) (v := ?_) rfl rfl (by kernel_rfl) (by kernel_rfl) (by kernel_rfl) (fun _ _ _ h => h) (by rfl) hHeld ?_ ?_
  rotate_left 1
  · (intro w hSw; (try dsimp only at hSw); go_simp; try with_reducible rfl)
  simp only [Act.put, List.setIfInBounds_toArray, List.set_cons_zero, List.set_cons_succ]
  refine regTake 1 (some 4) (v := ?_) rfl rfl (by kernel_rfl) (by kernel_rfl) (by kernel_rfl) (fun _ _ _ h => h) (by rfl) hHeld ?_ ?_
  rotate_left 1
  · (intro w hSw; (try dsimp only at hSw); go_simp; try with_reducible rfl)
  simp only [Act.put, List.setIfInBounds_toArray, List.set_cons_zero, List.set_cons_succ]
  refine regTake 2 (some 5) (v := ?_) rfl rfl (by kernel_rfl) (by kernel_rfl) (by kernel_rfl) (fun _ _ _ h => h) (by rfl) hHeld ?_ ?_
  rotate_left 1
  · (intro w hSw; (try dsimp only at hSw); go_simp; try with_reducible rfl)
  simp only [Act.put, List.setIfInBounds_toArray, List.set_cons_zero, List.set_cons_succ]
  refine regTake 3 (some 6) (v := ?_) rfl rfl (by kernel_rfl) (by kernel_rfl) (by kernel_rfl) (fun _ _ _ h => h) (by rfl) hHeld ?_ ?_
  rotate_left 1
  · (intro w hSw; (try dsimp only at hSw); go_simp; try with_reducible rfl)
  simp only [Act.put, List.setIfInBounds_toArray, List.set_cons_zero, List.set_cons_succ]
  refine regCall 4 (some 7) (f := 12) (args := ?_) rfl rfl (by kernel_rfl) (by rfl) ?_ ?_
  rotate_left 1
  · (go_simp; try with_reducible rfl)
  refine (MS.out _).mono ?_
  rintro e wx4 ⟨rfl, kg1⟩
  refine ⟨_, rfl, ⟨(HV2.out.step kg1 rfl).cell 0, (HV2.out.step kg1 rfl).cell 1, (HV2.out.step kg1 rfl).cell 2, (HV2.out.step kg1 rfl).cell 3⟩, fun hHeld => ?_⟩
  simp only [Act.put, List.setIfInBounds_toArray, List.set_cons_zero, List.set_cons_succ]
  have HBg1 := Lib.hid ((HB2.out.drew).trans (kg1.mono (Nat.le_trans hbase (HB2.out.drew).size)))
  have Hbg1 := Lib.hid (HV2.out.step kg1 rfl)
  clear kg1
  refine regTake 5 (some 8) (v := ?_) rfl rfl (by kernel_rfl) (by kernel_rfl) (by kernel_rfl) (fun _ _ _ h => h) (by rfl) hHeld ?_ ?_
  rotate_left 1
  · (intro w hSw; (try dsimp only at hSw); go_simp; try with_reducible rfl)
  simp only [Act.put, List.setIfInBounds_toArray, List.set_cons_zero, List.set_cons_succ]
  refine regTake 6 (some 9) (v := ?_) rfl rfl (by kernel_rfl) (by kernel_rfl) (by kernel_rfl) (fun _ _ _ h => h) (by rfl) hHeld ?_ ?_
  rotate_left 1
  · (intro w hSw; (try dsimp only at hSw); go_simp; try with_reducible rfl)
  simp only [Act.put, List.setIfInBounds_toArray, List.set_cons_zero, List.set_cons_succ]
  refine regTake 7 (some 10) (v := ?_) rfl rfl (by kernel_rfl) (by kernel_rfl) (by kernel_rfl) (fun _ _ _ h => h) (by rfl) hHeld ?_ ?_
  rotate_left 1
  · (intro w hSw; (try dsimp only at hSw); go_simp; try with_reducible rfl)
  simp only [Act.put, List.setIfInBounds_toArray, List.set_cons_zero, List.set_cons_succ]
  refine regTake 8 (some 11) (v := .bool true) rfl rfl (by kernel_rfl) (by kernel_rfl) (by kernel_rfl) (fun _ _ _ h => h) (by rfl) hHeld ?_ ?_
  · (intro w hSw; (try dsimp only at hSw); go_simp; try with_reducible rfl)
  simp only [Act.put, List.setIfInBounds_toArray, List.set_cons_zero, List.set_cons_succ]
  refine regTake 9 (some 12) (v := ?_) rfl rfl (by kernel_rfl) (by kernel_rfl) (by kernel_rfl) (fun _ _ _ h => h) (by rfl) hHeld ?_ ?_
  rotate_left 1
  · (intro w hSw; (try dsimp only at hSw); go_simp; try with_reducible rfl)
  simp only [Act.put, List.setIfInBounds_toArray, List.set_cons_zero, List.set_cons_succ]
  refine regTake 10 (some 13) (v := ?_) rfl rfl (by kernel_rfl) (by kernel_rfl) (by kernel_rfl) (fun _ _ _ h => h) (by rfl) hHeld ?_ ?_
  rotate_left 1
  · (intro w hSw; (try dsimp only at hSw); go_simp; try with_reducible rfl)
  simp only [Act.put, List.setIfInBounds_toArray, List.set_cons_zero, List.set_cons_succ]
  refine regTake 11 (some 14) (v := ?_) rfl rfl (by kernel_rfl) (by kernel_rfl) (by kernel_rfl) (fun _ _ _ h => h) (by rfl) hHeld ?_ ?_
  rotate_left 1
  · (intro w hSw; (try dsimp only at hSw); go_simp; try with_reducible rfl)
  simp only [Act.put, List.setIfInBounds_toArray, List.set_cons_zero, List.set_cons_succ]
  refine regTake 12 (some 15) (v := ?_) rfl rfl (by kernel_rfl) (by kernel_rfl) (by kernel_rfl) (fun _ _ _ h => h) (by rfl) hHeld ?_ ?_
  rotate_left 1
  · (intro w hSw; (try dsimp only at hSw); go_simp; try with_reducible rfl)
  simp only [Act.put, List.setIfInBounds_toArray, List.set_cons_zero, List.set_cons_succ]
  refine regTake 13 (some 16) (v := .bool true) rfl rfl (by kernel_rfl) (by kernel_rfl) (by kernel_rfl) (fun _ _ _ h => h) (by rfl) hHeld ?_ ?_
  · (intro w hSw; (try dsimp only at hSw); go_simp; try with_reducible rfl)
  simp only [Act.put, List.setIfInBounds_toArray, List.set_cons_zero, List.set_cons_succ]
  refine regTake 14 (some 17) (v := ?_) rfl rfl (by kernel_rfl) (by kernel_rfl) (by kernel_rfl) (fun _ _ _ h => h) (by rfl) hHeld ?_ ?_
  rotate_left 1
  · (intro w hSw; (try dsimp only at hSw); go_simp; try with_reducible rfl)
  simp only [Act.put, List.setIfInBounds_toArray, List.set_cons_zero, List.set_cons_succ]
  refine regTake 15 (some 18) (v := ?_) rfl rfl (by kernel_rfl) (by kernel_rfl) (by kernel_rfl) (fun _ _ _ h => h) (by rfl) hHeld ?_ ?_
  rotate_left 1
  · (intro w hSw; (try dsimp only at hSw); go_simp; try with_reducible rfl)
  simp only [Act.put, List.setIfInBounds_toArray, List.set_cons_zero, List.set_cons_succ]
  refine regTake 16 (some 19) (v := ?_) rfl rfl (by kernel_rfl) (by kernel_rfl) (by kernel_rfl) (fun _ _ _ h => h) (by rfl) hHeld ?_ ?_
  rotate_left 1
  · (intro w hSw; (try dsimp only at hSw); go_simp; try with_reducible rfl)
  simp only [Act.put, List.setIfInBounds_toArray, List.set_cons_zero, List.set_cons_succ]
  refine regTake 17 (some 20) (v := ?_) rfl rfl (by kernel_rfl) (by kernel_rfl) (by kernel_rfl) (fun _ _ _ h => h) (by rfl) hHeld ?_ ?_
  rotate_left 1
  · (intro w hSw; (try dsimp only at hSw); go_simp; try with_reducible rfl)
  simp only [Act.put, List.setIfInBounds_toArray, List.set_cons_zero, List.set_cons_succ]
  refine regTake 18 (some 21) (v := .bool false) rfl rfl (by kernel_rfl) (by kernel_rfl) (by kernel_rfl) (fun _ _ _ h => h) (by rfl) hHeld ?_ ?_
  · (intro w hSw; (try dsimp only at hSw); go_simp; try with_reducible rfl)
  simp only [Act.put, List.setIfInBounds_toArray, List.set_cons_zero, List.set_cons_succ]
  refine regTake 19 (some 22) (v := ?_) rfl rfl (by kernel_rfl) (by kernel_rfl) (by kernel_rfl) (fun _ _ _ h => h) (by rfl) hHeld ?_ ?_
  rotate_left 1
  · (intro w hSw; (try dsimp only at hSw); go_simp; try with_reducible rfl)
  simp only [Act.put, List.setIfInBounds_toArray, List.set_cons_zero, List.set_cons_succ]
  refine regTake 20 (some 23) (v := ?_) rfl rfl (by kernel_rfl) (by kernel_rfl) (by kernel_rfl) (fun _ _ _ h => h) (by rfl) hHeld ?_ ?_
  rotate_left 1
  · (intro w hSw; (try dsimp only at hSw); go_simp; try with_reducible rfl)
  simp only [Act.put, List.setIfInBounds_toArray, List.set_cons_zero, List.set_cons_succ]
  refine regSkip 21 (some 24) rfl rfl (by kernel_rfl) (by kernel_rfl) (by kernel_rfl) (fun _ _ _ h => h) (by rfl) hHeld ?_
  simp only [Act.put, List.setIfInBounds_toArray, List.set_cons_zero, List.set_cons_succ]
  refine regSkip 22 (some 25) rfl rfl (by kernel_rfl) (by kernel_rfl) (by kernel_rfl) (fun _ _ _ h => h) (by rfl) hHeld ?_
  simp only [Act.put, List.setIfInBounds_toArray, List.set_cons_zero, List.set_cons_succ]
  refine regSkip 23 (some 26) rfl rfl (by kernel_rfl) (by kernel_rfl) (by kernel_rfl) (fun _ _ _ h => h) (by rfl) hHeld ?_
  simp only [Act.put, List.setIfInBounds_toArray, List.set_cons_zero, List.set_cons_succ]
  refine regSkip 24 (some 27) rfl rfl (by kernel_rfl) (by kernel_rfl) (by kernel_rfl) (fun _ _ _ h => h) (by rfl) hHeld ?_
  simp only [Act.put, List.setIfInBounds_toArray, List.set_cons_zero, List.set_cons_succ]
  refine regSkip 25 (some 28) rfl rfl (by kernel_rfl) (by kernel_rfl) (by kernel_rfl) (fun _ _ _ h => h) (by rfl) hHeld ?_
  simp only [Act.put, List.setIfInBounds_toArray, List.set_cons_zero, List.set_cons_succ]
  refine regSkip 26 (some 29) rfl rfl (by kernel_rfl) (by kernel_rfl) (by kernel_rfl) (fun _ _ _ h => h) (by rfl) hHeld ?_
  simp only [Act.put, List.setIfInBounds_toArray, List.set_cons_zero, List.set_cons_succ]
  refine regSkip 27 (some 30) rfl rfl (by kernel_rfl) (by kernel_rfl) (by kernel_rfl) (fun _ _ _ h => h) (by rfl) hHeld ?_
  simp only [Act.put, List.setIfInBounds_toArray, List.set_cons_zero, List.set_cons_succ]
  refine regSkip 28 (some 31) rfl rfl (by kernel_rfl) (by kernel_rfl) (by kernel_rfl) (fun _ _ _ h => h) (by rfl) hHeld ?_
  simp only [Act.put, List.setIfInBounds_toArray, List.set_cons_zero, List.set_cons_succ]
  refine regTake 29 (some 32) (v := ?_) rfl rfl (by kernel_rfl) (by kernel_rfl) (by kernel_rfl) (fun _ _ _ h => h) (by rfl) hHeld ?_ ?_
  rotate_left 1
  · (intro w hSw; (try dsimp only at hSw); go_simp; try with_reducible rfl)
  simp only [Act.put, List.setIfInBounds_toArray, List.set_cons_zero, List.set_cons_succ]
  refine regTake 30 (some 2) (v := ?_) rfl rfl (by kernel_rfl) (by kernel_rfl) (by kernel_rfl) (fun _ _ _ h => h) (by rfl) hHeld ?_ ?_
  rotate_left 1
  · (intro w hSw; (try dsimp only at hSw); go_simp; try with_reducible rfl)
  simp only [Act.put, List.setIfInBounds_toArray, List.set_cons_zero, List.set_cons_succ]
  refine wpAnyH_done (by kernel_rfl) ?_ _
  clear hHeld
  go_wp2
  go_ret
  exact ⟨rfl, HBg1.out⟩
set_option linter.unusedSimpArgs false in
set_option linter.unusedVariables false in
set_option maxHeartbeats 8000000 in
set_option maxRecDepth 100000 in
theorem right16_4 (kind size m sum M P : Int) (w : World) (ms : (∀ W, Calls Try.prog 12 #[.int .i64 kind, .int .i64 size] W fun e w' => e = .returned (.bool true) ∧ Below W.heap.size W w')) (mm : (∀ W, Calls Try.prog 23 #[.agg #[.int .i64 kind, .int .i64 size, .int .i64 m, .int .i64 sum]] W fun e w' => e = .returned (.int .i64 M) ∧ Below W.heap.size W w')) (h1 : 0 ≤ m) (h2 : m ≤ 25) (h3 : 0 ≤ sum) (h4 : ¬ sum ≤ P) (e1 : IntKind.i64.wrap (m * M) = P) : Calls Try.prog 10 #[.agg #[.int .i64 kind, .int .i64 size, .int .i64 m, .int .i64 sum]] w fun e w' => e = .returned (.bool false) ∧ Below w.heap.size w w' := by
  have MS := Lib.hid ms; have MM := Lib.hid mm
  clear ms mm
  obtain ⟨w2, hw2⟩ : ∃ w2, w.alloc (.cells #[.int .i64 kind, .int .i64 size, .int .i64 m, .int .i64 sum] 23) = w2 := ⟨_, rfl⟩
  have HB2 := Lib.hid (show Below w.heap.size w w2 by rw [← hw2]; exact (Below.refl _ _).alloc (Nat.le_refl _) _)
  have HV2 := Lib.hid (show Has w2 w.heap.size [.int .i64 kind, .int .i64 size, .int .i64 m, .int .i64 sum] 23 by rw [← hw2]; exact Has.new w _ _)
  have HW2 := Lib.hid hw2
  clear hw2
  have hbase := Nat.le_refl w.heap.size
  go_enter Try.func10, Try.ntmps10
  go_upto_region 1 with fail
  rw [HW2.out]
  refine wp_region_held_drew (S := (fun W' => W'.cell? ⟨w.heap.size, 0, none⟩ = some (.int .i64 kind) ∧ W'.cell? ⟨w.heap.size, 1, none⟩ = some (.int .i64 size) ∧ W'.cell? ⟨w.heap.size, 2, none⟩ = some (.int .i64 m) ∧ W'.cell? ⟨w.heap.size, 3, none⟩ = some (.int .i64 sum))) (by kernel_rfl) ⟨HV2.out.cell 0, HV2.out.cell 1, HV2.out.cell 2, HV2.out.cell 3⟩ (fun hHeld => ?_)
  refine regTake 0 (some 3) (v := ?_) rfl rfl (by kernel_rfl) (by kernel_rfl) (by kernel_rfl) (fun _ _ _ h => h) (by rfl) hHeld ?_ ?_
  rotate_left 1
  · (intro w hSw; (try dsimp only at hSw); go_simp; try with_reducible rfl)
  simp only [Act.put, List.setIfInBounds_toArray, List.set_cons_zero, List.set_cons_succ]
  refine regTake 1 (some 4) (v := ?_) rfl rfl (by kernel_rfl) (by kernel_rfl) (by kernel_rfl) (fun _ _ _ h => h) (by rfl) hHeld ?_ ?_
  rotate_left 1
  · (intro w hSw; (try dsimp only at hSw); go_simp; try with_reducible rfl)
  simp only [Act.put, List.setIfInBounds_toArray, List.set_cons_zero, List.set_cons_succ]
  refine regTake 2 (some 5) (v := ?_) rfl rfl (by kernel_rfl) (by kernel_rfl) (by kernel_rfl) (fun _ _ _ h => h) (by rfl) hHeld ?_ ?_
  rotate_left 1
  · (intro w hSw; (try dsimp only at hSw); go_simp; try with_reducible rfl)
  simp only [Act.put, List.setIfInBounds_toArray, List.set_cons_zero, List.set_cons_succ]
  refine regTake 3 (some 6) (v := ?_) rfl rfl (by kernel_rfl) (by kernel_rfl) (by kernel_rfl) (fun _ _ _ h => h) (by rfl) hHeld ?_ ?_
  rotate_left 1
  · (intro w hSw; (try dsimp only at hSw); go_simp; try with_reducible rfl)
  simp only [Act.put, List.setIfInBounds_toArray, List.set_cons_zero, List.set_cons_succ]
  refine regCall 4 (some 7) (f := 12) (args := ?_) rfl rfl (by kernel_rfl) (by rfl) ?_ ?_
  rotate_left 1
  · (go_simp; try with_reducible rfl)
  refine (MS.out _).mono ?_
  rintro e wx4 ⟨rfl, kg1⟩
  refine ⟨_, rfl, ⟨(HV2.out.step kg1 rfl).cell 0, (HV2.out.step kg1 rfl).cell 1, (HV2.out.step kg1 rfl).cell 2, (HV2.out.step kg1 rfl).cell 3⟩, fun hHeld => ?_⟩
  simp only [Act.put, List.setIfInBounds_toArray, List.set_cons_zero, List.set_cons_succ]
  have HBg1 := Lib.hid ((HB2.out.drew).trans (kg1.mono (Nat.le_trans hbase (HB2.out.drew).size)))
  have Hbg1 := Lib.hid (HV2.out.step kg1 rfl)
  clear kg1
  refine regTake 5 (some 8) (v := ?_) rfl rfl (by kernel_rfl) (by kernel_rfl) (by kernel_rfl) (fun _ _ _ h => h) (by rfl) hHeld ?_ ?_
  rotate_left 1
  · (intro w hSw; (try dsimp only at hSw); go_simp; try with_reducible rfl)
  simp only [Act.put, List.setIfInBounds_toArray, List.set_cons_zero, List.set_cons_succ]
  refine regTake 6 (some 9) (v := ?_) rfl rfl (by kernel_rfl) (by kernel_rfl) (by kernel_rfl) (fun _ _ _ h => h) (by rfl) hHeld ?_ ?_
  rotate_left 1
  · (intro w hSw; (try dsimp only at hSw); go_simp; try with_reducible rfl)
  simp only [Act.put, List.setIfInBounds_toArray, List.set_cons_zero, List.set_cons_succ]
  refine regTake 7 (some 10) (v := ?_) rfl rfl (by kernel_rfl) (by kernel_rfl) (by kernel_rfl) (fun _ _ _ h => h) (by rfl) hHeld ?_ ?_
  rotate_left 1
  · (intro w hSw; (try dsimp only at hSw); go_simp; try with_reducible rfl)
  simp only [Act.put, List.setIfInBounds_toArray, List.set_cons_zero, List.set_cons_succ]
  refine regTake 8 (some 11) (v := .bool true) rfl rfl (by kernel_rfl) (by kernel_rfl) (by kernel_rfl) (fun _ _ _ h => h) (by rfl) hHeld ?_ ?_
  · (intro w hSw; (try dsimp only at hSw); go_simp; try with_reducible rfl)
  simp only [Act.put, List.setIfInBounds_toArray, List.set_cons_zero, List.set_cons_succ]
  refine regTake 9 (some 12) (v := ?_) rfl rfl (by kernel_rfl) (by kernel_rfl) (by kernel_rfl) (fun _ _ _ h => h) (by rfl) hHeld ?_ ?_
  rotate_left 1
  · (intro w hSw; (try dsimp only at hSw); go_simp; try with_reducible rfl)
  simp only [Act.put, List.setIfInBounds_toArray, List.set_cons_zero, List.set_cons_succ]
  refine regTake 10 (some 13) (v := ?_) rfl rfl (by kernel_rfl) (by kernel_rfl) (by kernel_rfl) (fun _ _ _ h => h) (by rfl) hHeld ?_ ?_
  rotate_left 1
  · (intro w hSw; (try dsimp only at hSw); go_simp; try with_reducible rfl)
  simp only [Act.put, List.setIfInBounds_toArray, List.set_cons_zero, List.set_cons_succ]
  refine regTake 11 (some 14) (v := ?_) rfl rfl (by kernel_rfl) (by kernel_rfl) (by kernel_rfl) (fun _ _ _ h => h) (by rfl) hHeld ?_ ?_
  rotate_left 1
  · (intro w hSw; (try dsimp only at hSw); go_simp; try with_reducible rfl)
  simp only [Act.put, List.setIfInBounds_toArray, List.set_cons_zero, List.set_cons_succ]
  refine regTake 12 (some 15) (v := ?_) rfl rfl (by kernel_rfl) (by kernel_rfl) (by kernel_rfl) (fun _ _ _ h => h) (by rfl) hHeld ?_ ?_
  rotate_left 1
  · (intro w hSw; (try dsimp only at hSw); go_simp; try with_reducible rfl)
  simp only [Act.put, List.setIfInBounds_toArray, List.set_cons_zero, List.set_cons_succ]
  refine regTake 13 (some 16) (v := .bool true) rfl rfl (by kernel_rfl) (by kernel_rfl) (by kernel_rfl) (fun _ _ _ h => h) (by rfl) hHeld ?_ ?_
  · (intro w hSw; (try dsimp only at hSw); go_simp; try with_reducible rfl)
  simp only [Act.put, List.setIfInBounds_toArray, List.set_cons_zero, List.set_cons_succ]
  refine regTake 14 (some 17) (v := ?_) rfl rfl (by kernel_rfl) (by kernel_rfl) (by kernel_rfl) (fun _ _ _ h => h) (by rfl) hHeld ?_ ?_
  rotate_left 1
  · (intro w hSw; (try dsimp only at hSw); go_simp; try with_reducible rfl)
  simp only [Act.put, List.setIfInBounds_toArray, List.set_cons_zero, List.set_cons_succ]
  refine regTake 15 (some 18) (v := ?_) rfl rfl (by kernel_rfl) (by kernel_rfl) (by kernel_rfl) (fun _ _ _ h => h) (by rfl) hHeld ?_ ?_
  rotate_left 1
  · (intro w hSw; (try dsimp only at hSw); go_simp; try with_reducible rfl)
  simp only [Act.put, List.setIfInBounds_toArray, List.set_cons_zero, List.set_cons_succ]
  refine regTake 16 (some 19) (v := ?_) rfl rfl (by kernel_rfl) (by kernel_rfl) (by kernel_rfl) (fun _ _ _ h => h) (by rfl) hHeld ?_ ?_
  rotate_left 1
  · (intro w hSw; (try dsimp only at hSw); go_simp; try with_reducible rfl)
  simp only [Act.put, List.setIfInBounds_toArray, List.set_cons_zero, List.set_cons_succ]
  refine regTake 17 (some 20) (v := ?_) rfl rfl (by kernel_rfl) (by kernel_rfl) (by kernel_rfl) (fun _ _ _ h => h) (by rfl) hHeld ?_ ?_
  rotate_left 1
  · (intro w hSw; (try dsimp only at hSw); go_simp; try with_reducible rfl)
  simp only [Act.put, List.setIfInBounds_toArray, List.set_cons_zero, List.set_cons_succ]
  refine regTake 18 (some 21) (v := .bool true) rfl rfl (by kernel_rfl) (by kernel_rfl) (by kernel_rfl) (fun _ _ _ h => h) (by rfl) hHeld ?_ ?_
  · (intro w hSw; (try dsimp only at hSw); go_simp; try with_reducible rfl)
  simp only [Act.put, List.setIfInBounds_toArray, List.set_cons_zero, List.set_cons_succ]
  refine regTake 19 (some 22) (v := ?_) rfl rfl (by kernel_rfl) (by kernel_rfl) (by kernel_rfl) (fun _ _ _ h => h) (by rfl) hHeld ?_ ?_
  rotate_left 1
  · (intro w hSw; (try dsimp only at hSw); go_simp; try with_reducible rfl)
  simp only [Act.put, List.setIfInBounds_toArray, List.set_cons_zero, List.set_cons_succ]
  refine regTake 20 (some 23) (v := ?_) rfl rfl (by kernel_rfl) (by kernel_rfl) (by kernel_rfl) (fun _ _ _ h => h) (by rfl) hHeld ?_ ?_
  rotate_left 1
  · (intro w hSw; (try dsimp only at hSw); go_simp; try with_reducible rfl)
  simp only [Act.put, List.setIfInBounds_toArray, List.set_cons_zero, List.set_cons_succ]
  refine regTake 21 (some 24) (v := ?_) rfl rfl (by kernel_rfl) (by kernel_rfl) (by kernel_rfl) (fun _ _ _ h => h) (by rfl) hHeld ?_ ?_
  rotate_left 1
  · (intro w hSw; (try dsimp only at hSw); go_simp; try with_reducible rfl)
  simp only [Act.put, List.setIfInBounds_toArray, List.set_cons_zero, List.set_cons_succ]
  refine regTake 22 (some 25) (v := ?_) rfl rfl (by kernel_rfl) (by kernel_rfl) (by kernel_rfl) (fun _ _ _ h => h) (by rfl) hHeld ?_ ?_
  rotate_left 1
  · (intro w hSw; (try dsimp only at hSw); go_simp; try with_reducible rfl)
  simp only [Act.put, List.setIfInBounds_toArray, List.set_cons_zero, List.set_cons_succ]
  refine regTake 23 (some 26) (v := ?_) rfl rfl (by kernel_rfl) (by kernel_rfl) (by kernel_rfl) (fun _ _ _ h => h) (by rfl) hHeld ?_ ?_
  rotate_left 1
  · (intro w hSw; (try dsimp only at hSw); go_simp; try with_reducible rfl)
  simp only [Act.put, List.setIfInBounds_toArray, List.set_cons_zero, List.set_cons_succ]
  refine regTake 24 (some 27) (v := ?_) rfl rfl (by kernel_rfl) (by kernel_rfl) (by kernel_rfl) (fun _ _ _ h => h) (by rfl) hHeld ?_ ?_
  rotate_left 1
  · (intro w hSw; (try dsimp only at hSw); go_simp; try with_reducible rfl)
  simp only [Act.put, List.setIfInBounds_toArray, List.set_cons_zero, List.set_cons_succ]
  refine regTake 25 (some 28) (v := ?_) rfl rfl (by kernel_rfl) (by kernel_rfl) (by kernel_rfl) (fun _ _ _ h => h) (by rfl) hHeld ?_ ?_
  rotate_left 1
  · (intro w hSw; (try dsimp only at hSw); go_simp; try with_reducible rfl)
  simp only [Act.put, List.setIfInBounds_toArray, List.set_cons_zero, List.set_cons_succ]
  refine regCall 26 (some 29) (f := 23) (args := ?_) rfl rfl (by kernel_rfl) (by rfl) ?_ ?_
  rotate_left 1
  · (go_simp; try with_reducible rfl)
  refine (MM.out _).mono ?_
  rintro e wx26 ⟨rfl, kg2⟩
  refine ⟨_, rfl, ⟨(Hbg1.out.step kg2 rfl).cell 0, (Hbg1.out.step kg2 rfl).cell 1, (Hbg1.out.step kg2 rfl).cell 2, (Hbg1.out.step kg2 rfl).cell 3⟩, fun hHeld => ?_⟩
  simp only [Act.put, List.setIfInBounds_toArray, List.set_cons_zero, List.set_cons_succ]
  have HBg2 := Lib.hid ((HBg1.out).trans (kg2.mono (Nat.le_trans hbase (HBg1.out).size)))
  have Hbg2 := Lib.hid (Hbg1.out.step kg2 rfl)
  clear kg2
  refine regTake 27 (some 30) (v := ?_) rfl rfl (by kernel_rfl) (by kernel_rfl) (by kernel_rfl) (fun _ _ _ h => h) (by rfl) hHeld ?_ ?_
  rotate_left 1
  · (intro w hSw; (try dsimp only at hSw); go_simp; try with_reducible rfl)
  simp only [Act.put, List.setIfInBounds_toArray, List.set_cons_zero, List.set_cons_succ]
  refine regTake 28 (some 31) (v := .bool false) rfl rfl (by kernel_rfl) (by kernel_rfl) (by kernel_rfl) (fun _ _ _ h => h) (by rfl) hHeld ?_ ?_
  · (intro w hSw; (try dsimp only at hSw); go_simp; try with_reducible rfl)
  simp only [Act.put, List.setIfInBounds_toArray, List.set_cons_zero, List.set_cons_succ]
  refine regTake 29 (some 32) (v := ?_) rfl rfl (by kernel_rfl) (by kernel_rfl) (by kernel_rfl) (fun _ _ _ h => h) (by rfl) hHeld ?_ ?_
  rotate_left 1
  · (intro w hSw; (try dsimp only at hSw); go_simp; try with_reducible rfl)
  simp only [Act.put, List.setIfInBounds_toArray, List.set_cons_zero, List.set_cons_succ]
  refine regTake 30 (some 2) (v := ?_) rfl rfl (by kernel_rfl) (by kernel_rfl) (by kernel_rfl) (fun _ _ _ h => h) (by rfl) hHeld ?_ ?_
  rotate_left 1
  · (intro w hSw; (try dsimp only at hSw); go_simp; try with_reducible rfl)
  simp only [Act.put, List.setIfInBounds_toArray, List.set_cons_zero, List.set_cons_succ]
  refine wpAnyH_done (by kernel_rfl) ?_ _
  clear hHeld
  go_wp2
  go_ret
  exact ⟨rfl, HBg2.out⟩
set_option linter.unusedSimpArgs false in
set_option linter.unusedVariables false in
set_option maxHeartbeats 8000000 in
set_option maxRecDepth 100000 in
theorem right16_5 (kind size m sum M P : Int) (w : World) (ms : (∀ W, Calls Try.prog 12 #[.int .i64 kind, .int .i64 size] W fun e w' => e = .returned (.bool true) ∧ Below W.heap.size W w')) (mm : (∀ W, Calls Try.prog 23 #[.agg #[.int .i64 kind, .int .i64 size, .int .i64 m, .int .i64 sum]] W fun e w' => e = .returned (.int .i64 M) ∧ Below W.heap.size W w')) (h1 : 0 ≤ m) (h2 : m ≤ 25) (h3 : 0 ≤ sum) (h4 : sum ≤ P) (e1 : IntKind.i64.wrap (m * M) = P) : Calls Try.prog 10 #[.agg #[.int .i64 kind, .int .i64 size, .int .i64 m, .int .i64 sum]] w fun e w' => e = .returned (.bool true) ∧ Below w.heap.size w w' := by
  have MS := Lib.hid ms; have MM := Lib.hid mm
  clear ms mm
  obtain ⟨w2, hw2⟩ : ∃ w2, w.alloc (.cells #[.int .i64 kind, .int .i64 size, .int .i64 m, .int .i64 sum] 23) = w2 := ⟨_, rfl⟩
  have HB2 := Lib.hid (show Below w.heap.size w w2 by rw [← hw2]; exact (Below.refl _ _).alloc (Nat.le_refl _) _)
  have HV2 := Lib.hid (show Has w2 w.heap.size [.int .i64 kind, .int .i64 size, .int .i64 m, .int .i64 sum] 23 by rw [← hw2]; exact Has.new w _ _)
  have HW2 := Lib.hid hw2
  clear hw2
  have hbase := Nat.le_refl w.heap.size
  go_enter Try.func10, Try.ntmps10
  go_upto_region 1 with fail
  rw [HW2.out]
  refine wp_region_held_drew (S := (fun W' => W'.cell? ⟨w.heap.size, 0, none⟩ = some (.int .i64 kind) ∧ W'.cell? ⟨w.heap.size, 1, none⟩ = some (.int .i64 size) ∧ W'.cell? ⟨w.heap.size, 2, none⟩ = some (.int .i64 m) ∧ W'.cell? ⟨w.heap.size, 3, none⟩ = some (.int .i64 sum))) (by kernel_rfl) ⟨HV2.out.cell 0, HV2.out.cell 1, HV2.out.cell 2, HV2.out.cell 3⟩ (fun hHeld => ?_)
  refine regTake 0 (some 3) (v := ?_) rfl rfl (by kernel_rfl) (by kernel_rfl) (by kernel_rfl) (fun _ _ _ h => h) (by rfl) hHeld ?_ ?_
  rotate_left 1
  · (intro w hSw; (try dsimp only at hSw); go_simp; try with_reducible rfl)
  simp only [Act.put, List.setIfInBounds_toArray, List.set_cons_zero, List.set_cons_succ]
  refine regTake 1 (some 4) (v := ?_) rfl rfl (by kernel_rfl) (by kernel_rfl) (by kernel_rfl) (fun _ _ _ h => h) (by rfl) hHeld ?_ ?_
  rotate_left 1
  · (intro w hSw; (try dsimp only at hSw); go_simp; try with_reducible rfl)
  simp only [Act.put, List.setIfInBounds_toArray, List.set_cons_zero, List.set_cons_succ]
  refine regTake 2 (some 5) (v := ?_) rfl rfl (by kernel_rfl) (by kernel_rfl) (by kernel_rfl) (fun _ _ _ h => h) (by rfl) hHeld ?_ ?_
  rotate_left 1
  · (intro w hSw; (try dsimp only at hSw); go_simp; try with_reducible rfl)
  simp only [Act.put, List.setIfInBounds_toArray, List.set_cons_zero, List.set_cons_succ]
  refine regTake 3 (some 6) (v := ?_) rfl rfl (by kernel_rfl) (by kernel_rfl) (by kernel_rfl) (fun _ _ _ h => h) (by rfl) hHeld ?_ ?_
  rotate_left 1
  · (intro w hSw; (try dsimp only at hSw); go_simp; try with_reducible rfl)
  simp only [Act.put, List.setIfInBounds_toArray, List.set_cons_zero, List.set_cons_succ]
  refine regCall 4 (some 7) (f := 12) (args := ?_) rfl rfl (by kernel_rfl) (by rfl) ?_ ?_
  rotate_left 1
  · (go_simp; try with_reducible rfl)
  refine (MS.out _).mono ?_
  rintro e wx4 ⟨rfl, kg1⟩
  refine ⟨_, rfl, ⟨(HV2.out.step kg1 rfl).cell 0, (HV2.out.step kg1 rfl).cell 1, (HV2.out.step kg1 rfl).cell 2, (HV2.out.step kg1 rfl).cell 3⟩, fun hHeld => ?_⟩
  simp only [Act.put, List.setIfInBounds_toArray, List.set_cons_zero, List.set_cons_succ]
  have HBg1 := Lib.hid ((HB2.out.drew).trans (kg1.mono (Nat.le_trans hbase (HB2.out.drew).size)))
  have Hbg1 := Lib.hid (HV2.out.step kg1 rfl)
  clear kg1
  refine regTake 5 (some 8) (v := ?_) rfl rfl (by kernel_rfl) (by kernel_rfl) (by kernel_rfl) (fun _ _ _ h => h) (by rfl) hHeld ?_ ?_
  rotate_left 1
  · (intro w hSw; (try dsimp only at hSw); go_simp; try with_reducible rfl)
  simp only [Act.put, List.setIfInBounds_toArray, List.set_cons_zero, List.set_cons_succ]
  refine regTake 6 (some 9) (v := ?_) rfl rfl (by kernel_rfl) (by kernel_rfl) (by kernel_rfl) (fun _ _ _ h => h) (by rfl) hHeld ?_ ?_
  rotate_left 1
  · (intro w hSw; (try dsimp only at hSw); go_simp; try with_reducible rfl)
  simp only [Act.put, List.setIfInBounds_toArray, List.set_cons_zero, List.set_cons_succ]
  refine regTake 7 (some 10) (v := ?_) rfl rfl (by kernel_rfl) (by kernel_rfl) (by kernel_rfl) (fun _ _ _ h => h) (by rfl) hHeld ?_ ?_
  rotate_left 1
  · (intro w hSw; (try dsimp only at hSw); go_simp; try with_reducible rfl)
  simp only [Act.put, List.setIfInBounds_toArray, List.set_cons_zero, List.set_cons_succ]
  refine regTake 8 (some 11) (v := .bool true) rfl rfl (by kernel_rfl) (by kernel_rfl) (by kernel_rfl) (fun _ _ _ h => h) (by rfl) hHeld ?_ ?_
  · (intro w hSw; (try dsimp only at hSw); go_simp; try with_reducible rfl)
  simp only [Act.put, List.setIfInBounds_toArray, List.set_cons_zero, List.set_cons_succ]
  refine regTake 9 (some 12) (v := ?_) rfl rfl (by kernel_rfl) (by kernel_rfl) (by kernel_rfl) (fun _ _ _ h => h) (by rfl) hHeld ?_ ?_
  rotate_left 1
  · (intro w hSw; (try dsimp only at hSw); go_simp; try with_reducible rfl)
  simp only [Act.put, List.setIfInBounds_toArray, List.set_cons_zero, List.set_cons_succ]
  refine regTake 10 (some 13) (v := ?_) rfl rfl (by kernel_rfl) (by kernel_rfl) (by kernel_rfl) (fun _ _ _ h => h) (by rfl) hHeld ?_ ?_
  rotate_left 1
  · (intro w hSw; (try dsimp only at hSw); go_simp; try with_reducible rfl)
  simp only [Act.put, List.setIfInBounds_toArray, List.set_cons_zero, List.set_cons_succ]
  refine regTake 11 (some 14) (v := ?_) rfl rfl (by kernel_rfl) (by kernel_rfl) (by kernel_rfl) (fun _ _ _ h => h) (by rfl) hHeld ?_ ?_
  rotate_left 1
  · (intro w hSw; (try dsimp only at hSw); go_simp; try with_reducible rfl)
  simp only [Act.put, List.setIfInBounds_toArray, List.set_cons_zero, List.set_cons_succ]
  refine regTake 12 (some 15) (v := ?_) rfl rfl (by kernel_rfl) (by kernel_rfl) (by kernel_rfl) (fun _ _ _ h => h) (by rfl) hHeld ?_ ?_
  rotate_left 1
  · (intro w hSw; (try dsimp only at hSw); go_simp; try with_reducible rfl)
  simp only [Act.put, List.setIfInBounds_toArray, List.set_cons_zero, List.set_cons_succ]
  refine regTake 13 (some 16) (v := .bool true) rfl rfl (by kernel_rfl) (by kernel_rfl) (by kernel_rfl) (fun _ _ _ h => h) (by rfl) hHeld ?_ ?_
  · (intro w hSw; (try dsimp only at hSw); go_simp; try with_reducible rfl)
  simp only [Act.put, List.setIfInBounds_toArray, List.set_cons_zero, List.set_cons_succ]
  refine regTake 14 (some 17) (v := ?_) rfl rfl (by kernel_rfl) (by kernel_rfl) (by kernel_rfl) (fun _ _ _ h => h) (by rfl) hHeld ?_ ?_
  rotate_left 1
  · (intro w hSw; (try dsimp only at hSw); go_simp; try with_reducible rfl)
  simp only [Act.put, List.setIfInBounds_toArray, List.set_cons_zero, List.set_cons_succ]
  refine regTake 15 (some 18) (v := ?_) rfl rfl (by kernel_rfl) (by kernel_rfl) (by kernel_rfl) (fun _ _ _ h => h) (by rfl) hHeld ?_ ?_
  rotate_left 1
  · (intro w hSw; (try dsimp only at hSw); go_simp; try with_reducible rfl)
  simp only [Act.put, List.setIfInBounds_toArray, List.set_cons_zero, List.set_cons_succ]
  refine regTake 16 (some 19) (v := ?_) rfl rfl (by kernel_rfl) (by kernel_rfl) (by kernel_rfl) (fun _ _ _ h => h) (by rfl) hHeld ?_ ?_
  rotate_left 1
  · (intro w hSw; (try dsimp only at hSw); go_simp; try with_reducible rfl)
  simp only [Act.put, List.setIfInBounds_toArray, List.set_cons_zero, List.set_cons_succ]
  refine regTake 17 (some 20) (v := ?_) rfl rfl (by kernel_rfl) (by kernel_rfl) (by kernel_rfl) (fun _ _ _ h => h) (by rfl) hHeld ?_ ?_
  rotate_left 1
  · (intro w hSw; (try dsimp only at hSw); go_simp; try with_reducible rfl)
  simp only [Act.put, List.setIfInBounds_toArray, List.set_cons_zero, List.set_cons_succ]
  refine regTake 18 (some 21) (v := .bool true) rfl rfl (by kernel_rfl) (by kernel_rfl) (by kernel_rfl) (fun _ _ _ h => h) (by rfl) hHeld ?_ ?_
  · (intro w hSw; (try dsimp only at hSw); go_simp; try with_reducible rfl)
  simp only [Act.put, List.setIfInBounds_toArray, List.set_cons_zero, List.set_cons_succ]
  refine regTake 19 (some 22) (v := ?_) rfl rfl (by kernel_rfl) (by kernel_rfl) (by kernel_rfl) (fun _ _ _ h => h) (by rfl) hHeld ?_ ?_
  rotate_left 1
  · (intro w hSw; (try dsimp only at hSw); go_simp; try with_reducible rfl)
  simp only [Act.put, List.setIfInBounds_toArray, List.set_cons_zero, List.set_cons_succ]
  refine regTake 20 (some 23) (v := ?_) rfl rfl (by kernel_rfl) (by kernel_rfl) (by kernel_rfl) (fun _ _ _ h => h) (by rfl) hHeld ?_ ?_
  rotate_left 1
  · (intro w hSw; (try dsimp only at hSw); go_simp; try with_reducible rfl)
  simp only [Act.put, List.setIfInBounds_toArray, List.set_cons_zero, List.set_cons_succ]
  refine regTake 21 (some 24) (v := ?_) rfl rfl (by kernel_rfl) (by kernel_rfl) (by kernel_rfl) (fun _ _ _ h => h) (by rfl) hHeld ?_ ?_
  rotate_left 1
  · (intro w hSw; (try dsimp only at hSw); go_simp; try with_reducible rfl)
  simp only [Act.put, List.setIfInBounds_toArray, List.set_cons_zero, List.set_cons_succ]
  refine regTake 22 (some 25) (v := ?_) rfl rfl (by kernel_rfl) (by kernel_rfl) (by kernel_rfl) (fun _ _ _ h => h) (by rfl) hHeld ?_ ?_
  rotate_left 1
  · (intro w hSw; (try dsimp only at hSw); go_simp; try with_reducible rfl)
  simp only [Act.put, List.setIfInBounds_toArray, List.set_cons_zero, List.set_cons_succ]
  refine regTake 23 (some 26) (v := ?_) rfl rfl (by kernel_rfl) (by kernel_rfl) (by kernel_rfl) (fun _ _ _ h => h) (by rfl) hHeld ?_ ?_
  rotate_left 1
  · (intro w hSw; (try dsimp only at hSw); go_simp; try with_reducible rfl)
  simp only [Act.put, List.setIfInBounds_toArray, List.set_cons_zero, List.set_cons_succ]
  refine regTake 24 (some 27) (v := ?_) rfl rfl (by kernel_rfl) (by kernel_rfl) (by kernel_rfl) (fun _ _ _ h => h) (by rfl) hHeld ?_ ?_
  rotate_left 1
  · (intro w hSw; (try dsimp only at hSw); go_simp; try with_reducible rfl)
  simp only [Act.put, List.setIfInBounds_toArray, List.set_cons_zero, List.set_cons_succ]
  refine regTake 25 (some 28) (v := ?_) rfl rfl (by kernel_rfl) (by kernel_rfl) (by kernel_rfl) (fun _ _ _ h => h) (by rfl) hHeld ?_ ?_
  rotate_left 1
  · (intro w hSw; (try dsimp only at hSw); go_simp; try with_reducible rfl)
  simp only [Act.put, List.setIfInBounds_toArray, List.set_cons_zero, List.set_cons_succ]
  refine regCall 26 (some 29) (f := 23) (args := ?_) rfl rfl (by kernel_rfl) (by rfl) ?_ ?_
  rotate_left 1
  · (go_simp; try with_reducible rfl)
  refine (MM.out _).mono ?_
  rintro e wx26 ⟨rfl, kg2⟩
  refine ⟨_, rfl, ⟨(Hbg1.out.step kg2 rfl).cell 0, (Hbg1.out.step kg2 rfl).cell 1, (Hbg1.out.step kg2 rfl).cell 2, (Hbg1.out.step kg2 rfl).cell 3⟩, fun hHeld => ?_⟩
  simp only [Act.put, List.setIfInBounds_toArray, List.set_cons_zero, List.set_cons_succ]
  have HBg2 := Lib.hid ((HBg1.out).trans (kg2.mono (Nat.le_trans hbase (HBg1.out).size)))
  have Hbg2 := Lib.hid (Hbg1.out.step kg2 rfl)
  clear kg2
  refine regTake 27 (some 30) (v := ?_) rfl rfl (by kernel_rfl) (by kernel_rfl) (by kernel_rfl) (fun _ _ _ h => h) (by rfl) hHeld ?_ ?_
  rotate_left 1
  · (intro w hSw; (try dsimp only at hSw); go_simp; try with_reducible rfl)
  simp only [Act.put, List.setIfInBounds_toArray, List.set_cons_zero, List.set_cons_succ]
  refine regTake 28 (some 31) (v := .bool true) rfl rfl (by kernel_rfl) (by kernel_rfl) (by kernel_rfl) (fun _ _ _ h => h) (by rfl) hHeld ?_ ?_
  · (intro w hSw; (try dsimp only at hSw); go_simp; try with_reducible rfl)
  simp only [Act.put, List.setIfInBounds_toArray, List.set_cons_zero, List.set_cons_succ]
  refine regTake 29 (some 32) (v := ?_) rfl rfl (by kernel_rfl) (by kernel_rfl) (by kernel_rfl) (fun _ _ _ h => h) (by rfl) hHeld ?_ ?_
  rotate_left 1
  · (intro w hSw; (try dsimp only at hSw); go_simp; try with_reducible rfl)
  simp only [Act.put, List.setIfInBounds_toArray, List.set_cons_zero, List.set_cons_succ]
  refine regTake 30 (some 2) (v := ?_) rfl rfl (by kernel_rfl) (by kernel_rfl) (by kernel_rfl) (fun _ _ _ h => h) (by rfl) hHeld ?_ ?_
  rotate_left 1
  · (intro w hSw; (try dsimp only at hSw); go_simp; try with_reducible rfl)
  simp only [Act.put, List.setIfInBounds_toArray, List.set_cons_zero, List.set_cons_succ]
  refine wpAnyH_done (by kernel_rfl) ?_ _
  clear hHeld
  go_wp2
  go_ret
  exact ⟨rfl, HBg2.out⟩
theorem right16_any (t : Tal) (w : World) : Calls Try.prog 10 #[talV t] w fun e w' => e = .returned (.bool (talB t)) ∧ Below w.heap.size w w' := by
  have MS := fun W => below16 (sizes16_any t.kind t.size W)
  have MM := fun W => most16_any t W
  have hmb := most_bounds (t := t)
  obtain ⟨M, hM⟩ : ∃ M, mostT t = M := ⟨_, rfl⟩
  have no : ¬ talOk t → talB t = false := fun h => decide_eq_false h
  have unf : talOk t ↔ sizesP t.kind t.size ∧ 0 ≤ t.m ∧ t.m ≤ 25 ∧ 0 ≤ t.sum ∧ t.sum ≤ t.m * mostT t := Iff.rfl
  rw [hM] at MM unf hmb
  by_cases h0 : sizesP t.kind t.size
  · rw [show sizesB t.kind t.size = true from decide_eq_true h0] at MS
    have hmb := hmb h0
    by_cases h1 : 0 ≤ t.m
    rotate_left
    · rw [no (fun h => by have := unf.1 h; omega)]; exact right16_1 _ _ _ _ w MS h1
    by_cases h2 : t.m ≤ 25
    rotate_left
    · rw [no (fun h => by have := unf.1 h; omega)]; exact right16_2 _ _ _ _ w MS h1 h2
    by_cases h3 : 0 ≤ t.sum
    rotate_left
    · rw [no (fun h => by have := unf.1 h; omega)]; exact right16_3 _ _ _ _ w MS h1 h2 h3
    have hb := mulB (show -25 ≤ t.m ∧ t.m ≤ 25 by omega) (show -1000000 ≤ M ∧ M ≤ 1000000 by omega)
    have e1 : IntKind.i64.wrap (t.m * M) = t.m * M := wrapJ (by omega)
    by_cases h4 : t.sum ≤ t.m * M
    · rw [show talB t = true from decide_eq_true (unf.2 ⟨h0, h1, h2, h3, h4⟩)]; exact right16_5 _ _ _ _ M _ w MS MM h1 h2 h3 h4 e1
    · rw [no (fun h => h4 (unf.1 h).2.2.2.2)]; exact right16_4 _ _ _ _ M _ w MS MM h1 h2 h3 h4 e1
  · rw [no (fun h => h0 (unf.1 h).1)]
    rw [show sizesB t.kind t.size = false from decide_eq_false h0] at MS
    exact right16_0 _ _ _ _ w MS
set_option linter.unusedSimpArgs false in
set_option linter.unusedVariables false in
set_option maxHeartbeats 8000000 in
set_option maxRecDepth 100000 in
theorem count16_0 (kind size m sum d : Int) (h : ¬ 0 ≤ d) (w : World) : Calls Try.prog 13 #[.agg #[.int .i64 kind, .int .i64 size, .int .i64 m, .int .i64 sum], .int .i64 d] w fun e w' => e = .returned (.bool false) ∧ Below w.heap.size w w' := by
  obtain ⟨w2, hw2⟩ : ∃ w2, w.alloc (.cells #[.int .i64 kind, .int .i64 size, .int .i64 m, .int .i64 sum] 23) = w2 := ⟨_, rfl⟩
  have HB2 := Lib.hid (show Below w.heap.size w w2 by rw [← hw2]; exact (Below.refl _ _).alloc (Nat.le_refl _) _)
  have HV2 := Lib.hid (show Has w2 w.heap.size [.int .i64 kind, .int .i64 size, .int .i64 m, .int .i64 sum] 23 by rw [← hw2]; exact Has.new w _ _)
  have HW2 := Lib.hid hw2
  clear hw2
  have hbase := Nat.le_refl w.heap.size
  go_enter Try.func13, Try.ntmps13
  go_upto_region 1 with fail
  rw [HW2.out]
  have qb0_0 : w2.cell? ⟨w.heap.size, 0, none⟩ = some (.int .i64 kind) := HV2.out.cell 0
  have qb1_0 : w2.cell? ⟨w.heap.size, 1, none⟩ = some (.int .i64 size) := HV2.out.cell 1
  have qb2_0 : w2.cell? ⟨w.heap.size, 2, none⟩ = some (.int .i64 m) := HV2.out.cell 2
  have qb3_0 : w2.cell? ⟨w.heap.size, 3, none⟩ = some (.int .i64 sum) := HV2.out.cell 3
  have lb_0 : w.heap.size < w2.heap.size := HV2.out.lt
  go_wp2
  go_ret
  exact ⟨rfl, HB2.out⟩
set_option linter.unusedSimpArgs false in
set_option linter.unusedVariables false in
set_option maxHeartbeats 8000000 in
set_option maxRecDepth 100000 in
theorem count16_1 (kind size m sum d M : Int) (D : Bool) (w : World) (mm : (∀ W, Calls Try.prog 23 #[.agg #[.int .i64 kind, .int .i64 size, .int .i64 m, .int .i64 sum]] W fun e w' => e = .returned (.int .i64 M) ∧ Below W.heap.size W w')) (h : 0 ≤ d) (hD : decide (d ≤ M) = D) : Calls Try.prog 13 #[.agg #[.int .i64 kind, .int .i64 size, .int .i64 m, .int .i64 sum], .int .i64 d] w fun e w' => e = .returned (.bool D) ∧ Below w.heap.size w w' := by
  have MM := Lib.hid mm
  clear mm
  obtain ⟨w2, hw2⟩ : ∃ w2, w.alloc (.cells #[.int .i64 kind, .int .i64 size, .int .i64 m, .int .i64 sum] 23) = w2 := ⟨_, rfl⟩
  have HB2 := Lib.hid (show Below w.heap.size w w2 by rw [← hw2]; exact (Below.refl _ _).alloc (Nat.le_refl _) _)
  have HV2 := Lib.hid (show Has w2 w.heap.size [.int .i64 kind, .int .i64 size, .int .i64 m, .int .i64 sum] 23 by rw [← hw2]; exact Has.new w _ _)
  have HW2 := Lib.hid hw2
  clear hw2
  have hbase := Nat.le_refl w.heap.size
  go_enter Try.func13, Try.ntmps13
  go_upto_region 1 with fail
  rw [HW2.out]
  have qb0_0 : w2.cell? ⟨w.heap.size, 0, none⟩ = some (.int .i64 kind) := HV2.out.cell 0
  have qb1_0 : w2.cell? ⟨w.heap.size, 1, none⟩ = some (.int .i64 size) := HV2.out.cell 1
  have qb2_0 : w2.cell? ⟨w.heap.size, 2, none⟩ = some (.int .i64 m) := HV2.out.cell 2
  have qb3_0 : w2.cell? ⟨w.heap.size, 3, none⟩ = some (.int .i64 sum) := HV2.out.cell 3
  have lb_0 : w.heap.size < w2.heap.size := HV2.out.lt
  have hcz1 := MM.out w2
  go_wp2_with fail
  refine hcz1.mono ?_
  rintro e wz1 ⟨rfl, kz1⟩
  clear hcz1 qb0_0 qb1_0 qb2_0 qb3_0 lb_0
  have HBz1 := Lib.hid (HB2.out.trans (kz1.mono (Nat.le_trans hbase HB2.out.size)))
  have Hbz1 := Lib.hid (HV2.out.call kz1)
  clear kz1
  go_wp2
  go_ret
  exact ⟨rfl, HBz1.out⟩
theorem count16_any (t : Tal) (d : Int) (w : World) : Calls Try.prog 13 #[talV t, .int .i64 d] w fun e w' => e = .returned (.bool (cntB t d)) ∧ Below w.heap.size w w' := by
  unfold cntB
  by_cases h : 0 ≤ d
  · exact count16_1 _ _ _ _ d _ _ w (fun W => most16_any t W) h (decide_eq_decide.2 (by omega))
  · rw [decide_eq_false (by omega)]; exact count16_0 _ _ _ _ d h w
set_option linter.unusedSimpArgs false in
set_option linter.unusedVariables false in
set_option maxHeartbeats 8000000 in
set_option maxRecDepth 100000 in
theorem take16_core (kind size m sum d M S : Int) (w : World) (e1 : wrap64 (m + 1) = M) (e2 : wrap64 (sum + d) = S) :
    Calls Try.prog 14 #[.agg #[.int .i64 kind, .int .i64 size, .int .i64 m, .int .i64 sum], .int .i64 d] w fun e w' => e = .returned (.agg #[.int .i64 kind, .int .i64 size, .int .i64 M, .int .i64 S]) ∧ Below w.heap.size w w' := by
  obtain ⟨w2, hw2⟩ : ∃ w2, (w.alloc (.cells #[.int .i64 kind, .int .i64 size, .int .i64 m, .int .i64 sum] 23)).alloc (.cells #[.int .i64 0, .int .i64 0, .int .i64 0, .int .i64 0] 23) = w2 := ⟨_, rfl⟩
  have h2 : TwoB w w2 [.int .i64 kind, .int .i64 size, .int .i64 m, .int .i64 sum] [.int .i64 0, .int .i64 0, .int .i64 0, .int .i64 0] 23 23 := by rw [← hw2]; exact twoB w _ _ _ _
  have HB2 := Lib.hid h2.below; have HV2 := Lib.hid h2.a; have HZ2 := Lib.hid h2.b
  have HW2 := Lib.hid hw2
  clear hw2 h2
  have hbase := Nat.le_refl w.heap.size
  go_enter Try.func14, Try.ntmps14
  go_upto_region 1 with fail
  rw [HW2.out]
  have qb0_0 : w2.cell? ⟨w.heap.size, 0, none⟩ = some (.int .i64 kind) := HV2.out.cell 0
  have qb1_0 : w2.cell? ⟨w.heap.size, 1, none⟩ = some (.int .i64 size) := HV2.out.cell 1
  have qb2_0 : w2.cell? ⟨w.heap.size, 2, none⟩ = some (.int .i64 m) := HV2.out.cell 2
  have qb3_0 : w2.cell? ⟨w.heap.size, 3, none⟩ = some (.int .i64 sum) := HV2.out.cell 3
  have lb_0 : w.heap.size < w2.heap.size := HV2.out.lt
  have qz0_0 : w2.cell? ⟨w.heap.size + 1, 0, none⟩ = some (.int .i64 0) := HZ2.out.cell 0
  have qz1_0 : w2.cell? ⟨w.heap.size + 1, 1, none⟩ = some (.int .i64 0) := HZ2.out.cell 1
  have qz2_0 : w2.cell? ⟨w.heap.size + 1, 2, none⟩ = some (.int .i64 0) := HZ2.out.cell 2
  have qz3_0 : w2.cell? ⟨w.heap.size + 1, 3, none⟩ = some (.int .i64 0) := HZ2.out.cell 3
  have lz_0 : w.heap.size + 1 < w2.heap.size := HZ2.out.lt
  have zb0_0 : w2.frozen? ⟨w.heap.size, 0, none⟩ = false := HV2.out.frozen 0
  have zb1_0 : w2.frozen? ⟨w.heap.size, 1, none⟩ = false := HV2.out.frozen 1
  have zb2_0 : w2.frozen? ⟨w.heap.size, 2, none⟩ = false := HV2.out.frozen 2
  have zb3_0 : w2.frozen? ⟨w.heap.size, 3, none⟩ = false := HV2.out.frozen 3
  have zz0_0 : w2.frozen? ⟨w.heap.size + 1, 0, none⟩ = false := HZ2.out.frozen 0
  have zz1_0 : w2.frozen? ⟨w.heap.size + 1, 1, none⟩ = false := HZ2.out.frozen 1
  have zz2_0 : w2.frozen? ⟨w.heap.size + 1, 2, none⟩ = false := HZ2.out.frozen 2
  have zz3_0 : w2.frozen? ⟨w.heap.size + 1, 3, none⟩ = false := HZ2.out.frozen 3
  have HP := Lib.hid (((HZ2.out.other (p := ⟨w.heap.size, 2, none⟩) (by dsimp only; omega) (.int .i64 M)).other (p := ⟨w.heap.size, 3, none⟩) (by dsimp only; omega) (.int .i64 S)).put4B (.int .i64 kind) (.int .i64 size) (.int .i64 M) (.int .i64 S))
  have HQ := Lib.hid (Below.put4B ((HB2.out.setCell (p := ⟨w.heap.size, 2, none⟩) (Nat.le_refl _) (.int .i64 M)).setCell (p := ⟨w.heap.size, 3, none⟩) (Nat.le_refl _) (.int .i64 S)) (b := w.heap.size + 1) (by omega) (.int .i64 kind) (.int .i64 size) (.int .i64 M) (.int .i64 S))
  go_wp2_with fail
  (try simp only [Exit.inBlock, Exit.then])
  exact bodyPost_ret (resCellB rfl rfl (loadTal HP.out)) rfl ⟨rfl, HQ.out⟩
theorem take16_any (t : Tal) (d : Int) (h : talOk t) (hd : cntB t d = true) (w : World) : Calls Try.prog 14 #[talV t, .int .i64 d] w fun e w' => e = .returned (talV (takeT t d)) ∧ Below w.heap.size w w' := by
  have h1 := tsum_bounds h
  have h2 := tcnt_bounds h hd
  have h3 := h.2
  exact take16_core _ _ _ _ d _ _ w (wrapJ6 (by omega)) (wrapJ6 (by omega))
set_option linter.unusedSimpArgs false in
set_option linter.unusedVariables false in
set_option maxHeartbeats 8000000 in
set_option maxRecDepth 100000 in
theorem point16_4 (kind size m sum d den P cen dev : Int) (v : Nat) (w : World) (h : 4 ≤ kind) (hc : sum = cen) (e1 : wrap64 (m * size) = den) (e2 : wrap64 (d * m) = P) (e3 : wrap64 (P - sum) = dev) (e4 : wrap64 (sum * m) = (v : Nat)) (e5 : IntKind.u64.wrap (v : Nat) = (v : Nat)) :
    Calls Try.prog 16 #[.agg #[.int .i64 kind, .int .i64 size, .int .i64 m, .int .i64 sum], .int .i64 d] w fun e w' => e = .returned (.agg #[.int .i64 cen, .int .i64 den, .int .i64 dev, .int .u64 0, .int .u64 (v : Nat)]) ∧ Below w.heap.size w w' := by
  subst hc
  obtain ⟨w2, hw2⟩ : ∃ w2, (w.alloc (.cells #[.int .i64 kind, .int .i64 size, .int .i64 m, .int .i64 sum] 23)).alloc (.cells #[.int .i64 0, .int .i64 0, .int .i64 0, .int .u64 0, .int .u64 0] 38) = w2 := ⟨_, rfl⟩
  have h2 : TwoB w w2 [.int .i64 kind, .int .i64 size, .int .i64 m, .int .i64 sum] [.int .i64 0, .int .i64 0, .int .i64 0, .int .u64 0, .int .u64 0] 23 38 := by rw [← hw2]; exact twoB w _ _ _ _
  have HB2 := Lib.hid h2.below; have HV2 := Lib.hid h2.a; have HZ2 := Lib.hid h2.b
  have HW2 := Lib.hid hw2
  clear hw2 h2
  have hbase := Nat.le_refl w.heap.size
  go_enter Try.func16, Try.ntmps16
  go_upto_region 1 with fail
  rw [HW2.out]
  have qb0_0 : w2.cell? ⟨w.heap.size, 0, none⟩ = some (.int .i64 kind) := HV2.out.cell 0
  have qb1_0 : w2.cell? ⟨w.heap.size, 1, none⟩ = some (.int .i64 size) := HV2.out.cell 1
  have qb2_0 : w2.cell? ⟨w.heap.size, 2, none⟩ = some (.int .i64 m) := HV2.out.cell 2
  have qb3_0 : w2.cell? ⟨w.heap.size, 3, none⟩ = some (.int .i64 sum) := HV2.out.cell 3
  have lb_0 : w.heap.size < w2.heap.size := HV2.out.lt
  have qz0_0 : w2.cell? ⟨w.heap.size + 1, 0, none⟩ = some (.int .i64 0) := HZ2.out.cell 0
  have qz1_0 : w2.cell? ⟨w.heap.size + 1, 1, none⟩ = some (.int .i64 0) := HZ2.out.cell 1
  have qz2_0 : w2.cell? ⟨w.heap.size + 1, 2, none⟩ = some (.int .i64 0) := HZ2.out.cell 2
  have qz3_0 : w2.cell? ⟨w.heap.size + 1, 3, none⟩ = some (.int .u64 0) := HZ2.out.cell 3
  have qz4_0 : w2.cell? ⟨w.heap.size + 1, 4, none⟩ = some (.int .u64 0) := HZ2.out.cell 4
  have lz_0 : w.heap.size + 1 < w2.heap.size := HZ2.out.lt
  have zz0_0 : w2.frozen? ⟨w.heap.size + 1, 0, none⟩ = false := HZ2.out.frozen 0
  have zz1_0 : w2.frozen? ⟨w.heap.size + 1, 1, none⟩ = false := HZ2.out.frozen 1
  have zz2_0 : w2.frozen? ⟨w.heap.size + 1, 2, none⟩ = false := HZ2.out.frozen 2
  have zz3_0 : w2.frozen? ⟨w.heap.size + 1, 3, none⟩ = false := HZ2.out.frozen 3
  have zz4_0 : w2.frozen? ⟨w.heap.size + 1, 4, none⟩ = false := HZ2.out.frozen 4
  have HP := Lib.hid (HZ2.out.put5B (.int .i64 sum) (.int .i64 den) (.int .i64 dev) (.int .u64 0) (.int .u64 (v : Nat)))
  have HQ := Lib.hid (Below.put5B HB2.out (b := w.heap.size + 1) (by omega) (.int .i64 sum) (.int .i64 den) (.int .i64 dev) (.int .u64 0) (.int .u64 (v : Nat)))
  go_wp2_with fail
  (try simp only [Exit.inBlock, Exit.then])
  exact bodyPost_ret (resCellB rfl rfl (loadPnt HP.out)) rfl ⟨rfl, HQ.out⟩
set_option linter.unusedSimpArgs false in
set_option linter.unusedVariables false in
set_option maxHeartbeats 8000000 in
set_option maxRecDepth 100000 in
theorem point16_2 (kind size m sum d A den cen P dev C Q : Int) (v : Nat) (w : World) (h : ¬ 4 ≤ kind) (g : (kind == 2) = true) (e1 : wrap64 (m * size) = A) (e2 : wrap64 (sum * size) = cen) (e3 : wrap64 (d * A) = P) (e4 : wrap64 (P - cen) = dev) (e5 : wrap64 (A - sum) = C) (e6 : wrap64 (sum * C) = Q) (e7 : wrap64 (Q * size) = (v : Nat)) (e8 : wrap64 (A * size) = den) (e9 : IntKind.u64.wrap (v : Nat) = (v : Nat)) :
    Calls Try.prog 16 #[.agg #[.int .i64 kind, .int .i64 size, .int .i64 m, .int .i64 sum], .int .i64 d] w fun e w' => e = .returned (.agg #[.int .i64 cen, .int .i64 den, .int .i64 dev, .int .u64 0, .int .u64 (v : Nat)]) ∧ Below w.heap.size w w' := by
  obtain ⟨w2, hw2⟩ : ∃ w2, (w.alloc (.cells #[.int .i64 kind, .int .i64 size, .int .i64 m, .int .i64 sum] 23)).alloc (.cells #[.int .i64 0, .int .i64 0, .int .i64 0, .int .u64 0, .int .u64 0] 38) = w2 := ⟨_, rfl⟩
  have h2 : TwoB w w2 [.int .i64 kind, .int .i64 size, .int .i64 m, .int .i64 sum] [.int .i64 0, .int .i64 0, .int .i64 0, .int .u64 0, .int .u64 0] 23 38 := by rw [← hw2]; exact twoB w _ _ _ _
  have HB2 := Lib.hid h2.below; have HV2 := Lib.hid h2.a; have HZ2 := Lib.hid h2.b
  have HW2 := Lib.hid hw2
  clear hw2 h2
  have hbase := Nat.le_refl w.heap.size
  go_enter Try.func16, Try.ntmps16
  go_upto_region 1 with fail
  rw [HW2.out]
  have qb0_0 : w2.cell? ⟨w.heap.size, 0, none⟩ = some (.int .i64 kind) := HV2.out.cell 0
  have qb1_0 : w2.cell? ⟨w.heap.size, 1, none⟩ = some (.int .i64 size) := HV2.out.cell 1
  have qb2_0 : w2.cell? ⟨w.heap.size, 2, none⟩ = some (.int .i64 m) := HV2.out.cell 2
  have qb3_0 : w2.cell? ⟨w.heap.size, 3, none⟩ = some (.int .i64 sum) := HV2.out.cell 3
  have lb_0 : w.heap.size < w2.heap.size := HV2.out.lt
  obtain ⟨wz1, hwz1⟩ : ∃ wz1, w2.alloc (.cells #[.int .i64 cen, .int .i64 A, .int .i64 dev, .int .u64 0, .int .u64 (v : Nat)] 38) = wz1 := ⟨_, rfl⟩
  have kz1 : Below w2.heap.size w2 wz1 := by rw [← hwz1]; exact (Below.refl _ _).alloc (Nat.le_refl _) _
  have Htz1 := Lib.hid (show Has wz1 w2.heap.size [.int .i64 cen, .int .i64 A, .int .i64 dev, .int .u64 0, .int .u64 (v : Nat)] 38 by rw [← hwz1]; exact Has.new _ _ _)
  have HWz1 := Lib.hid hwz1
  clear hwz1
  have HBz1 := Lib.hid (HB2.out.trans (kz1.mono (Nat.le_trans hbase HB2.out.size)))
  have Hbz1 := Lib.hid (HV2.out.call kz1)
  have Hzz1 := Lib.hid (HZ2.out.call kz1)
  clear kz1
  go_upto_region 6 with fail
  rw [HWz1.out]
  clear qb0_0 qb1_0 qb2_0 qb3_0 lb_0
  have qb0_1 : wz1.cell? ⟨w.heap.size, 0, none⟩ = some (.int .i64 kind) := Hbz1.out.cell 0
  have qb1_1 : wz1.cell? ⟨w.heap.size, 1, none⟩ = some (.int .i64 size) := Hbz1.out.cell 1
  have qb2_1 : wz1.cell? ⟨w.heap.size, 2, none⟩ = some (.int .i64 m) := Hbz1.out.cell 2
  have qb3_1 : wz1.cell? ⟨w.heap.size, 3, none⟩ = some (.int .i64 sum) := Hbz1.out.cell 3
  have lb_1 : w.heap.size < wz1.heap.size := Hbz1.out.lt
  have qt0_1 : wz1.cell? ⟨w2.heap.size, 0, none⟩ = some (.int .i64 cen) := Htz1.out.cell 0
  have qt1_1 : wz1.cell? ⟨w2.heap.size, 1, none⟩ = some (.int .i64 A) := Htz1.out.cell 1
  have qt2_1 : wz1.cell? ⟨w2.heap.size, 2, none⟩ = some (.int .i64 dev) := Htz1.out.cell 2
  have qt3_1 : wz1.cell? ⟨w2.heap.size, 3, none⟩ = some (.int .u64 0) := Htz1.out.cell 3
  have qt4_1 : wz1.cell? ⟨w2.heap.size, 4, none⟩ = some (.int .u64 (v : Nat)) := Htz1.out.cell 4
  have lt_1 : w2.heap.size < wz1.heap.size := Htz1.out.lt
  have qz0_1 : wz1.cell? ⟨w.heap.size + 1, 0, none⟩ = some (.int .i64 0) := Hzz1.out.cell 0
  have qz1_1 : wz1.cell? ⟨w.heap.size + 1, 1, none⟩ = some (.int .i64 0) := Hzz1.out.cell 1
  have qz2_1 : wz1.cell? ⟨w.heap.size + 1, 2, none⟩ = some (.int .i64 0) := Hzz1.out.cell 2
  have qz3_1 : wz1.cell? ⟨w.heap.size + 1, 3, none⟩ = some (.int .u64 0) := Hzz1.out.cell 3
  have qz4_1 : wz1.cell? ⟨w.heap.size + 1, 4, none⟩ = some (.int .u64 0) := Hzz1.out.cell 4
  have lz_1 : w.heap.size + 1 < wz1.heap.size := Hzz1.out.lt
  have zt0_1 : wz1.frozen? ⟨w2.heap.size, 0, none⟩ = false := Htz1.out.frozen 0
  have zt1_1 : wz1.frozen? ⟨w2.heap.size, 1, none⟩ = false := Htz1.out.frozen 1
  have zt2_1 : wz1.frozen? ⟨w2.heap.size, 2, none⟩ = false := Htz1.out.frozen 2
  have zt3_1 : wz1.frozen? ⟨w2.heap.size, 3, none⟩ = false := Htz1.out.frozen 3
  have zt4_1 : wz1.frozen? ⟨w2.heap.size, 4, none⟩ = false := Htz1.out.frozen 4
  have zz0_1 : wz1.frozen? ⟨w.heap.size + 1, 0, none⟩ = false := Hzz1.out.frozen 0
  have zz1_1 : wz1.frozen? ⟨w.heap.size + 1, 1, none⟩ = false := Hzz1.out.frozen 1
  have zz2_1 : wz1.frozen? ⟨w.heap.size + 1, 2, none⟩ = false := Hzz1.out.frozen 2
  have zz3_1 : wz1.frozen? ⟨w.heap.size + 1, 3, none⟩ = false := Hzz1.out.frozen 3
  have zz4_1 : wz1.frozen? ⟨w.heap.size + 1, 4, none⟩ = false := Hzz1.out.frozen 4
  have hle : w.heap.size + 1 < w2.heap.size := HZ2.out.lt
  have HP := Lib.hid ((Hzz1.out.other (p := ⟨w2.heap.size, 1, none⟩) (by dsimp only; omega) (.int .i64 den)).put5B (.int .i64 cen) (.int .i64 den) (.int .i64 dev) (.int .u64 0) (.int .u64 (v : Nat)))
  have HQ := Lib.hid (Below.put5B (HBz1.out.setCell (p := ⟨w2.heap.size, 1, none⟩) (by dsimp only; omega) (.int .i64 den)) (b := w.heap.size + 1) (by omega) (.int .i64 cen) (.int .i64 den) (.int .i64 dev) (.int .u64 0) (.int .u64 (v : Nat)))
  go_wp2_with fail
  (try simp only [Exit.inBlock, Exit.then])
  exact bodyPost_ret (resCellB rfl rfl (loadPnt HP.out)) rfl ⟨rfl, HQ.out⟩
set_option linter.unusedSimpArgs false in
set_option linter.unusedVariables false in
set_option maxHeartbeats 8000000 in
set_option maxRecDepth 100000 in
theorem point16_3 (kind size m sum d A den cen P dev C Q : Int) (v : Nat) (w : World) (h : ¬ 4 ≤ kind) (g : (kind == 2) = false) (e1 : wrap64 (m * size) = A) (e2 : wrap64 (sum * size) = cen) (e3 : wrap64 (d * A) = P) (e4 : wrap64 (P - cen) = dev) (e5 : wrap64 (A - sum) = C) (e6 : wrap64 (sum * C) = Q) (e7 : wrap64 (Q * size) = (v : Nat)) (e8 : wrap64 (A * size) = den) (e9 : IntKind.u64.wrap (v : Nat) = (v : Nat)) :
    Calls Try.prog 16 #[.agg #[.int .i64 kind, .int .i64 size, .int .i64 m, .int .i64 sum], .int .i64 d] w fun e w' => e = .returned (.agg #[.int .i64 cen, .int .i64 A, .int .i64 dev, .int .u64 0, .int .u64 (v : Nat)]) ∧ Below w.heap.size w w' := by
  obtain ⟨w2, hw2⟩ : ∃ w2, (w.alloc (.cells #[.int .i64 kind, .int .i64 size, .int .i64 m, .int .i64 sum] 23)).alloc (.cells #[.int .i64 0, .int .i64 0, .int .i64 0, .int .u64 0, .int .u64 0] 38) = w2 := ⟨_, rfl⟩
  have h2 : TwoB w w2 [.int .i64 kind, .int .i64 size, .int .i64 m, .int .i64 sum] [.int .i64 0, .int .i64 0, .int .i64 0, .int .u64 0, .int .u64 0] 23 38 := by rw [← hw2]; exact twoB w _ _ _ _
  have HB2 := Lib.hid h2.below; have HV2 := Lib.hid h2.a; have HZ2 := Lib.hid h2.b
  have HW2 := Lib.hid hw2
  clear hw2 h2
  have hbase := Nat.le_refl w.heap.size
  go_enter Try.func16, Try.ntmps16
  go_upto_region 1 with fail
  rw [HW2.out]
  have qb0_0 : w2.cell? ⟨w.heap.size, 0, none⟩ = some (.int .i64 kind) := HV2.out.cell 0
  have qb1_0 : w2.cell? ⟨w.heap.size, 1, none⟩ = some (.int .i64 size) := HV2.out.cell 1
  have qb2_0 : w2.cell? ⟨w.heap.size, 2, none⟩ = some (.int .i64 m) := HV2.out.cell 2
  have qb3_0 : w2.cell? ⟨w.heap.size, 3, none⟩ = some (.int .i64 sum) := HV2.out.cell 3
  have lb_0 : w.heap.size < w2.heap.size := HV2.out.lt
  obtain ⟨wz1, hwz1⟩ : ∃ wz1, w2.alloc (.cells #[.int .i64 cen, .int .i64 A, .int .i64 dev, .int .u64 0, .int .u64 (v : Nat)] 38) = wz1 := ⟨_, rfl⟩
  have kz1 : Below w2.heap.size w2 wz1 := by rw [← hwz1]; exact (Below.refl _ _).alloc (Nat.le_refl _) _
  have Htz1 := Lib.hid (show Has wz1 w2.heap.size [.int .i64 cen, .int .i64 A, .int .i64 dev, .int .u64 0, .int .u64 (v : Nat)] 38 by rw [← hwz1]; exact Has.new _ _ _)
  have HWz1 := Lib.hid hwz1
  clear hwz1
  have HBz1 := Lib.hid (HB2.out.trans (kz1.mono (Nat.le_trans hbase HB2.out.size)))
  have Hbz1 := Lib.hid (HV2.out.call kz1)
  have Hzz1 := Lib.hid (HZ2.out.call kz1)
  clear kz1
  go_upto_region 6 with fail
  rw [HWz1.out]
  clear qb0_0 qb1_0 qb2_0 qb3_0 lb_0
  have qb0_1 : wz1.cell? ⟨w.heap.size, 0, none⟩ = some (.int .i64 kind) := Hbz1.out.cell 0
  have qb1_1 : wz1.cell? ⟨w.heap.size, 1, none⟩ = some (.int .i64 size) := Hbz1.out.cell 1
  have qb2_1 : wz1.cell? ⟨w.heap.size, 2, none⟩ = some (.int .i64 m) := Hbz1.out.cell 2
  have qb3_1 : wz1.cell? ⟨w.heap.size, 3, none⟩ = some (.int .i64 sum) := Hbz1.out.cell 3
  have lb_1 : w.heap.size < wz1.heap.size := Hbz1.out.lt
  have qt0_1 : wz1.cell? ⟨w2.heap.size, 0, none⟩ = some (.int .i64 cen) := Htz1.out.cell 0
  have qt1_1 : wz1.cell? ⟨w2.heap.size, 1, none⟩ = some (.int .i64 A) := Htz1.out.cell 1
  have qt2_1 : wz1.cell? ⟨w2.heap.size, 2, none⟩ = some (.int .i64 dev) := Htz1.out.cell 2
  have qt3_1 : wz1.cell? ⟨w2.heap.size, 3, none⟩ = some (.int .u64 0) := Htz1.out.cell 3
  have qt4_1 : wz1.cell? ⟨w2.heap.size, 4, none⟩ = some (.int .u64 (v : Nat)) := Htz1.out.cell 4
  have lt_1 : w2.heap.size < wz1.heap.size := Htz1.out.lt
  have qz0_1 : wz1.cell? ⟨w.heap.size + 1, 0, none⟩ = some (.int .i64 0) := Hzz1.out.cell 0
  have qz1_1 : wz1.cell? ⟨w.heap.size + 1, 1, none⟩ = some (.int .i64 0) := Hzz1.out.cell 1
  have qz2_1 : wz1.cell? ⟨w.heap.size + 1, 2, none⟩ = some (.int .i64 0) := Hzz1.out.cell 2
  have qz3_1 : wz1.cell? ⟨w.heap.size + 1, 3, none⟩ = some (.int .u64 0) := Hzz1.out.cell 3
  have qz4_1 : wz1.cell? ⟨w.heap.size + 1, 4, none⟩ = some (.int .u64 0) := Hzz1.out.cell 4
  have lz_1 : w.heap.size + 1 < wz1.heap.size := Hzz1.out.lt
  have zt0_1 : wz1.frozen? ⟨w2.heap.size, 0, none⟩ = false := Htz1.out.frozen 0
  have zt1_1 : wz1.frozen? ⟨w2.heap.size, 1, none⟩ = false := Htz1.out.frozen 1
  have zt2_1 : wz1.frozen? ⟨w2.heap.size, 2, none⟩ = false := Htz1.out.frozen 2
  have zt3_1 : wz1.frozen? ⟨w2.heap.size, 3, none⟩ = false := Htz1.out.frozen 3
  have zt4_1 : wz1.frozen? ⟨w2.heap.size, 4, none⟩ = false := Htz1.out.frozen 4
  have zz0_1 : wz1.frozen? ⟨w.heap.size + 1, 0, none⟩ = false := Hzz1.out.frozen 0
  have zz1_1 : wz1.frozen? ⟨w.heap.size + 1, 1, none⟩ = false := Hzz1.out.frozen 1
  have zz2_1 : wz1.frozen? ⟨w.heap.size + 1, 2, none⟩ = false := Hzz1.out.frozen 2
  have zz3_1 : wz1.frozen? ⟨w.heap.size + 1, 3, none⟩ = false := Hzz1.out.frozen 3
  have zz4_1 : wz1.frozen? ⟨w.heap.size + 1, 4, none⟩ = false := Hzz1.out.frozen 4
  have hle : w.heap.size + 1 < w2.heap.size := HZ2.out.lt
  have HP := Lib.hid (Hzz1.out.put5B (.int .i64 cen) (.int .i64 A) (.int .i64 dev) (.int .u64 0) (.int .u64 (v : Nat)))
  have HQ := Lib.hid (Below.put5B HBz1.out (b := w.heap.size + 1) (by omega) (.int .i64 cen) (.int .i64 A) (.int .i64 dev) (.int .u64 0) (.int .u64 (v : Nat)))
  go_wp2_with fail
  (try simp only [Exit.inBlock, Exit.then])
  exact bodyPost_ret (resCellB rfl rfl (loadPnt HP.out)) rfl ⟨rfl, HQ.out⟩
theorem hi_small {n : Nat} (h : n < 18446744073709551616) : hi n = 0 ∧ lo n = n := by
  unfold hi lo
  omega
theorem u64_small {n : Nat} (h : n < 18446744073709551616) : IntKind.u64.wrap (n : Int) = (n : Int) := by
  show (IntKind.u64.wrap (n : Int)) = _
  unfold IntKind.wrap
  simp [IntKind.signed, IntKind.bits]
  omega
theorem point16_any (t : Tal) (d : Int) (h : talOk t) (hd : cntB t d = true) (w : World) : Calls Try.prog 16 #[talV t, .int .i64 d] w fun e w' => e = .returned (pntV (pntT t d)) ∧ Below w.heap.size w w' := by
  have hs := tsum_bounds h
  have hc := tcnt_bounds h hd
  have hall := tsum_all h
  have hz := h.1
  have hm := h.2
  obtain ⟨kind, size, m, sum⟩ := t
  dsimp only at *
  obtain ⟨hz1, hz2, hz3, hz4, -⟩ := hz
  have b1 := mulB (show -25 ≤ m ∧ m ≤ 25 by omega) (show -1000 ≤ size ∧ size ≤ 1000 by omega)
  have b1p : 0 ≤ m * size := Int.mul_nonneg (by omega) (by omega)
  have b2 := mulB (show -1000000 ≤ d ∧ d ≤ 1000000 by omega) (show -25 ≤ m ∧ m ≤ 25 by omega)
  have b3 := mulB (show -25000000 ≤ sum ∧ sum ≤ 25000000 by omega) (show -25 ≤ m ∧ m ≤ 25 by omega)
  have b3p : 0 ≤ sum * m := Int.mul_nonneg (by omega) (by omega)
  have b4 := mulB (show -25000000 ≤ sum ∧ sum ≤ 25000000 by omega) (show -1000 ≤ size ∧ size ≤ 1000 by omega)
  have b5 := mulB (show -1000000 ≤ d ∧ d ≤ 1000000 by omega) b1
  unfold pntT
  dsimp only
  by_cases k : 4 ≤ kind
  · rw [if_pos k]
    obtain ⟨v, hv⟩ := Int.eq_ofNat_of_zero_le b3p
    rw [hv, Int.toNat_natCast]
    have hvb : v < 18446744073709551616 := by omega
    obtain ⟨q1, q2⟩ := hi_small hvb
    dsimp only [pntV]
    rw [q1, q2]
    exact point16_4 kind size m sum d _ (d * m) _ _ v w k rfl (wrapJ6 (by omega)) (wrapJ6 (by omega)) (wrapJ6 (by omega)) (by rw [← hv]; exact wrapJ6 (by omega)) (u64_small hvb)
  · rw [if_neg k]
    have hall := hall (by omega)
    have b6 := mulB (show -25000000 ≤ sum ∧ sum ≤ 25000000 by omega) (show -50000 ≤ m * size - sum ∧ m * size - sum ≤ 50000 by omega)
    have b7 := mulB b6 (show -1000 ≤ size ∧ size ≤ 1000 by omega)
    have b7p : 0 ≤ sum * (m * size - sum) * size := Int.mul_nonneg (Int.mul_nonneg (by omega) (by omega)) (by omega)
    have b8 := mulB b1 (show -1000 ≤ size ∧ size ≤ 1000 by omega)
    obtain ⟨v, hv⟩ := Int.eq_ofNat_of_zero_le b7p
    rw [hv, Int.toNat_natCast]
    have hvb : v < 18446744073709551616 := by omega
    obtain ⟨q1, q2⟩ := hi_small hvb
    have e7 : wrap64 (sum * (m * size - sum) * size) = (v : Nat) := by rw [← hv]; exact wrapJ6 (by omega)
    by_cases k2 : kind = 2
    · rw [if_pos k2]
      dsimp only [pntV]
      rw [q1, q2]
      exact point16_2 kind size m sum d (m * size) _ _ (d * (m * size)) _ (m * size - sum) (sum * (m * size - sum)) v w k (beq_iff_eq.2 k2) (wrapJ6 (by omega)) (wrapJ6 (by omega)) (wrapJ6 (by omega)) (wrapJ6 (by omega)) (wrapJ6 (by omega)) (wrapJ6 (by omega)) e7 (wrapJ6 (by omega)) (u64_small hvb)
    · rw [if_neg k2]
      dsimp only [pntV]
      rw [q1, q2]
      exact point16_3 kind size m sum d (m * size) (m * size * size) _ (d * (m * size)) _ (m * size - sum) (sum * (m * size - sum)) v w k (beq_false_of_ne k2) (wrapJ6 (by omega)) (wrapJ6 (by omega)) (wrapJ6 (by omega)) (wrapJ6 (by omega)) (wrapJ6 (by omega)) (wrapJ6 (by omega)) e7 (wrapJ6 (by omega)) (u64_small hvb)
end Go.Proofs.Ytgmifimpeefpcaa
