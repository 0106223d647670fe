/- base.Right. -/
import Derived.Test.YtfafkdbflmennaaBasP
import Derived.Test.YtfafkdbflmennaaBasE
namespace Go.Proofs.Ytfafkdbflmennaa
open Go.RowKit

set_option linter.unusedSimpArgs false in
set_option linter.unusedVariables false in
set_option maxHeartbeats 8000000 in
set_option maxRecDepth 100000 in
theorem bright_0 (size m sum rng last : Int) (w : World) (ms : (∀ W, Calls Try.prog 22 #[.int .i64 size] W fun e w' => e = .returned (.bool false) ∧ Below W.heap.size W w'))  :
    Calls Try.prog 10 #[.agg #[.int .i64 size, .int .i64 m, .int .i64 sum, .int .i64 rng, .int .i64 last]] w fun e w' => e = .returned (.bool false) ∧ Below w.heap.size w w' := by
  have MS := Lib.hid ms
  clear ms
  obtain ⟨w2, hw2⟩ : ∃ w2, w.alloc (.cells #[.int .i64 size, .int .i64 m, .int .i64 sum, .int .i64 rng, .int .i64 last] 23) = w2 := ⟨_, rfl⟩
  have HB2 := Lib.hid (show Below w.heap.size w w2 by rw [← hw2]; exact (Below.refl _ _).alloc (Nat.le_refl _) _)
  have HV2 := Lib.hid (show Has w2 w.heap.size [.int .i64 size, .int .i64 m, .int .i64 sum, .int .i64 rng, .int .i64 last] 23 by rw [← hw2]; exact Has.new w _ _)
  have HW2 := Lib.hid hw2
  clear hw2
  have hbase := Nat.le_refl w.heap.size
  go_enter Try.func10, Try.ntmps10
  go_upto_region 1 with fail
  rw [HW2.out]
  have qb0_0 : w2.cell? ⟨w.heap.size, 0, none⟩ = some (.int .i64 size) := HV2.out.cell 0
  have qb1_0 : w2.cell? ⟨w.heap.size, 1, none⟩ = some (.int .i64 m) := HV2.out.cell 1
  have qb2_0 : w2.cell? ⟨w.heap.size, 2, none⟩ = some (.int .i64 sum) := HV2.out.cell 2
  have qb3_0 : w2.cell? ⟨w.heap.size, 3, none⟩ = some (.int .i64 rng) := HV2.out.cell 3
  have qb4_0 : w2.cell? ⟨w.heap.size, 4, none⟩ = some (.int .i64 last) := HV2.out.cell 4
  have lb_0 : w.heap.size < w2.heap.size := HV2.out.lt
  have hcz1 := MS.out w2
  go_wp2_with fail
  refine hcz1.mono ?_
  rintro e wz1 ⟨rfl, kz1⟩
  clear hcz1 qb0_0 qb1_0 qb2_0 qb3_0 qb4_0 lb_0
  have HBz1 := Lib.hid (HB2.out.trans (kz1.mono (Nat.le_trans hbase HB2.out.size)))
  have Hbz1 := Lib.hid (HV2.out.call kz1)
  clear kz1
  go_wp2
  go_ret
  exact ⟨rfl, HBz1.out⟩
set_option linter.unusedSimpArgs false in
set_option linter.unusedVariables false in
set_option maxHeartbeats 8000000 in
set_option maxRecDepth 100000 in
theorem bright_1 (size m sum rng last : Int) (w : World) (ms : (∀ W, Calls Try.prog 22 #[.int .i64 size] W fun e w' => e = .returned (.bool true) ∧ Below W.heap.size W w')) (h1 : m < 0) :
    Calls Try.prog 10 #[.agg #[.int .i64 size, .int .i64 m, .int .i64 sum, .int .i64 rng, .int .i64 last]] w fun e w' => e = .returned (.bool false) ∧ Below w.heap.size w w' := by
  have MS := Lib.hid ms
  clear ms
  obtain ⟨w2, hw2⟩ : ∃ w2, w.alloc (.cells #[.int .i64 size, .int .i64 m, .int .i64 sum, .int .i64 rng, .int .i64 last] 23) = w2 := ⟨_, rfl⟩
  have HB2 := Lib.hid (show Below w.heap.size w w2 by rw [← hw2]; exact (Below.refl _ _).alloc (Nat.le_refl _) _)
  have HV2 := Lib.hid (show Has w2 w.heap.size [.int .i64 size, .int .i64 m, .int .i64 sum, .int .i64 rng, .int .i64 last] 23 by rw [← hw2]; exact Has.new w _ _)
  have HW2 := Lib.hid hw2
  clear hw2
  have hbase := Nat.le_refl w.heap.size
  go_enter Try.func10, Try.ntmps10
  go_upto_region 1 with fail
  rw [HW2.out]
  have qb0_0 : w2.cell? ⟨w.heap.size, 0, none⟩ = some (.int .i64 size) := HV2.out.cell 0
  have qb1_0 : w2.cell? ⟨w.heap.size, 1, none⟩ = some (.int .i64 m) := HV2.out.cell 1
  have qb2_0 : w2.cell? ⟨w.heap.size, 2, none⟩ = some (.int .i64 sum) := HV2.out.cell 2
  have qb3_0 : w2.cell? ⟨w.heap.size, 3, none⟩ = some (.int .i64 rng) := HV2.out.cell 3
  have qb4_0 : w2.cell? ⟨w.heap.size, 4, none⟩ = some (.int .i64 last) := HV2.out.cell 4
  have lb_0 : w.heap.size < w2.heap.size := HV2.out.lt
  have hcz1 := MS.out w2
  go_wp2_with fail
  refine hcz1.mono ?_
  rintro e wz1 ⟨rfl, kz1⟩
  clear hcz1 qb0_0 qb1_0 qb2_0 qb3_0 qb4_0 lb_0
  have HBz1 := Lib.hid (HB2.out.trans (kz1.mono (Nat.le_trans hbase HB2.out.size)))
  have Hbz1 := Lib.hid (HV2.out.call kz1)
  clear kz1
  have qb0_1 : wz1.cell? ⟨w.heap.size, 0, none⟩ = some (.int .i64 size) := Hbz1.out.cell 0
  have qb1_1 : wz1.cell? ⟨w.heap.size, 1, none⟩ = some (.int .i64 m) := Hbz1.out.cell 1
  have qb2_1 : wz1.cell? ⟨w.heap.size, 2, none⟩ = some (.int .i64 sum) := Hbz1.out.cell 2
  have qb3_1 : wz1.cell? ⟨w.heap.size, 3, none⟩ = some (.int .i64 rng) := Hbz1.out.cell 3
  have qb4_1 : wz1.cell? ⟨w.heap.size, 4, none⟩ = some (.int .i64 last) := Hbz1.out.cell 4
  have lb_1 : w.heap.size < wz1.heap.size := Hbz1.out.lt
  go_wp2
  go_ret
  exact ⟨rfl, HBz1.out⟩
set_option linter.unusedSimpArgs false in
set_option linter.unusedVariables false in
set_option maxHeartbeats 8000000 in
set_option maxRecDepth 100000 in
theorem bright_2 (size m sum rng last : Int) (w : World) (ms : (∀ W, Calls Try.prog 22 #[.int .i64 size] W fun e w' => e = .returned (.bool true) ∧ Below W.heap.size W w')) (h1 : ¬ m < 0) (h2 : 25 < m) :
    Calls Try.prog 10 #[.agg #[.int .i64 size, .int .i64 m, .int .i64 sum, .int .i64 rng, .int .i64 last]] w fun e w' => e = .returned (.bool false) ∧ Below w.heap.size w w' := by
  have MS := Lib.hid ms
  clear ms
  obtain ⟨w2, hw2⟩ : ∃ w2, w.alloc (.cells #[.int .i64 size, .int .i64 m, .int .i64 sum, .int .i64 rng, .int .i64 last] 23) = w2 := ⟨_, rfl⟩
  have HB2 := Lib.hid (show Below w.heap.size w w2 by rw [← hw2]; exact (Below.refl _ _).alloc (Nat.le_refl _) _)
  have HV2 := Lib.hid (show Has w2 w.heap.size [.int .i64 size, .int .i64 m, .int .i64 sum, .int .i64 rng, .int .i64 last] 23 by rw [← hw2]; exact Has.new w _ _)
  have HW2 := Lib.hid hw2
  clear hw2
  have hbase := Nat.le_refl w.heap.size
  go_enter Try.func10, Try.ntmps10
  go_upto_region 1 with fail
  rw [HW2.out]
  have qb0_0 : w2.cell? ⟨w.heap.size, 0, none⟩ = some (.int .i64 size) := HV2.out.cell 0
  have qb1_0 : w2.cell? ⟨w.heap.size, 1, none⟩ = some (.int .i64 m) := HV2.out.cell 1
  have qb2_0 : w2.cell? ⟨w.heap.size, 2, none⟩ = some (.int .i64 sum) := HV2.out.cell 2
  have qb3_0 : w2.cell? ⟨w.heap.size, 3, none⟩ = some (.int .i64 rng) := HV2.out.cell 3
  have qb4_0 : w2.cell? ⟨w.heap.size, 4, none⟩ = some (.int .i64 last) := HV2.out.cell 4
  have lb_0 : w.heap.size < w2.heap.size := HV2.out.lt
  have hcz1 := MS.out w2
  go_wp2_with fail
  refine hcz1.mono ?_
  rintro e wz1 ⟨rfl, kz1⟩
  clear hcz1 qb0_0 qb1_0 qb2_0 qb3_0 qb4_0 lb_0
  have HBz1 := Lib.hid (HB2.out.trans (kz1.mono (Nat.le_trans hbase HB2.out.size)))
  have Hbz1 := Lib.hid (HV2.out.call kz1)
  clear kz1
  have qb0_1 : wz1.cell? ⟨w.heap.size, 0, none⟩ = some (.int .i64 size) := Hbz1.out.cell 0
  have qb1_1 : wz1.cell? ⟨w.heap.size, 1, none⟩ = some (.int .i64 m) := Hbz1.out.cell 1
  have qb2_1 : wz1.cell? ⟨w.heap.size, 2, none⟩ = some (.int .i64 sum) := Hbz1.out.cell 2
  have qb3_1 : wz1.cell? ⟨w.heap.size, 3, none⟩ = some (.int .i64 rng) := Hbz1.out.cell 3
  have qb4_1 : wz1.cell? ⟨w.heap.size, 4, none⟩ = some (.int .i64 last) := Hbz1.out.cell 4
  have lb_1 : w.heap.size < wz1.heap.size := Hbz1.out.lt
  go_wp2
  go_ret
  exact ⟨rfl, HBz1.out⟩
set_option linter.unusedSimpArgs false in
set_option linter.unusedVariables false in
set_option maxHeartbeats 8000000 in
set_option maxRecDepth 100000 in
theorem bright_3 (size m sum rng last P : Int) (w : World) (ms : (∀ W, Calls Try.prog 22 #[.int .i64 size] W fun e w' => e = .returned (.bool true) ∧ Below W.heap.size W w')) (mn : (∀ W, Calls Try.prog 26 #[.int .i64 sum, .int .i64 P] W fun e w' => e = .returned ( .bool false) ∧ Below W.heap.size W w')) (e1 : IntKind.i64.wrap (m * size) = P) (h1 : ¬ m < 0) (h2 : ¬ 25 < m) :
    Calls Try.prog 10 #[.agg #[.int .i64 size, .int .i64 m, .int .i64 sum, .int .i64 rng, .int .i64 last]] w fun e w' => e = .returned (.bool false) ∧ Below w.heap.size w w' := by
  have MS := Lib.hid ms; have MN := Lib.hid mn
  clear ms mn
  obtain ⟨w2, hw2⟩ : ∃ w2, w.alloc (.cells #[.int .i64 size, .int .i64 m, .int .i64 sum, .int .i64 rng, .int .i64 last] 23) = w2 := ⟨_, rfl⟩
  have HB2 := Lib.hid (show Below w.heap.size w w2 by rw [← hw2]; exact (Below.refl _ _).alloc (Nat.le_refl _) _)
  have HV2 := Lib.hid (show Has w2 w.heap.size [.int .i64 size, .int .i64 m, .int .i64 sum, .int .i64 rng, .int .i64 last] 23 by rw [← hw2]; exact Has.new w _ _)
  have HW2 := Lib.hid hw2
  clear hw2
  have hbase := Nat.le_refl w.heap.size
  go_enter Try.func10, Try.ntmps10
  go_upto_region 1 with fail
  rw [HW2.out]
  have qb0_0 : w2.cell? ⟨w.heap.size, 0, none⟩ = some (.int .i64 size) := HV2.out.cell 0
  have qb1_0 : w2.cell? ⟨w.heap.size, 1, none⟩ = some (.int .i64 m) := HV2.out.cell 1
  have qb2_0 : w2.cell? ⟨w.heap.size, 2, none⟩ = some (.int .i64 sum) := HV2.out.cell 2
  have qb3_0 : w2.cell? ⟨w.heap.size, 3, none⟩ = some (.int .i64 rng) := HV2.out.cell 3
  have qb4_0 : w2.cell? ⟨w.heap.size, 4, none⟩ = some (.int .i64 last) := HV2.out.cell 4
  have lb_0 : w.heap.size < w2.heap.size := HV2.out.lt
  have hcz1 := MS.out w2
  go_wp2_with fail
  refine hcz1.mono ?_
  rintro e wz1 ⟨rfl, kz1⟩
  clear hcz1 qb0_0 qb1_0 qb2_0 qb3_0 qb4_0 lb_0
  have HBz1 := Lib.hid (HB2.out.trans (kz1.mono (Nat.le_trans hbase HB2.out.size)))
  have Hbz1 := Lib.hid (HV2.out.call kz1)
  clear kz1
  have qb0_1 : wz1.cell? ⟨w.heap.size, 0, none⟩ = some (.int .i64 size) := Hbz1.out.cell 0
  have qb1_1 : wz1.cell? ⟨w.heap.size, 1, none⟩ = some (.int .i64 m) := Hbz1.out.cell 1
  have qb2_1 : wz1.cell? ⟨w.heap.size, 2, none⟩ = some (.int .i64 sum) := Hbz1.out.cell 2
  have qb3_1 : wz1.cell? ⟨w.heap.size, 3, none⟩ = some (.int .i64 rng) := Hbz1.out.cell 3
  have qb4_1 : wz1.cell? ⟨w.heap.size, 4, none⟩ = some (.int .i64 last) := Hbz1.out.cell 4
  have lb_1 : w.heap.size < wz1.heap.size := Hbz1.out.lt
  go_upto_region 3 with fail
  clear qb0_1 qb1_1 qb2_1 qb3_1 qb4_1 lb_1
  refine wp_region_held_drew (S := (fun W' => W'.cell? ⟨w.heap.size, 0, none⟩ = some (.int .i64 size) ∧ W'.cell? ⟨w.heap.size, 1, none⟩ = some (.int .i64 m) ∧ W'.cell? ⟨w.heap.size, 2, none⟩ = some (.int .i64 sum) ∧ W'.cell? ⟨w.heap.size, 3, none⟩ = some (.int .i64 rng) ∧ W'.cell? ⟨w.heap.size, 4, none⟩ = some (.int .i64 last))) (by kernel_rfl) ⟨Hbz1.out.cell 0, Hbz1.out.cell 1, Hbz1.out.cell 2, Hbz1.out.cell 3, Hbz1.out.cell 4⟩ (fun hHeld => ?_)
  refine regTake 0 (some 17) (v := ?_) rfl rfl (by kernel_rfl) (by kernel_rfl) (by kernel_rfl) (fun _ _ _ h => h) (by rfl) hHeld ?_ ?_
  rotate_left 1
  · (intro w hSw; (try dsimp only at hSw); go_simp; try with_reducible rfl)
  simp only [Act.put, List.setIfInBounds_toArray, List.set_cons_zero, List.set_cons_succ]
  refine regTake 1 (some 18) (v := ?_) rfl rfl (by kernel_rfl) (by kernel_rfl) (by kernel_rfl) (fun _ _ _ h => h) (by rfl) hHeld ?_ ?_
  rotate_left 1
  · (intro w hSw; (try dsimp only at hSw); go_simp; try with_reducible rfl)
  simp only [Act.put, List.setIfInBounds_toArray, List.set_cons_zero, List.set_cons_succ]
  refine regTake 2 (some 19) (v := ?_) rfl rfl (by kernel_rfl) (by kernel_rfl) (by kernel_rfl) (fun _ _ _ h => h) (by rfl) hHeld ?_ ?_
  rotate_left 1
  · (intro w hSw; (try dsimp only at hSw); go_simp; try with_reducible rfl)
  simp only [Act.put, List.setIfInBounds_toArray, List.set_cons_zero, List.set_cons_succ]
  refine regTake 3 (some 20) (v := ?_) rfl rfl (by kernel_rfl) (by kernel_rfl) (by kernel_rfl) (fun _ _ _ h => h) (by rfl) hHeld ?_ ?_
  rotate_left 1
  · (intro w hSw; (try dsimp only at hSw); go_simp; try with_reducible rfl)
  simp only [Act.put, List.setIfInBounds_toArray, List.set_cons_zero, List.set_cons_succ]
  refine regTake 4 (some 21) (v := ?_) rfl rfl (by kernel_rfl) (by kernel_rfl) (by kernel_rfl) (fun _ _ _ h => h) (by rfl) hHeld ?_ ?_
  rotate_left 1
  · (intro w hSw; (try dsimp only at hSw); go_simp; try with_reducible rfl)
  simp only [Act.put, List.setIfInBounds_toArray, List.set_cons_zero, List.set_cons_succ]
  refine regTake 5 (some 22) (v := ?_) rfl rfl (by kernel_rfl) (by kernel_rfl) (by kernel_rfl) (fun _ _ _ h => h) (by rfl) hHeld ?_ ?_
  rotate_left 1
  · (intro w hSw; (try dsimp only at hSw); go_simp; try with_reducible rfl)
  simp only [Act.put, List.setIfInBounds_toArray, List.set_cons_zero, List.set_cons_succ]
  refine regTake 6 (some 23) (v := ?_) rfl rfl (by kernel_rfl) (by kernel_rfl) (by kernel_rfl) (fun _ _ _ h => h) (by rfl) hHeld ?_ ?_
  rotate_left 1
  · (intro w hSw; (try dsimp only at hSw); go_simp; try with_reducible rfl)
  simp only [Act.put, List.setIfInBounds_toArray, List.set_cons_zero, List.set_cons_succ]
  refine regCall 7 (some 24) (f := 26) (args := ?_) rfl rfl (by kernel_rfl) (by rfl) ?_ ?_
  rotate_left 1
  · (go_simp; try with_reducible rfl)
  refine (MN.out _).mono ?_
  rintro e wx7 ⟨rfl, kg2⟩
  refine ⟨_, rfl, ⟨(Hbz1.out.step kg2 rfl).cell 0, (Hbz1.out.step kg2 rfl).cell 1, (Hbz1.out.step kg2 rfl).cell 2, (Hbz1.out.step kg2 rfl).cell 3, (Hbz1.out.step kg2 rfl).cell 4⟩, fun hHeld => ?_⟩
  simp only [Act.put, List.setIfInBounds_toArray, List.set_cons_zero, List.set_cons_succ]
  have HBg2 := Lib.hid ((HBz1.out.drew).trans (kg2.mono (Nat.le_trans hbase (HBz1.out.drew).size)))
  have Hbg2 := Lib.hid (Hbz1.out.step kg2 rfl)
  clear kg2
  refine regTake 8 (some 25) (v := ?_) rfl rfl (by kernel_rfl) (by kernel_rfl) (by kernel_rfl) (fun _ _ _ h => h) (by rfl) hHeld ?_ ?_
  rotate_left 1
  · (intro w hSw; (try dsimp only at hSw); go_simp; try with_reducible rfl)
  simp only [Act.put, List.setIfInBounds_toArray, List.set_cons_zero, List.set_cons_succ]
  refine regTake 9 (some 26) (v := ?_) rfl rfl (by kernel_rfl) (by kernel_rfl) (by kernel_rfl) (fun _ _ _ h => h) (by rfl) hHeld ?_ ?_
  rotate_left 1
  · (intro w hSw; (try dsimp only at hSw); go_simp; try with_reducible rfl)
  simp only [Act.put, List.setIfInBounds_toArray, List.set_cons_zero, List.set_cons_succ]
  refine regSkip 10 (some 27) rfl rfl (by kernel_rfl) (by kernel_rfl) (by kernel_rfl) (fun _ _ _ h => h) (by rfl) hHeld ?_
  simp only [Act.put, List.setIfInBounds_toArray, List.set_cons_zero, List.set_cons_succ]
  refine regSkip 11 (some 28) rfl rfl (by kernel_rfl) (by kernel_rfl) (by kernel_rfl) (fun _ _ _ h => h) (by rfl) hHeld ?_
  simp only [Act.put, List.setIfInBounds_toArray, List.set_cons_zero, List.set_cons_succ]
  refine regSkip 12 (some 29) rfl rfl (by kernel_rfl) (by kernel_rfl) (by kernel_rfl) (fun _ _ _ h => h) (by rfl) hHeld ?_
  simp only [Act.put, List.setIfInBounds_toArray, List.set_cons_zero, List.set_cons_succ]
  refine regTake 13 (some 30) (v := ?_) rfl rfl (by kernel_rfl) (by kernel_rfl) (by kernel_rfl) (fun _ _ _ h => h) (by rfl) hHeld ?_ ?_
  rotate_left 1
  · (intro w hSw; (try dsimp only at hSw); go_simp; try with_reducible rfl)
  simp only [Act.put, List.setIfInBounds_toArray, List.set_cons_zero, List.set_cons_succ]
  refine regTake 14 (some 31) (v := ?_) rfl rfl (by kernel_rfl) (by kernel_rfl) (by kernel_rfl) (fun _ _ _ h => h) (by rfl) hHeld ?_ ?_
  rotate_left 1
  · (intro w hSw; (try dsimp only at hSw); go_simp; try with_reducible rfl)
  simp only [Act.put, List.setIfInBounds_toArray, List.set_cons_zero, List.set_cons_succ]
  refine regSkip 15 (some 32) rfl rfl (by kernel_rfl) (by kernel_rfl) (by kernel_rfl) (fun _ _ _ h => h) (by rfl) hHeld ?_
  simp only [Act.put, List.setIfInBounds_toArray, List.set_cons_zero, List.set_cons_succ]
  refine regSkip 16 (some 33) rfl rfl (by kernel_rfl) (by kernel_rfl) (by kernel_rfl) (fun _ _ _ h => h) (by rfl) hHeld ?_
  simp only [Act.put, List.setIfInBounds_toArray, List.set_cons_zero, List.set_cons_succ]
  refine regSkip 17 (some 34) rfl rfl (by kernel_rfl) (by kernel_rfl) (by kernel_rfl) (fun _ _ _ h => h) (by rfl) hHeld ?_
  simp only [Act.put, List.setIfInBounds_toArray, List.set_cons_zero, List.set_cons_succ]
  refine regSkip 18 (some 35) rfl rfl (by kernel_rfl) (by kernel_rfl) (by kernel_rfl) (fun _ _ _ h => h) (by rfl) hHeld ?_
  simp only [Act.put, List.setIfInBounds_toArray, List.set_cons_zero, List.set_cons_succ]
  refine regSkip 19 (some 36) rfl rfl (by kernel_rfl) (by kernel_rfl) (by kernel_rfl) (fun _ _ _ h => h) (by rfl) hHeld ?_
  simp only [Act.put, List.setIfInBounds_toArray, List.set_cons_zero, List.set_cons_succ]
  refine regSkip 20 (some 37) rfl rfl (by kernel_rfl) (by kernel_rfl) (by kernel_rfl) (fun _ _ _ h => h) (by rfl) hHeld ?_
  simp only [Act.put, List.setIfInBounds_toArray, List.set_cons_zero, List.set_cons_succ]
  refine regSkip 21 (some 38) rfl rfl (by kernel_rfl) (by kernel_rfl) (by kernel_rfl) (fun _ _ _ h => h) (by rfl) hHeld ?_
  simp only [Act.put, List.setIfInBounds_toArray, List.set_cons_zero, List.set_cons_succ]
  refine regTake 22 (some 39) (v := ?_) rfl rfl (by kernel_rfl) (by kernel_rfl) (by kernel_rfl) (fun _ _ _ h => h) (by rfl) hHeld ?_ ?_
  rotate_left 1
  · (intro w hSw; (try dsimp only at hSw); go_simp; try with_reducible rfl)
  simp only [Act.put, List.setIfInBounds_toArray, List.set_cons_zero, List.set_cons_succ]
  refine wpAnyH_done (by kernel_rfl) ?_ _
  clear hHeld
  have qb0_2 : wx7.cell? ⟨w.heap.size, 0, none⟩ = some (.int .i64 size) := Hbg2.out.cell 0
  have qb1_2 : wx7.cell? ⟨w.heap.size, 1, none⟩ = some (.int .i64 m) := Hbg2.out.cell 1
  have qb2_2 : wx7.cell? ⟨w.heap.size, 2, none⟩ = some (.int .i64 sum) := Hbg2.out.cell 2
  have qb3_2 : wx7.cell? ⟨w.heap.size, 3, none⟩ = some (.int .i64 rng) := Hbg2.out.cell 3
  have qb4_2 : wx7.cell? ⟨w.heap.size, 4, none⟩ = some (.int .i64 last) := Hbg2.out.cell 4
  have lb_2 : w.heap.size < wx7.heap.size := Hbg2.out.lt
  go_wp2
  go_ret
  exact ⟨rfl, HBg2.out⟩
set_option linter.unusedSimpArgs false in
set_option linter.unusedVariables false in
set_option maxHeartbeats 8000000 in
set_option maxRecDepth 100000 in
theorem bright_4 (size m sum rng last P : Int) (w : World) (ms : (∀ W, Calls Try.prog 22 #[.int .i64 size] W fun e w' => e = .returned (.bool true) ∧ Below W.heap.size W w')) (mn : (∀ W, Calls Try.prog 26 #[.int .i64 sum, .int .i64 P] W fun e w' => e = .returned ( .bool true) ∧ Below W.heap.size W w')) (e1 : IntKind.i64.wrap (m * size) = P) (h1 : ¬ m < 0) (h2 : ¬ 25 < m) (h3 : rng < 0) :
    Calls Try.prog 10 #[.agg #[.int .i64 size, .int .i64 m, .int .i64 sum, .int .i64 rng, .int .i64 last]] w fun e w' => e = .returned (.bool false) ∧ Below w.heap.size w w' := by
  have MS := Lib.hid ms; have MN := Lib.hid mn
  clear ms mn
  obtain ⟨w2, hw2⟩ : ∃ w2, w.alloc (.cells #[.int .i64 size, .int .i64 m, .int .i64 sum, .int .i64 rng, .int .i64 last] 23) = w2 := ⟨_, rfl⟩
  have HB2 := Lib.hid (show Below w.heap.size w w2 by rw [← hw2]; exact (Below.refl _ _).alloc (Nat.le_refl _) _)
  have HV2 := Lib.hid (show Has w2 w.heap.size [.int .i64 size, .int .i64 m, .int .i64 sum, .int .i64 rng, .int .i64 last] 23 by rw [← hw2]; exact Has.new w _ _)
  have HW2 := Lib.hid hw2
  clear hw2
  have hbase := Nat.le_refl w.heap.size
  go_enter Try.func10, Try.ntmps10
  go_upto_region 1 with fail
  rw [HW2.out]
  have qb0_0 : w2.cell? ⟨w.heap.size, 0, none⟩ = some (.int .i64 size) := HV2.out.cell 0
  have qb1_0 : w2.cell? ⟨w.heap.size, 1, none⟩ = some (.int .i64 m) := HV2.out.cell 1
  have qb2_0 : w2.cell? ⟨w.heap.size, 2, none⟩ = some (.int .i64 sum) := HV2.out.cell 2
  have qb3_0 : w2.cell? ⟨w.heap.size, 3, none⟩ = some (.int .i64 rng) := HV2.out.cell 3
  have qb4_0 : w2.cell? ⟨w.heap.size, 4, none⟩ = some (.int .i64 last) := HV2.out.cell 4
  have lb_0 : w.heap.size < w2.heap.size := HV2.out.lt
  have hcz1 := MS.out w2
  go_wp2_with fail
  refine hcz1.mono ?_
  rintro e wz1 ⟨rfl, kz1⟩
  clear hcz1 qb0_0 qb1_0 qb2_0 qb3_0 qb4_0 lb_0
  have HBz1 := Lib.hid (HB2.out.trans (kz1.mono (Nat.le_trans hbase HB2.out.size)))
  have Hbz1 := Lib.hid (HV2.out.call kz1)
  clear kz1
  have qb0_1 : wz1.cell? ⟨w.heap.size, 0, none⟩ = some (.int .i64 size) := Hbz1.out.cell 0
  have qb1_1 : wz1.cell? ⟨w.heap.size, 1, none⟩ = some (.int .i64 m) := Hbz1.out.cell 1
  have qb2_1 : wz1.cell? ⟨w.heap.size, 2, none⟩ = some (.int .i64 sum) := Hbz1.out.cell 2
  have qb3_1 : wz1.cell? ⟨w.heap.size, 3, none⟩ = some (.int .i64 rng) := Hbz1.out.cell 3
  have qb4_1 : wz1.cell? ⟨w.heap.size, 4, none⟩ = some (.int .i64 last) := Hbz1.out.cell 4
  have lb_1 : w.heap.size < wz1.heap.size := Hbz1.out.lt
  go_upto_region 3 with fail
  clear qb0_1 qb1_1 qb2_1 qb3_1 qb4_1 lb_1
  refine wp_region_held_drew (S := (fun W' => W'.cell? ⟨w.heap.size, 0, none⟩ = some (.int .i64 size) ∧ W'.cell? ⟨w.heap.size, 1, none⟩ = some (.int .i64 m) ∧ W'.cell? ⟨w.heap.size, 2, none⟩ = some (.int .i64 sum) ∧ W'.cell? ⟨w.heap.size, 3, none⟩ = some (.int .i64 rng) ∧ W'.cell? ⟨w.heap.size, 4, none⟩ = some (.int .i64 last))) (by kernel_rfl) ⟨Hbz1.out.cell 0, Hbz1.out.cell 1, Hbz1.out.cell 2, Hbz1.out.cell 3, Hbz1.out.cell 4⟩ (fun hHeld => ?_)
  refine regTake 0 (some 17) (v := ?_) rfl rfl (by kernel_rfl) (by kernel_rfl) (by kernel_rfl) (fun _ _ _ h => h) (by rfl) hHeld ?_ ?_
  rotate_left 1
  · (intro w hSw; (try dsimp only at hSw); go_simp; try with_reducible rfl)
  simp only [Act.put, List.setIfInBounds_toArray, List.set_cons_zero, List.set_cons_succ]
  refine regTake 1 (some 18) (v := ?_) rfl rfl (by kernel_rfl) (by kernel_rfl) (by kernel_rfl) (fun _ _ _ h => h) (by rfl) hHeld ?_ ?_
  rotate_left 1
  · (intro w hSw; (try dsimp only at hSw); go_simp; try with_reducible rfl)
  simp only [Act.put, List.setIfInBounds_toArray, List.set_cons_zero, List.set_cons_succ]
  refine regTake 2 (some 19) (v := ?_) rfl rfl (by kernel_rfl) (by kernel_rfl) (by kernel_rfl) (fun _ _ _ h => h) (by rfl) hHeld ?_ ?_
  rotate_left 1
  · (intro w hSw; (try dsimp only at hSw); go_simp; try with_reducible rfl)
  simp only [Act.put, List.setIfInBounds_toArray, List.set_cons_zero, List.set_cons_succ]
  refine regTake 3 (some 20) (v := ?_) rfl rfl (by kernel_rfl) (by kernel_rfl) (by kernel_rfl) (fun _ _ _ h => h) (by rfl) hHeld ?_ ?_
  rotate_left 1
  · (intro w hSw; (try dsimp only at hSw); go_simp; try with_reducible rfl)
  simp only [Act.put, List.setIfInBounds_toArray, List.set_cons_zero, List.set_cons_succ]
  refine regTake 4 (some 21) (v := ?_) rfl rfl (by kernel_rfl) (by kernel_rfl) (by kernel_rfl) (fun _ _ _ h => h) (by rfl) hHeld ?_ ?_
  rotate_left 1
  · (intro w hSw; (try dsimp only at hSw); go_simp; try with_reducible rfl)
  simp only [Act.put, List.setIfInBounds_toArray, List.set_cons_zero, List.set_cons_succ]
  refine regTake 5 (some 22) (v := ?_) rfl rfl (by kernel_rfl) (by kernel_rfl) (by kernel_rfl) (fun _ _ _ h => h) (by rfl) hHeld ?_ ?_
  rotate_left 1
  · (intro w hSw; (try dsimp only at hSw); go_simp; try with_reducible rfl)
  simp only [Act.put, List.setIfInBounds_toArray, List.set_cons_zero, List.set_cons_succ]
  refine regTake 6 (some 23) (v := ?_) rfl rfl (by kernel_rfl) (by kernel_rfl) (by kernel_rfl) (fun _ _ _ h => h) (by rfl) hHeld ?_ ?_
  rotate_left 1
  · (intro w hSw; (try dsimp only at hSw); go_simp; try with_reducible rfl)
  simp only [Act.put, List.setIfInBounds_toArray, List.set_cons_zero, List.set_cons_succ]
  refine regCall 7 (some 24) (f := 26) (args := ?_) rfl rfl (by kernel_rfl) (by rfl) ?_ ?_
  rotate_left 1
  · (go_simp; try with_reducible rfl)
  refine (MN.out _).mono ?_
  rintro e wx7 ⟨rfl, kg2⟩
  refine ⟨_, rfl, ⟨(Hbz1.out.step kg2 rfl).cell 0, (Hbz1.out.step kg2 rfl).cell 1, (Hbz1.out.step kg2 rfl).cell 2, (Hbz1.out.step kg2 rfl).cell 3, (Hbz1.out.step kg2 rfl).cell 4⟩, fun hHeld => ?_⟩
  simp only [Act.put, List.setIfInBounds_toArray, List.set_cons_zero, List.set_cons_succ]
  have HBg2 := Lib.hid ((HBz1.out.drew).trans (kg2.mono (Nat.le_trans hbase (HBz1.out.drew).size)))
  have Hbg2 := Lib.hid (Hbz1.out.step kg2 rfl)
  clear kg2
  refine regTake 8 (some 25) (v := ?_) rfl rfl (by kernel_rfl) (by kernel_rfl) (by kernel_rfl) (fun _ _ _ h => h) (by rfl) hHeld ?_ ?_
  rotate_left 1
  · (intro w hSw; (try dsimp only at hSw); go_simp; try with_reducible rfl)
  simp only [Act.put, List.setIfInBounds_toArray, List.set_cons_zero, List.set_cons_succ]
  refine regTake 9 (some 26) (v := ?_) rfl rfl (by kernel_rfl) (by kernel_rfl) (by kernel_rfl) (fun _ _ _ h => h) (by rfl) hHeld ?_ ?_
  rotate_left 1
  · (intro w hSw; (try dsimp only at hSw); go_simp; try with_reducible rfl)
  simp only [Act.put, List.setIfInBounds_toArray, List.set_cons_zero, List.set_cons_succ]
  refine regTake 10 (some 27) (v := ?_) rfl rfl (by kernel_rfl) (by kernel_rfl) (by kernel_rfl) (fun _ _ _ h => h) (by rfl) hHeld ?_ ?_
  rotate_left 1
  · (intro w hSw; (try dsimp only at hSw); go_simp; try with_reducible rfl)
  simp only [Act.put, List.setIfInBounds_toArray, List.set_cons_zero, List.set_cons_succ]
  refine regTake 11 (some 28) (v := ?_) rfl rfl (by kernel_rfl) (by kernel_rfl) (by kernel_rfl) (fun _ _ _ h => h) (by rfl) hHeld ?_ ?_
  rotate_left 1
  · (intro w hSw; (try dsimp only at hSw); go_simp; try with_reducible rfl)
  simp only [Act.put, List.setIfInBounds_toArray, List.set_cons_zero, List.set_cons_succ]
  refine regTake 12 (some 29) (v := .bool true) rfl rfl (by kernel_rfl) (by kernel_rfl) (by kernel_rfl) (fun _ _ _ h => h) (by rfl) hHeld ?_ ?_
  · (intro w hSw; (try dsimp only at hSw); go_simp; try with_reducible rfl)
  simp only [Act.put, List.setIfInBounds_toArray, List.set_cons_zero, List.set_cons_succ]
  refine regTake 13 (some 30) (v := ?_) rfl rfl (by kernel_rfl) (by kernel_rfl) (by kernel_rfl) (fun _ _ _ h => h) (by rfl) hHeld ?_ ?_
  rotate_left 1
  · (intro w hSw; (try dsimp only at hSw); go_simp; try with_reducible rfl)
  simp only [Act.put, List.setIfInBounds_toArray, List.set_cons_zero, List.set_cons_succ]
  refine regTake 14 (some 31) (v := ?_) rfl rfl (by kernel_rfl) (by kernel_rfl) (by kernel_rfl) (fun _ _ _ h => h) (by rfl) hHeld ?_ ?_
  rotate_left 1
  · (intro w hSw; (try dsimp only at hSw); go_simp; try with_reducible rfl)
  simp only [Act.put, List.setIfInBounds_toArray, List.set_cons_zero, List.set_cons_succ]
  refine regSkip 15 (some 32) rfl rfl (by kernel_rfl) (by kernel_rfl) (by kernel_rfl) (fun _ _ _ h => h) (by rfl) hHeld ?_
  simp only [Act.put, List.setIfInBounds_toArray, List.set_cons_zero, List.set_cons_succ]
  refine regSkip 16 (some 33) rfl rfl (by kernel_rfl) (by kernel_rfl) (by kernel_rfl) (fun _ _ _ h => h) (by rfl) hHeld ?_
  simp only [Act.put, List.setIfInBounds_toArray, List.set_cons_zero, List.set_cons_succ]
  refine regSkip 17 (some 34) rfl rfl (by kernel_rfl) (by kernel_rfl) (by kernel_rfl) (fun _ _ _ h => h) (by rfl) hHeld ?_
  simp only [Act.put, List.setIfInBounds_toArray, List.set_cons_zero, List.set_cons_succ]
  refine regSkip 18 (some 35) rfl rfl (by kernel_rfl) (by kernel_rfl) (by kernel_rfl) (fun _ _ _ h => h) (by rfl) hHeld ?_
  simp only [Act.put, List.setIfInBounds_toArray, List.set_cons_zero, List.set_cons_succ]
  refine regSkip 19 (some 36) rfl rfl (by kernel_rfl) (by kernel_rfl) (by kernel_rfl) (fun _ _ _ h => h) (by rfl) hHeld ?_
  simp only [Act.put, List.setIfInBounds_toArray, List.set_cons_zero, List.set_cons_succ]
  refine regSkip 20 (some 37) rfl rfl (by kernel_rfl) (by kernel_rfl) (by kernel_rfl) (fun _ _ _ h => h) (by rfl) hHeld ?_
  simp only [Act.put, List.setIfInBounds_toArray, List.set_cons_zero, List.set_cons_succ]
  refine regSkip 21 (some 38) rfl rfl (by kernel_rfl) (by kernel_rfl) (by kernel_rfl) (fun _ _ _ h => h) (by rfl) hHeld ?_
  simp only [Act.put, List.setIfInBounds_toArray, List.set_cons_zero, List.set_cons_succ]
  refine regTake 22 (some 39) (v := ?_) rfl rfl (by kernel_rfl) (by kernel_rfl) (by kernel_rfl) (fun _ _ _ h => h) (by rfl) hHeld ?_ ?_
  rotate_left 1
  · (intro w hSw; (try dsimp only at hSw); go_simp; try with_reducible rfl)
  simp only [Act.put, List.setIfInBounds_toArray, List.set_cons_zero, List.set_cons_succ]
  refine wpAnyH_done (by kernel_rfl) ?_ _
  clear hHeld
  have qb0_2 : wx7.cell? ⟨w.heap.size, 0, none⟩ = some (.int .i64 size) := Hbg2.out.cell 0
  have qb1_2 : wx7.cell? ⟨w.heap.size, 1, none⟩ = some (.int .i64 m) := Hbg2.out.cell 1
  have qb2_2 : wx7.cell? ⟨w.heap.size, 2, none⟩ = some (.int .i64 sum) := Hbg2.out.cell 2
  have qb3_2 : wx7.cell? ⟨w.heap.size, 3, none⟩ = some (.int .i64 rng) := Hbg2.out.cell 3
  have qb4_2 : wx7.cell? ⟨w.heap.size, 4, none⟩ = some (.int .i64 last) := Hbg2.out.cell 4
  have lb_2 : w.heap.size < wx7.heap.size := Hbg2.out.lt
  go_wp2
  go_ret
  exact ⟨rfl, HBg2.out⟩
set_option linter.unusedSimpArgs false in
set_option linter.unusedVariables false in
set_option maxHeartbeats 8000000 in
set_option maxRecDepth 100000 in
theorem bright_5 (size m sum rng last P R Q : Int) (w : World) (T : TypeId) (V : Value) (F : FuncId) (ms : (∀ W, Calls Try.prog 22 #[.int .i64 size] W fun e w' => e = .returned (.bool true) ∧ Below W.heap.size W w')) (mn : (∀ W, Calls Try.prog 26 #[.int .i64 sum, .int .i64 P] W fun e w' => e = .returned ( .bool true) ∧ Below W.heap.size W w')) (mc : (∀ W, Calls Try.prog 25 #[.agg #[.int .i64 size, .int .i64 m, .int .i64 sum, .int .i64 rng, .int .i64 last]] W fun e w' => e = .returned (.iface T V) ∧ Below W.heap.size W w')) (mr : (∀ W, Calls Try.prog F #[V] W fun e w' => e = .returned (.int .i64 R) ∧ Below W.heap.size W w')) (e1 : IntKind.i64.wrap (m * size) = P) (e2 : IntKind.i64.wrap (R * 2000000) = Q) (h1 : ¬ m < 0) (h2 : ¬ 25 < m) (h3 : ¬ rng < 0) (h4 : Q < rng) (hm : ∀ W, (method 240 T V "datum/base.ranges").run Try.prog W = .ok (F, V) W) (heg : ∀ args W, (callFunc F args).run Try.prog W = .ok (.enter F args) W) :
    Calls Try.prog 10 #[.agg #[.int .i64 size, .int .i64 m, .int .i64 sum, .int .i64 rng, .int .i64 last]] w fun e w' => e = .returned (.bool false) ∧ Below w.heap.size w w' := by
  have MS := Lib.hid ms; have MN := Lib.hid mn; have MC := Lib.hid mc; have MR := Lib.hid mr
  clear ms mn mc mr
  obtain ⟨w2, hw2⟩ : ∃ w2, w.alloc (.cells #[.int .i64 size, .int .i64 m, .int .i64 sum, .int .i64 rng, .int .i64 last] 23) = w2 := ⟨_, rfl⟩
  have HB2 := Lib.hid (show Below w.heap.size w w2 by rw [← hw2]; exact (Below.refl _ _).alloc (Nat.le_refl _) _)
  have HV2 := Lib.hid (show Has w2 w.heap.size [.int .i64 size, .int .i64 m, .int .i64 sum, .int .i64 rng, .int .i64 last] 23 by rw [← hw2]; exact Has.new w _ _)
  have HW2 := Lib.hid hw2
  clear hw2
  have hbase := Nat.le_refl w.heap.size
  go_enter Try.func10, Try.ntmps10
  go_upto_region 1 with fail
  rw [HW2.out]
  have qb0_0 : w2.cell? ⟨w.heap.size, 0, none⟩ = some (.int .i64 size) := HV2.out.cell 0
  have qb1_0 : w2.cell? ⟨w.heap.size, 1, none⟩ = some (.int .i64 m) := HV2.out.cell 1
  have qb2_0 : w2.cell? ⟨w.heap.size, 2, none⟩ = some (.int .i64 sum) := HV2.out.cell 2
  have qb3_0 : w2.cell? ⟨w.heap.size, 3, none⟩ = some (.int .i64 rng) := HV2.out.cell 3
  have qb4_0 : w2.cell? ⟨w.heap.size, 4, none⟩ = some (.int .i64 last) := HV2.out.cell 4
  have lb_0 : w.heap.size < w2.heap.size := HV2.out.lt
  have hcz1 := MS.out w2
  go_wp2_with fail
  refine hcz1.mono ?_
  rintro e wz1 ⟨rfl, kz1⟩
  clear hcz1 qb0_0 qb1_0 qb2_0 qb3_0 qb4_0 lb_0
  have HBz1 := Lib.hid (HB2.out.trans (kz1.mono (Nat.le_trans hbase HB2.out.size)))
  have Hbz1 := Lib.hid (HV2.out.call kz1)
  clear kz1
  have qb0_1 : wz1.cell? ⟨w.heap.size, 0, none⟩ = some (.int .i64 size) := Hbz1.out.cell 0
  have qb1_1 : wz1.cell? ⟨w.heap.size, 1, none⟩ = some (.int .i64 m) := Hbz1.out.cell 1
  have qb2_1 : wz1.cell? ⟨w.heap.size, 2, none⟩ = some (.int .i64 sum) := Hbz1.out.cell 2
  have qb3_1 : wz1.cell? ⟨w.heap.size, 3, none⟩ = some (.int .i64 rng) := Hbz1.out.cell 3
  have qb4_1 : wz1.cell? ⟨w.heap.size, 4, none⟩ = some (.int .i64 last) := Hbz1.out.cell 4
  have lb_1 : w.heap.size < wz1.heap.size := Hbz1.out.lt
  go_upto_region 3 with fail
  clear qb0_1 qb1_1 qb2_1 qb3_1 qb4_1 lb_1
  refine wp_region_held_drew (S := (fun W' => W'.cell? ⟨w.heap.size, 0, none⟩ = some (.int .i64 size) ∧ W'.cell? ⟨w.heap.size, 1, none⟩ = some (.int .i64 m) ∧ W'.cell? ⟨w.heap.size, 2, none⟩ = some (.int .i64 sum) ∧ W'.cell? ⟨w.heap.size, 3, none⟩ = some (.int .i64 rng) ∧ W'.cell? ⟨w.heap.size, 4, none⟩ = some (.int .i64 last))) (by kernel_rfl) ⟨Hbz1.out.cell 0, Hbz1.out.cell 1, Hbz1.out.cell 2, Hbz1.out.cell 3, Hbz1.out.cell 4⟩ (fun hHeld => ?_)
  refine regTake 0 (some 17) (v := ?_) rfl rfl (by kernel_rfl) (by kernel_rfl) (by kernel_rfl) (fun _ _ _ h => h) (by rfl) hHeld ?_ ?_
  rotate_left 1
  · (intro w hSw; (try dsimp only at hSw); go_simp; try with_reducible rfl)
  simp only [Act.put, List.setIfInBounds_toArray, List.set_cons_zero, List.set_cons_succ]
  refine regTake 1 (some 18) (v := ?_) rfl rfl (by kernel_rfl) (by kernel_rfl) (by kernel_rfl) (fun _ _ _ h => h) (by rfl) hHeld ?_ ?_
  rotate_left 1
  · (intro w hSw; (try dsimp only at hSw); go_simp; try with_reducible rfl)
  simp only [Act.put, List.setIfInBounds_toArray, List.set_cons_zero, List.set_cons_succ]
  refine regTake 2 (some 19) (v := ?_) rfl rfl (by kernel_rfl) (by kernel_rfl) (by kernel_rfl) (fun _ _ _ h => h) (by rfl) hHeld ?_ ?_
  rotate_left 1
  · (intro w hSw; (try dsimp only at hSw); go_simp; try with_reducible rfl)
  simp only [Act.put, List.setIfInBounds_toArray, List.set_cons_zero, List.set_cons_succ]
  refine regTake 3 (some 20) (v := ?_) rfl rfl (by kernel_rfl) (by kernel_rfl) (by kernel_rfl) (fun _ _ _ h => h) (by rfl) hHeld ?_ ?_
  rotate_left 1
  · (intro w hSw; (try dsimp only at hSw); go_simp; try with_reducible rfl)
  simp only [Act.put, List.setIfInBounds_toArray, List.set_cons_zero, List.set_cons_succ]
  refine regTake 4 (some 21) (v := ?_) rfl rfl (by kernel_rfl) (by kernel_rfl) (by kernel_rfl) (fun _ _ _ h => h) (by rfl) hHeld ?_ ?_
  rotate_left 1
  · (intro w hSw; (try dsimp only at hSw); go_simp; try with_reducible rfl)
  simp only [Act.put, List.setIfInBounds_toArray, List.set_cons_zero, List.set_cons_succ]
  refine regTake 5 (some 22) (v := ?_) rfl rfl (by kernel_rfl) (by kernel_rfl) (by kernel_rfl) (fun _ _ _ h => h) (by rfl) hHeld ?_ ?_
  rotate_left 1
  · (intro w hSw; (try dsimp only at hSw); go_simp; try with_reducible rfl)
  simp only [Act.put, List.setIfInBounds_toArray, List.set_cons_zero, List.set_cons_succ]
  refine regTake 6 (some 23) (v := ?_) rfl rfl (by kernel_rfl) (by kernel_rfl) (by kernel_rfl) (fun _ _ _ h => h) (by rfl) hHeld ?_ ?_
  rotate_left 1
  · (intro w hSw; (try dsimp only at hSw); go_simp; try with_reducible rfl)
  simp only [Act.put, List.setIfInBounds_toArray, List.set_cons_zero, List.set_cons_succ]
  refine regCall 7 (some 24) (f := 26) (args := ?_) rfl rfl (by kernel_rfl) (by rfl) ?_ ?_
  rotate_left 1
  · (go_simp; try with_reducible rfl)
  refine (MN.out _).mono ?_
  rintro e wx7 ⟨rfl, kg2⟩
  refine ⟨_, rfl, ⟨(Hbz1.out.step kg2 rfl).cell 0, (Hbz1.out.step kg2 rfl).cell 1, (Hbz1.out.step kg2 rfl).cell 2, (Hbz1.out.step kg2 rfl).cell 3, (Hbz1.out.step kg2 rfl).cell 4⟩, fun hHeld => ?_⟩
  simp only [Act.put, List.setIfInBounds_toArray, List.set_cons_zero, List.set_cons_succ]
  have HBg2 := Lib.hid ((HBz1.out.drew).trans (kg2.mono (Nat.le_trans hbase (HBz1.out.drew).size)))
  have Hbg2 := Lib.hid (Hbz1.out.step kg2 rfl)
  clear kg2
  refine regTake 8 (some 25) (v := ?_) rfl rfl (by kernel_rfl) (by kernel_rfl) (by kernel_rfl) (fun _ _ _ h => h) (by rfl) hHeld ?_ ?_
  rotate_left 1
  · (intro w hSw; (try dsimp only at hSw); go_simp; try with_reducible rfl)
  simp only [Act.put, List.setIfInBounds_toArray, List.set_cons_zero, List.set_cons_succ]
  refine regTake 9 (some 26) (v := ?_) rfl rfl (by kernel_rfl) (by kernel_rfl) (by kernel_rfl) (fun _ _ _ h => h) (by rfl) hHeld ?_ ?_
  rotate_left 1
  · (intro w hSw; (try dsimp only at hSw); go_simp; try with_reducible rfl)
  simp only [Act.put, List.setIfInBounds_toArray, List.set_cons_zero, List.set_cons_succ]
  refine regTake 10 (some 27) (v := ?_) rfl rfl (by kernel_rfl) (by kernel_rfl) (by kernel_rfl) (fun _ _ _ h => h) (by rfl) hHeld ?_ ?_
  rotate_left 1
  · (intro w hSw; (try dsimp only at hSw); go_simp; try with_reducible rfl)
  simp only [Act.put, List.setIfInBounds_toArray, List.set_cons_zero, List.set_cons_succ]
  refine regTake 11 (some 28) (v := ?_) rfl rfl (by kernel_rfl) (by kernel_rfl) (by kernel_rfl) (fun _ _ _ h => h) (by rfl) hHeld ?_ ?_
  rotate_left 1
  · (intro w hSw; (try dsimp only at hSw); go_simp; try with_reducible rfl)
  simp only [Act.put, List.setIfInBounds_toArray, List.set_cons_zero, List.set_cons_succ]
  refine regTake 12 (some 29) (v := .bool false) rfl rfl (by kernel_rfl) (by kernel_rfl) (by kernel_rfl) (fun _ _ _ h => h) (by rfl) hHeld ?_ ?_
  · (intro w hSw; (try dsimp only at hSw); go_simp; try with_reducible rfl)
  simp only [Act.put, List.setIfInBounds_toArray, List.set_cons_zero, List.set_cons_succ]
  refine regTake 13 (some 30) (v := ?_) rfl rfl (by kernel_rfl) (by kernel_rfl) (by kernel_rfl) (fun _ _ _ h => h) (by rfl) hHeld ?_ ?_
  rotate_left 1
  · (intro w hSw; (try dsimp only at hSw); go_simp; try with_reducible rfl)
  simp only [Act.put, List.setIfInBounds_toArray, List.set_cons_zero, List.set_cons_succ]
  refine regTake 14 (some 31) (v := ?_) rfl rfl (by kernel_rfl) (by kernel_rfl) (by kernel_rfl) (fun _ _ _ h => h) (by rfl) hHeld ?_ ?_
  rotate_left 1
  · (intro w hSw; (try dsimp only at hSw); go_simp; try with_reducible rfl)
  simp only [Act.put, List.setIfInBounds_toArray, List.set_cons_zero, List.set_cons_succ]
  refine regTake 15 (some 32) (v := ?_) rfl rfl (by kernel_rfl) (by kernel_rfl) (by kernel_rfl) (fun _ _ _ h => h) (by rfl) hHeld ?_ ?_
  rotate_left 1
  · (intro w hSw; (try dsimp only at hSw); go_simp; try with_reducible rfl)
  simp only [Act.put, List.setIfInBounds_toArray, List.set_cons_zero, List.set_cons_succ]
  refine regTake 19 (some 36) (v := ?_) rfl rfl (by kernel_rfl) (by kernel_rfl) (by kernel_rfl) (fun _ _ _ h => h) (by rfl) hHeld ?_ ?_
  rotate_left 1
  · (intro w hSw; (try dsimp only at hSw); go_simp; try with_reducible rfl)
  simp only [Act.put, List.setIfInBounds_toArray, List.set_cons_zero, List.set_cons_succ]
  refine regTake 20 (some 37) (v := ?_) rfl rfl (by kernel_rfl) (by kernel_rfl) (by kernel_rfl) (fun _ _ _ h => h) (by rfl) hHeld ?_ ?_
  rotate_left 1
  · (intro w hSw; (try dsimp only at hSw); go_simp; try with_reducible rfl)
  simp only [Act.put, List.setIfInBounds_toArray, List.set_cons_zero, List.set_cons_succ]
  refine regCall 16 (some 33) (f := 25) (args := ?_) rfl rfl (by kernel_rfl) (by rfl) ?_ ?_
  rotate_left 1
  · (go_simp; try with_reducible rfl)
  refine (MC.out _).mono ?_
  rintro e wx16 ⟨rfl, kg3⟩
  refine ⟨_, rfl, ⟨(Hbg2.out.step kg3 rfl).cell 0, (Hbg2.out.step kg3 rfl).cell 1, (Hbg2.out.step kg3 rfl).cell 2, (Hbg2.out.step kg3 rfl).cell 3, (Hbg2.out.step kg3 rfl).cell 4⟩, fun hHeld => ?_⟩
  simp only [Act.put, List.setIfInBounds_toArray, List.set_cons_zero, List.set_cons_succ]
  have HBg3 := Lib.hid ((HBg2.out).trans (kg3.mono (Nat.le_trans hbase (HBg2.out).size)))
  have Hbg3 := Lib.hid (Hbg2.out.step kg3 rfl)
  clear kg3
  refine regCall 17 (some 34) (f := F) (args := ?_) rfl rfl (by kernel_rfl) (by rfl) ?_ ?_
  rotate_left 1
  · (go_simp; try with_reducible rfl)
  refine (MR.out _).mono ?_
  rintro e wx17 ⟨rfl, kg4⟩
  refine ⟨_, rfl, ⟨(Hbg3.out.step kg4 rfl).cell 0, (Hbg3.out.step kg4 rfl).cell 1, (Hbg3.out.step kg4 rfl).cell 2, (Hbg3.out.step kg4 rfl).cell 3, (Hbg3.out.step kg4 rfl).cell 4⟩, fun hHeld => ?_⟩
  simp only [Act.put, List.setIfInBounds_toArray, List.set_cons_zero, List.set_cons_succ]
  have HBg4 := Lib.hid ((HBg3.out).trans (kg4.mono (Nat.le_trans hbase (HBg3.out).size)))
  have Hbg4 := Lib.hid (Hbg3.out.step kg4 rfl)
  clear kg4
  refine regTake 18 (some 35) (v := ?_) rfl rfl (by kernel_rfl) (by kernel_rfl) (by kernel_rfl) (fun _ _ _ h => h) (by rfl) hHeld ?_ ?_
  rotate_left 1
  · (intro w hSw; (try dsimp only at hSw); go_simp; try with_reducible rfl)
  simp only [Act.put, List.setIfInBounds_toArray, List.set_cons_zero, List.set_cons_succ]
  refine regTake 21 (some 38) (v := ?_) rfl rfl (by kernel_rfl) (by kernel_rfl) (by kernel_rfl) (fun _ _ _ h => h) (by rfl) hHeld ?_ ?_
  rotate_left 1
  · (intro w hSw; (try dsimp only at hSw); go_simp; try with_reducible rfl)
  simp only [Act.put, List.setIfInBounds_toArray, List.set_cons_zero, List.set_cons_succ]
  refine regTake 22 (some 39) (v := ?_) rfl rfl (by kernel_rfl) (by kernel_rfl) (by kernel_rfl) (fun _ _ _ h => h) (by rfl) hHeld ?_ ?_
  rotate_left 1
  · (intro w hSw; (try dsimp only at hSw); go_simp; try with_reducible rfl)
  simp only [Act.put, List.setIfInBounds_toArray, List.set_cons_zero, List.set_cons_succ]
  refine wpAnyH_done (by kernel_rfl) ?_ _
  clear hHeld
  have qb0_4 : wx17.cell? ⟨w.heap.size, 0, none⟩ = some (.int .i64 size) := Hbg4.out.cell 0
  have qb1_4 : wx17.cell? ⟨w.heap.size, 1, none⟩ = some (.int .i64 m) := Hbg4.out.cell 1
  have qb2_4 : wx17.cell? ⟨w.heap.size, 2, none⟩ = some (.int .i64 sum) := Hbg4.out.cell 2
  have qb3_4 : wx17.cell? ⟨w.heap.size, 3, none⟩ = some (.int .i64 rng) := Hbg4.out.cell 3
  have qb4_4 : wx17.cell? ⟨w.heap.size, 4, none⟩ = some (.int .i64 last) := Hbg4.out.cell 4
  have lb_4 : w.heap.size < wx17.heap.size := Hbg4.out.lt
  go_wp2
  go_ret
  exact ⟨rfl, HBg4.out⟩
set_option linter.unusedSimpArgs false in
set_option linter.unusedVariables false in
set_option maxHeartbeats 8000000 in
set_option maxRecDepth 100000 in
theorem bright_6 (size m sum rng last P R Q : Int) (w : World) (T : TypeId) (V : Value) (F : FuncId) (ms : (∀ W, Calls Try.prog 22 #[.int .i64 size] W fun e w' => e = .returned (.bool true) ∧ Below W.heap.size W w')) (mn : (∀ W, Calls Try.prog 26 #[.int .i64 sum, .int .i64 P] W fun e w' => e = .returned ( .bool true) ∧ Below W.heap.size W w')) (mc : (∀ W, Calls Try.prog 25 #[.agg #[.int .i64 size, .int .i64 m, .int .i64 sum, .int .i64 rng, .int .i64 last]] W fun e w' => e = .returned (.iface T V) ∧ Below W.heap.size W w')) (mr : (∀ W, Calls Try.prog F #[V] W fun e w' => e = .returned (.int .i64 R) ∧ Below W.heap.size W w')) (ml : (∀ W, Calls Try.prog 26 #[.int .i64 last, .int .i64 1] W fun e w' => e = .returned (.bool false) ∧ Below W.heap.size W w')) (e1 : IntKind.i64.wrap (m * size) = P) (e2 : IntKind.i64.wrap (R * 2000000) = Q) (h1 : ¬ m < 0) (h2 : ¬ 25 < m) (h3 : ¬ rng < 0) (h4 : ¬ Q < rng) (hm : ∀ W, (method 240 T V "datum/base.ranges").run Try.prog W = .ok (F, V) W) (heg : ∀ args W, (callFunc F args).run Try.prog W = .ok (.enter F args) W) :
    Calls Try.prog 10 #[.agg #[.int .i64 size, .int .i64 m, .int .i64 sum, .int .i64 rng, .int .i64 last]] w fun e w' => e = .returned (.bool false) ∧ Below w.heap.size w w' := by
  have MS := Lib.hid ms; have MN := Lib.hid mn; have MC := Lib.hid mc; have MR := Lib.hid mr; have ML := Lib.hid ml
  clear ms mn mc mr ml
  obtain ⟨w2, hw2⟩ : ∃ w2, w.alloc (.cells #[.int .i64 size, .int .i64 m, .int .i64 sum, .int .i64 rng, .int .i64 last] 23) = w2 := ⟨_, rfl⟩
  have HB2 := Lib.hid (show Below w.heap.size w w2 by rw [← hw2]; exact (Below.refl _ _).alloc (Nat.le_refl _) _)
  have HV2 := Lib.hid (show Has w2 w.heap.size [.int .i64 size, .int .i64 m, .int .i64 sum, .int .i64 rng, .int .i64 last] 23 by rw [← hw2]; exact Has.new w _ _)
  have HW2 := Lib.hid hw2
  clear hw2
  have hbase := Nat.le_refl w.heap.size
  go_enter Try.func10, Try.ntmps10
  go_upto_region 1 with fail
  rw [HW2.out]
  have qb0_0 : w2.cell? ⟨w.heap.size, 0, none⟩ = some (.int .i64 size) := HV2.out.cell 0
  have qb1_0 : w2.cell? ⟨w.heap.size, 1, none⟩ = some (.int .i64 m) := HV2.out.cell 1
  have qb2_0 : w2.cell? ⟨w.heap.size, 2, none⟩ = some (.int .i64 sum) := HV2.out.cell 2
  have qb3_0 : w2.cell? ⟨w.heap.size, 3, none⟩ = some (.int .i64 rng) := HV2.out.cell 3
  have qb4_0 : w2.cell? ⟨w.heap.size, 4, none⟩ = some (.int .i64 last) := HV2.out.cell 4
  have lb_0 : w.heap.size < w2.heap.size := HV2.out.lt
  have hcz1 := MS.out w2
  go_wp2_with fail
  refine hcz1.mono ?_
  rintro e wz1 ⟨rfl, kz1⟩
  clear hcz1 qb0_0 qb1_0 qb2_0 qb3_0 qb4_0 lb_0
  have HBz1 := Lib.hid (HB2.out.trans (kz1.mono (Nat.le_trans hbase HB2.out.size)))
  have Hbz1 := Lib.hid (HV2.out.call kz1)
  clear kz1
  have qb0_1 : wz1.cell? ⟨w.heap.size, 0, none⟩ = some (.int .i64 size) := Hbz1.out.cell 0
  have qb1_1 : wz1.cell? ⟨w.heap.size, 1, none⟩ = some (.int .i64 m) := Hbz1.out.cell 1
  have qb2_1 : wz1.cell? ⟨w.heap.size, 2, none⟩ = some (.int .i64 sum) := Hbz1.out.cell 2
  have qb3_1 : wz1.cell? ⟨w.heap.size, 3, none⟩ = some (.int .i64 rng) := Hbz1.out.cell 3
  have qb4_1 : wz1.cell? ⟨w.heap.size, 4, none⟩ = some (.int .i64 last) := Hbz1.out.cell 4
  have lb_1 : w.heap.size < wz1.heap.size := Hbz1.out.lt
  go_upto_region 3 with fail
  clear qb0_1 qb1_1 qb2_1 qb3_1 qb4_1 lb_1
  refine wp_region_held_drew (S := (fun W' => W'.cell? ⟨w.heap.size, 0, none⟩ = some (.int .i64 size) ∧ W'.cell? ⟨w.heap.size, 1, none⟩ = some (.int .i64 m) ∧ W'.cell? ⟨w.heap.size, 2, none⟩ = some (.int .i64 sum) ∧ W'.cell? ⟨w.heap.size, 3, none⟩ = some (.int .i64 rng) ∧ W'.cell? ⟨w.heap.size, 4, none⟩ = some (.int .i64 last))) (by kernel_rfl) ⟨Hbz1.out.cell 0, Hbz1.out.cell 1, Hbz1.out.cell 2, Hbz1.out.cell 3, Hbz1.out.cell 4⟩ (fun hHeld => ?_)
  refine regTake 0 (some 17) (v := ?_) rfl rfl (by kernel_rfl) (by kernel_rfl) (by kernel_rfl) (fun _ _ _ h => h) (by rfl) hHeld ?_ ?_
  rotate_left 1
  · (intro w hSw; (try dsimp only at hSw); go_simp; try with_reducible rfl)
  simp only [Act.put, List.setIfInBounds_toArray, List.set_cons_zero, List.set_cons_succ]
  refine regTake 1 (some 18) (v := ?_) rfl rfl (by kernel_rfl) (by kernel_rfl) (by kernel_rfl) (fun _ _ _ h => h) (by rfl) hHeld ?_ ?_
  rotate_left 1
  · (intro w hSw; (try dsimp only at hSw); go_simp; try with_reducible rfl)
  simp only [Act.put, List.setIfInBounds_toArray, List.set_cons_zero, List.set_cons_succ]
  refine regTake 2 (some 19) (v := ?_) rfl rfl (by kernel_rfl) (by kernel_rfl) (by kernel_rfl) (fun _ _ _ h => h) (by rfl) hHeld ?_ ?_
  rotate_left 1
  · (intro w hSw; (try dsimp only at hSw); go_simp; try with_reducible rfl)
  simp only [Act.put, List.setIfInBounds_toArray, List.set_cons_zero, List.set_cons_succ]
  refine regTake 3 (some 20) (v := ?_) rfl rfl (by kernel_rfl) (by kernel_rfl) (by kernel_rfl) (fun _ _ _ h => h) (by rfl) hHeld ?_ ?_
  rotate_left 1
  · (intro w hSw; (try dsimp only at hSw); go_simp; try with_reducible rfl)
  simp only [Act.put, List.setIfInBounds_toArray, List.set_cons_zero, List.set_cons_succ]
  refine regTake 4 (some 21) (v := ?_) rfl rfl (by kernel_rfl) (by kernel_rfl) (by kernel_rfl) (fun _ _ _ h => h) (by rfl) hHeld ?_ ?_
  rotate_left 1
  · (intro w hSw; (try dsimp only at hSw); go_simp; try with_reducible rfl)
  simp only [Act.put, List.setIfInBounds_toArray, List.set_cons_zero, List.set_cons_succ]
  refine regTake 5 (some 22) (v := ?_) rfl rfl (by kernel_rfl) (by kernel_rfl) (by kernel_rfl) (fun _ _ _ h => h) (by rfl) hHeld ?_ ?_
  rotate_left 1
  · (intro w hSw; (try dsimp only at hSw); go_simp; try with_reducible rfl)
  simp only [Act.put, List.setIfInBounds_toArray, List.set_cons_zero, List.set_cons_succ]
  refine regTake 6 (some 23) (v := ?_) rfl rfl (by kernel_rfl) (by kernel_rfl) (by kernel_rfl) (fun _ _ _ h => h) (by rfl) hHeld ?_ ?_
  rotate_left 1
  · (intro w hSw; (try dsimp only at hSw); go_simp; try with_reducible rfl)
  simp only [Act.put, List.setIfInBounds_toArray, List.set_cons_zero, List.set_cons_succ]
  refine regCall 7 (some 24) (f := 26) (args := ?_) rfl rfl (by kernel_rfl) (by rfl) ?_ ?_
  rotate_left 1
  · (go_simp; try with_reducible rfl)
  refine (MN.out _).mono ?_
  rintro e wx7 ⟨rfl, kg2⟩
  refine ⟨_, rfl, ⟨(Hbz1.out.step kg2 rfl).cell 0, (Hbz1.out.step kg2 rfl).cell 1, (Hbz1.out.step kg2 rfl).cell 2, (Hbz1.out.step kg2 rfl).cell 3, (Hbz1.out.step kg2 rfl).cell 4⟩, fun hHeld => ?_⟩
  simp only [Act.put, List.setIfInBounds_toArray, List.set_cons_zero, List.set_cons_succ]
  have HBg2 := Lib.hid ((HBz1.out.drew).trans (kg2.mono (Nat.le_trans hbase (HBz1.out.drew).size)))
  have Hbg2 := Lib.hid (Hbz1.out.step kg2 rfl)
  clear kg2
  refine regTake 8 (some 25) (v := ?_) rfl rfl (by kernel_rfl) (by kernel_rfl) (by kernel_rfl) (fun _ _ _ h => h) (by rfl) hHeld ?_ ?_
  rotate_left 1
  · (intro w hSw; (try dsimp only at hSw); go_simp; try with_reducible rfl)
  simp only [Act.put, List.setIfInBounds_toArray, List.set_cons_zero, List.set_cons_succ]
  refine regTake 9 (some 26) (v := ?_) rfl rfl (by kernel_rfl) (by kernel_rfl) (by kernel_rfl) (fun _ _ _ h => h) (by rfl) hHeld ?_ ?_
  rotate_left 1
  · (intro w hSw; (try dsimp only at hSw); go_simp; try with_reducible rfl)
  simp only [Act.put, List.setIfInBounds_toArray, List.set_cons_zero, List.set_cons_succ]
  refine regTake 10 (some 27) (v := ?_) rfl rfl (by kernel_rfl) (by kernel_rfl) (by kernel_rfl) (fun _ _ _ h => h) (by rfl) hHeld ?_ ?_
  rotate_left 1
  · (intro w hSw; (try dsimp only at hSw); go_simp; try with_reducible rfl)
  simp only [Act.put, List.setIfInBounds_toArray, List.set_cons_zero, List.set_cons_succ]
  refine regTake 11 (some 28) (v := ?_) rfl rfl (by kernel_rfl) (by kernel_rfl) (by kernel_rfl) (fun _ _ _ h => h) (by rfl) hHeld ?_ ?_
  rotate_left 1
  · (intro w hSw; (try dsimp only at hSw); go_simp; try with_reducible rfl)
  simp only [Act.put, List.setIfInBounds_toArray, List.set_cons_zero, List.set_cons_succ]
  refine regTake 12 (some 29) (v := .bool false) rfl rfl (by kernel_rfl) (by kernel_rfl) (by kernel_rfl) (fun _ _ _ h => h) (by rfl) hHeld ?_ ?_
  · (intro w hSw; (try dsimp only at hSw); go_simp; try with_reducible rfl)
  simp only [Act.put, List.setIfInBounds_toArray, List.set_cons_zero, List.set_cons_succ]
  refine regTake 13 (some 30) (v := ?_) rfl rfl (by kernel_rfl) (by kernel_rfl) (by kernel_rfl) (fun _ _ _ h => h) (by rfl) hHeld ?_ ?_
  rotate_left 1
  · (intro w hSw; (try dsimp only at hSw); go_simp; try with_reducible rfl)
  simp only [Act.put, List.setIfInBounds_toArray, List.set_cons_zero, List.set_cons_succ]
  refine regTake 14 (some 31) (v := ?_) rfl rfl (by kernel_rfl) (by kernel_rfl) (by kernel_rfl) (fun _ _ _ h => h) (by rfl) hHeld ?_ ?_
  rotate_left 1
  · (intro w hSw; (try dsimp only at hSw); go_simp; try with_reducible rfl)
  simp only [Act.put, List.setIfInBounds_toArray, List.set_cons_zero, List.set_cons_succ]
  refine regTake 15 (some 32) (v := ?_) rfl rfl (by kernel_rfl) (by kernel_rfl) (by kernel_rfl) (fun _ _ _ h => h) (by rfl) hHeld ?_ ?_
  rotate_left 1
  · (intro w hSw; (try dsimp only at hSw); go_simp; try with_reducible rfl)
  simp only [Act.put, List.setIfInBounds_toArray, List.set_cons_zero, List.set_cons_succ]
  refine regTake 19 (some 36) (v := ?_) rfl rfl (by kernel_rfl) (by kernel_rfl) (by kernel_rfl) (fun _ _ _ h => h) (by rfl) hHeld ?_ ?_
  rotate_left 1
  · (intro w hSw; (try dsimp only at hSw); go_simp; try with_reducible rfl)
  simp only [Act.put, List.setIfInBounds_toArray, List.set_cons_zero, List.set_cons_succ]
  refine regTake 20 (some 37) (v := ?_) rfl rfl (by kernel_rfl) (by kernel_rfl) (by kernel_rfl) (fun _ _ _ h => h) (by rfl) hHeld ?_ ?_
  rotate_left 1
  · (intro w hSw; (try dsimp only at hSw); go_simp; try with_reducible rfl)
  simp only [Act.put, List.setIfInBounds_toArray, List.set_cons_zero, List.set_cons_succ]
  refine regCall 16 (some 33) (f := 25) (args := ?_) rfl rfl (by kernel_rfl) (by rfl) ?_ ?_
  rotate_left 1
  · (go_simp; try with_reducible rfl)
  refine (MC.out _).mono ?_
  rintro e wx16 ⟨rfl, kg3⟩
  refine ⟨_, rfl, ⟨(Hbg2.out.step kg3 rfl).cell 0, (Hbg2.out.step kg3 rfl).cell 1, (Hbg2.out.step kg3 rfl).cell 2, (Hbg2.out.step kg3 rfl).cell 3, (Hbg2.out.step kg3 rfl).cell 4⟩, fun hHeld => ?_⟩
  simp only [Act.put, List.setIfInBounds_toArray, List.set_cons_zero, List.set_cons_succ]
  have HBg3 := Lib.hid ((HBg2.out).trans (kg3.mono (Nat.le_trans hbase (HBg2.out).size)))
  have Hbg3 := Lib.hid (Hbg2.out.step kg3 rfl)
  clear kg3
  refine regCall 17 (some 34) (f := F) (args := ?_) rfl rfl (by kernel_rfl) (by rfl) ?_ ?_
  rotate_left 1
  · (go_simp; try with_reducible rfl)
  refine (MR.out _).mono ?_
  rintro e wx17 ⟨rfl, kg4⟩
  refine ⟨_, rfl, ⟨(Hbg3.out.step kg4 rfl).cell 0, (Hbg3.out.step kg4 rfl).cell 1, (Hbg3.out.step kg4 rfl).cell 2, (Hbg3.out.step kg4 rfl).cell 3, (Hbg3.out.step kg4 rfl).cell 4⟩, fun hHeld => ?_⟩
  simp only [Act.put, List.setIfInBounds_toArray, List.set_cons_zero, List.set_cons_succ]
  have HBg4 := Lib.hid ((HBg3.out).trans (kg4.mono (Nat.le_trans hbase (HBg3.out).size)))
  have Hbg4 := Lib.hid (Hbg3.out.step kg4 rfl)
  clear kg4
  refine regTake 18 (some 35) (v := ?_) rfl rfl (by kernel_rfl) (by kernel_rfl) (by kernel_rfl) (fun _ _ _ h => h) (by rfl) hHeld ?_ ?_
  rotate_left 1
  · (intro w hSw; (try dsimp only at hSw); go_simp; try with_reducible rfl)
  simp only [Act.put, List.setIfInBounds_toArray, List.set_cons_zero, List.set_cons_succ]
  refine regTake 21 (some 38) (v := ?_) rfl rfl (by kernel_rfl) (by kernel_rfl) (by kernel_rfl) (fun _ _ _ h => h) (by rfl) hHeld ?_ ?_
  rotate_left 1
  · (intro w hSw; (try dsimp only at hSw); go_simp; try with_reducible rfl)
  simp only [Act.put, List.setIfInBounds_toArray, List.set_cons_zero, List.set_cons_succ]
  refine regTake 22 (some 39) (v := ?_) rfl rfl (by kernel_rfl) (by kernel_rfl) (by kernel_rfl) (fun _ _ _ h => h) (by rfl) hHeld ?_ ?_
  rotate_left 1
  · (intro w hSw; (try dsimp only at hSw); go_simp; try with_reducible rfl)
  simp only [Act.put, List.setIfInBounds_toArray, List.set_cons_zero, List.set_cons_succ]
  refine wpAnyH_done (by kernel_rfl) ?_ _
  clear hHeld
  have qb0_4 : wx17.cell? ⟨w.heap.size, 0, none⟩ = some (.int .i64 size) := Hbg4.out.cell 0
  have qb1_4 : wx17.cell? ⟨w.heap.size, 1, none⟩ = some (.int .i64 m) := Hbg4.out.cell 1
  have qb2_4 : wx17.cell? ⟨w.heap.size, 2, none⟩ = some (.int .i64 sum) := Hbg4.out.cell 2
  have qb3_4 : wx17.cell? ⟨w.heap.size, 3, none⟩ = some (.int .i64 rng) := Hbg4.out.cell 3
  have qb4_4 : wx17.cell? ⟨w.heap.size, 4, none⟩ = some (.int .i64 last) := Hbg4.out.cell 4
  have lb_4 : w.heap.size < wx17.heap.size := Hbg4.out.lt
  have hcz5 := ML.out wx17
  go_wp2_with fail
  refine hcz5.mono ?_
  rintro e wz5 ⟨rfl, kz5⟩
  clear hcz5 qb0_4 qb1_4 qb2_4 qb3_4 qb4_4 lb_4
  have HBz5 := Lib.hid (HBg4.out.trans (kz5.mono (Nat.le_trans hbase HBg4.out.size)))
  have Hbz5 := Lib.hid (Hbg4.out.call kz5)
  clear kz5
  have qb0_5 : wz5.cell? ⟨w.heap.size, 0, none⟩ = some (.int .i64 size) := Hbz5.out.cell 0
  have qb1_5 : wz5.cell? ⟨w.heap.size, 1, none⟩ = some (.int .i64 m) := Hbz5.out.cell 1
  have qb2_5 : wz5.cell? ⟨w.heap.size, 2, none⟩ = some (.int .i64 sum) := Hbz5.out.cell 2
  have qb3_5 : wz5.cell? ⟨w.heap.size, 3, none⟩ = some (.int .i64 rng) := Hbz5.out.cell 3
  have qb4_5 : wz5.cell? ⟨w.heap.size, 4, none⟩ = some (.int .i64 last) := Hbz5.out.cell 4
  have lb_5 : w.heap.size < wz5.heap.size := Hbz5.out.lt
  go_wp2
  go_ret
  exact ⟨rfl, HBz5.out⟩
set_option linter.unusedSimpArgs false in
set_option linter.unusedVariables false in
set_option maxHeartbeats 8000000 in
set_option maxRecDepth 100000 in
theorem bright_7 (size m sum rng last P R Q : Int) (w : World) (T : TypeId) (V : Value) (F : FuncId) (ms : (∀ W, Calls Try.prog 22 #[.int .i64 size] W fun e w' => e = .returned (.bool true) ∧ Below W.heap.size W w')) (mn : (∀ W, Calls Try.prog 26 #[.int .i64 sum, .int .i64 P] W fun e w' => e = .returned ( .bool true) ∧ Below W.heap.size W w')) (mc : (∀ W, Calls Try.prog 25 #[.agg #[.int .i64 size, .int .i64 m, .int .i64 sum, .int .i64 rng, .int .i64 last]] W fun e w' => e = .returned (.iface T V) ∧ Below W.heap.size W w')) (mr : (∀ W, Calls Try.prog F #[V] W fun e w' => e = .returned (.int .i64 R) ∧ Below W.heap.size W w')) (ml : (∀ W, Calls Try.prog 26 #[.int .i64 last, .int .i64 1] W fun e w' => e = .returned (.bool true) ∧ Below W.heap.size W w')) (e1 : IntKind.i64.wrap (m * size) = P) (e2 : IntKind.i64.wrap (R * 2000000) = Q) (h1 : ¬ m < 0) (h2 : ¬ 25 < m) (h3 : ¬ rng < 0) (h4 : ¬ Q < rng) (hm : ∀ W, (method 240 T V "datum/base.ranges").run Try.prog W = .ok (F, V) W) (heg : ∀ args W, (callFunc F args).run Try.prog W = .ok (.enter F args) W) (h5 : 0 < m) :
    Calls Try.prog 10 #[.agg #[.int .i64 size, .int .i64 m, .int .i64 sum, .int .i64 rng, .int .i64 last]] w fun e w' => e = .returned (.bool true) ∧ Below w.heap.size w w' := by
  have MS := Lib.hid ms; have MN := Lib.hid mn; have MC := Lib.hid mc; have MR := Lib.hid mr; have ML := Lib.hid ml
  clear ms mn mc mr ml
  obtain ⟨w2, hw2⟩ : ∃ w2, w.alloc (.cells #[.int .i64 size, .int .i64 m, .int .i64 sum, .int .i64 rng, .int .i64 last] 23) = w2 := ⟨_, rfl⟩
  have HB2 := Lib.hid (show Below w.heap.size w w2 by rw [← hw2]; exact (Below.refl _ _).alloc (Nat.le_refl _) _)
  have HV2 := Lib.hid (show Has w2 w.heap.size [.int .i64 size, .int .i64 m, .int .i64 sum, .int .i64 rng, .int .i64 last] 23 by rw [← hw2]; exact Has.new w _ _)
  have HW2 := Lib.hid hw2
  clear hw2
  have hbase := Nat.le_refl w.heap.size
  go_enter Try.func10, Try.ntmps10
  go_upto_region 1 with fail
  rw [HW2.out]
  have qb0_0 : w2.cell? ⟨w.heap.size, 0, none⟩ = some (.int .i64 size) := HV2.out.cell 0
  have qb1_0 : w2.cell? ⟨w.heap.size, 1, none⟩ = some (.int .i64 m) := HV2.out.cell 1
  have qb2_0 : w2.cell? ⟨w.heap.size, 2, none⟩ = some (.int .i64 sum) := HV2.out.cell 2
  have qb3_0 : w2.cell? ⟨w.heap.size, 3, none⟩ = some (.int .i64 rng) := HV2.out.cell 3
  have qb4_0 : w2.cell? ⟨w.heap.size, 4, none⟩ = some (.int .i64 last) := HV2.out.cell 4
  have lb_0 : w.heap.size < w2.heap.size := HV2.out.lt
  have hcz1 := MS.out w2
  go_wp2_with fail
  refine hcz1.mono ?_
  rintro e wz1 ⟨rfl, kz1⟩
  clear hcz1 qb0_0 qb1_0 qb2_0 qb3_0 qb4_0 lb_0
  have HBz1 := Lib.hid (HB2.out.trans (kz1.mono (Nat.le_trans hbase HB2.out.size)))
  have Hbz1 := Lib.hid (HV2.out.call kz1)
  clear kz1
  have qb0_1 : wz1.cell? ⟨w.heap.size, 0, none⟩ = some (.int .i64 size) := Hbz1.out.cell 0
  have qb1_1 : wz1.cell? ⟨w.heap.size, 1, none⟩ = some (.int .i64 m) := Hbz1.out.cell 1
  have qb2_1 : wz1.cell? ⟨w.heap.size, 2, none⟩ = some (.int .i64 sum) := Hbz1.out.cell 2
  have qb3_1 : wz1.cell? ⟨w.heap.size, 3, none⟩ = some (.int .i64 rng) := Hbz1.out.cell 3
  have qb4_1 : wz1.cell? ⟨w.heap.size, 4, none⟩ = some (.int .i64 last) := Hbz1.out.cell 4
  have lb_1 : w.heap.size < wz1.heap.size := Hbz1.out.lt
  go_upto_region 3 with fail
  clear qb0_1 qb1_1 qb2_1 qb3_1 qb4_1 lb_1
  refine wp_region_held_drew (S := (fun W' => W'.cell? ⟨w.heap.size, 0, none⟩ = some (.int .i64 size) ∧ W'.cell? ⟨w.heap.size, 1, none⟩ = some (.int .i64 m) ∧ W'.cell? ⟨w.heap.size, 2, none⟩ = some (.int .i64 sum) ∧ W'.cell? ⟨w.heap.size, 3, none⟩ = some (.int .i64 rng) ∧ W'.cell? ⟨w.heap.size, 4, none⟩ = some (.int .i64 last))) (by kernel_rfl) ⟨Hbz1.out.cell 0, Hbz1.out.cell 1, Hbz1.out.cell 2, Hbz1.out.cell 3, Hbz1.out.cell 4⟩ (fun hHeld => ?_)
  refine regTake 0 (some 17) (v := ?_) rfl rfl (by kernel_rfl) (by kernel_rfl) (by kernel_rfl) (fun _ _ _ h => h) (by rfl) hHeld ?_ ?_
  rotate_left 1
  · (intro w hSw; (try dsimp only at hSw); go_simp; try with_reducible rfl)
  simp only [Act.put, List.setIfInBounds_toArray, List.set_cons_zero, List.set_cons_succ]
  refine regTake 1 (some 18) (v := ?_) rfl rfl (by kernel_rfl) (by kernel_rfl) (by kernel_rfl) (fun _ _ _ h => h) (by rfl) hHeld ?_ ?_
  rotate_left 1
  · (intro w hSw; (try dsimp only at hSw); go_simp; try with_reducible rfl)
  simp only [Act.put, List.setIfInBounds_toArray, List.set_cons_zero, List.set_cons_succ]
  refine regTake 2 (some 19) (v := ?_) rfl rfl (by kernel_rfl) (by kernel_rfl) (by kernel_rfl) (fun _ _ _ h => h) (by rfl) hHeld ?_ ?_
  rotate_left 1
  · (intro w hSw; (try dsimp only at hSw); go_simp; try with_reducible rfl)
  simp only [Act.put, List.setIfInBounds_toArray, List.set_cons_zero, List.set_cons_succ]
  refine regTake 3 (some 20) (v := ?_) rfl rfl (by kernel_rfl) (by kernel_rfl) (by kernel_rfl) (fun _ _ _ h => h) (by rfl) hHeld ?_ ?_
  rotate_left 1
  · (intro w hSw; (try dsimp only at hSw); go_simp; try with_reducible rfl)
  simp only [Act.put, List.setIfInBounds_toArray, List.set_cons_zero, List.set_cons_succ]
  refine regTake 4 (some 21) (v := ?_) rfl rfl (by kernel_rfl) (by kernel_rfl) (by kernel_rfl) (fun _ _ _ h => h) (by rfl) hHeld ?_ ?_
  rotate_left 1
  · (intro w hSw; (try dsimp only at hSw); go_simp; try with_reducible rfl)
  simp only [Act.put, List.setIfInBounds_toArray, List.set_cons_zero, List.set_cons_succ]
  refine regTake 5 (some 22) (v := ?_) rfl rfl (by kernel_rfl) (by kernel_rfl) (by kernel_rfl) (fun _ _ _ h => h) (by rfl) hHeld ?_ ?_
  rotate_left 1
  · (intro w hSw; (try dsimp only at hSw); go_simp; try with_reducible rfl)
  simp only [Act.put, List.setIfInBounds_toArray, List.set_cons_zero, List.set_cons_succ]
  refine regTake 6 (some 23) (v := ?_) rfl rfl (by kernel_rfl) (by kernel_rfl) (by kernel_rfl) (fun _ _ _ h => h) (by rfl) hHeld ?_ ?_
  rotate_left 1
  · (intro w hSw; (try dsimp only at hSw); go_simp; try with_reducible rfl)
  simp only [Act.put, List.setIfInBounds_toArray, List.set_cons_zero, List.set_cons_succ]
  refine regCall 7 (some 24) (f := 26) (args := ?_) rfl rfl (by kernel_rfl) (by rfl) ?_ ?_
  rotate_left 1
  · (go_simp; try with_reducible rfl)
  refine (MN.out _).mono ?_
  rintro e wx7 ⟨rfl, kg2⟩
  refine ⟨_, rfl, ⟨(Hbz1.out.step kg2 rfl).cell 0, (Hbz1.out.step kg2 rfl).cell 1, (Hbz1.out.step kg2 rfl).cell 2, (Hbz1.out.step kg2 rfl).cell 3, (Hbz1.out.step kg2 rfl).cell 4⟩, fun hHeld => ?_⟩
  simp only [Act.put, List.setIfInBounds_toArray, List.set_cons_zero, List.set_cons_succ]
  have HBg2 := Lib.hid ((HBz1.out.drew).trans (kg2.mono (Nat.le_trans hbase (HBz1.out.drew).size)))
  have Hbg2 := Lib.hid (Hbz1.out.step kg2 rfl)
  clear kg2
  refine regTake 8 (some 25) (v := ?_) rfl rfl (by kernel_rfl) (by kernel_rfl) (by kernel_rfl) (fun _ _ _ h => h) (by rfl) hHeld ?_ ?_
  rotate_left 1
  · (intro w hSw; (try dsimp only at hSw); go_simp; try with_reducible rfl)
  simp only [Act.put, List.setIfInBounds_toArray, List.set_cons_zero, List.set_cons_succ]
  refine regTake 9 (some 26) (v := ?_) rfl rfl (by kernel_rfl) (by kernel_rfl) (by kernel_rfl) (fun _ _ _ h => h) (by rfl) hHeld ?_ ?_
  rotate_left 1
  · (intro w hSw; (try dsimp only at hSw); go_simp; try with_reducible rfl)
  simp only [Act.put, List.setIfInBounds_toArray, List.set_cons_zero, List.set_cons_succ]
  refine regTake 10 (some 27) (v := ?_) rfl rfl (by kernel_rfl) (by kernel_rfl) (by kernel_rfl) (fun _ _ _ h => h) (by rfl) hHeld ?_ ?_
  rotate_left 1
  · (intro w hSw; (try dsimp only at hSw); go_simp; try with_reducible rfl)
  simp only [Act.put, List.setIfInBounds_toArray, List.set_cons_zero, List.set_cons_succ]
  refine regTake 11 (some 28) (v := ?_) rfl rfl (by kernel_rfl) (by kernel_rfl) (by kernel_rfl) (fun _ _ _ h => h) (by rfl) hHeld ?_ ?_
  rotate_left 1
  · (intro w hSw; (try dsimp only at hSw); go_simp; try with_reducible rfl)
  simp only [Act.put, List.setIfInBounds_toArray, List.set_cons_zero, List.set_cons_succ]
  refine regTake 12 (some 29) (v := .bool false) rfl rfl (by kernel_rfl) (by kernel_rfl) (by kernel_rfl) (fun _ _ _ h => h) (by rfl) hHeld ?_ ?_
  · (intro w hSw; (try dsimp only at hSw); go_simp; try with_reducible rfl)
  simp only [Act.put, List.setIfInBounds_toArray, List.set_cons_zero, List.set_cons_succ]
  refine regTake 13 (some 30) (v := ?_) rfl rfl (by kernel_rfl) (by kernel_rfl) (by kernel_rfl) (fun _ _ _ h => h) (by rfl) hHeld ?_ ?_
  rotate_left 1
  · (intro w hSw; (try dsimp only at hSw); go_simp; try with_reducible rfl)
  simp only [Act.put, List.setIfInBounds_toArray, List.set_cons_zero, List.set_cons_succ]
  refine regTake 14 (some 31) (v := ?_) rfl rfl (by kernel_rfl) (by kernel_rfl) (by kernel_rfl) (fun _ _ _ h => h) (by rfl) hHeld ?_ ?_
  rotate_left 1
  · (intro w hSw; (try dsimp only at hSw); go_simp; try with_reducible rfl)
  simp only [Act.put, List.setIfInBounds_toArray, List.set_cons_zero, List.set_cons_succ]
  refine regTake 15 (some 32) (v := ?_) rfl rfl (by kernel_rfl) (by kernel_rfl) (by kernel_rfl) (fun _ _ _ h => h) (by rfl) hHeld ?_ ?_
  rotate_left 1
  · (intro w hSw; (try dsimp only at hSw); go_simp; try with_reducible rfl)
  simp only [Act.put, List.setIfInBounds_toArray, List.set_cons_zero, List.set_cons_succ]
  refine regTake 19 (some 36) (v := ?_) rfl rfl (by kernel_rfl) (by kernel_rfl) (by kernel_rfl) (fun _ _ _ h => h) (by rfl) hHeld ?_ ?_
  rotate_left 1
  · (intro w hSw; (try dsimp only at hSw); go_simp; try with_reducible rfl)
  simp only [Act.put, List.setIfInBounds_toArray, List.set_cons_zero, List.set_cons_succ]
  refine regTake 20 (some 37) (v := ?_) rfl rfl (by kernel_rfl) (by kernel_rfl) (by kernel_rfl) (fun _ _ _ h => h) (by rfl) hHeld ?_ ?_
  rotate_left 1
  · (intro w hSw; (try dsimp only at hSw); go_simp; try with_reducible rfl)
  simp only [Act.put, List.setIfInBounds_toArray, List.set_cons_zero, List.set_cons_succ]
  refine regCall 16 (some 33) (f := 25) (args := ?_) rfl rfl (by kernel_rfl) (by rfl) ?_ ?_
  rotate_left 1
  · (go_simp; try with_reducible rfl)
  refine (MC.out _).mono ?_
  rintro e wx16 ⟨rfl, kg3⟩
  refine ⟨_, rfl, ⟨(Hbg2.out.step kg3 rfl).cell 0, (Hbg2.out.step kg3 rfl).cell 1, (Hbg2.out.step kg3 rfl).cell 2, (Hbg2.out.step kg3 rfl).cell 3, (Hbg2.out.step kg3 rfl).cell 4⟩, fun hHeld => ?_⟩
  simp only [Act.put, List.setIfInBounds_toArray, List.set_cons_zero, List.set_cons_succ]
  have HBg3 := Lib.hid ((HBg2.out).trans (kg3.mono (Nat.le_trans hbase (HBg2.out).size)))
  have Hbg3 := Lib.hid (Hbg2.out.step kg3 rfl)
  clear kg3
  refine regCall 17 (some 34) (f := F) (args := ?_) rfl rfl (by kernel_rfl) (by rfl) ?_ ?_
  rotate_left 1
  · (go_simp; try with_reducible rfl)
  refine (MR.out _).mono ?_
  rintro e wx17 ⟨rfl, kg4⟩
  refine ⟨_, rfl, ⟨(Hbg3.out.step kg4 rfl).cell 0, (Hbg3.out.step kg4 rfl).cell 1, (Hbg3.out.step kg4 rfl).cell 2, (Hbg3.out.step kg4 rfl).cell 3, (Hbg3.out.step kg4 rfl).cell 4⟩, fun hHeld => ?_⟩
  simp only [Act.put, List.setIfInBounds_toArray, List.set_cons_zero, List.set_cons_succ]
  have HBg4 := Lib.hid ((HBg3.out).trans (kg4.mono (Nat.le_trans hbase (HBg3.out).size)))
  have Hbg4 := Lib.hid (Hbg3.out.step kg4 rfl)
  clear kg4
  refine regTake 18 (some 35) (v := ?_) rfl rfl (by kernel_rfl) (by kernel_rfl) (by kernel_rfl) (fun _ _ _ h => h) (by rfl) hHeld ?_ ?_
  rotate_left 1
  · (intro w hSw; (try dsimp only at hSw); go_simp; try with_reducible rfl)
  simp only [Act.put, List.setIfInBounds_toArray, List.set_cons_zero, List.set_cons_succ]
  refine regTake 21 (some 38) (v := ?_) rfl rfl (by kernel_rfl) (by kernel_rfl) (by kernel_rfl) (fun _ _ _ h => h) (by rfl) hHeld ?_ ?_
  rotate_left 1
  · (intro w hSw; (try dsimp only at hSw); go_simp; try with_reducible rfl)
  simp only [Act.put, List.setIfInBounds_toArray, List.set_cons_zero, List.set_cons_succ]
  refine regTake 22 (some 39) (v := ?_) rfl rfl (by kernel_rfl) (by kernel_rfl) (by kernel_rfl) (fun _ _ _ h => h) (by rfl) hHeld ?_ ?_
  rotate_left 1
  · (intro w hSw; (try dsimp only at hSw); go_simp; try with_reducible rfl)
  simp only [Act.put, List.setIfInBounds_toArray, List.set_cons_zero, List.set_cons_succ]
  refine wpAnyH_done (by kernel_rfl) ?_ _
  clear hHeld
  have qb0_4 : wx17.cell? ⟨w.heap.size, 0, none⟩ = some (.int .i64 size) := Hbg4.out.cell 0
  have qb1_4 : wx17.cell? ⟨w.heap.size, 1, none⟩ = some (.int .i64 m) := Hbg4.out.cell 1
  have qb2_4 : wx17.cell? ⟨w.heap.size, 2, none⟩ = some (.int .i64 sum) := Hbg4.out.cell 2
  have qb3_4 : wx17.cell? ⟨w.heap.size, 3, none⟩ = some (.int .i64 rng) := Hbg4.out.cell 3
  have qb4_4 : wx17.cell? ⟨w.heap.size, 4, none⟩ = some (.int .i64 last) := Hbg4.out.cell 4
  have lb_4 : w.heap.size < wx17.heap.size := Hbg4.out.lt
  have hcz5 := ML.out wx17
  go_wp2_with fail
  refine hcz5.mono ?_
  rintro e wz5 ⟨rfl, kz5⟩
  clear hcz5 qb0_4 qb1_4 qb2_4 qb3_4 qb4_4 lb_4
  have HBz5 := Lib.hid (HBg4.out.trans (kz5.mono (Nat.le_trans hbase HBg4.out.size)))
  have Hbz5 := Lib.hid (Hbg4.out.call kz5)
  clear kz5
  have qb0_5 : wz5.cell? ⟨w.heap.size, 0, none⟩ = some (.int .i64 size) := Hbz5.out.cell 0
  have qb1_5 : wz5.cell? ⟨w.heap.size, 1, none⟩ = some (.int .i64 m) := Hbz5.out.cell 1
  have qb2_5 : wz5.cell? ⟨w.heap.size, 2, none⟩ = some (.int .i64 sum) := Hbz5.out.cell 2
  have qb3_5 : wz5.cell? ⟨w.heap.size, 3, none⟩ = some (.int .i64 rng) := Hbz5.out.cell 3
  have qb4_5 : wz5.cell? ⟨w.heap.size, 4, none⟩ = some (.int .i64 last) := Hbz5.out.cell 4
  have lb_5 : w.heap.size < wz5.heap.size := Hbz5.out.lt
  go_wp2
  go_ret
  exact ⟨rfl, HBz5.out⟩
set_option linter.unusedSimpArgs false in
set_option linter.unusedVariables false in
set_option maxHeartbeats 8000000 in
set_option maxRecDepth 100000 in
theorem bright_8 (size m sum rng last P R Q : Int) (D : Bool) (w : World) (T : TypeId) (V : Value) (F : FuncId) (ms : (∀ W, Calls Try.prog 22 #[.int .i64 size] W fun e w' => e = .returned (.bool true) ∧ Below W.heap.size W w')) (mn : (∀ W, Calls Try.prog 26 #[.int .i64 sum, .int .i64 P] W fun e w' => e = .returned ( .bool true) ∧ Below W.heap.size W w')) (mc : (∀ W, Calls Try.prog 25 #[.agg #[.int .i64 size, .int .i64 m, .int .i64 sum, .int .i64 rng, .int .i64 last]] W fun e w' => e = .returned (.iface T V) ∧ Below W.heap.size W w')) (mr : (∀ W, Calls Try.prog F #[V] W fun e w' => e = .returned (.int .i64 R) ∧ Below W.heap.size W w')) (ml : (∀ W, Calls Try.prog 26 #[.int .i64 last, .int .i64 1] W fun e w' => e = .returned (.bool true) ∧ Below W.heap.size W w')) (e1 : IntKind.i64.wrap (m * size) = P) (e2 : IntKind.i64.wrap (R * 2000000) = Q) (h1 : ¬ m < 0) (h2 : ¬ 25 < m) (h3 : ¬ rng < 0) (h4 : ¬ Q < rng) (hm : ∀ W, (method 240 T V "datum/base.ranges").run Try.prog W = .ok (F, V) W) (heg : ∀ args W, (callFunc F args).run Try.prog W = .ok (.enter F args) W) (h5 : ¬ 0 < m) (h6 : (last == 0) = D) :
    Calls Try.prog 10 #[.agg #[.int .i64 size, .int .i64 m, .int .i64 sum, .int .i64 rng, .int .i64 last]] w fun e w' => e = .returned (.bool D) ∧ Below w.heap.size w w' := by
  have MS := Lib.hid ms; have MN := Lib.hid mn; have MC := Lib.hid mc; have MR := Lib.hid mr; have ML := Lib.hid ml
  clear ms mn mc mr ml
  obtain ⟨w2, hw2⟩ : ∃ w2, w.alloc (.cells #[.int .i64 size, .int .i64 m, .int .i64 sum, .int .i64 rng, .int .i64 last] 23) = w2 := ⟨_, rfl⟩
  have HB2 := Lib.hid (show Below w.heap.size w w2 by rw [← hw2]; exact (Below.refl _ _).alloc (Nat.le_refl _) _)
  have HV2 := Lib.hid (show Has w2 w.heap.size [.int .i64 size, .int .i64 m, .int .i64 sum, .int .i64 rng, .int .i64 last] 23 by rw [← hw2]; exact Has.new w _ _)
  have HW2 := Lib.hid hw2
  clear hw2
  have hbase := Nat.le_refl w.heap.size
  go_enter Try.func10, Try.ntmps10
  go_upto_region 1 with fail
  rw [HW2.out]
  have qb0_0 : w2.cell? ⟨w.heap.size, 0, none⟩ = some (.int .i64 size) := HV2.out.cell 0
  have qb1_0 : w2.cell? ⟨w.heap.size, 1, none⟩ = some (.int .i64 m) := HV2.out.cell 1
  have qb2_0 : w2.cell? ⟨w.heap.size, 2, none⟩ = some (.int .i64 sum) := HV2.out.cell 2
  have qb3_0 : w2.cell? ⟨w.heap.size, 3, none⟩ = some (.int .i64 rng) := HV2.out.cell 3
  have qb4_0 : w2.cell? ⟨w.heap.size, 4, none⟩ = some (.int .i64 last) := HV2.out.cell 4
  have lb_0 : w.heap.size < w2.heap.size := HV2.out.lt
  have hcz1 := MS.out w2
  go_wp2_with fail
  refine hcz1.mono ?_
  rintro e wz1 ⟨rfl, kz1⟩
  clear hcz1 qb0_0 qb1_0 qb2_0 qb3_0 qb4_0 lb_0
  have HBz1 := Lib.hid (HB2.out.trans (kz1.mono (Nat.le_trans hbase HB2.out.size)))
  have Hbz1 := Lib.hid (HV2.out.call kz1)
  clear kz1
  have qb0_1 : wz1.cell? ⟨w.heap.size, 0, none⟩ = some (.int .i64 size) := Hbz1.out.cell 0
  have qb1_1 : wz1.cell? ⟨w.heap.size, 1, none⟩ = some (.int .i64 m) := Hbz1.out.cell 1
  have qb2_1 : wz1.cell? ⟨w.heap.size, 2, none⟩ = some (.int .i64 sum) := Hbz1.out.cell 2
  have qb3_1 : wz1.cell? ⟨w.heap.size, 3, none⟩ = some (.int .i64 rng) := Hbz1.out.cell 3
  have qb4_1 : wz1.cell? ⟨w.heap.size, 4, none⟩ = some (.int .i64 last) := Hbz1.out.cell 4
  have lb_1 : w.heap.size < wz1.heap.size := Hbz1.out.lt
  go_upto_region 3 with fail
  clear qb0_1 qb1_1 qb2_1 qb3_1 qb4_1 lb_1
  refine wp_region_held_drew (S := (fun W' => W'.cell? ⟨w.heap.size, 0, none⟩ = some (.int .i64 size) ∧ W'.cell? ⟨w.heap.size, 1, none⟩ = some (.int .i64 m) ∧ W'.cell? ⟨w.heap.size, 2, none⟩ = some (.int .i64 sum) ∧ W'.cell? ⟨w.heap.size, 3, none⟩ = some (.int .i64 rng) ∧ W'.cell? ⟨w.heap.size, 4, none⟩ = some (.int .i64 last))) (by kernel_rfl) ⟨Hbz1.out.cell 0, Hbz1.out.cell 1, Hbz1.out.cell 2, Hbz1.out.cell 3, Hbz1.out.cell 4⟩ (fun hHeld => ?_)
  refine regTake 0 (some 17) (v := ?_) rfl rfl (by kernel_rfl) (by kernel_rfl) (by kernel_rfl) (fun _ _ _ h => h) (by rfl) hHeld ?_ ?_
  rotate_left 1
  · (intro w hSw; (try dsimp only at hSw); go_simp; try with_reducible rfl)
  simp only [Act.put, List.setIfInBounds_toArray, List.set_cons_zero, List.set_cons_succ]
  refine regTake 1 (some 18) (v := ?_) rfl rfl (by kernel_rfl) (by kernel_rfl) (by kernel_rfl) (fun _ _ _ h => h) (by rfl) hHeld ?_ ?_
  rotate_left 1
  · (intro w hSw; (try dsimp only at hSw); go_simp; try with_reducible rfl)
  simp only [Act.put, List.setIfInBounds_toArray, List.set_cons_zero, List.set_cons_succ]
  refine regTake 2 (some 19) (v := ?_) rfl rfl (by kernel_rfl) (by kernel_rfl) (by kernel_rfl) (fun _ _ _ h => h) (by rfl) hHeld ?_ ?_
  rotate_left 1
  · (intro w hSw; (try dsimp only at hSw); go_simp; try with_reducible rfl)
  simp only [Act.put, List.setIfInBounds_toArray, List.set_cons_zero, List.set_cons_succ]
  refine regTake 3 (some 20) (v := ?_) rfl rfl (by kernel_rfl) (by kernel_rfl) (by kernel_rfl) (fun _ _ _ h => h) (by rfl) hHeld ?_ ?_
  rotate_left 1
  · (intro w hSw; (try dsimp only at hSw); go_simp; try with_reducible rfl)
  simp only [Act.put, List.setIfInBounds_toArray, List.set_cons_zero, List.set_cons_succ]
  refine regTake 4 (some 21) (v := ?_) rfl rfl (by kernel_rfl) (by kernel_rfl) (by kernel_rfl) (fun _ _ _ h => h) (by rfl) hHeld ?_ ?_
  rotate_left 1
  · (intro w hSw; (try dsimp only at hSw); go_simp; try with_reducible rfl)
  simp only [Act.put, List.setIfInBounds_toArray, List.set_cons_zero, List.set_cons_succ]
  refine regTake 5 (some 22) (v := ?_) rfl rfl (by kernel_rfl) (by kernel_rfl) (by kernel_rfl) (fun _ _ _ h => h) (by rfl) hHeld ?_ ?_
  rotate_left 1
  · (intro w hSw; (try dsimp only at hSw); go_simp; try with_reducible rfl)
  simp only [Act.put, List.setIfInBounds_toArray, List.set_cons_zero, List.set_cons_succ]
  refine regTake 6 (some 23) (v := ?_) rfl rfl (by kernel_rfl) (by kernel_rfl) (by kernel_rfl) (fun _ _ _ h => h) (by rfl) hHeld ?_ ?_
  rotate_left 1
  · (intro w hSw; (try dsimp only at hSw); go_simp; try with_reducible rfl)
  simp only [Act.put, List.setIfInBounds_toArray, List.set_cons_zero, List.set_cons_succ]
  refine regCall 7 (some 24) (f := 26) (args := ?_) rfl rfl (by kernel_rfl) (by rfl) ?_ ?_
  rotate_left 1
  · (go_simp; try with_reducible rfl)
  refine (MN.out _).mono ?_
  rintro e wx7 ⟨rfl, kg2⟩
  refine ⟨_, rfl, ⟨(Hbz1.out.step kg2 rfl).cell 0, (Hbz1.out.step kg2 rfl).cell 1, (Hbz1.out.step kg2 rfl).cell 2, (Hbz1.out.step kg2 rfl).cell 3, (Hbz1.out.step kg2 rfl).cell 4⟩, fun hHeld => ?_⟩
  simp only [Act.put, List.setIfInBounds_toArray, List.set_cons_zero, List.set_cons_succ]
  have HBg2 := Lib.hid ((HBz1.out.drew).trans (kg2.mono (Nat.le_trans hbase (HBz1.out.drew).size)))
  have Hbg2 := Lib.hid (Hbz1.out.step kg2 rfl)
  clear kg2
  refine regTake 8 (some 25) (v := ?_) rfl rfl (by kernel_rfl) (by kernel_rfl) (by kernel_rfl) (fun _ _ _ h => h) (by rfl) hHeld ?_ ?_
  rotate_left 1
  · (intro w hSw; (try dsimp only at hSw); go_simp; try with_reducible rfl)
  simp only [Act.put, List.setIfInBounds_toArray, List.set_cons_zero, List.set_cons_succ]
  refine regTake 9 (some 26) (v := ?_) rfl rfl (by kernel_rfl) (by kernel_rfl) (by kernel_rfl) (fun _ _ _ h => h) (by rfl) hHeld ?_ ?_
  rotate_left 1
  · (intro w hSw; (try dsimp only at hSw); go_simp; try with_reducible rfl)
  simp only [Act.put, List.setIfInBounds_toArray, List.set_cons_zero, List.set_cons_succ]
  refine regTake 10 (some 27) (v := ?_) rfl rfl (by kernel_rfl) (by kernel_rfl) (by kernel_rfl) (fun _ _ _ h => h) (by rfl) hHeld ?_ ?_
  rotate_left 1
  · (intro w hSw; (try dsimp only at hSw); go_simp; try with_reducible rfl)
  simp only [Act.put, List.setIfInBounds_toArray, List.set_cons_zero, List.set_cons_succ]
  refine regTake 11 (some 28) (v := ?_) rfl rfl (by kernel_rfl) (by kernel_rfl) (by kernel_rfl) (fun _ _ _ h => h) (by rfl) hHeld ?_ ?_
  rotate_left 1
  · (intro w hSw; (try dsimp only at hSw); go_simp; try with_reducible rfl)
  simp only [Act.put, List.setIfInBounds_toArray, List.set_cons_zero, List.set_cons_succ]
  refine regTake 12 (some 29) (v := .bool false) rfl rfl (by kernel_rfl) (by kernel_rfl) (by kernel_rfl) (fun _ _ _ h => h) (by rfl) hHeld ?_ ?_
  · (intro w hSw; (try dsimp only at hSw); go_simp; try with_reducible rfl)
  simp only [Act.put, List.setIfInBounds_toArray, List.set_cons_zero, List.set_cons_succ]
  refine regTake 13 (some 30) (v := ?_) rfl rfl (by kernel_rfl) (by kernel_rfl) (by kernel_rfl) (fun _ _ _ h => h) (by rfl) hHeld ?_ ?_
  rotate_left 1
  · (intro w hSw; (try dsimp only at hSw); go_simp; try with_reducible rfl)
  simp only [Act.put, List.setIfInBounds_toArray, List.set_cons_zero, List.set_cons_succ]
  refine regTake 14 (some 31) (v := ?_) rfl rfl (by kernel_rfl) (by kernel_rfl) (by kernel_rfl) (fun _ _ _ h => h) (by rfl) hHeld ?_ ?_
  rotate_left 1
  · (intro w hSw; (try dsimp only at hSw); go_simp; try with_reducible rfl)
  simp only [Act.put, List.setIfInBounds_toArray, List.set_cons_zero, List.set_cons_succ]
  refine regTake 15 (some 32) (v := ?_) rfl rfl (by kernel_rfl) (by kernel_rfl) (by kernel_rfl) (fun _ _ _ h => h) (by rfl) hHeld ?_ ?_
  rotate_left 1
  · (intro w hSw; (try dsimp only at hSw); go_simp; try with_reducible rfl)
  simp only [Act.put, List.setIfInBounds_toArray, List.set_cons_zero, List.set_cons_succ]
  refine regTake 19 (some 36) (v := ?_) rfl rfl (by kernel_rfl) (by kernel_rfl) (by kernel_rfl) (fun _ _ _ h => h) (by rfl) hHeld ?_ ?_
  rotate_left 1
  · (intro w hSw; (try dsimp only at hSw); go_simp; try with_reducible rfl)
  simp only [Act.put, List.setIfInBounds_toArray, List.set_cons_zero, List.set_cons_succ]
  refine regTake 20 (some 37) (v := ?_) rfl rfl (by kernel_rfl) (by kernel_rfl) (by kernel_rfl) (fun _ _ _ h => h) (by rfl) hHeld ?_ ?_
  rotate_left 1
  · (intro w hSw; (try dsimp only at hSw); go_simp; try with_reducible rfl)
  simp only [Act.put, List.setIfInBounds_toArray, List.set_cons_zero, List.set_cons_succ]
  refine regCall 16 (some 33) (f := 25) (args := ?_) rfl rfl (by kernel_rfl) (by rfl) ?_ ?_
  rotate_left 1
  · (go_simp; try with_reducible rfl)
  refine (MC.out _).mono ?_
  rintro e wx16 ⟨rfl, kg3⟩
  refine ⟨_, rfl, ⟨(Hbg2.out.step kg3 rfl).cell 0, (Hbg2.out.step kg3 rfl).cell 1, (Hbg2.out.step kg3 rfl).cell 2, (Hbg2.out.step kg3 rfl).cell 3, (Hbg2.out.step kg3 rfl).cell 4⟩, fun hHeld => ?_⟩
  simp only [Act.put, List.setIfInBounds_toArray, List.set_cons_zero, List.set_cons_succ]
  have HBg3 := Lib.hid ((HBg2.out).trans (kg3.mono (Nat.le_trans hbase (HBg2.out).size)))
  have Hbg3 := Lib.hid (Hbg2.out.step kg3 rfl)
  clear kg3
  refine regCall 17 (some 34) (f := F) (args := ?_) rfl rfl (by kernel_rfl) (by rfl) ?_ ?_
  rotate_left 1
  · (go_simp; try with_reducible rfl)
  refine (MR.out _).mono ?_
  rintro e wx17 ⟨rfl, kg4⟩
  refine ⟨_, rfl, ⟨(Hbg3.out.step kg4 rfl).cell 0, (Hbg3.out.step kg4 rfl).cell 1, (Hbg3.out.step kg4 rfl).cell 2, (Hbg3.out.step kg4 rfl).cell 3, (Hbg3.out.step kg4 rfl).cell 4⟩, fun hHeld => ?_⟩
  simp only [Act.put, List.setIfInBounds_toArray, List.set_cons_zero, List.set_cons_succ]
  have HBg4 := Lib.hid ((HBg3.out).trans (kg4.mono (Nat.le_trans hbase (HBg3.out).size)))
  have Hbg4 := Lib.hid (Hbg3.out.step kg4 rfl)
  clear kg4
  refine regTake 18 (some 35) (v := ?_) rfl rfl (by kernel_rfl) (by kernel_rfl) (by kernel_rfl) (fun _ _ _ h => h) (by rfl) hHeld ?_ ?_
  rotate_left 1
  · (intro w hSw; (try dsimp only at hSw); go_simp; try with_reducible rfl)
  simp only [Act.put, List.setIfInBounds_toArray, List.set_cons_zero, List.set_cons_succ]
  refine regTake 21 (some 38) (v := ?_) rfl rfl (by kernel_rfl) (by kernel_rfl) (by kernel_rfl) (fun _ _ _ h => h) (by rfl) hHeld ?_ ?_
  rotate_left 1
  · (intro w hSw; (try dsimp only at hSw); go_simp; try with_reducible rfl)
  simp only [Act.put, List.setIfInBounds_toArray, List.set_cons_zero, List.set_cons_succ]
  refine regTake 22 (some 39) (v := ?_) rfl rfl (by kernel_rfl) (by kernel_rfl) (by kernel_rfl) (fun _ _ _ h => h) (by rfl) hHeld ?_ ?_
  rotate_left 1
  · (intro w hSw; (try dsimp only at hSw); go_simp; try with_reducible rfl)
  simp only [Act.put, List.setIfInBounds_toArray, List.set_cons_zero, List.set_cons_succ]
  refine wpAnyH_done (by kernel_rfl) ?_ _
  clear hHeld
  have qb0_4 : wx17.cell? ⟨w.heap.size, 0, none⟩ = some (.int .i64 size) := Hbg4.out.cell 0
  have qb1_4 : wx17.cell? ⟨w.heap.size, 1, none⟩ = some (.int .i64 m) := Hbg4.out.cell 1
  have qb2_4 : wx17.cell? ⟨w.heap.size, 2, none⟩ = some (.int .i64 sum) := Hbg4.out.cell 2
  have qb3_4 : wx17.cell? ⟨w.heap.size, 3, none⟩ = some (.int .i64 rng) := Hbg4.out.cell 3
  have qb4_4 : wx17.cell? ⟨w.heap.size, 4, none⟩ = some (.int .i64 last) := Hbg4.out.cell 4
  have lb_4 : w.heap.size < wx17.heap.size := Hbg4.out.lt
  have hcz5 := ML.out wx17
  go_wp2_with fail
  refine hcz5.mono ?_
  rintro e wz5 ⟨rfl, kz5⟩
  clear hcz5 qb0_4 qb1_4 qb2_4 qb3_4 qb4_4 lb_4
  have HBz5 := Lib.hid (HBg4.out.trans (kz5.mono (Nat.le_trans hbase HBg4.out.size)))
  have Hbz5 := Lib.hid (Hbg4.out.call kz5)
  clear kz5
  have qb0_5 : wz5.cell? ⟨w.heap.size, 0, none⟩ = some (.int .i64 size) := Hbz5.out.cell 0
  have qb1_5 : wz5.cell? ⟨w.heap.size, 1, none⟩ = some (.int .i64 m) := Hbz5.out.cell 1
  have qb2_5 : wz5.cell? ⟨w.heap.size, 2, none⟩ = some (.int .i64 sum) := Hbz5.out.cell 2
  have qb3_5 : wz5.cell? ⟨w.heap.size, 3, none⟩ = some (.int .i64 rng) := Hbz5.out.cell 3
  have qb4_5 : wz5.cell? ⟨w.heap.size, 4, none⟩ = some (.int .i64 last) := Hbz5.out.cell 4
  have lb_5 : w.heap.size < wz5.heap.size := Hbz5.out.lt
  go_wp2
  go_ret
  exact ⟨by show Ending.returned (.bool (decide (0 < m) || D)) = _; rw [show decide (0 < m) = false from decide_eq_false (by omega), Bool.false_or], HBz5.out⟩
theorem mth_ranges_1 (V : Value) (W : World) : (method 240 74 V "datum/base.ranges").run Try.prog W = .ok (92, V) W := by kernel_rfl
theorem ent_ranges_1 (args : Array Value) (W : World) : (callFunc 92 args).run Try.prog W = .ok (.enter 92 args) W := by kernel_rfl
theorem mth_width_1 (V : Value) (W : World) : (method 240 74 V "datum/base.width").run Try.prog W = .ok (93, V) W := by kernel_rfl
theorem ent_width_1 (args : Array Value) (W : World) : (callFunc 93 args).run Try.prog W = .ok (.enter 93 args) W := by kernel_rfl
theorem mth_rangeOf_1 (V : Value) (W : World) : (method 240 74 V "datum/base.rangeOf").run Try.prog W = .ok (91, V) W := by kernel_rfl
theorem ent_rangeOf_1 (args : Array Value) (W : World) : (callFunc 91 args).run Try.prog W = .ok (.enter 91 args) W := by kernel_rfl
theorem mth_measure_1 (V : Value) (W : World) : (method 240 74 V "datum/base.measure").run Try.prog W = .ok (90, V) W := by kernel_rfl
theorem ent_measure_1 (args : Array Value) (W : World) : (callFunc 90 args).run Try.prog W = .ok (.enter 90 args) W := by kernel_rfl
theorem mth_ranges_2 (V : Value) (W : World) : (method 240 75 V "datum/base.ranges").run Try.prog W = .ok (96, V) W := by kernel_rfl
theorem ent_ranges_2 (args : Array Value) (W : World) : (callFunc 96 args).run Try.prog W = .ok (.enter 96 args) W := by kernel_rfl
theorem mth_width_2 (V : Value) (W : World) : (method 240 75 V "datum/base.width").run Try.prog W = .ok (97, V) W := by kernel_rfl
theorem ent_width_2 (args : Array Value) (W : World) : (callFunc 97 args).run Try.prog W = .ok (.enter 97 args) W := by kernel_rfl
theorem mth_rangeOf_2 (V : Value) (W : World) : (method 240 75 V "datum/base.rangeOf").run Try.prog W = .ok (95, V) W := by kernel_rfl
theorem ent_rangeOf_2 (args : Array Value) (W : World) : (callFunc 95 args).run Try.prog W = .ok (.enter 95 args) W := by kernel_rfl
theorem mth_measure_2 (V : Value) (W : World) : (method 240 75 V "datum/base.measure").run Try.prog W = .ok (94, V) W := by kernel_rfl
theorem ent_measure_2 (args : Array Value) (W : World) : (callFunc 94 args).run Try.prog W = .ok (.enter 94 args) W := by kernel_rfl
theorem below_of {f : FuncId} {args : Array Value} {v : Value} {W : World} (h : Calls Try.prog f args W fun e w' => e = .returned v ∧ w' = W) : Calls Try.prog f args W fun e w' => e = .returned v ∧ Below W.heap.size W w' :=
  h.mono fun _ _ ⟨h1, h2⟩ => ⟨h1, h2 ▸ Below.refl _ _⟩
theorem ms_bnd {m size : Int} (h1 : 1 ≤ size) (h2 : size ≤ 10) (h3 : 0 ≤ m) (h4 : m ≤ 25) : 0 ≤ m * size ∧ m * size ≤ 250 := by
  have h := Int.mul_le_mul h4 h2 (by omega) (by omega)
  exact ⟨Int.mul_nonneg h3 (by omega), by omega⟩
theorem bright_any (b : Bas) (hI : basI b) (w : World) : Calls Try.prog 10 #[basV b] w fun e w' => e = .returned (.bool (basB b)) ∧ Below w.heap.size w w' := by
  obtain ⟨size, m, sum, rng, last⟩ := b
  have no : ¬ basOk ⟨size, m, sum, rng, last⟩ → basB ⟨size, m, sum, rng, last⟩ = false := fun h => decide_eq_false h
  have unf : basOk ⟨size, m, sum, rng, last⟩ ↔ (1 ≤ size ∧ size ≤ 10 ∧ 0 ≤ m ∧ m ≤ 25 ∧ -1000000 ≤ last ∧ last ≤ 1000000 ∧ (m = 0 → last = 0)) ∧ (0 - m * size * 1000000 ≤ sum ∧ sum ≤ m * size * 1000000) ∧ (0 ≤ rng ∧ rng ≤ 2000000 * (if size = 1 then max 0 (m - 1) else m)) := Iff.rfl
  have MS := fun W => below_of (bsize_any size W)
  by_cases h0 : 1 ≤ size ∧ size ≤ 10
  · rw [show sizB size = true from decide_eq_true h0] at MS
    by_cases h1 : m < 0
    · rw [no (fun h => by have := unf.1 h; omega)]; exact bright_1 size m sum rng last w MS h1
    by_cases h2 : 25 < m
    · rw [no (fun h => by have := unf.1 h; omega)]; exact bright_2 size m sum rng last w MS h1 h2
    have hP := ms_bnd h0.1 h0.2 (show 0 ≤ m by omega) (by omega)
    obtain ⟨P, e⟩ : ∃ P, m * size = P := ⟨_, rfl⟩
    rw [e] at unf hP
    have e1 : IntKind.i64.wrap (m * size) = P := by rw [e]; exact wrapJ (by omega)
    have MN := fun W => below_of (near_any sum P (by omega) W)
    by_cases h3 : -P * 1000000 ≤ sum ∧ sum ≤ P * 1000000
    · rw [show nearB sum P = true from decide_eq_true h3] at MN
      by_cases h4 : rng < 0
      · rw [no (fun h => by have := unf.1 h; omega)]; exact bright_4 size m sum rng last P w MS MN e1 h1 h2 h4
      obtain ⟨T, V, F, R, hR, hR0, MC, MR, hm, he⟩ : ∃ T V F R, (if size = 1 then max 0 (m - 1) else m) = R ∧ (0 ≤ R ∧ R ≤ 25) ∧ (∀ W, Calls Try.prog 25 #[.agg #[.int .i64 size, .int .i64 m, .int .i64 sum, .int .i64 rng, .int .i64 last]] W fun e w' => e = .returned (.iface T V) ∧ Below W.heap.size W w') ∧ (∀ W, Calls Try.prog F #[V] W fun e w' => e = .returned (.int .i64 R) ∧ Below W.heap.size W w') ∧ (∀ W, (method 240 T V "datum/base.ranges").run Try.prog W = .ok (F, V) W) ∧ (∀ args W, (callFunc F args).run Try.prog W = .ok (.enter F args) W) := by
        by_cases k : size = 1
        · subst k
          exact ⟨_, _, _, _, if_pos rfl, by omega, fun W => chartOf_1 m sum rng last W, fun W => ranges_1 1 m sum rng last _ (by rw [wrapJ (by omega)]) W, fun W => mth_ranges_1 _ W, fun a W => ent_ranges_1 a W⟩
        · exact ⟨_, _, _, _, if_neg k, by omega, fun W => chartOf_2 size m sum rng last (beq_false_of_ne k) W, fun W => ranges_2 size m sum rng last W, fun W => mth_ranges_2 _ W, fun a W => ent_ranges_2 a W⟩
      rw [hR] at unf
      have e2 : IntKind.i64.wrap (R * 2000000) = R * 2000000 := wrapJ (by omega)
      by_cases h5 : R * 2000000 < rng
      · rw [no (fun h => by have := unf.1 h; omega)]
        exact bright_5 size m sum rng last P R _ w T V F MS MN MC MR e1 e2 h1 h2 h4 h5 hm he
      have ML := fun W => below_of (near_any last 1 (by omega) W)
      by_cases h6 : -1 * 1000000 ≤ last ∧ last ≤ 1 * 1000000
      · rw [show nearB last 1 = true from decide_eq_true h6] at ML
        by_cases h7 : 0 < m
        · rw [show basB ⟨size, m, sum, rng, last⟩ = true from decide_eq_true (unf.2 (by omega))]
          exact bright_7 size m sum rng last P R _ w T V F MS MN MC MR ML e1 e2 h1 h2 h4 h5 hm he h7
        · have h := bright_8 size m sum rng last P R _ _ w T V F MS MN MC MR ML e1 e2 h1 h2 h4 h5 hm he h7 rfl
          rw [show (last == 0) = basB ⟨size, m, sum, rng, last⟩ by
            by_cases q : last = 0
            · rw [show (last == 0) = true by rw [q]; rfl]; exact (decide_eq_true (unf.2 (by omega))).symm
            · rw [beq_false_of_ne q, no (fun h => by have := unf.1 h; omega)]] at h
          exact h
      · rw [show nearB last 1 = false from decide_eq_false h6] at ML
        rw [no (fun h => by have := unf.1 h; omega)]
        exact bright_6 size m sum rng last P R _ w T V F MS MN MC MR ML e1 e2 h1 h2 h4 h5 hm he
    · rw [show nearB sum P = false from decide_eq_false h3] at MN
      rw [no (fun h => by have := unf.1 h; omega)]
      exact bright_3 size m sum rng last P w MS MN e1 h1 h2
  · rw [show sizB size = false from decide_eq_false h0] at MS
    rw [no (fun h => by have := unf.1 h; omega)]
    exact bright_0 size m sum rng last w MS
end Go.Proofs.Ytfafkdbflmennaa
