/- The laws TallyTakes and TallyPoints: their walks. -/
import Derived.Test.YtgmifimpeefpcaaTalE
namespace Go.Proofs.Ytgmifimpeefpcaa
open Go.RowKit

set_option linter.unusedSimpArgs false in
set_option linter.unusedVariables false in
set_option maxHeartbeats 8000000 in
set_option maxRecDepth 100000 in
theorem takes16_1000 (k n kind size m sum d : Int) (w : World)
    (HNEW : Hid (∀ W, Calls Try.prog 7 #[.int .i64 k, .int .i64 n] W fun e w' => e = .returned (.tuple #[.agg #[.int .i64 k, .int .i64 n, .int .i64 0, .int .i64 0], .int .i64 0]) ∧ Below W.heap.size W w'))
    (HTAK : Hid (∀ W, Calls Try.prog 8 #[.agg #[.int .i64 kind, .int .i64 size, .int .i64 m, .int .i64 sum], .int .i64 d] W fun e w' => e = .returned (.tuple #[.agg #[.int .i64 0, .int .i64 0, .int .i64 0, .int .i64 0], .int .i64 1]) ∧ Below W.heap.size W w'))
    (HRI : Hid (∀ W, Calls Try.prog 9 #[.agg #[.int .i64 kind, .int .i64 size, .int .i64 m, .int .i64 sum]] W fun e w' => e = .returned (.bool false) ∧ Below W.heap.size W w'))
    (HRR : Hid (∀ W, Calls Try.prog 10 #[.agg #[.int .i64 kind, .int .i64 size, .int .i64 m, .int .i64 sum]] W fun e w' => e = .returned (.bool false) ∧ Below W.heap.size W w'))
    (HAL : Hid (∀ W, Calls Try.prog 11 #[] W fun e w' => e = .returned (.bool true) ∧ Below W.heap.size W w'))
    (HSZ : Hid (∀ W, Calls Try.prog 12 #[.int .i64 k, .int .i64 n] W fun e w' => e = .returned (.bool true) ∧ Below W.heap.size W w')) :
    Calls Try.prog 3 #[.int .i64 k, .int .i64 n, .agg #[.int .i64 kind, .int .i64 size, .int .i64 m, .int .i64 sum], .int .i64 d] w fun e w' => e = .returned (.bool true) ∧ Below w.heap.size w w' := by
  obtain ⟨w1, hw1⟩ : ∃ w1, w.alloc (.cells #[.int .i64 kind, .int .i64 size, .int .i64 m, .int .i64 sum] 23) = w1 := ⟨_, rfl⟩
  have HX1 := Lib.hid (show Has w1 w.heap.size [.int .i64 kind, .int .i64 size, .int .i64 m, .int .i64 sum] 23 by rw [← hw1]; exact Has.new w _ _)
  have HB1 := Lib.hid (show Below w.heap.size w w1 by rw [← hw1]; exact (Below.refl _ _).alloc (Nat.le_refl _) _)
  have HW1 := Lib.hid hw1
  have hbase := Nat.le_refl w.heap.size
  clear hw1
  go_enter Try.func3, Try.ntmps3
  go_upto_region 1 with fail
  rw [HW1.out]
  have hqt := eqTal
  have hcz1 := HNEW.out w1
  go_wp2_with fail
  refine hcz1.mono ?_
  rintro e wz1 ⟨rfl, kz1⟩
  clear hcz1
  have HBz1 := Lib.hid (HB1.out.trans (kz1.mono (Nat.le_trans hbase HB1.out.size)))
  have Hbz1 := Lib.hid (HX1.out.call kz1)
  clear kz1
  obtain ⟨wz2, hwz2⟩ : ∃ wz2, wz1.alloc (.cells #[.int .i64 k, .int .i64 n, .int .i64 0, .int .i64 0] 23) = wz2 := ⟨_, rfl⟩
  have kz2 : Below wz1.heap.size wz1 wz2 := by rw [← hwz2]; exact (Below.refl _ _).alloc (Nat.le_refl _) _
  have Hnz2 := Lib.hid (show Has wz2 wz1.heap.size [.int .i64 k, .int .i64 n, .int .i64 0, .int .i64 0] 23 by rw [← hwz2]; exact Has.new _ _ _)
  have HWz2 := Lib.hid hwz2
  clear hwz2
  have HBz2 := Lib.hid (HBz1.out.trans (kz2.mono (Nat.le_trans hbase HBz1.out.size)))
  have Hbz2 := Lib.hid (Hbz1.out.call kz2)
  clear kz2
  have qb0_2 : wz1.cell? ⟨w.heap.size, 0, none⟩ = some (.int .i64 kind) := Hbz1.out.cell 0
  have qb1_2 : wz1.cell? ⟨w.heap.size, 1, none⟩ = some (.int .i64 size) := Hbz1.out.cell 1
  have qb2_2 : wz1.cell? ⟨w.heap.size, 2, none⟩ = some (.int .i64 m) := Hbz1.out.cell 2
  have qb3_2 : wz1.cell? ⟨w.heap.size, 3, none⟩ = some (.int .i64 sum) := Hbz1.out.cell 3
  have lb_2 : w.heap.size < wz1.heap.size := Hbz1.out.lt
  have hcz3 := HTAK.out wz2
  go_wp2_with fail
  rw [HWz2.out]
  refine hcz3.mono ?_
  rintro e wz3 ⟨rfl, kz3⟩
  clear hcz3 qb0_2 qb1_2 qb2_2 qb3_2 lb_2
  have HBz3 := Lib.hid (HBz2.out.trans (kz3.mono (Nat.le_trans hbase HBz2.out.size)))
  have Hbz3 := Lib.hid (Hbz2.out.call kz3)
  have Hnz3 := Lib.hid (Hnz2.out.call kz3)
  clear kz3
  obtain ⟨wz4, hwz4⟩ : ∃ wz4, wz3.alloc (.cells #[.int .i64 0, .int .i64 0, .int .i64 0, .int .i64 0] 23) = wz4 := ⟨_, rfl⟩
  have kz4 : Below wz3.heap.size wz3 wz4 := by rw [← hwz4]; exact (Below.refl _ _).alloc (Nat.le_refl _) _
  have Haz4 := Lib.hid (show Has wz4 wz3.heap.size [.int .i64 0, .int .i64 0, .int .i64 0, .int .i64 0] 23 by rw [← hwz4]; exact Has.new _ _ _)
  have HWz4 := Lib.hid hwz4
  clear hwz4
  have HBz4 := Lib.hid (HBz3.out.trans (kz4.mono (Nat.le_trans hbase HBz3.out.size)))
  have Hbz4 := Lib.hid (Hbz3.out.call kz4)
  have Hnz4 := Lib.hid (Hnz3.out.call kz4)
  clear kz4
  go_upto_region 3 with fail
  rw [HWz4.out]
  obtain ⟨wz5, hwz5⟩ : ∃ wz5, wz4.alloc (.cells #[.int .i64 0, .int .i64 0, .int .i64 0, .int .i64 0] 23) = wz5 := ⟨_, rfl⟩
  have kz5 : Below wz4.heap.size wz4 wz5 := by rw [← hwz5]; exact (Below.refl _ _).alloc (Nat.le_refl _) _
  have Hzz5 := Lib.hid (show Has wz5 wz4.heap.size [.int .i64 0, .int .i64 0, .int .i64 0, .int .i64 0] 23 by rw [← hwz5]; exact Has.new _ _ _)
  have HWz5 := Lib.hid hwz5
  clear hwz5
  have HBz5 := Lib.hid (HBz4.out.trans (kz5.mono (Nat.le_trans hbase HBz4.out.size)))
  have Hbz5 := Lib.hid (Hbz4.out.call kz5)
  have Hnz5 := Lib.hid (Hnz4.out.call kz5)
  have Haz5 := Lib.hid (Haz4.out.call kz5)
  clear kz5
  go_upto_region 4 with fail
  rw [HWz5.out]
  refine wp_region_held_drew (S := (fun W' => W'.cell? ⟨w.heap.size, 0, none⟩ = some (.int .i64 kind) ∧ W'.cell? ⟨w.heap.size, 1, none⟩ = some (.int .i64 size) ∧ W'.cell? ⟨w.heap.size, 2, none⟩ = some (.int .i64 m) ∧ W'.cell? ⟨w.heap.size, 3, none⟩ = some (.int .i64 sum))) (by kernel_rfl) ⟨Hbz5.out.cell 0, Hbz5.out.cell 1, Hbz5.out.cell 2, Hbz5.out.cell 3⟩ (fun hHeld => ?_)
  refine regTake 0 (some 27) (v := ?_) rfl rfl (by kernel_rfl) (by kernel_rfl) (by kernel_rfl) (fun _ _ _ h => h) (by rfl) hHeld ?_ ?_
  rotate_left 1
  · (intro w hSw; (try dsimp only at hSw); go_simp; try with_reducible rfl)
  simp only [Act.put, List.setIfInBounds_toArray, List.set_cons_zero, List.set_cons_succ]
  refine regTake 2 (some 29) (v := ?_) rfl rfl (by kernel_rfl) (by kernel_rfl) (by kernel_rfl) (fun _ _ _ h => h) (by rfl) hHeld ?_ ?_
  rotate_left 1
  · (intro w hSw; (try dsimp only at hSw); go_simp; try with_reducible rfl)
  simp only [Act.put, List.setIfInBounds_toArray, List.set_cons_zero, List.set_cons_succ]
  refine regCall 1 (some 28) (f := 9) (args := ?_) rfl rfl (by kernel_rfl) (by rfl) ?_ ?_
  rotate_left 1
  · (go_simp; try with_reducible rfl)
  refine (HRI.out _).mono ?_
  rintro e wx1 ⟨rfl, kg6⟩
  refine ⟨_, rfl, ⟨(Hbz5.out.step kg6 rfl).cell 0, (Hbz5.out.step kg6 rfl).cell 1, (Hbz5.out.step kg6 rfl).cell 2, (Hbz5.out.step kg6 rfl).cell 3⟩, fun hHeld => ?_⟩
  simp only [Act.put, List.setIfInBounds_toArray, List.set_cons_zero, List.set_cons_succ]
  have HBg6 := Lib.hid ((HBz5.out.drew).trans (kg6.mono (Nat.le_trans hbase (HBz5.out.drew).size)))
  have Hbg6 := Lib.hid (Hbz5.out.step kg6 rfl)
  have Hng6 := Lib.hid (Hnz5.out.step kg6 rfl)
  have Hag6 := Lib.hid (Haz5.out.step kg6 rfl)
  have Hzg6 := Lib.hid (Hzz5.out.step kg6 rfl)
  clear kg6
  refine regCall 3 (some 30) (f := 10) (args := ?_) rfl rfl (by kernel_rfl) (by rfl) ?_ ?_
  rotate_left 1
  · (go_simp; try with_reducible rfl)
  refine (HRR.out _).mono ?_
  rintro e wx3 ⟨rfl, kg7⟩
  refine ⟨_, rfl, ⟨(Hbg6.out.step kg7 rfl).cell 0, (Hbg6.out.step kg7 rfl).cell 1, (Hbg6.out.step kg7 rfl).cell 2, (Hbg6.out.step kg7 rfl).cell 3⟩, fun hHeld => ?_⟩
  simp only [Act.put, List.setIfInBounds_toArray, List.set_cons_zero, List.set_cons_succ]
  have HBg7 := Lib.hid ((HBg6.out).trans (kg7.mono (Nat.le_trans hbase (HBg6.out).size)))
  have Hbg7 := Lib.hid (Hbg6.out.step kg7 rfl)
  have Hng7 := Lib.hid (Hng6.out.step kg7 rfl)
  have Hag7 := Lib.hid (Hag6.out.step kg7 rfl)
  have Hzg7 := Lib.hid (Hzg6.out.step kg7 rfl)
  clear kg7
  refine regTake 4 (some 31) (v := ?_) rfl rfl (by kernel_rfl) (by kernel_rfl) (by kernel_rfl) (fun _ _ _ h => h) (by rfl) hHeld ?_ ?_
  rotate_left 1
  · (intro w hSw; (try dsimp only at hSw); go_simp; try with_reducible rfl)
  simp only [Act.put, List.setIfInBounds_toArray, List.set_cons_zero, List.set_cons_succ]
  refine regTake 5 (some 32) (v := ?_) rfl rfl (by kernel_rfl) (by kernel_rfl) (by kernel_rfl) (fun _ _ _ h => h) (by rfl) hHeld ?_ ?_
  rotate_left 1
  · (intro w hSw; (try dsimp only at hSw); go_simp; try with_reducible rfl)
  simp only [Act.put, List.setIfInBounds_toArray, List.set_cons_zero, List.set_cons_succ]
  refine regCall 6 (some 33) (f := 11) (args := ?_) rfl rfl (by kernel_rfl) (by rfl) ?_ ?_
  rotate_left 1
  · (go_simp; try with_reducible rfl)
  refine (HAL.out _).mono ?_
  rintro e wx6 ⟨rfl, kg8⟩
  refine ⟨_, rfl, ⟨(Hbg7.out.step kg8 rfl).cell 0, (Hbg7.out.step kg8 rfl).cell 1, (Hbg7.out.step kg8 rfl).cell 2, (Hbg7.out.step kg8 rfl).cell 3⟩, fun hHeld => ?_⟩
  simp only [Act.put, List.setIfInBounds_toArray, List.set_cons_zero, List.set_cons_succ]
  have HBg8 := Lib.hid ((HBg7.out).trans (kg8.mono (Nat.le_trans hbase (HBg7.out).size)))
  have Hbg8 := Lib.hid (Hbg7.out.step kg8 rfl)
  have Hng8 := Lib.hid (Hng7.out.step kg8 rfl)
  have Hag8 := Lib.hid (Hag7.out.step kg8 rfl)
  have Hzg8 := Lib.hid (Hzg7.out.step kg8 rfl)
  clear kg8
  refine regTake 7 (some 34) (v := ?_) rfl rfl (by kernel_rfl) (by kernel_rfl) (by kernel_rfl) (fun _ _ _ h => h) (by rfl) hHeld ?_ ?_
  rotate_left 1
  · (intro w hSw; (try dsimp only at hSw); go_simp; try with_reducible rfl)
  simp only [Act.put, List.setIfInBounds_toArray, List.set_cons_zero, List.set_cons_succ]
  refine regTake 8 (some 35) (v := ?_) rfl rfl (by kernel_rfl) (by kernel_rfl) (by kernel_rfl) (fun _ _ _ h => h) (by rfl) hHeld ?_ ?_
  rotate_left 1
  · (intro w hSw; (try dsimp only at hSw); go_simp; try with_reducible rfl)
  simp only [Act.put, List.setIfInBounds_toArray, List.set_cons_zero, List.set_cons_succ]
  refine wpAnyH_done (by kernel_rfl) ?_ _
  clear hHeld
  have qn0_8 : wx6.cell? ⟨wz1.heap.size, 0, none⟩ = some (.int .i64 k) := Hng8.out.cell 0
  have qn1_8 : wx6.cell? ⟨wz1.heap.size, 1, none⟩ = some (.int .i64 n) := Hng8.out.cell 1
  have qn2_8 : wx6.cell? ⟨wz1.heap.size, 2, none⟩ = some (.int .i64 0) := Hng8.out.cell 2
  have qn3_8 : wx6.cell? ⟨wz1.heap.size, 3, none⟩ = some (.int .i64 0) := Hng8.out.cell 3
  have ln_8 : wz1.heap.size < wx6.heap.size := Hng8.out.lt
  have qz0_8 : wx6.cell? ⟨wz4.heap.size, 0, none⟩ = some (.int .i64 0) := Hzg8.out.cell 0
  have qz1_8 : wx6.cell? ⟨wz4.heap.size, 1, none⟩ = some (.int .i64 0) := Hzg8.out.cell 1
  have qz2_8 : wx6.cell? ⟨wz4.heap.size, 2, none⟩ = some (.int .i64 0) := Hzg8.out.cell 2
  have qz3_8 : wx6.cell? ⟨wz4.heap.size, 3, none⟩ = some (.int .i64 0) := Hzg8.out.cell 3
  have lz_8 : wz4.heap.size < wx6.heap.size := Hzg8.out.lt
  have hcz9 := HSZ.out wx6
  go_wp2_with fail
  refine hcz9.mono ?_
  rintro e wz9 ⟨rfl, kz9⟩
  clear hcz9 qn0_8 qn1_8 qn2_8 qn3_8 ln_8 qz0_8 qz1_8 qz2_8 qz3_8 lz_8
  have HBz9 := Lib.hid (HBg8.out.trans (kz9.mono (Nat.le_trans hbase HBg8.out.size)))
  have Hbz9 := Lib.hid (Hbg8.out.call kz9)
  have Hnz9 := Lib.hid (Hng8.out.call kz9)
  have Haz9 := Lib.hid (Hag8.out.call kz9)
  have Hzz9 := Lib.hid (Hzg8.out.call kz9)
  clear kz9
  have qb0_9 : wz9.cell? ⟨w.heap.size, 0, none⟩ = some (.int .i64 kind) := Hbz9.out.cell 0
  have qb1_9 : wz9.cell? ⟨w.heap.size, 1, none⟩ = some (.int .i64 size) := Hbz9.out.cell 1
  have qb2_9 : wz9.cell? ⟨w.heap.size, 2, none⟩ = some (.int .i64 m) := Hbz9.out.cell 2
  have qb3_9 : wz9.cell? ⟨w.heap.size, 3, none⟩ = some (.int .i64 sum) := Hbz9.out.cell 3
  have lb_9 : w.heap.size < wz9.heap.size := Hbz9.out.lt
  have qn0_9 : wz9.cell? ⟨wz1.heap.size, 0, none⟩ = some (.int .i64 k) := Hnz9.out.cell 0
  have qn1_9 : wz9.cell? ⟨wz1.heap.size, 1, none⟩ = some (.int .i64 n) := Hnz9.out.cell 1
  have qn2_9 : wz9.cell? ⟨wz1.heap.size, 2, none⟩ = some (.int .i64 0) := Hnz9.out.cell 2
  have qn3_9 : wz9.cell? ⟨wz1.heap.size, 3, none⟩ = some (.int .i64 0) := Hnz9.out.cell 3
  have ln_9 : wz1.heap.size < wz9.heap.size := Hnz9.out.lt
  have qz0_9 : wz9.cell? ⟨wz4.heap.size, 0, none⟩ = some (.int .i64 0) := Hzz9.out.cell 0
  have qz1_9 : wz9.cell? ⟨wz4.heap.size, 1, none⟩ = some (.int .i64 0) := Hzz9.out.cell 1
  have qz2_9 : wz9.cell? ⟨wz4.heap.size, 2, none⟩ = some (.int .i64 0) := Hzz9.out.cell 2
  have qz3_9 : wz9.cell? ⟨wz4.heap.size, 3, none⟩ = some (.int .i64 0) := Hzz9.out.cell 3
  have lz_9 : wz4.heap.size < wz9.heap.size := Hzz9.out.lt
  have hcz10 := HRR.out wz9
  go_wp2_with fail
  refine hcz10.mono ?_
  rintro e wz10 ⟨rfl, kz10⟩
  clear hcz10 qb0_9 qb1_9 qb2_9 qb3_9 lb_9 qn0_9 qn1_9 qn2_9 qn3_9 ln_9 qz0_9 qz1_9 qz2_9 qz3_9 lz_9
  have HBz10 := Lib.hid (HBz9.out.trans (kz10.mono (Nat.le_trans hbase HBz9.out.size)))
  have Hbz10 := Lib.hid (Hbz9.out.call kz10)
  have Hnz10 := Lib.hid (Hnz9.out.call kz10)
  have Haz10 := Lib.hid (Haz9.out.call kz10)
  have Hzz10 := Lib.hid (Hzz9.out.call kz10)
  clear kz10
  have qb0_10 : wz10.cell? ⟨w.heap.size, 0, none⟩ = some (.int .i64 kind) := Hbz10.out.cell 0
  have qb1_10 : wz10.cell? ⟨w.heap.size, 1, none⟩ = some (.int .i64 size) := Hbz10.out.cell 1
  have qb2_10 : wz10.cell? ⟨w.heap.size, 2, none⟩ = some (.int .i64 m) := Hbz10.out.cell 2
  have qb3_10 : wz10.cell? ⟨w.heap.size, 3, none⟩ = some (.int .i64 sum) := Hbz10.out.cell 3
  have lb_10 : w.heap.size < wz10.heap.size := Hbz10.out.lt
  have qa0_10 : wz10.cell? ⟨wz3.heap.size, 0, none⟩ = some (.int .i64 0) := Haz10.out.cell 0
  have qa1_10 : wz10.cell? ⟨wz3.heap.size, 1, none⟩ = some (.int .i64 0) := Haz10.out.cell 1
  have qa2_10 : wz10.cell? ⟨wz3.heap.size, 2, none⟩ = some (.int .i64 0) := Haz10.out.cell 2
  have qa3_10 : wz10.cell? ⟨wz3.heap.size, 3, none⟩ = some (.int .i64 0) := Haz10.out.cell 3
  have la_10 : wz3.heap.size < wz10.heap.size := Haz10.out.lt
  have qz0_10 : wz10.cell? ⟨wz4.heap.size, 0, none⟩ = some (.int .i64 0) := Hzz10.out.cell 0
  have qz1_10 : wz10.cell? ⟨wz4.heap.size, 1, none⟩ = some (.int .i64 0) := Hzz10.out.cell 1
  have qz2_10 : wz10.cell? ⟨wz4.heap.size, 2, none⟩ = some (.int .i64 0) := Hzz10.out.cell 2
  have qz3_10 : wz10.cell? ⟨wz4.heap.size, 3, none⟩ = some (.int .i64 0) := Hzz10.out.cell 3
  have lz_10 : wz4.heap.size < wz10.heap.size := Hzz10.out.lt
  go_wp2
  go_ret
  exact ⟨rfl, HBz10.out⟩
set_option linter.unusedSimpArgs false in
set_option linter.unusedVariables false in
set_option maxHeartbeats 8000000 in
set_option maxRecDepth 100000 in
theorem takes16_1100 (k n kind size m sum d : Int) (w : World)
    (HNEW : Hid (∀ W, Calls Try.prog 7 #[.int .i64 k, .int .i64 n] W fun e w' => e = .returned (.tuple #[.agg #[.int .i64 k, .int .i64 n, .int .i64 0, .int .i64 0], .int .i64 0]) ∧ Below W.heap.size W w'))
    (HTAK : Hid (∀ W, Calls Try.prog 8 #[.agg #[.int .i64 kind, .int .i64 size, .int .i64 m, .int .i64 sum], .int .i64 d] W fun e w' => e = .returned (.tuple #[.agg #[.int .i64 0, .int .i64 0, .int .i64 0, .int .i64 0], .int .i64 1]) ∧ Below W.heap.size W w'))
    (HRI : Hid (∀ W, Calls Try.prog 9 #[.agg #[.int .i64 kind, .int .i64 size, .int .i64 m, .int .i64 sum]] W fun e w' => e = .returned (.bool true) ∧ Below W.heap.size W w'))
    (HRR : Hid (∀ W, Calls Try.prog 10 #[.agg #[.int .i64 kind, .int .i64 size, .int .i64 m, .int .i64 sum]] W fun e w' => e = .returned (.bool true) ∧ Below W.heap.size W w'))
    (HAL : Hid (∀ W, Calls Try.prog 11 #[] W fun e w' => e = .returned (.bool true) ∧ Below W.heap.size W w'))
    (HSZ : Hid (∀ W, Calls Try.prog 12 #[.int .i64 k, .int .i64 n] W fun e w' => e = .returned (.bool true) ∧ Below W.heap.size W w'))
    (HCN : Hid (∀ W, Calls Try.prog 13 #[.agg #[.int .i64 kind, .int .i64 size, .int .i64 m, .int .i64 sum], .int .i64 d] W fun e w' => e = .returned (.bool false) ∧ Below W.heap.size W w')) :
    Calls Try.prog 3 #[.int .i64 k, .int .i64 n, .agg #[.int .i64 kind, .int .i64 size, .int .i64 m, .int .i64 sum], .int .i64 d] w fun e w' => e = .returned (.bool true) ∧ Below w.heap.size w w' := by
  obtain ⟨w1, hw1⟩ : ∃ w1, w.alloc (.cells #[.int .i64 kind, .int .i64 size, .int .i64 m, .int .i64 sum] 23) = w1 := ⟨_, rfl⟩
  have HX1 := Lib.hid (show Has w1 w.heap.size [.int .i64 kind, .int .i64 size, .int .i64 m, .int .i64 sum] 23 by rw [← hw1]; exact Has.new w _ _)
  have HB1 := Lib.hid (show Below w.heap.size w w1 by rw [← hw1]; exact (Below.refl _ _).alloc (Nat.le_refl _) _)
  have HW1 := Lib.hid hw1
  have hbase := Nat.le_refl w.heap.size
  clear hw1
  go_enter Try.func3, Try.ntmps3
  go_upto_region 1 with fail
  rw [HW1.out]
  have hqt := eqTal
  have hcz1 := HNEW.out w1
  go_wp2_with fail
  refine hcz1.mono ?_
  rintro e wz1 ⟨rfl, kz1⟩
  clear hcz1
  have HBz1 := Lib.hid (HB1.out.trans (kz1.mono (Nat.le_trans hbase HB1.out.size)))
  have Hbz1 := Lib.hid (HX1.out.call kz1)
  clear kz1
  obtain ⟨wz2, hwz2⟩ : ∃ wz2, wz1.alloc (.cells #[.int .i64 k, .int .i64 n, .int .i64 0, .int .i64 0] 23) = wz2 := ⟨_, rfl⟩
  have kz2 : Below wz1.heap.size wz1 wz2 := by rw [← hwz2]; exact (Below.refl _ _).alloc (Nat.le_refl _) _
  have Hnz2 := Lib.hid (show Has wz2 wz1.heap.size [.int .i64 k, .int .i64 n, .int .i64 0, .int .i64 0] 23 by rw [← hwz2]; exact Has.new _ _ _)
  have HWz2 := Lib.hid hwz2
  clear hwz2
  have HBz2 := Lib.hid (HBz1.out.trans (kz2.mono (Nat.le_trans hbase HBz1.out.size)))
  have Hbz2 := Lib.hid (Hbz1.out.call kz2)
  clear kz2
  have qb0_2 : wz1.cell? ⟨w.heap.size, 0, none⟩ = some (.int .i64 kind) := Hbz1.out.cell 0
  have qb1_2 : wz1.cell? ⟨w.heap.size, 1, none⟩ = some (.int .i64 size) := Hbz1.out.cell 1
  have qb2_2 : wz1.cell? ⟨w.heap.size, 2, none⟩ = some (.int .i64 m) := Hbz1.out.cell 2
  have qb3_2 : wz1.cell? ⟨w.heap.size, 3, none⟩ = some (.int .i64 sum) := Hbz1.out.cell 3
  have lb_2 : w.heap.size < wz1.heap.size := Hbz1.out.lt
  have hcz3 := HTAK.out wz2
  go_wp2_with fail
  rw [HWz2.out]
  refine hcz3.mono ?_
  rintro e wz3 ⟨rfl, kz3⟩
  clear hcz3 qb0_2 qb1_2 qb2_2 qb3_2 lb_2
  have HBz3 := Lib.hid (HBz2.out.trans (kz3.mono (Nat.le_trans hbase HBz2.out.size)))
  have Hbz3 := Lib.hid (Hbz2.out.call kz3)
  have Hnz3 := Lib.hid (Hnz2.out.call kz3)
  clear kz3
  obtain ⟨wz4, hwz4⟩ : ∃ wz4, wz3.alloc (.cells #[.int .i64 0, .int .i64 0, .int .i64 0, .int .i64 0] 23) = wz4 := ⟨_, rfl⟩
  have kz4 : Below wz3.heap.size wz3 wz4 := by rw [← hwz4]; exact (Below.refl _ _).alloc (Nat.le_refl _) _
  have Haz4 := Lib.hid (show Has wz4 wz3.heap.size [.int .i64 0, .int .i64 0, .int .i64 0, .int .i64 0] 23 by rw [← hwz4]; exact Has.new _ _ _)
  have HWz4 := Lib.hid hwz4
  clear hwz4
  have HBz4 := Lib.hid (HBz3.out.trans (kz4.mono (Nat.le_trans hbase HBz3.out.size)))
  have Hbz4 := Lib.hid (Hbz3.out.call kz4)
  have Hnz4 := Lib.hid (Hnz3.out.call kz4)
  clear kz4
  go_upto_region 3 with fail
  rw [HWz4.out]
  obtain ⟨wz5, hwz5⟩ : ∃ wz5, wz4.alloc (.cells #[.int .i64 0, .int .i64 0, .int .i64 0, .int .i64 0] 23) = wz5 := ⟨_, rfl⟩
  have kz5 : Below wz4.heap.size wz4 wz5 := by rw [← hwz5]; exact (Below.refl _ _).alloc (Nat.le_refl _) _
  have Hzz5 := Lib.hid (show Has wz5 wz4.heap.size [.int .i64 0, .int .i64 0, .int .i64 0, .int .i64 0] 23 by rw [← hwz5]; exact Has.new _ _ _)
  have HWz5 := Lib.hid hwz5
  clear hwz5
  have HBz5 := Lib.hid (HBz4.out.trans (kz5.mono (Nat.le_trans hbase HBz4.out.size)))
  have Hbz5 := Lib.hid (Hbz4.out.call kz5)
  have Hnz5 := Lib.hid (Hnz4.out.call kz5)
  have Haz5 := Lib.hid (Haz4.out.call kz5)
  clear kz5
  go_upto_region 4 with fail
  rw [HWz5.out]
  refine wp_region_held_drew (S := (fun W' => W'.cell? ⟨w.heap.size, 0, none⟩ = some (.int .i64 kind) ∧ W'.cell? ⟨w.heap.size, 1, none⟩ = some (.int .i64 size) ∧ W'.cell? ⟨w.heap.size, 2, none⟩ = some (.int .i64 m) ∧ W'.cell? ⟨w.heap.size, 3, none⟩ = some (.int .i64 sum))) (by kernel_rfl) ⟨Hbz5.out.cell 0, Hbz5.out.cell 1, Hbz5.out.cell 2, Hbz5.out.cell 3⟩ (fun hHeld => ?_)
  refine regTake 0 (some 27) (v := ?_) rfl rfl (by kernel_rfl) (by kernel_rfl) (by kernel_rfl) (fun _ _ _ h => h) (by rfl) hHeld ?_ ?_
  rotate_left 1
  · (intro w hSw; (try dsimp only at hSw); go_simp; try with_reducible rfl)
  simp only [Act.put, List.setIfInBounds_toArray, List.set_cons_zero, List.set_cons_succ]
  refine regTake 2 (some 29) (v := ?_) rfl rfl (by kernel_rfl) (by kernel_rfl) (by kernel_rfl) (fun _ _ _ h => h) (by rfl) hHeld ?_ ?_
  rotate_left 1
  · (intro w hSw; (try dsimp only at hSw); go_simp; try with_reducible rfl)
  simp only [Act.put, List.setIfInBounds_toArray, List.set_cons_zero, List.set_cons_succ]
  refine regCall 1 (some 28) (f := 9) (args := ?_) rfl rfl (by kernel_rfl) (by rfl) ?_ ?_
  rotate_left 1
  · (go_simp; try with_reducible rfl)
  refine (HRI.out _).mono ?_
  rintro e wx1 ⟨rfl, kg6⟩
  refine ⟨_, rfl, ⟨(Hbz5.out.step kg6 rfl).cell 0, (Hbz5.out.step kg6 rfl).cell 1, (Hbz5.out.step kg6 rfl).cell 2, (Hbz5.out.step kg6 rfl).cell 3⟩, fun hHeld => ?_⟩
  simp only [Act.put, List.setIfInBounds_toArray, List.set_cons_zero, List.set_cons_succ]
  have HBg6 := Lib.hid ((HBz5.out.drew).trans (kg6.mono (Nat.le_trans hbase (HBz5.out.drew).size)))
  have Hbg6 := Lib.hid (Hbz5.out.step kg6 rfl)
  have Hng6 := Lib.hid (Hnz5.out.step kg6 rfl)
  have Hag6 := Lib.hid (Haz5.out.step kg6 rfl)
  have Hzg6 := Lib.hid (Hzz5.out.step kg6 rfl)
  clear kg6
  refine regCall 3 (some 30) (f := 10) (args := ?_) rfl rfl (by kernel_rfl) (by rfl) ?_ ?_
  rotate_left 1
  · (go_simp; try with_reducible rfl)
  refine (HRR.out _).mono ?_
  rintro e wx3 ⟨rfl, kg7⟩
  refine ⟨_, rfl, ⟨(Hbg6.out.step kg7 rfl).cell 0, (Hbg6.out.step kg7 rfl).cell 1, (Hbg6.out.step kg7 rfl).cell 2, (Hbg6.out.step kg7 rfl).cell 3⟩, fun hHeld => ?_⟩
  simp only [Act.put, List.setIfInBounds_toArray, List.set_cons_zero, List.set_cons_succ]
  have HBg7 := Lib.hid ((HBg6.out).trans (kg7.mono (Nat.le_trans hbase (HBg6.out).size)))
  have Hbg7 := Lib.hid (Hbg6.out.step kg7 rfl)
  have Hng7 := Lib.hid (Hng6.out.step kg7 rfl)
  have Hag7 := Lib.hid (Hag6.out.step kg7 rfl)
  have Hzg7 := Lib.hid (Hzg6.out.step kg7 rfl)
  clear kg7
  refine regTake 4 (some 31) (v := ?_) rfl rfl (by kernel_rfl) (by kernel_rfl) (by kernel_rfl) (fun _ _ _ h => h) (by rfl) hHeld ?_ ?_
  rotate_left 1
  · (intro w hSw; (try dsimp only at hSw); go_simp; try with_reducible rfl)
  simp only [Act.put, List.setIfInBounds_toArray, List.set_cons_zero, List.set_cons_succ]
  refine regTake 5 (some 32) (v := ?_) rfl rfl (by kernel_rfl) (by kernel_rfl) (by kernel_rfl) (fun _ _ _ h => h) (by rfl) hHeld ?_ ?_
  rotate_left 1
  · (intro w hSw; (try dsimp only at hSw); go_simp; try with_reducible rfl)
  simp only [Act.put, List.setIfInBounds_toArray, List.set_cons_zero, List.set_cons_succ]
  refine regCall 6 (some 33) (f := 11) (args := ?_) rfl rfl (by kernel_rfl) (by rfl) ?_ ?_
  rotate_left 1
  · (go_simp; try with_reducible rfl)
  refine (HAL.out _).mono ?_
  rintro e wx6 ⟨rfl, kg8⟩
  refine ⟨_, rfl, ⟨(Hbg7.out.step kg8 rfl).cell 0, (Hbg7.out.step kg8 rfl).cell 1, (Hbg7.out.step kg8 rfl).cell 2, (Hbg7.out.step kg8 rfl).cell 3⟩, fun hHeld => ?_⟩
  simp only [Act.put, List.setIfInBounds_toArray, List.set_cons_zero, List.set_cons_succ]
  have HBg8 := Lib.hid ((HBg7.out).trans (kg8.mono (Nat.le_trans hbase (HBg7.out).size)))
  have Hbg8 := Lib.hid (Hbg7.out.step kg8 rfl)
  have Hng8 := Lib.hid (Hng7.out.step kg8 rfl)
  have Hag8 := Lib.hid (Hag7.out.step kg8 rfl)
  have Hzg8 := Lib.hid (Hzg7.out.step kg8 rfl)
  clear kg8
  refine regTake 7 (some 34) (v := ?_) rfl rfl (by kernel_rfl) (by kernel_rfl) (by kernel_rfl) (fun _ _ _ h => h) (by rfl) hHeld ?_ ?_
  rotate_left 1
  · (intro w hSw; (try dsimp only at hSw); go_simp; try with_reducible rfl)
  simp only [Act.put, List.setIfInBounds_toArray, List.set_cons_zero, List.set_cons_succ]
  refine regTake 8 (some 35) (v := ?_) rfl rfl (by kernel_rfl) (by kernel_rfl) (by kernel_rfl) (fun _ _ _ h => h) (by rfl) hHeld ?_ ?_
  rotate_left 1
  · (intro w hSw; (try dsimp only at hSw); go_simp; try with_reducible rfl)
  simp only [Act.put, List.setIfInBounds_toArray, List.set_cons_zero, List.set_cons_succ]
  refine wpAnyH_done (by kernel_rfl) ?_ _
  clear hHeld
  have qn0_8 : wx6.cell? ⟨wz1.heap.size, 0, none⟩ = some (.int .i64 k) := Hng8.out.cell 0
  have qn1_8 : wx6.cell? ⟨wz1.heap.size, 1, none⟩ = some (.int .i64 n) := Hng8.out.cell 1
  have qn2_8 : wx6.cell? ⟨wz1.heap.size, 2, none⟩ = some (.int .i64 0) := Hng8.out.cell 2
  have qn3_8 : wx6.cell? ⟨wz1.heap.size, 3, none⟩ = some (.int .i64 0) := Hng8.out.cell 3
  have ln_8 : wz1.heap.size < wx6.heap.size := Hng8.out.lt
  have qz0_8 : wx6.cell? ⟨wz4.heap.size, 0, none⟩ = some (.int .i64 0) := Hzg8.out.cell 0
  have qz1_8 : wx6.cell? ⟨wz4.heap.size, 1, none⟩ = some (.int .i64 0) := Hzg8.out.cell 1
  have qz2_8 : wx6.cell? ⟨wz4.heap.size, 2, none⟩ = some (.int .i64 0) := Hzg8.out.cell 2
  have qz3_8 : wx6.cell? ⟨wz4.heap.size, 3, none⟩ = some (.int .i64 0) := Hzg8.out.cell 3
  have lz_8 : wz4.heap.size < wx6.heap.size := Hzg8.out.lt
  have hcz9 := HSZ.out wx6
  go_wp2_with fail
  refine hcz9.mono ?_
  rintro e wz9 ⟨rfl, kz9⟩
  clear hcz9 qn0_8 qn1_8 qn2_8 qn3_8 ln_8 qz0_8 qz1_8 qz2_8 qz3_8 lz_8
  have HBz9 := Lib.hid (HBg8.out.trans (kz9.mono (Nat.le_trans hbase HBg8.out.size)))
  have Hbz9 := Lib.hid (Hbg8.out.call kz9)
  have Hnz9 := Lib.hid (Hng8.out.call kz9)
  have Haz9 := Lib.hid (Hag8.out.call kz9)
  have Hzz9 := Lib.hid (Hzg8.out.call kz9)
  clear kz9
  have qb0_9 : wz9.cell? ⟨w.heap.size, 0, none⟩ = some (.int .i64 kind) := Hbz9.out.cell 0
  have qb1_9 : wz9.cell? ⟨w.heap.size, 1, none⟩ = some (.int .i64 size) := Hbz9.out.cell 1
  have qb2_9 : wz9.cell? ⟨w.heap.size, 2, none⟩ = some (.int .i64 m) := Hbz9.out.cell 2
  have qb3_9 : wz9.cell? ⟨w.heap.size, 3, none⟩ = some (.int .i64 sum) := Hbz9.out.cell 3
  have lb_9 : w.heap.size < wz9.heap.size := Hbz9.out.lt
  have qn0_9 : wz9.cell? ⟨wz1.heap.size, 0, none⟩ = some (.int .i64 k) := Hnz9.out.cell 0
  have qn1_9 : wz9.cell? ⟨wz1.heap.size, 1, none⟩ = some (.int .i64 n) := Hnz9.out.cell 1
  have qn2_9 : wz9.cell? ⟨wz1.heap.size, 2, none⟩ = some (.int .i64 0) := Hnz9.out.cell 2
  have qn3_9 : wz9.cell? ⟨wz1.heap.size, 3, none⟩ = some (.int .i64 0) := Hnz9.out.cell 3
  have ln_9 : wz1.heap.size < wz9.heap.size := Hnz9.out.lt
  have qz0_9 : wz9.cell? ⟨wz4.heap.size, 0, none⟩ = some (.int .i64 0) := Hzz9.out.cell 0
  have qz1_9 : wz9.cell? ⟨wz4.heap.size, 1, none⟩ = some (.int .i64 0) := Hzz9.out.cell 1
  have qz2_9 : wz9.cell? ⟨wz4.heap.size, 2, none⟩ = some (.int .i64 0) := Hzz9.out.cell 2
  have qz3_9 : wz9.cell? ⟨wz4.heap.size, 3, none⟩ = some (.int .i64 0) := Hzz9.out.cell 3
  have lz_9 : wz4.heap.size < wz9.heap.size := Hzz9.out.lt
  have hcz10 := HRR.out wz9
  go_wp2_with fail
  refine hcz10.mono ?_
  rintro e wz10 ⟨rfl, kz10⟩
  clear hcz10 qb0_9 qb1_9 qb2_9 qb3_9 lb_9 qn0_9 qn1_9 qn2_9 qn3_9 ln_9 qz0_9 qz1_9 qz2_9 qz3_9 lz_9
  have HBz10 := Lib.hid (HBz9.out.trans (kz10.mono (Nat.le_trans hbase HBz9.out.size)))
  have Hbz10 := Lib.hid (Hbz9.out.call kz10)
  have Hnz10 := Lib.hid (Hnz9.out.call kz10)
  have Haz10 := Lib.hid (Haz9.out.call kz10)
  have Hzz10 := Lib.hid (Hzz9.out.call kz10)
  clear kz10
  have qb0_10 : wz10.cell? ⟨w.heap.size, 0, none⟩ = some (.int .i64 kind) := Hbz10.out.cell 0
  have qb1_10 : wz10.cell? ⟨w.heap.size, 1, none⟩ = some (.int .i64 size) := Hbz10.out.cell 1
  have qb2_10 : wz10.cell? ⟨w.heap.size, 2, none⟩ = some (.int .i64 m) := Hbz10.out.cell 2
  have qb3_10 : wz10.cell? ⟨w.heap.size, 3, none⟩ = some (.int .i64 sum) := Hbz10.out.cell 3
  have lb_10 : w.heap.size < wz10.heap.size := Hbz10.out.lt
  have qn0_10 : wz10.cell? ⟨wz1.heap.size, 0, none⟩ = some (.int .i64 k) := Hnz10.out.cell 0
  have qn1_10 : wz10.cell? ⟨wz1.heap.size, 1, none⟩ = some (.int .i64 n) := Hnz10.out.cell 1
  have qn2_10 : wz10.cell? ⟨wz1.heap.size, 2, none⟩ = some (.int .i64 0) := Hnz10.out.cell 2
  have qn3_10 : wz10.cell? ⟨wz1.heap.size, 3, none⟩ = some (.int .i64 0) := Hnz10.out.cell 3
  have ln_10 : wz1.heap.size < wz10.heap.size := Hnz10.out.lt
  have qz0_10 : wz10.cell? ⟨wz4.heap.size, 0, none⟩ = some (.int .i64 0) := Hzz10.out.cell 0
  have qz1_10 : wz10.cell? ⟨wz4.heap.size, 1, none⟩ = some (.int .i64 0) := Hzz10.out.cell 1
  have qz2_10 : wz10.cell? ⟨wz4.heap.size, 2, none⟩ = some (.int .i64 0) := Hzz10.out.cell 2
  have qz3_10 : wz10.cell? ⟨wz4.heap.size, 3, none⟩ = some (.int .i64 0) := Hzz10.out.cell 3
  have lz_10 : wz4.heap.size < wz10.heap.size := Hzz10.out.lt
  have qa0_10 : wz10.cell? ⟨wz3.heap.size, 0, none⟩ = some (.int .i64 0) := Haz10.out.cell 0
  have qa1_10 : wz10.cell? ⟨wz3.heap.size, 1, none⟩ = some (.int .i64 0) := Haz10.out.cell 1
  have qa2_10 : wz10.cell? ⟨wz3.heap.size, 2, none⟩ = some (.int .i64 0) := Haz10.out.cell 2
  have qa3_10 : wz10.cell? ⟨wz3.heap.size, 3, none⟩ = some (.int .i64 0) := Haz10.out.cell 3
  have la_10 : wz3.heap.size < wz10.heap.size := Haz10.out.lt
  have hcz11 := HCN.out wz10
  go_wp2_with fail
  refine hcz11.mono ?_
  rintro e wz11 ⟨rfl, kz11⟩
  clear hcz11 qb0_10 qb1_10 qb2_10 qb3_10 lb_10 qn0_10 qn1_10 qn2_10 qn3_10 ln_10 qz0_10 qz1_10 qz2_10 qz3_10 lz_10 qa0_10 qa1_10 qa2_10 qa3_10 la_10
  have HBz11 := Lib.hid (HBz10.out.trans (kz11.mono (Nat.le_trans hbase HBz10.out.size)))
  have Hbz11 := Lib.hid (Hbz10.out.call kz11)
  have Hnz11 := Lib.hid (Hnz10.out.call kz11)
  have Haz11 := Lib.hid (Haz10.out.call kz11)
  have Hzz11 := Lib.hid (Hzz10.out.call kz11)
  clear kz11
  have qb0_11 : wz11.cell? ⟨w.heap.size, 0, none⟩ = some (.int .i64 kind) := Hbz11.out.cell 0
  have qb1_11 : wz11.cell? ⟨w.heap.size, 1, none⟩ = some (.int .i64 size) := Hbz11.out.cell 1
  have qb2_11 : wz11.cell? ⟨w.heap.size, 2, none⟩ = some (.int .i64 m) := Hbz11.out.cell 2
  have qb3_11 : wz11.cell? ⟨w.heap.size, 3, none⟩ = some (.int .i64 sum) := Hbz11.out.cell 3
  have lb_11 : w.heap.size < wz11.heap.size := Hbz11.out.lt
  have qa0_11 : wz11.cell? ⟨wz3.heap.size, 0, none⟩ = some (.int .i64 0) := Haz11.out.cell 0
  have qa1_11 : wz11.cell? ⟨wz3.heap.size, 1, none⟩ = some (.int .i64 0) := Haz11.out.cell 1
  have qa2_11 : wz11.cell? ⟨wz3.heap.size, 2, none⟩ = some (.int .i64 0) := Haz11.out.cell 2
  have qa3_11 : wz11.cell? ⟨wz3.heap.size, 3, none⟩ = some (.int .i64 0) := Haz11.out.cell 3
  have la_11 : wz3.heap.size < wz11.heap.size := Haz11.out.lt
  have qz0_11 : wz11.cell? ⟨wz4.heap.size, 0, none⟩ = some (.int .i64 0) := Hzz11.out.cell 0
  have qz1_11 : wz11.cell? ⟨wz4.heap.size, 1, none⟩ = some (.int .i64 0) := Hzz11.out.cell 1
  have qz2_11 : wz11.cell? ⟨wz4.heap.size, 2, none⟩ = some (.int .i64 0) := Hzz11.out.cell 2
  have qz3_11 : wz11.cell? ⟨wz4.heap.size, 3, none⟩ = some (.int .i64 0) := Hzz11.out.cell 3
  have lz_11 : wz4.heap.size < wz11.heap.size := Hzz11.out.lt
  go_wp2
  go_ret
  exact ⟨rfl, HBz11.out⟩
set_option linter.unusedSimpArgs false in
set_option linter.unusedVariables false in
set_option maxHeartbeats 8000000 in
set_option maxRecDepth 100000 in
theorem takes16_1111 (k n kind size m sum d : Int) (w : World) (g25 : (m == 25) = true)
    (HNEW : Hid (∀ W, Calls Try.prog 7 #[.int .i64 k, .int .i64 n] W fun e w' => e = .returned (.tuple #[.agg #[.int .i64 k, .int .i64 n, .int .i64 0, .int .i64 0], .int .i64 0]) ∧ Below W.heap.size W w'))
    (HTAK : Hid (∀ W, Calls Try.prog 8 #[.agg #[.int .i64 kind, .int .i64 size, .int .i64 m, .int .i64 sum], .int .i64 d] W fun e w' => e = .returned (.tuple #[.agg #[.int .i64 0, .int .i64 0, .int .i64 0, .int .i64 0], .int .i64 11]) ∧ Below W.heap.size W w'))
    (HRI : Hid (∀ W, Calls Try.prog 9 #[.agg #[.int .i64 kind, .int .i64 size, .int .i64 m, .int .i64 sum]] W fun e w' => e = .returned (.bool true) ∧ Below W.heap.size W w'))
    (HRR : Hid (∀ W, Calls Try.prog 10 #[.agg #[.int .i64 kind, .int .i64 size, .int .i64 m, .int .i64 sum]] W fun e w' => e = .returned (.bool true) ∧ Below W.heap.size W w'))
    (HAL : Hid (∀ W, Calls Try.prog 11 #[] W fun e w' => e = .returned (.bool true) ∧ Below W.heap.size W w'))
    (HSZ : Hid (∀ W, Calls Try.prog 12 #[.int .i64 k, .int .i64 n] W fun e w' => e = .returned (.bool true) ∧ Below W.heap.size W w'))
    (HCN : Hid (∀ W, Calls Try.prog 13 #[.agg #[.int .i64 kind, .int .i64 size, .int .i64 m, .int .i64 sum], .int .i64 d] W fun e w' => e = .returned (.bool true) ∧ Below W.heap.size W w')) :
    Calls Try.prog 3 #[.int .i64 k, .int .i64 n, .agg #[.int .i64 kind, .int .i64 size, .int .i64 m, .int .i64 sum], .int .i64 d] w fun e w' => e = .returned (.bool true) ∧ Below w.heap.size w w' := by
  obtain ⟨w1, hw1⟩ : ∃ w1, w.alloc (.cells #[.int .i64 kind, .int .i64 size, .int .i64 m, .int .i64 sum] 23) = w1 := ⟨_, rfl⟩
  have HX1 := Lib.hid (show Has w1 w.heap.size [.int .i64 kind, .int .i64 size, .int .i64 m, .int .i64 sum] 23 by rw [← hw1]; exact Has.new w _ _)
  have HB1 := Lib.hid (show Below w.heap.size w w1 by rw [← hw1]; exact (Below.refl _ _).alloc (Nat.le_refl _) _)
  have HW1 := Lib.hid hw1
  have hbase := Nat.le_refl w.heap.size
  clear hw1
  go_enter Try.func3, Try.ntmps3
  go_upto_region 1 with fail
  rw [HW1.out]
  have hqt := eqTal
  have hcz1 := HNEW.out w1
  go_wp2_with fail
  refine hcz1.mono ?_
  rintro e wz1 ⟨rfl, kz1⟩
  clear hcz1
  have HBz1 := Lib.hid (HB1.out.trans (kz1.mono (Nat.le_trans hbase HB1.out.size)))
  have Hbz1 := Lib.hid (HX1.out.call kz1)
  clear kz1
  obtain ⟨wz2, hwz2⟩ : ∃ wz2, wz1.alloc (.cells #[.int .i64 k, .int .i64 n, .int .i64 0, .int .i64 0] 23) = wz2 := ⟨_, rfl⟩
  have kz2 : Below wz1.heap.size wz1 wz2 := by rw [← hwz2]; exact (Below.refl _ _).alloc (Nat.le_refl _) _
  have Hnz2 := Lib.hid (show Has wz2 wz1.heap.size [.int .i64 k, .int .i64 n, .int .i64 0, .int .i64 0] 23 by rw [← hwz2]; exact Has.new _ _ _)
  have HWz2 := Lib.hid hwz2
  clear hwz2
  have HBz2 := Lib.hid (HBz1.out.trans (kz2.mono (Nat.le_trans hbase HBz1.out.size)))
  have Hbz2 := Lib.hid (Hbz1.out.call kz2)
  clear kz2
  have qb0_2 : wz1.cell? ⟨w.heap.size, 0, none⟩ = some (.int .i64 kind) := Hbz1.out.cell 0
  have qb1_2 : wz1.cell? ⟨w.heap.size, 1, none⟩ = some (.int .i64 size) := Hbz1.out.cell 1
  have qb2_2 : wz1.cell? ⟨w.heap.size, 2, none⟩ = some (.int .i64 m) := Hbz1.out.cell 2
  have qb3_2 : wz1.cell? ⟨w.heap.size, 3, none⟩ = some (.int .i64 sum) := Hbz1.out.cell 3
  have lb_2 : w.heap.size < wz1.heap.size := Hbz1.out.lt
  have hcz3 := HTAK.out wz2
  go_wp2_with fail
  rw [HWz2.out]
  refine hcz3.mono ?_
  rintro e wz3 ⟨rfl, kz3⟩
  clear hcz3 qb0_2 qb1_2 qb2_2 qb3_2 lb_2
  have HBz3 := Lib.hid (HBz2.out.trans (kz3.mono (Nat.le_trans hbase HBz2.out.size)))
  have Hbz3 := Lib.hid (Hbz2.out.call kz3)
  have Hnz3 := Lib.hid (Hnz2.out.call kz3)
  clear kz3
  obtain ⟨wz4, hwz4⟩ : ∃ wz4, wz3.alloc (.cells #[.int .i64 0, .int .i64 0, .int .i64 0, .int .i64 0] 23) = wz4 := ⟨_, rfl⟩
  have kz4 : Below wz3.heap.size wz3 wz4 := by rw [← hwz4]; exact (Below.refl _ _).alloc (Nat.le_refl _) _
  have Haz4 := Lib.hid (show Has wz4 wz3.heap.size [.int .i64 0, .int .i64 0, .int .i64 0, .int .i64 0] 23 by rw [← hwz4]; exact Has.new _ _ _)
  have HWz4 := Lib.hid hwz4
  clear hwz4
  have HBz4 := Lib.hid (HBz3.out.trans (kz4.mono (Nat.le_trans hbase HBz3.out.size)))
  have Hbz4 := Lib.hid (Hbz3.out.call kz4)
  have Hnz4 := Lib.hid (Hnz3.out.call kz4)
  clear kz4
  go_upto_region 3 with fail
  rw [HWz4.out]
  obtain ⟨wz5, hwz5⟩ : ∃ wz5, wz4.alloc (.cells #[.int .i64 0, .int .i64 0, .int .i64 0, .int .i64 0] 23) = wz5 := ⟨_, rfl⟩
  have kz5 : Below wz4.heap.size wz4 wz5 := by rw [← hwz5]; exact (Below.refl _ _).alloc (Nat.le_refl _) _
  have Hzz5 := Lib.hid (show Has wz5 wz4.heap.size [.int .i64 0, .int .i64 0, .int .i64 0, .int .i64 0] 23 by rw [← hwz5]; exact Has.new _ _ _)
  have HWz5 := Lib.hid hwz5
  clear hwz5
  have HBz5 := Lib.hid (HBz4.out.trans (kz5.mono (Nat.le_trans hbase HBz4.out.size)))
  have Hbz5 := Lib.hid (Hbz4.out.call kz5)
  have Hnz5 := Lib.hid (Hnz4.out.call kz5)
  have Haz5 := Lib.hid (Haz4.out.call kz5)
  clear kz5
  go_upto_region 4 with fail
  rw [HWz5.out]
  refine wp_region_held_drew (S := (fun W' => W'.cell? ⟨w.heap.size, 0, none⟩ = some (.int .i64 kind) ∧ W'.cell? ⟨w.heap.size, 1, none⟩ = some (.int .i64 size) ∧ W'.cell? ⟨w.heap.size, 2, none⟩ = some (.int .i64 m) ∧ W'.cell? ⟨w.heap.size, 3, none⟩ = some (.int .i64 sum))) (by kernel_rfl) ⟨Hbz5.out.cell 0, Hbz5.out.cell 1, Hbz5.out.cell 2, Hbz5.out.cell 3⟩ (fun hHeld => ?_)
  refine regTake 0 (some 27) (v := ?_) rfl rfl (by kernel_rfl) (by kernel_rfl) (by kernel_rfl) (fun _ _ _ h => h) (by rfl) hHeld ?_ ?_
  rotate_left 1
  · (intro w hSw; (try dsimp only at hSw); go_simp; try with_reducible rfl)
  simp only [Act.put, List.setIfInBounds_toArray, List.set_cons_zero, List.set_cons_succ]
  refine regTake 2 (some 29) (v := ?_) rfl rfl (by kernel_rfl) (by kernel_rfl) (by kernel_rfl) (fun _ _ _ h => h) (by rfl) hHeld ?_ ?_
  rotate_left 1
  · (intro w hSw; (try dsimp only at hSw); go_simp; try with_reducible rfl)
  simp only [Act.put, List.setIfInBounds_toArray, List.set_cons_zero, List.set_cons_succ]
  refine regCall 1 (some 28) (f := 9) (args := ?_) rfl rfl (by kernel_rfl) (by rfl) ?_ ?_
  rotate_left 1
  · (go_simp; try with_reducible rfl)
  refine (HRI.out _).mono ?_
  rintro e wx1 ⟨rfl, kg6⟩
  refine ⟨_, rfl, ⟨(Hbz5.out.step kg6 rfl).cell 0, (Hbz5.out.step kg6 rfl).cell 1, (Hbz5.out.step kg6 rfl).cell 2, (Hbz5.out.step kg6 rfl).cell 3⟩, fun hHeld => ?_⟩
  simp only [Act.put, List.setIfInBounds_toArray, List.set_cons_zero, List.set_cons_succ]
  have HBg6 := Lib.hid ((HBz5.out.drew).trans (kg6.mono (Nat.le_trans hbase (HBz5.out.drew).size)))
  have Hbg6 := Lib.hid (Hbz5.out.step kg6 rfl)
  have Hng6 := Lib.hid (Hnz5.out.step kg6 rfl)
  have Hag6 := Lib.hid (Haz5.out.step kg6 rfl)
  have Hzg6 := Lib.hid (Hzz5.out.step kg6 rfl)
  clear kg6
  refine regCall 3 (some 30) (f := 10) (args := ?_) rfl rfl (by kernel_rfl) (by rfl) ?_ ?_
  rotate_left 1
  · (go_simp; try with_reducible rfl)
  refine (HRR.out _).mono ?_
  rintro e wx3 ⟨rfl, kg7⟩
  refine ⟨_, rfl, ⟨(Hbg6.out.step kg7 rfl).cell 0, (Hbg6.out.step kg7 rfl).cell 1, (Hbg6.out.step kg7 rfl).cell 2, (Hbg6.out.step kg7 rfl).cell 3⟩, fun hHeld => ?_⟩
  simp only [Act.put, List.setIfInBounds_toArray, List.set_cons_zero, List.set_cons_succ]
  have HBg7 := Lib.hid ((HBg6.out).trans (kg7.mono (Nat.le_trans hbase (HBg6.out).size)))
  have Hbg7 := Lib.hid (Hbg6.out.step kg7 rfl)
  have Hng7 := Lib.hid (Hng6.out.step kg7 rfl)
  have Hag7 := Lib.hid (Hag6.out.step kg7 rfl)
  have Hzg7 := Lib.hid (Hzg6.out.step kg7 rfl)
  clear kg7
  refine regTake 4 (some 31) (v := ?_) rfl rfl (by kernel_rfl) (by kernel_rfl) (by kernel_rfl) (fun _ _ _ h => h) (by rfl) hHeld ?_ ?_
  rotate_left 1
  · (intro w hSw; (try dsimp only at hSw); go_simp; try with_reducible rfl)
  simp only [Act.put, List.setIfInBounds_toArray, List.set_cons_zero, List.set_cons_succ]
  refine regTake 5 (some 32) (v := ?_) rfl rfl (by kernel_rfl) (by kernel_rfl) (by kernel_rfl) (fun _ _ _ h => h) (by rfl) hHeld ?_ ?_
  rotate_left 1
  · (intro w hSw; (try dsimp only at hSw); go_simp; try with_reducible rfl)
  simp only [Act.put, List.setIfInBounds_toArray, List.set_cons_zero, List.set_cons_succ]
  refine regCall 6 (some 33) (f := 11) (args := ?_) rfl rfl (by kernel_rfl) (by rfl) ?_ ?_
  rotate_left 1
  · (go_simp; try with_reducible rfl)
  refine (HAL.out _).mono ?_
  rintro e wx6 ⟨rfl, kg8⟩
  refine ⟨_, rfl, ⟨(Hbg7.out.step kg8 rfl).cell 0, (Hbg7.out.step kg8 rfl).cell 1, (Hbg7.out.step kg8 rfl).cell 2, (Hbg7.out.step kg8 rfl).cell 3⟩, fun hHeld => ?_⟩
  simp only [Act.put, List.setIfInBounds_toArray, List.set_cons_zero, List.set_cons_succ]
  have HBg8 := Lib.hid ((HBg7.out).trans (kg8.mono (Nat.le_trans hbase (HBg7.out).size)))
  have Hbg8 := Lib.hid (Hbg7.out.step kg8 rfl)
  have Hng8 := Lib.hid (Hng7.out.step kg8 rfl)
  have Hag8 := Lib.hid (Hag7.out.step kg8 rfl)
  have Hzg8 := Lib.hid (Hzg7.out.step kg8 rfl)
  clear kg8
  refine regTake 7 (some 34) (v := ?_) rfl rfl (by kernel_rfl) (by kernel_rfl) (by kernel_rfl) (fun _ _ _ h => h) (by rfl) hHeld ?_ ?_
  rotate_left 1
  · (intro w hSw; (try dsimp only at hSw); go_simp; try with_reducible rfl)
  simp only [Act.put, List.setIfInBounds_toArray, List.set_cons_zero, List.set_cons_succ]
  refine regTake 8 (some 35) (v := ?_) rfl rfl (by kernel_rfl) (by kernel_rfl) (by kernel_rfl) (fun _ _ _ h => h) (by rfl) hHeld ?_ ?_
  rotate_left 1
  · (intro w hSw; (try dsimp only at hSw); go_simp; try with_reducible rfl)
  simp only [Act.put, List.setIfInBounds_toArray, List.set_cons_zero, List.set_cons_succ]
  refine wpAnyH_done (by kernel_rfl) ?_ _
  clear hHeld
  have qn0_8 : wx6.cell? ⟨wz1.heap.size, 0, none⟩ = some (.int .i64 k) := Hng8.out.cell 0
  have qn1_8 : wx6.cell? ⟨wz1.heap.size, 1, none⟩ = some (.int .i64 n) := Hng8.out.cell 1
  have qn2_8 : wx6.cell? ⟨wz1.heap.size, 2, none⟩ = some (.int .i64 0) := Hng8.out.cell 2
  have qn3_8 : wx6.cell? ⟨wz1.heap.size, 3, none⟩ = some (.int .i64 0) := Hng8.out.cell 3
  have ln_8 : wz1.heap.size < wx6.heap.size := Hng8.out.lt
  have qz0_8 : wx6.cell? ⟨wz4.heap.size, 0, none⟩ = some (.int .i64 0) := Hzg8.out.cell 0
  have qz1_8 : wx6.cell? ⟨wz4.heap.size, 1, none⟩ = some (.int .i64 0) := Hzg8.out.cell 1
  have qz2_8 : wx6.cell? ⟨wz4.heap.size, 2, none⟩ = some (.int .i64 0) := Hzg8.out.cell 2
  have qz3_8 : wx6.cell? ⟨wz4.heap.size, 3, none⟩ = some (.int .i64 0) := Hzg8.out.cell 3
  have lz_8 : wz4.heap.size < wx6.heap.size := Hzg8.out.lt
  have hcz9 := HSZ.out wx6
  go_wp2_with fail
  refine hcz9.mono ?_
  rintro e wz9 ⟨rfl, kz9⟩
  clear hcz9 qn0_8 qn1_8 qn2_8 qn3_8 ln_8 qz0_8 qz1_8 qz2_8 qz3_8 lz_8
  have HBz9 := Lib.hid (HBg8.out.trans (kz9.mono (Nat.le_trans hbase HBg8.out.size)))
  have Hbz9 := Lib.hid (Hbg8.out.call kz9)
  have Hnz9 := Lib.hid (Hng8.out.call kz9)
  have Haz9 := Lib.hid (Hag8.out.call kz9)
  have Hzz9 := Lib.hid (Hzg8.out.call kz9)
  clear kz9
  have qb0_9 : wz9.cell? ⟨w.heap.size, 0, none⟩ = some (.int .i64 kind) := Hbz9.out.cell 0
  have qb1_9 : wz9.cell? ⟨w.heap.size, 1, none⟩ = some (.int .i64 size) := Hbz9.out.cell 1
  have qb2_9 : wz9.cell? ⟨w.heap.size, 2, none⟩ = some (.int .i64 m) := Hbz9.out.cell 2
  have qb3_9 : wz9.cell? ⟨w.heap.size, 3, none⟩ = some (.int .i64 sum) := Hbz9.out.cell 3
  have lb_9 : w.heap.size < wz9.heap.size := Hbz9.out.lt
  have qn0_9 : wz9.cell? ⟨wz1.heap.size, 0, none⟩ = some (.int .i64 k) := Hnz9.out.cell 0
  have qn1_9 : wz9.cell? ⟨wz1.heap.size, 1, none⟩ = some (.int .i64 n) := Hnz9.out.cell 1
  have qn2_9 : wz9.cell? ⟨wz1.heap.size, 2, none⟩ = some (.int .i64 0) := Hnz9.out.cell 2
  have qn3_9 : wz9.cell? ⟨wz1.heap.size, 3, none⟩ = some (.int .i64 0) := Hnz9.out.cell 3
  have ln_9 : wz1.heap.size < wz9.heap.size := Hnz9.out.lt
  have qz0_9 : wz9.cell? ⟨wz4.heap.size, 0, none⟩ = some (.int .i64 0) := Hzz9.out.cell 0
  have qz1_9 : wz9.cell? ⟨wz4.heap.size, 1, none⟩ = some (.int .i64 0) := Hzz9.out.cell 1
  have qz2_9 : wz9.cell? ⟨wz4.heap.size, 2, none⟩ = some (.int .i64 0) := Hzz9.out.cell 2
  have qz3_9 : wz9.cell? ⟨wz4.heap.size, 3, none⟩ = some (.int .i64 0) := Hzz9.out.cell 3
  have lz_9 : wz4.heap.size < wz9.heap.size := Hzz9.out.lt
  have hcz10 := HRR.out wz9
  go_wp2_with fail
  refine hcz10.mono ?_
  rintro e wz10 ⟨rfl, kz10⟩
  clear hcz10 qb0_9 qb1_9 qb2_9 qb3_9 lb_9 qn0_9 qn1_9 qn2_9 qn3_9 ln_9 qz0_9 qz1_9 qz2_9 qz3_9 lz_9
  have HBz10 := Lib.hid (HBz9.out.trans (kz10.mono (Nat.le_trans hbase HBz9.out.size)))
  have Hbz10 := Lib.hid (Hbz9.out.call kz10)
  have Hnz10 := Lib.hid (Hnz9.out.call kz10)
  have Haz10 := Lib.hid (Haz9.out.call kz10)
  have Hzz10 := Lib.hid (Hzz9.out.call kz10)
  clear kz10
  have qb0_10 : wz10.cell? ⟨w.heap.size, 0, none⟩ = some (.int .i64 kind) := Hbz10.out.cell 0
  have qb1_10 : wz10.cell? ⟨w.heap.size, 1, none⟩ = some (.int .i64 size) := Hbz10.out.cell 1
  have qb2_10 : wz10.cell? ⟨w.heap.size, 2, none⟩ = some (.int .i64 m) := Hbz10.out.cell 2
  have qb3_10 : wz10.cell? ⟨w.heap.size, 3, none⟩ = some (.int .i64 sum) := Hbz10.out.cell 3
  have lb_10 : w.heap.size < wz10.heap.size := Hbz10.out.lt
  have qn0_10 : wz10.cell? ⟨wz1.heap.size, 0, none⟩ = some (.int .i64 k) := Hnz10.out.cell 0
  have qn1_10 : wz10.cell? ⟨wz1.heap.size, 1, none⟩ = some (.int .i64 n) := Hnz10.out.cell 1
  have qn2_10 : wz10.cell? ⟨wz1.heap.size, 2, none⟩ = some (.int .i64 0) := Hnz10.out.cell 2
  have qn3_10 : wz10.cell? ⟨wz1.heap.size, 3, none⟩ = some (.int .i64 0) := Hnz10.out.cell 3
  have ln_10 : wz1.heap.size < wz10.heap.size := Hnz10.out.lt
  have qz0_10 : wz10.cell? ⟨wz4.heap.size, 0, none⟩ = some (.int .i64 0) := Hzz10.out.cell 0
  have qz1_10 : wz10.cell? ⟨wz4.heap.size, 1, none⟩ = some (.int .i64 0) := Hzz10.out.cell 1
  have qz2_10 : wz10.cell? ⟨wz4.heap.size, 2, none⟩ = some (.int .i64 0) := Hzz10.out.cell 2
  have qz3_10 : wz10.cell? ⟨wz4.heap.size, 3, none⟩ = some (.int .i64 0) := Hzz10.out.cell 3
  have lz_10 : wz4.heap.size < wz10.heap.size := Hzz10.out.lt
  have qa0_10 : wz10.cell? ⟨wz3.heap.size, 0, none⟩ = some (.int .i64 0) := Haz10.out.cell 0
  have qa1_10 : wz10.cell? ⟨wz3.heap.size, 1, none⟩ = some (.int .i64 0) := Haz10.out.cell 1
  have qa2_10 : wz10.cell? ⟨wz3.heap.size, 2, none⟩ = some (.int .i64 0) := Haz10.out.cell 2
  have qa3_10 : wz10.cell? ⟨wz3.heap.size, 3, none⟩ = some (.int .i64 0) := Haz10.out.cell 3
  have la_10 : wz3.heap.size < wz10.heap.size := Haz10.out.lt
  have hcz11 := HCN.out wz10
  go_wp2_with fail
  refine hcz11.mono ?_
  rintro e wz11 ⟨rfl, kz11⟩
  clear hcz11 qb0_10 qb1_10 qb2_10 qb3_10 lb_10 qn0_10 qn1_10 qn2_10 qn3_10 ln_10 qz0_10 qz1_10 qz2_10 qz3_10 lz_10 qa0_10 qa1_10 qa2_10 qa3_10 la_10
  have HBz11 := Lib.hid (HBz10.out.trans (kz11.mono (Nat.le_trans hbase HBz10.out.size)))
  have Hbz11 := Lib.hid (Hbz10.out.call kz11)
  have Hnz11 := Lib.hid (Hnz10.out.call kz11)
  have Haz11 := Lib.hid (Haz10.out.call kz11)
  have Hzz11 := Lib.hid (Hzz10.out.call kz11)
  clear kz11
  have qb0_11 : wz11.cell? ⟨w.heap.size, 0, none⟩ = some (.int .i64 kind) := Hbz11.out.cell 0
  have qb1_11 : wz11.cell? ⟨w.heap.size, 1, none⟩ = some (.int .i64 size) := Hbz11.out.cell 1
  have qb2_11 : wz11.cell? ⟨w.heap.size, 2, none⟩ = some (.int .i64 m) := Hbz11.out.cell 2
  have qb3_11 : wz11.cell? ⟨w.heap.size, 3, none⟩ = some (.int .i64 sum) := Hbz11.out.cell 3
  have lb_11 : w.heap.size < wz11.heap.size := Hbz11.out.lt
  have qa0_11 : wz11.cell? ⟨wz3.heap.size, 0, none⟩ = some (.int .i64 0) := Haz11.out.cell 0
  have qa1_11 : wz11.cell? ⟨wz3.heap.size, 1, none⟩ = some (.int .i64 0) := Haz11.out.cell 1
  have qa2_11 : wz11.cell? ⟨wz3.heap.size, 2, none⟩ = some (.int .i64 0) := Haz11.out.cell 2
  have qa3_11 : wz11.cell? ⟨wz3.heap.size, 3, none⟩ = some (.int .i64 0) := Haz11.out.cell 3
  have la_11 : wz3.heap.size < wz11.heap.size := Haz11.out.lt
  have qz0_11 : wz11.cell? ⟨wz4.heap.size, 0, none⟩ = some (.int .i64 0) := Hzz11.out.cell 0
  have qz1_11 : wz11.cell? ⟨wz4.heap.size, 1, none⟩ = some (.int .i64 0) := Hzz11.out.cell 1
  have qz2_11 : wz11.cell? ⟨wz4.heap.size, 2, none⟩ = some (.int .i64 0) := Hzz11.out.cell 2
  have qz3_11 : wz11.cell? ⟨wz4.heap.size, 3, none⟩ = some (.int .i64 0) := Hzz11.out.cell 3
  have lz_11 : wz4.heap.size < wz11.heap.size := Hzz11.out.lt
  go_wp2
  go_ret
  exact ⟨rfl, HBz11.out⟩
set_option linter.unusedSimpArgs false in
set_option linter.unusedVariables false in
set_option maxHeartbeats 8000000 in
set_option maxRecDepth 100000 in
theorem takes16_1110 (k n kind size m sum d ta tb tc td : Int) (w : World) (g25 : (m == 25) = false)
    (HNEW : Hid (∀ W, Calls Try.prog 7 #[.int .i64 k, .int .i64 n] W fun e w' => e = .returned (.tuple #[.agg #[.int .i64 k, .int .i64 n, .int .i64 0, .int .i64 0], .int .i64 0]) ∧ Below W.heap.size W w'))
    (HTAK : Hid (∀ W, Calls Try.prog 8 #[.agg #[.int .i64 kind, .int .i64 size, .int .i64 m, .int .i64 sum], .int .i64 d] W fun e w' => e = .returned (.tuple #[.agg #[.int .i64 ta, .int .i64 tb, .int .i64 tc, .int .i64 td], .int .i64 0]) ∧ Below W.heap.size W w'))
    (HRI : Hid (∀ W, Calls Try.prog 9 #[.agg #[.int .i64 kind, .int .i64 size, .int .i64 m, .int .i64 sum]] W fun e w' => e = .returned (.bool true) ∧ Below W.heap.size W w'))
    (HRR : Hid (∀ W, Calls Try.prog 10 #[.agg #[.int .i64 kind, .int .i64 size, .int .i64 m, .int .i64 sum]] W fun e w' => e = .returned (.bool true) ∧ Below W.heap.size W w'))
    (HAL : Hid (∀ W, Calls Try.prog 11 #[] W fun e w' => e = .returned (.bool true) ∧ Below W.heap.size W w'))
    (HSZ : Hid (∀ W, Calls Try.prog 12 #[.int .i64 k, .int .i64 n] W fun e w' => e = .returned (.bool true) ∧ Below W.heap.size W w'))
    (HCN : Hid (∀ W, Calls Try.prog 13 #[.agg #[.int .i64 kind, .int .i64 size, .int .i64 m, .int .i64 sum], .int .i64 d] W fun e w' => e = .returned (.bool true) ∧ Below W.heap.size W w'))
    (HRT : Hid (∀ W, Calls Try.prog 14 #[.agg #[.int .i64 kind, .int .i64 size, .int .i64 m, .int .i64 sum], .int .i64 d] W fun e w' => e = .returned (.agg #[.int .i64 ta, .int .i64 tb, .int .i64 tc, .int .i64 td]) ∧ Below W.heap.size W w')) :
    Calls Try.prog 3 #[.int .i64 k, .int .i64 n, .agg #[.int .i64 kind, .int .i64 size, .int .i64 m, .int .i64 sum], .int .i64 d] w fun e w' => e = .returned (.bool true) ∧ Below w.heap.size w w' := by
  obtain ⟨w1, hw1⟩ : ∃ w1, w.alloc (.cells #[.int .i64 kind, .int .i64 size, .int .i64 m, .int .i64 sum] 23) = w1 := ⟨_, rfl⟩
  have HX1 := Lib.hid (show Has w1 w.heap.size [.int .i64 kind, .int .i64 size, .int .i64 m, .int .i64 sum] 23 by rw [← hw1]; exact Has.new w _ _)
  have HB1 := Lib.hid (show Below w.heap.size w w1 by rw [← hw1]; exact (Below.refl _ _).alloc (Nat.le_refl _) _)
  have HW1 := Lib.hid hw1
  have hbase := Nat.le_refl w.heap.size
  clear hw1
  go_enter Try.func3, Try.ntmps3
  go_upto_region 1 with fail
  rw [HW1.out]
  have hqt := eqTal
  have hcz1 := HNEW.out w1
  go_wp2_with fail
  refine hcz1.mono ?_
  rintro e wz1 ⟨rfl, kz1⟩
  clear hcz1
  have HBz1 := Lib.hid (HB1.out.trans (kz1.mono (Nat.le_trans hbase HB1.out.size)))
  have Hbz1 := Lib.hid (HX1.out.call kz1)
  clear kz1
  obtain ⟨wz2, hwz2⟩ : ∃ wz2, wz1.alloc (.cells #[.int .i64 k, .int .i64 n, .int .i64 0, .int .i64 0] 23) = wz2 := ⟨_, rfl⟩
  have kz2 : Below wz1.heap.size wz1 wz2 := by rw [← hwz2]; exact (Below.refl _ _).alloc (Nat.le_refl _) _
  have Hnz2 := Lib.hid (show Has wz2 wz1.heap.size [.int .i64 k, .int .i64 n, .int .i64 0, .int .i64 0] 23 by rw [← hwz2]; exact Has.new _ _ _)
  have HWz2 := Lib.hid hwz2
  clear hwz2
  have HBz2 := Lib.hid (HBz1.out.trans (kz2.mono (Nat.le_trans hbase HBz1.out.size)))
  have Hbz2 := Lib.hid (Hbz1.out.call kz2)
  clear kz2
  have qb0_2 : wz1.cell? ⟨w.heap.size, 0, none⟩ = some (.int .i64 kind) := Hbz1.out.cell 0
  have qb1_2 : wz1.cell? ⟨w.heap.size, 1, none⟩ = some (.int .i64 size) := Hbz1.out.cell 1
  have qb2_2 : wz1.cell? ⟨w.heap.size, 2, none⟩ = some (.int .i64 m) := Hbz1.out.cell 2
  have qb3_2 : wz1.cell? ⟨w.heap.size, 3, none⟩ = some (.int .i64 sum) := Hbz1.out.cell 3
  have lb_2 : w.heap.size < wz1.heap.size := Hbz1.out.lt
  have hcz3 := HTAK.out wz2
  go_wp2_with fail
  rw [HWz2.out]
  refine hcz3.mono ?_
  rintro e wz3 ⟨rfl, kz3⟩
  clear hcz3 qb0_2 qb1_2 qb2_2 qb3_2 lb_2
  have HBz3 := Lib.hid (HBz2.out.trans (kz3.mono (Nat.le_trans hbase HBz2.out.size)))
  have Hbz3 := Lib.hid (Hbz2.out.call kz3)
  have Hnz3 := Lib.hid (Hnz2.out.call kz3)
  clear kz3
  obtain ⟨wz4, hwz4⟩ : ∃ wz4, wz3.alloc (.cells #[.int .i64 ta, .int .i64 tb, .int .i64 tc, .int .i64 td] 23) = wz4 := ⟨_, rfl⟩
  have kz4 : Below wz3.heap.size wz3 wz4 := by rw [← hwz4]; exact (Below.refl _ _).alloc (Nat.le_refl _) _
  have Haz4 := Lib.hid (show Has wz4 wz3.heap.size [.int .i64 ta, .int .i64 tb, .int .i64 tc, .int .i64 td] 23 by rw [← hwz4]; exact Has.new _ _ _)
  have HWz4 := Lib.hid hwz4
  clear hwz4
  have HBz4 := Lib.hid (HBz3.out.trans (kz4.mono (Nat.le_trans hbase HBz3.out.size)))
  have Hbz4 := Lib.hid (Hbz3.out.call kz4)
  have Hnz4 := Lib.hid (Hnz3.out.call kz4)
  clear kz4
  go_upto_region 3 with fail
  rw [HWz4.out]
  obtain ⟨wz5, hwz5⟩ : ∃ wz5, wz4.alloc (.cells #[.int .i64 0, .int .i64 0, .int .i64 0, .int .i64 0] 23) = wz5 := ⟨_, rfl⟩
  have kz5 : Below wz4.heap.size wz4 wz5 := by rw [← hwz5]; exact (Below.refl _ _).alloc (Nat.le_refl _) _
  have Hzz5 := Lib.hid (show Has wz5 wz4.heap.size [.int .i64 0, .int .i64 0, .int .i64 0, .int .i64 0] 23 by rw [← hwz5]; exact Has.new _ _ _)
  have HWz5 := Lib.hid hwz5
  clear hwz5
  have HBz5 := Lib.hid (HBz4.out.trans (kz5.mono (Nat.le_trans hbase HBz4.out.size)))
  have Hbz5 := Lib.hid (Hbz4.out.call kz5)
  have Hnz5 := Lib.hid (Hnz4.out.call kz5)
  have Haz5 := Lib.hid (Haz4.out.call kz5)
  clear kz5
  go_upto_region 4 with fail
  rw [HWz5.out]
  refine wp_region_held_drew (S := (fun W' => W'.cell? ⟨w.heap.size, 0, none⟩ = some (.int .i64 kind) ∧ W'.cell? ⟨w.heap.size, 1, none⟩ = some (.int .i64 size) ∧ W'.cell? ⟨w.heap.size, 2, none⟩ = some (.int .i64 m) ∧ W'.cell? ⟨w.heap.size, 3, none⟩ = some (.int .i64 sum))) (by kernel_rfl) ⟨Hbz5.out.cell 0, Hbz5.out.cell 1, Hbz5.out.cell 2, Hbz5.out.cell 3⟩ (fun hHeld => ?_)
  refine regTake 0 (some 27) (v := ?_) rfl rfl (by kernel_rfl) (by kernel_rfl) (by kernel_rfl) (fun _ _ _ h => h) (by rfl) hHeld ?_ ?_
  rotate_left 1
  · (intro w hSw; (try dsimp only at hSw); go_simp; try with_reducible rfl)
  simp only [Act.put, List.setIfInBounds_toArray, List.set_cons_zero, List.set_cons_succ]
  refine regTake 2 (some 29) (v := ?_) rfl rfl (by kernel_rfl) (by kernel_rfl) (by kernel_rfl) (fun _ _ _ h => h) (by rfl) hHeld ?_ ?_
  rotate_left 1
  · (intro w hSw; (try dsimp only at hSw); go_simp; try with_reducible rfl)
  simp only [Act.put, List.setIfInBounds_toArray, List.set_cons_zero, List.set_cons_succ]
  refine regCall 1 (some 28) (f := 9) (args := ?_) rfl rfl (by kernel_rfl) (by rfl) ?_ ?_
  rotate_left 1
  · (go_simp; try with_reducible rfl)
  refine (HRI.out _).mono ?_
  rintro e wx1 ⟨rfl, kg6⟩
  refine ⟨_, rfl, ⟨(Hbz5.out.step kg6 rfl).cell 0, (Hbz5.out.step kg6 rfl).cell 1, (Hbz5.out.step kg6 rfl).cell 2, (Hbz5.out.step kg6 rfl).cell 3⟩, fun hHeld => ?_⟩
  simp only [Act.put, List.setIfInBounds_toArray, List.set_cons_zero, List.set_cons_succ]
  have HBg6 := Lib.hid ((HBz5.out.drew).trans (kg6.mono (Nat.le_trans hbase (HBz5.out.drew).size)))
  have Hbg6 := Lib.hid (Hbz5.out.step kg6 rfl)
  have Hng6 := Lib.hid (Hnz5.out.step kg6 rfl)
  have Hag6 := Lib.hid (Haz5.out.step kg6 rfl)
  have Hzg6 := Lib.hid (Hzz5.out.step kg6 rfl)
  clear kg6
  refine regCall 3 (some 30) (f := 10) (args := ?_) rfl rfl (by kernel_rfl) (by rfl) ?_ ?_
  rotate_left 1
  · (go_simp; try with_reducible rfl)
  refine (HRR.out _).mono ?_
  rintro e wx3 ⟨rfl, kg7⟩
  refine ⟨_, rfl, ⟨(Hbg6.out.step kg7 rfl).cell 0, (Hbg6.out.step kg7 rfl).cell 1, (Hbg6.out.step kg7 rfl).cell 2, (Hbg6.out.step kg7 rfl).cell 3⟩, fun hHeld => ?_⟩
  simp only [Act.put, List.setIfInBounds_toArray, List.set_cons_zero, List.set_cons_succ]
  have HBg7 := Lib.hid ((HBg6.out).trans (kg7.mono (Nat.le_trans hbase (HBg6.out).size)))
  have Hbg7 := Lib.hid (Hbg6.out.step kg7 rfl)
  have Hng7 := Lib.hid (Hng6.out.step kg7 rfl)
  have Hag7 := Lib.hid (Hag6.out.step kg7 rfl)
  have Hzg7 := Lib.hid (Hzg6.out.step kg7 rfl)
  clear kg7
  refine regTake 4 (some 31) (v := ?_) rfl rfl (by kernel_rfl) (by kernel_rfl) (by kernel_rfl) (fun _ _ _ h => h) (by rfl) hHeld ?_ ?_
  rotate_left 1
  · (intro w hSw; (try dsimp only at hSw); go_simp; try with_reducible rfl)
  simp only [Act.put, List.setIfInBounds_toArray, List.set_cons_zero, List.set_cons_succ]
  refine regTake 5 (some 32) (v := ?_) rfl rfl (by kernel_rfl) (by kernel_rfl) (by kernel_rfl) (fun _ _ _ h => h) (by rfl) hHeld ?_ ?_
  rotate_left 1
  · (intro w hSw; (try dsimp only at hSw); go_simp; try with_reducible rfl)
  simp only [Act.put, List.setIfInBounds_toArray, List.set_cons_zero, List.set_cons_succ]
  refine regCall 6 (some 33) (f := 11) (args := ?_) rfl rfl (by kernel_rfl) (by rfl) ?_ ?_
  rotate_left 1
  · (go_simp; try with_reducible rfl)
  refine (HAL.out _).mono ?_
  rintro e wx6 ⟨rfl, kg8⟩
  refine ⟨_, rfl, ⟨(Hbg7.out.step kg8 rfl).cell 0, (Hbg7.out.step kg8 rfl).cell 1, (Hbg7.out.step kg8 rfl).cell 2, (Hbg7.out.step kg8 rfl).cell 3⟩, fun hHeld => ?_⟩
  simp only [Act.put, List.setIfInBounds_toArray, List.set_cons_zero, List.set_cons_succ]
  have HBg8 := Lib.hid ((HBg7.out).trans (kg8.mono (Nat.le_trans hbase (HBg7.out).size)))
  have Hbg8 := Lib.hid (Hbg7.out.step kg8 rfl)
  have Hng8 := Lib.hid (Hng7.out.step kg8 rfl)
  have Hag8 := Lib.hid (Hag7.out.step kg8 rfl)
  have Hzg8 := Lib.hid (Hzg7.out.step kg8 rfl)
  clear kg8
  refine regTake 7 (some 34) (v := ?_) rfl rfl (by kernel_rfl) (by kernel_rfl) (by kernel_rfl) (fun _ _ _ h => h) (by rfl) hHeld ?_ ?_
  rotate_left 1
  · (intro w hSw; (try dsimp only at hSw); go_simp; try with_reducible rfl)
  simp only [Act.put, List.setIfInBounds_toArray, List.set_cons_zero, List.set_cons_succ]
  refine regTake 8 (some 35) (v := ?_) rfl rfl (by kernel_rfl) (by kernel_rfl) (by kernel_rfl) (fun _ _ _ h => h) (by rfl) hHeld ?_ ?_
  rotate_left 1
  · (intro w hSw; (try dsimp only at hSw); go_simp; try with_reducible rfl)
  simp only [Act.put, List.setIfInBounds_toArray, List.set_cons_zero, List.set_cons_succ]
  refine wpAnyH_done (by kernel_rfl) ?_ _
  clear hHeld
  have qn0_8 : wx6.cell? ⟨wz1.heap.size, 0, none⟩ = some (.int .i64 k) := Hng8.out.cell 0
  have qn1_8 : wx6.cell? ⟨wz1.heap.size, 1, none⟩ = some (.int .i64 n) := Hng8.out.cell 1
  have qn2_8 : wx6.cell? ⟨wz1.heap.size, 2, none⟩ = some (.int .i64 0) := Hng8.out.cell 2
  have qn3_8 : wx6.cell? ⟨wz1.heap.size, 3, none⟩ = some (.int .i64 0) := Hng8.out.cell 3
  have ln_8 : wz1.heap.size < wx6.heap.size := Hng8.out.lt
  have qz0_8 : wx6.cell? ⟨wz4.heap.size, 0, none⟩ = some (.int .i64 0) := Hzg8.out.cell 0
  have qz1_8 : wx6.cell? ⟨wz4.heap.size, 1, none⟩ = some (.int .i64 0) := Hzg8.out.cell 1
  have qz2_8 : wx6.cell? ⟨wz4.heap.size, 2, none⟩ = some (.int .i64 0) := Hzg8.out.cell 2
  have qz3_8 : wx6.cell? ⟨wz4.heap.size, 3, none⟩ = some (.int .i64 0) := Hzg8.out.cell 3
  have lz_8 : wz4.heap.size < wx6.heap.size := Hzg8.out.lt
  have hcz9 := HSZ.out wx6
  go_wp2_with fail
  refine hcz9.mono ?_
  rintro e wz9 ⟨rfl, kz9⟩
  clear hcz9 qn0_8 qn1_8 qn2_8 qn3_8 ln_8 qz0_8 qz1_8 qz2_8 qz3_8 lz_8
  have HBz9 := Lib.hid (HBg8.out.trans (kz9.mono (Nat.le_trans hbase HBg8.out.size)))
  have Hbz9 := Lib.hid (Hbg8.out.call kz9)
  have Hnz9 := Lib.hid (Hng8.out.call kz9)
  have Haz9 := Lib.hid (Hag8.out.call kz9)
  have Hzz9 := Lib.hid (Hzg8.out.call kz9)
  clear kz9
  have qb0_9 : wz9.cell? ⟨w.heap.size, 0, none⟩ = some (.int .i64 kind) := Hbz9.out.cell 0
  have qb1_9 : wz9.cell? ⟨w.heap.size, 1, none⟩ = some (.int .i64 size) := Hbz9.out.cell 1
  have qb2_9 : wz9.cell? ⟨w.heap.size, 2, none⟩ = some (.int .i64 m) := Hbz9.out.cell 2
  have qb3_9 : wz9.cell? ⟨w.heap.size, 3, none⟩ = some (.int .i64 sum) := Hbz9.out.cell 3
  have lb_9 : w.heap.size < wz9.heap.size := Hbz9.out.lt
  have qn0_9 : wz9.cell? ⟨wz1.heap.size, 0, none⟩ = some (.int .i64 k) := Hnz9.out.cell 0
  have qn1_9 : wz9.cell? ⟨wz1.heap.size, 1, none⟩ = some (.int .i64 n) := Hnz9.out.cell 1
  have qn2_9 : wz9.cell? ⟨wz1.heap.size, 2, none⟩ = some (.int .i64 0) := Hnz9.out.cell 2
  have qn3_9 : wz9.cell? ⟨wz1.heap.size, 3, none⟩ = some (.int .i64 0) := Hnz9.out.cell 3
  have ln_9 : wz1.heap.size < wz9.heap.size := Hnz9.out.lt
  have qz0_9 : wz9.cell? ⟨wz4.heap.size, 0, none⟩ = some (.int .i64 0) := Hzz9.out.cell 0
  have qz1_9 : wz9.cell? ⟨wz4.heap.size, 1, none⟩ = some (.int .i64 0) := Hzz9.out.cell 1
  have qz2_9 : wz9.cell? ⟨wz4.heap.size, 2, none⟩ = some (.int .i64 0) := Hzz9.out.cell 2
  have qz3_9 : wz9.cell? ⟨wz4.heap.size, 3, none⟩ = some (.int .i64 0) := Hzz9.out.cell 3
  have lz_9 : wz4.heap.size < wz9.heap.size := Hzz9.out.lt
  have hcz10 := HRR.out wz9
  go_wp2_with fail
  refine hcz10.mono ?_
  rintro e wz10 ⟨rfl, kz10⟩
  clear hcz10 qb0_9 qb1_9 qb2_9 qb3_9 lb_9 qn0_9 qn1_9 qn2_9 qn3_9 ln_9 qz0_9 qz1_9 qz2_9 qz3_9 lz_9
  have HBz10 := Lib.hid (HBz9.out.trans (kz10.mono (Nat.le_trans hbase HBz9.out.size)))
  have Hbz10 := Lib.hid (Hbz9.out.call kz10)
  have Hnz10 := Lib.hid (Hnz9.out.call kz10)
  have Haz10 := Lib.hid (Haz9.out.call kz10)
  have Hzz10 := Lib.hid (Hzz9.out.call kz10)
  clear kz10
  have qb0_10 : wz10.cell? ⟨w.heap.size, 0, none⟩ = some (.int .i64 kind) := Hbz10.out.cell 0
  have qb1_10 : wz10.cell? ⟨w.heap.size, 1, none⟩ = some (.int .i64 size) := Hbz10.out.cell 1
  have qb2_10 : wz10.cell? ⟨w.heap.size, 2, none⟩ = some (.int .i64 m) := Hbz10.out.cell 2
  have qb3_10 : wz10.cell? ⟨w.heap.size, 3, none⟩ = some (.int .i64 sum) := Hbz10.out.cell 3
  have lb_10 : w.heap.size < wz10.heap.size := Hbz10.out.lt
  have qn0_10 : wz10.cell? ⟨wz1.heap.size, 0, none⟩ = some (.int .i64 k) := Hnz10.out.cell 0
  have qn1_10 : wz10.cell? ⟨wz1.heap.size, 1, none⟩ = some (.int .i64 n) := Hnz10.out.cell 1
  have qn2_10 : wz10.cell? ⟨wz1.heap.size, 2, none⟩ = some (.int .i64 0) := Hnz10.out.cell 2
  have qn3_10 : wz10.cell? ⟨wz1.heap.size, 3, none⟩ = some (.int .i64 0) := Hnz10.out.cell 3
  have ln_10 : wz1.heap.size < wz10.heap.size := Hnz10.out.lt
  have qz0_10 : wz10.cell? ⟨wz4.heap.size, 0, none⟩ = some (.int .i64 0) := Hzz10.out.cell 0
  have qz1_10 : wz10.cell? ⟨wz4.heap.size, 1, none⟩ = some (.int .i64 0) := Hzz10.out.cell 1
  have qz2_10 : wz10.cell? ⟨wz4.heap.size, 2, none⟩ = some (.int .i64 0) := Hzz10.out.cell 2
  have qz3_10 : wz10.cell? ⟨wz4.heap.size, 3, none⟩ = some (.int .i64 0) := Hzz10.out.cell 3
  have lz_10 : wz4.heap.size < wz10.heap.size := Hzz10.out.lt
  have qa0_10 : wz10.cell? ⟨wz3.heap.size, 0, none⟩ = some (.int .i64 ta) := Haz10.out.cell 0
  have qa1_10 : wz10.cell? ⟨wz3.heap.size, 1, none⟩ = some (.int .i64 tb) := Haz10.out.cell 1
  have qa2_10 : wz10.cell? ⟨wz3.heap.size, 2, none⟩ = some (.int .i64 tc) := Haz10.out.cell 2
  have qa3_10 : wz10.cell? ⟨wz3.heap.size, 3, none⟩ = some (.int .i64 td) := Haz10.out.cell 3
  have la_10 : wz3.heap.size < wz10.heap.size := Haz10.out.lt
  have hcz11 := HCN.out wz10
  go_wp2_with fail
  refine hcz11.mono ?_
  rintro e wz11 ⟨rfl, kz11⟩
  clear hcz11 qb0_10 qb1_10 qb2_10 qb3_10 lb_10 qn0_10 qn1_10 qn2_10 qn3_10 ln_10 qz0_10 qz1_10 qz2_10 qz3_10 lz_10 qa0_10 qa1_10 qa2_10 qa3_10 la_10
  have HBz11 := Lib.hid (HBz10.out.trans (kz11.mono (Nat.le_trans hbase HBz10.out.size)))
  have Hbz11 := Lib.hid (Hbz10.out.call kz11)
  have Hnz11 := Lib.hid (Hnz10.out.call kz11)
  have Haz11 := Lib.hid (Haz10.out.call kz11)
  have Hzz11 := Lib.hid (Hzz10.out.call kz11)
  clear kz11
  have qb0_11 : wz11.cell? ⟨w.heap.size, 0, none⟩ = some (.int .i64 kind) := Hbz11.out.cell 0
  have qb1_11 : wz11.cell? ⟨w.heap.size, 1, none⟩ = some (.int .i64 size) := Hbz11.out.cell 1
  have qb2_11 : wz11.cell? ⟨w.heap.size, 2, none⟩ = some (.int .i64 m) := Hbz11.out.cell 2
  have qb3_11 : wz11.cell? ⟨w.heap.size, 3, none⟩ = some (.int .i64 sum) := Hbz11.out.cell 3
  have lb_11 : w.heap.size < wz11.heap.size := Hbz11.out.lt
  have qa0_11 : wz11.cell? ⟨wz3.heap.size, 0, none⟩ = some (.int .i64 ta) := Haz11.out.cell 0
  have qa1_11 : wz11.cell? ⟨wz3.heap.size, 1, none⟩ = some (.int .i64 tb) := Haz11.out.cell 1
  have qa2_11 : wz11.cell? ⟨wz3.heap.size, 2, none⟩ = some (.int .i64 tc) := Haz11.out.cell 2
  have qa3_11 : wz11.cell? ⟨wz3.heap.size, 3, none⟩ = some (.int .i64 td) := Haz11.out.cell 3
  have la_11 : wz3.heap.size < wz11.heap.size := Haz11.out.lt
  have qz0_11 : wz11.cell? ⟨wz4.heap.size, 0, none⟩ = some (.int .i64 0) := Hzz11.out.cell 0
  have qz1_11 : wz11.cell? ⟨wz4.heap.size, 1, none⟩ = some (.int .i64 0) := Hzz11.out.cell 1
  have qz2_11 : wz11.cell? ⟨wz4.heap.size, 2, none⟩ = some (.int .i64 0) := Hzz11.out.cell 2
  have qz3_11 : wz11.cell? ⟨wz4.heap.size, 3, none⟩ = some (.int .i64 0) := Hzz11.out.cell 3
  have lz_11 : wz4.heap.size < wz11.heap.size := Hzz11.out.lt
  go_upto_region 15 with fail
  clear qb0_11 qb1_11 qb2_11 qb3_11 lb_11 qa0_11 qa1_11 qa2_11 qa3_11 la_11 qz0_11 qz1_11 qz2_11 qz3_11 lz_11
  refine wp_region_held_drew (S := (fun W' => W'.cell? ⟨w.heap.size, 0, none⟩ = some (.int .i64 kind) ∧ W'.cell? ⟨w.heap.size, 1, none⟩ = some (.int .i64 size) ∧ W'.cell? ⟨w.heap.size, 2, none⟩ = some (.int .i64 m) ∧ W'.cell? ⟨w.heap.size, 3, none⟩ = some (.int .i64 sum) ∧ W'.cell? ⟨wz3.heap.size, 0, none⟩ = some (.int .i64 ta) ∧ W'.cell? ⟨wz3.heap.size, 1, none⟩ = some (.int .i64 tb) ∧ W'.cell? ⟨wz3.heap.size, 2, none⟩ = some (.int .i64 tc) ∧ W'.cell? ⟨wz3.heap.size, 3, none⟩ = some (.int .i64 td))) (by kernel_rfl) ⟨Hbz11.out.cell 0, Hbz11.out.cell 1, Hbz11.out.cell 2, Hbz11.out.cell 3, Haz11.out.cell 0, Haz11.out.cell 1, Haz11.out.cell 2, Haz11.out.cell 3⟩ (fun hHeld => ?_)
  refine regTake 0 (some 84) (v := ?_) rfl rfl (by kernel_rfl) (by kernel_rfl) (by kernel_rfl) (fun _ _ _ h => h) (by rfl) hHeld ?_ ?_
  rotate_left 1
  · (intro w hSw; (try dsimp only at hSw); go_simp; try with_reducible rfl)
  simp only [Act.put, List.setIfInBounds_toArray, List.set_cons_zero, List.set_cons_succ]
  refine regTake 1 (some 85) (v := ?_) rfl rfl (by kernel_rfl) (by kernel_rfl) (by kernel_rfl) (fun _ _ _ h => h) (by rfl) hHeld ?_ ?_
  rotate_left 1
  · (intro w hSw; (try dsimp only at hSw); go_simp; try with_reducible rfl)
  simp only [Act.put, List.setIfInBounds_toArray, List.set_cons_zero, List.set_cons_succ]
  refine regTake 2 (some 86) (v := ?_) rfl rfl (by kernel_rfl) (by kernel_rfl) (by kernel_rfl) (fun _ _ _ h => h) (by rfl) hHeld ?_ ?_
  rotate_left 1
  · (intro w hSw; (try dsimp only at hSw); go_simp; try with_reducible rfl)
  simp only [Act.put, List.setIfInBounds_toArray, List.set_cons_zero, List.set_cons_succ]
  refine regTake 3 (some 87) (v := ?_) rfl rfl (by kernel_rfl) (by kernel_rfl) (by kernel_rfl) (fun _ _ _ h => h) (by rfl) hHeld ?_ ?_
  rotate_left 1
  · (intro w hSw; (try dsimp only at hSw); go_simp; try with_reducible rfl)
  simp only [Act.put, List.setIfInBounds_toArray, List.set_cons_zero, List.set_cons_succ]
  refine regTake 4 (some 88) (v := ?_) rfl rfl (by kernel_rfl) (by kernel_rfl) (by kernel_rfl) (fun _ _ _ h => h) (by rfl) hHeld ?_ ?_
  rotate_left 1
  · (intro w hSw; (try dsimp only at hSw); go_simp; try with_reducible rfl)
  simp only [Act.put, List.setIfInBounds_toArray, List.set_cons_zero, List.set_cons_succ]
  refine regTake 5 (some 89) (v := ?_) rfl rfl (by kernel_rfl) (by kernel_rfl) (by kernel_rfl) (fun _ _ _ h => h) (by rfl) hHeld ?_ ?_
  rotate_left 1
  · (intro w hSw; (try dsimp only at hSw); go_simp; try with_reducible rfl)
  simp only [Act.put, List.setIfInBounds_toArray, List.set_cons_zero, List.set_cons_succ]
  refine regCall 6 (some 90) (f := 14) (args := ?_) rfl rfl (by kernel_rfl) (by rfl) ?_ ?_
  rotate_left 1
  · (go_simp; try with_reducible rfl)
  refine (HRT.out _).mono ?_
  rintro e wx6 ⟨rfl, kg12⟩
  refine ⟨_, rfl, ⟨(Hbz11.out.step kg12 rfl).cell 0, (Hbz11.out.step kg12 rfl).cell 1, (Hbz11.out.step kg12 rfl).cell 2, (Hbz11.out.step kg12 rfl).cell 3, (Haz11.out.step kg12 rfl).cell 0, (Haz11.out.step kg12 rfl).cell 1, (Haz11.out.step kg12 rfl).cell 2, (Haz11.out.step kg12 rfl).cell 3⟩, fun hHeld => ?_⟩
  simp only [Act.put, List.setIfInBounds_toArray, List.set_cons_zero, List.set_cons_succ]
  have HBg12 := Lib.hid ((HBz11.out.drew).trans (kg12.mono (Nat.le_trans hbase (HBz11.out.drew).size)))
  have Hbg12 := Lib.hid (Hbz11.out.step kg12 rfl)
  have Hng12 := Lib.hid (Hnz11.out.step kg12 rfl)
  have Hag12 := Lib.hid (Haz11.out.step kg12 rfl)
  have Hzg12 := Lib.hid (Hzz11.out.step kg12 rfl)
  clear kg12
  refine regTake 7 (some 91) (v := ?_) rfl rfl (by kernel_rfl) (by kernel_rfl) (by kernel_rfl) (fun _ _ _ h => h) (by rfl) hHeld ?_ ?_
  rotate_left 1
  · (intro w hSw; (try dsimp only at hSw); go_simp; try with_reducible rfl)
  simp only [Act.put, List.setIfInBounds_toArray, List.set_cons_zero, List.set_cons_succ]
  refine regTake 8 (some 92) (v := ?_) rfl rfl (by kernel_rfl) (by kernel_rfl) (by kernel_rfl) (fun _ _ _ h => h) (by rfl) hHeld ?_ ?_
  rotate_left 1
  · (intro w hSw; (try dsimp only at hSw); go_simp; try with_reducible rfl)
  simp only [Act.put, List.setIfInBounds_toArray, List.set_cons_zero, List.set_cons_succ]
  refine regTake 9 (some 8) (v := ?_) rfl rfl (by kernel_rfl) (by kernel_rfl) (by kernel_rfl) (fun _ _ _ h => h) (by rfl) hHeld ?_ ?_
  rotate_left 1
  · (intro w hSw; (try dsimp only at hSw); go_simp; try with_reducible rfl)
  simp only [Act.put, List.setIfInBounds_toArray, List.set_cons_zero, List.set_cons_succ]
  refine wpAnyH_done (by kernel_rfl) ?_ _
  clear hHeld
  go_wp2
  go_ret
  exact ⟨rfl, HBg12.out⟩
set_option linter.unusedSimpArgs false in
set_option linter.unusedVariables false in
set_option maxHeartbeats 8000000 in
set_option maxRecDepth 100000 in
theorem takes16_0000 (k n kind size m sum d : Int) (w : World)
    (HNEW : Hid (∀ W, Calls Try.prog 7 #[.int .i64 k, .int .i64 n] W fun e w' => e = .returned (.tuple #[.agg #[.int .i64 0, .int .i64 0, .int .i64 0, .int .i64 0], .int .i64 1]) ∧ Below W.heap.size W w'))
    (HTAK : Hid (∀ W, Calls Try.prog 8 #[.agg #[.int .i64 kind, .int .i64 size, .int .i64 m, .int .i64 sum], .int .i64 d] W fun e w' => e = .returned (.tuple #[.agg #[.int .i64 0, .int .i64 0, .int .i64 0, .int .i64 0], .int .i64 1]) ∧ Below W.heap.size W w'))
    (HRI : Hid (∀ W, Calls Try.prog 9 #[.agg #[.int .i64 kind, .int .i64 size, .int .i64 m, .int .i64 sum]] W fun e w' => e = .returned (.bool false) ∧ Below W.heap.size W w'))
    (HRR : Hid (∀ W, Calls Try.prog 10 #[.agg #[.int .i64 kind, .int .i64 size, .int .i64 m, .int .i64 sum]] W fun e w' => e = .returned (.bool false) ∧ Below W.heap.size W w'))
    (HAL : Hid (∀ W, Calls Try.prog 11 #[] W fun e w' => e = .returned (.bool true) ∧ Below W.heap.size W w'))
    (HSZ : Hid (∀ W, Calls Try.prog 12 #[.int .i64 k, .int .i64 n] W fun e w' => e = .returned (.bool false) ∧ Below W.heap.size W w')) :
    Calls Try.prog 3 #[.int .i64 k, .int .i64 n, .agg #[.int .i64 kind, .int .i64 size, .int .i64 m, .int .i64 sum], .int .i64 d] w fun e w' => e = .returned (.bool true) ∧ Below w.heap.size w w' := by
  obtain ⟨w1, hw1⟩ : ∃ w1, w.alloc (.cells #[.int .i64 kind, .int .i64 size, .int .i64 m, .int .i64 sum] 23) = w1 := ⟨_, rfl⟩
  have HX1 := Lib.hid (show Has w1 w.heap.size [.int .i64 kind, .int .i64 size, .int .i64 m, .int .i64 sum] 23 by rw [← hw1]; exact Has.new w _ _)
  have HB1 := Lib.hid (show Below w.heap.size w w1 by rw [← hw1]; exact (Below.refl _ _).alloc (Nat.le_refl _) _)
  have HW1 := Lib.hid hw1
  have hbase := Nat.le_refl w.heap.size
  clear hw1
  go_enter Try.func3, Try.ntmps3
  go_upto_region 1 with fail
  rw [HW1.out]
  have hqt := eqTal
  have hcz1 := HNEW.out w1
  go_wp2_with fail
  refine hcz1.mono ?_
  rintro e wz1 ⟨rfl, kz1⟩
  clear hcz1
  have HBz1 := Lib.hid (HB1.out.trans (kz1.mono (Nat.le_trans hbase HB1.out.size)))
  have Hbz1 := Lib.hid (HX1.out.call kz1)
  clear kz1
  obtain ⟨wz2, hwz2⟩ : ∃ wz2, wz1.alloc (.cells #[.int .i64 0, .int .i64 0, .int .i64 0, .int .i64 0] 23) = wz2 := ⟨_, rfl⟩
  have kz2 : Below wz1.heap.size wz1 wz2 := by rw [← hwz2]; exact (Below.refl _ _).alloc (Nat.le_refl _) _
  have Hnz2 := Lib.hid (show Has wz2 wz1.heap.size [.int .i64 0, .int .i64 0, .int .i64 0, .int .i64 0] 23 by rw [← hwz2]; exact Has.new _ _ _)
  have HWz2 := Lib.hid hwz2
  clear hwz2
  have HBz2 := Lib.hid (HBz1.out.trans (kz2.mono (Nat.le_trans hbase HBz1.out.size)))
  have Hbz2 := Lib.hid (Hbz1.out.call kz2)
  clear kz2
  have qb0_2 : wz1.cell? ⟨w.heap.size, 0, none⟩ = some (.int .i64 kind) := Hbz1.out.cell 0
  have qb1_2 : wz1.cell? ⟨w.heap.size, 1, none⟩ = some (.int .i64 size) := Hbz1.out.cell 1
  have qb2_2 : wz1.cell? ⟨w.heap.size, 2, none⟩ = some (.int .i64 m) := Hbz1.out.cell 2
  have qb3_2 : wz1.cell? ⟨w.heap.size, 3, none⟩ = some (.int .i64 sum) := Hbz1.out.cell 3
  have lb_2 : w.heap.size < wz1.heap.size := Hbz1.out.lt
  have hcz3 := HTAK.out wz2
  go_wp2_with fail
  rw [HWz2.out]
  refine hcz3.mono ?_
  rintro e wz3 ⟨rfl, kz3⟩
  clear hcz3 qb0_2 qb1_2 qb2_2 qb3_2 lb_2
  have HBz3 := Lib.hid (HBz2.out.trans (kz3.mono (Nat.le_trans hbase HBz2.out.size)))
  have Hbz3 := Lib.hid (Hbz2.out.call kz3)
  have Hnz3 := Lib.hid (Hnz2.out.call kz3)
  clear kz3
  obtain ⟨wz4, hwz4⟩ : ∃ wz4, wz3.alloc (.cells #[.int .i64 0, .int .i64 0, .int .i64 0, .int .i64 0] 23) = wz4 := ⟨_, rfl⟩
  have kz4 : Below wz3.heap.size wz3 wz4 := by rw [← hwz4]; exact (Below.refl _ _).alloc (Nat.le_refl _) _
  have Haz4 := Lib.hid (show Has wz4 wz3.heap.size [.int .i64 0, .int .i64 0, .int .i64 0, .int .i64 0] 23 by rw [← hwz4]; exact Has.new _ _ _)
  have HWz4 := Lib.hid hwz4
  clear hwz4
  have HBz4 := Lib.hid (HBz3.out.trans (kz4.mono (Nat.le_trans hbase HBz3.out.size)))
  have Hbz4 := Lib.hid (Hbz3.out.call kz4)
  have Hnz4 := Lib.hid (Hnz3.out.call kz4)
  clear kz4
  go_upto_region 3 with fail
  rw [HWz4.out]
  obtain ⟨wz5, hwz5⟩ : ∃ wz5, wz4.alloc (.cells #[.int .i64 0, .int .i64 0, .int .i64 0, .int .i64 0] 23) = wz5 := ⟨_, rfl⟩
  have kz5 : Below wz4.heap.size wz4 wz5 := by rw [← hwz5]; exact (Below.refl _ _).alloc (Nat.le_refl _) _
  have Hzz5 := Lib.hid (show Has wz5 wz4.heap.size [.int .i64 0, .int .i64 0, .int .i64 0, .int .i64 0] 23 by rw [← hwz5]; exact Has.new _ _ _)
  have HWz5 := Lib.hid hwz5
  clear hwz5
  have HBz5 := Lib.hid (HBz4.out.trans (kz5.mono (Nat.le_trans hbase HBz4.out.size)))
  have Hbz5 := Lib.hid (Hbz4.out.call kz5)
  have Hnz5 := Lib.hid (Hnz4.out.call kz5)
  have Haz5 := Lib.hid (Haz4.out.call kz5)
  clear kz5
  go_upto_region 4 with fail
  rw [HWz5.out]
  refine wp_region_held_drew (S := (fun W' => W'.cell? ⟨w.heap.size, 0, none⟩ = some (.int .i64 kind) ∧ W'.cell? ⟨w.heap.size, 1, none⟩ = some (.int .i64 size) ∧ W'.cell? ⟨w.heap.size, 2, none⟩ = some (.int .i64 m) ∧ W'.cell? ⟨w.heap.size, 3, none⟩ = some (.int .i64 sum))) (by kernel_rfl) ⟨Hbz5.out.cell 0, Hbz5.out.cell 1, Hbz5.out.cell 2, Hbz5.out.cell 3⟩ (fun hHeld => ?_)
  refine regTake 0 (some 27) (v := ?_) rfl rfl (by kernel_rfl) (by kernel_rfl) (by kernel_rfl) (fun _ _ _ h => h) (by rfl) hHeld ?_ ?_
  rotate_left 1
  · (intro w hSw; (try dsimp only at hSw); go_simp; try with_reducible rfl)
  simp only [Act.put, List.setIfInBounds_toArray, List.set_cons_zero, List.set_cons_succ]
  refine regTake 2 (some 29) (v := ?_) rfl rfl (by kernel_rfl) (by kernel_rfl) (by kernel_rfl) (fun _ _ _ h => h) (by rfl) hHeld ?_ ?_
  rotate_left 1
  · (intro w hSw; (try dsimp only at hSw); go_simp; try with_reducible rfl)
  simp only [Act.put, List.setIfInBounds_toArray, List.set_cons_zero, List.set_cons_succ]
  refine regCall 1 (some 28) (f := 9) (args := ?_) rfl rfl (by kernel_rfl) (by rfl) ?_ ?_
  rotate_left 1
  · (go_simp; try with_reducible rfl)
  refine (HRI.out _).mono ?_
  rintro e wx1 ⟨rfl, kg6⟩
  refine ⟨_, rfl, ⟨(Hbz5.out.step kg6 rfl).cell 0, (Hbz5.out.step kg6 rfl).cell 1, (Hbz5.out.step kg6 rfl).cell 2, (Hbz5.out.step kg6 rfl).cell 3⟩, fun hHeld => ?_⟩
  simp only [Act.put, List.setIfInBounds_toArray, List.set_cons_zero, List.set_cons_succ]
  have HBg6 := Lib.hid ((HBz5.out.drew).trans (kg6.mono (Nat.le_trans hbase (HBz5.out.drew).size)))
  have Hbg6 := Lib.hid (Hbz5.out.step kg6 rfl)
  have Hng6 := Lib.hid (Hnz5.out.step kg6 rfl)
  have Hag6 := Lib.hid (Haz5.out.step kg6 rfl)
  have Hzg6 := Lib.hid (Hzz5.out.step kg6 rfl)
  clear kg6
  refine regCall 3 (some 30) (f := 10) (args := ?_) rfl rfl (by kernel_rfl) (by rfl) ?_ ?_
  rotate_left 1
  · (go_simp; try with_reducible rfl)
  refine (HRR.out _).mono ?_
  rintro e wx3 ⟨rfl, kg7⟩
  refine ⟨_, rfl, ⟨(Hbg6.out.step kg7 rfl).cell 0, (Hbg6.out.step kg7 rfl).cell 1, (Hbg6.out.step kg7 rfl).cell 2, (Hbg6.out.step kg7 rfl).cell 3⟩, fun hHeld => ?_⟩
  simp only [Act.put, List.setIfInBounds_toArray, List.set_cons_zero, List.set_cons_succ]
  have HBg7 := Lib.hid ((HBg6.out).trans (kg7.mono (Nat.le_trans hbase (HBg6.out).size)))
  have Hbg7 := Lib.hid (Hbg6.out.step kg7 rfl)
  have Hng7 := Lib.hid (Hng6.out.step kg7 rfl)
  have Hag7 := Lib.hid (Hag6.out.step kg7 rfl)
  have Hzg7 := Lib.hid (Hzg6.out.step kg7 rfl)
  clear kg7
  refine regTake 4 (some 31) (v := ?_) rfl rfl (by kernel_rfl) (by kernel_rfl) (by kernel_rfl) (fun _ _ _ h => h) (by rfl) hHeld ?_ ?_
  rotate_left 1
  · (intro w hSw; (try dsimp only at hSw); go_simp; try with_reducible rfl)
  simp only [Act.put, List.setIfInBounds_toArray, List.set_cons_zero, List.set_cons_succ]
  refine regTake 5 (some 32) (v := ?_) rfl rfl (by kernel_rfl) (by kernel_rfl) (by kernel_rfl) (fun _ _ _ h => h) (by rfl) hHeld ?_ ?_
  rotate_left 1
  · (intro w hSw; (try dsimp only at hSw); go_simp; try with_reducible rfl)
  simp only [Act.put, List.setIfInBounds_toArray, List.set_cons_zero, List.set_cons_succ]
  refine regCall 6 (some 33) (f := 11) (args := ?_) rfl rfl (by kernel_rfl) (by rfl) ?_ ?_
  rotate_left 1
  · (go_simp; try with_reducible rfl)
  refine (HAL.out _).mono ?_
  rintro e wx6 ⟨rfl, kg8⟩
  refine ⟨_, rfl, ⟨(Hbg7.out.step kg8 rfl).cell 0, (Hbg7.out.step kg8 rfl).cell 1, (Hbg7.out.step kg8 rfl).cell 2, (Hbg7.out.step kg8 rfl).cell 3⟩, fun hHeld => ?_⟩
  simp only [Act.put, List.setIfInBounds_toArray, List.set_cons_zero, List.set_cons_succ]
  have HBg8 := Lib.hid ((HBg7.out).trans (kg8.mono (Nat.le_trans hbase (HBg7.out).size)))
  have Hbg8 := Lib.hid (Hbg7.out.step kg8 rfl)
  have Hng8 := Lib.hid (Hng7.out.step kg8 rfl)
  have Hag8 := Lib.hid (Hag7.out.step kg8 rfl)
  have Hzg8 := Lib.hid (Hzg7.out.step kg8 rfl)
  clear kg8
  refine regTake 7 (some 34) (v := ?_) rfl rfl (by kernel_rfl) (by kernel_rfl) (by kernel_rfl) (fun _ _ _ h => h) (by rfl) hHeld ?_ ?_
  rotate_left 1
  · (intro w hSw; (try dsimp only at hSw); go_simp; try with_reducible rfl)
  simp only [Act.put, List.setIfInBounds_toArray, List.set_cons_zero, List.set_cons_succ]
  refine regTake 8 (some 35) (v := ?_) rfl rfl (by kernel_rfl) (by kernel_rfl) (by kernel_rfl) (fun _ _ _ h => h) (by rfl) hHeld ?_ ?_
  rotate_left 1
  · (intro w hSw; (try dsimp only at hSw); go_simp; try with_reducible rfl)
  simp only [Act.put, List.setIfInBounds_toArray, List.set_cons_zero, List.set_cons_succ]
  refine wpAnyH_done (by kernel_rfl) ?_ _
  clear hHeld
  have qn0_8 : wx6.cell? ⟨wz1.heap.size, 0, none⟩ = some (.int .i64 0) := Hng8.out.cell 0
  have qn1_8 : wx6.cell? ⟨wz1.heap.size, 1, none⟩ = some (.int .i64 0) := Hng8.out.cell 1
  have qn2_8 : wx6.cell? ⟨wz1.heap.size, 2, none⟩ = some (.int .i64 0) := Hng8.out.cell 2
  have qn3_8 : wx6.cell? ⟨wz1.heap.size, 3, none⟩ = some (.int .i64 0) := Hng8.out.cell 3
  have ln_8 : wz1.heap.size < wx6.heap.size := Hng8.out.lt
  have qz0_8 : wx6.cell? ⟨wz4.heap.size, 0, none⟩ = some (.int .i64 0) := Hzg8.out.cell 0
  have qz1_8 : wx6.cell? ⟨wz4.heap.size, 1, none⟩ = some (.int .i64 0) := Hzg8.out.cell 1
  have qz2_8 : wx6.cell? ⟨wz4.heap.size, 2, none⟩ = some (.int .i64 0) := Hzg8.out.cell 2
  have qz3_8 : wx6.cell? ⟨wz4.heap.size, 3, none⟩ = some (.int .i64 0) := Hzg8.out.cell 3
  have lz_8 : wz4.heap.size < wx6.heap.size := Hzg8.out.lt
  have hcz9 := HSZ.out wx6
  go_wp2_with fail
  refine hcz9.mono ?_
  rintro e wz9 ⟨rfl, kz9⟩
  clear hcz9 qn0_8 qn1_8 qn2_8 qn3_8 ln_8 qz0_8 qz1_8 qz2_8 qz3_8 lz_8
  have HBz9 := Lib.hid (HBg8.out.trans (kz9.mono (Nat.le_trans hbase HBg8.out.size)))
  have Hbz9 := Lib.hid (Hbg8.out.call kz9)
  have Hnz9 := Lib.hid (Hng8.out.call kz9)
  have Haz9 := Lib.hid (Hag8.out.call kz9)
  have Hzz9 := Lib.hid (Hzg8.out.call kz9)
  clear kz9
  have qb0_9 : wz9.cell? ⟨w.heap.size, 0, none⟩ = some (.int .i64 kind) := Hbz9.out.cell 0
  have qb1_9 : wz9.cell? ⟨w.heap.size, 1, none⟩ = some (.int .i64 size) := Hbz9.out.cell 1
  have qb2_9 : wz9.cell? ⟨w.heap.size, 2, none⟩ = some (.int .i64 m) := Hbz9.out.cell 2
  have qb3_9 : wz9.cell? ⟨w.heap.size, 3, none⟩ = some (.int .i64 sum) := Hbz9.out.cell 3
  have lb_9 : w.heap.size < wz9.heap.size := Hbz9.out.lt
  have qn0_9 : wz9.cell? ⟨wz1.heap.size, 0, none⟩ = some (.int .i64 0) := Hnz9.out.cell 0
  have qn1_9 : wz9.cell? ⟨wz1.heap.size, 1, none⟩ = some (.int .i64 0) := Hnz9.out.cell 1
  have qn2_9 : wz9.cell? ⟨wz1.heap.size, 2, none⟩ = some (.int .i64 0) := Hnz9.out.cell 2
  have qn3_9 : wz9.cell? ⟨wz1.heap.size, 3, none⟩ = some (.int .i64 0) := Hnz9.out.cell 3
  have ln_9 : wz1.heap.size < wz9.heap.size := Hnz9.out.lt
  have qz0_9 : wz9.cell? ⟨wz4.heap.size, 0, none⟩ = some (.int .i64 0) := Hzz9.out.cell 0
  have qz1_9 : wz9.cell? ⟨wz4.heap.size, 1, none⟩ = some (.int .i64 0) := Hzz9.out.cell 1
  have qz2_9 : wz9.cell? ⟨wz4.heap.size, 2, none⟩ = some (.int .i64 0) := Hzz9.out.cell 2
  have qz3_9 : wz9.cell? ⟨wz4.heap.size, 3, none⟩ = some (.int .i64 0) := Hzz9.out.cell 3
  have lz_9 : wz4.heap.size < wz9.heap.size := Hzz9.out.lt
  have hcz10 := HRR.out wz9
  go_wp2_with fail
  refine hcz10.mono ?_
  rintro e wz10 ⟨rfl, kz10⟩
  clear hcz10 qb0_9 qb1_9 qb2_9 qb3_9 lb_9 qn0_9 qn1_9 qn2_9 qn3_9 ln_9 qz0_9 qz1_9 qz2_9 qz3_9 lz_9
  have HBz10 := Lib.hid (HBz9.out.trans (kz10.mono (Nat.le_trans hbase HBz9.out.size)))
  have Hbz10 := Lib.hid (Hbz9.out.call kz10)
  have Hnz10 := Lib.hid (Hnz9.out.call kz10)
  have Haz10 := Lib.hid (Haz9.out.call kz10)
  have Hzz10 := Lib.hid (Hzz9.out.call kz10)
  clear kz10
  have qb0_10 : wz10.cell? ⟨w.heap.size, 0, none⟩ = some (.int .i64 kind) := Hbz10.out.cell 0
  have qb1_10 : wz10.cell? ⟨w.heap.size, 1, none⟩ = some (.int .i64 size) := Hbz10.out.cell 1
  have qb2_10 : wz10.cell? ⟨w.heap.size, 2, none⟩ = some (.int .i64 m) := Hbz10.out.cell 2
  have qb3_10 : wz10.cell? ⟨w.heap.size, 3, none⟩ = some (.int .i64 sum) := Hbz10.out.cell 3
  have lb_10 : w.heap.size < wz10.heap.size := Hbz10.out.lt
  have qa0_10 : wz10.cell? ⟨wz3.heap.size, 0, none⟩ = some (.int .i64 0) := Haz10.out.cell 0
  have qa1_10 : wz10.cell? ⟨wz3.heap.size, 1, none⟩ = some (.int .i64 0) := Haz10.out.cell 1
  have qa2_10 : wz10.cell? ⟨wz3.heap.size, 2, none⟩ = some (.int .i64 0) := Haz10.out.cell 2
  have qa3_10 : wz10.cell? ⟨wz3.heap.size, 3, none⟩ = some (.int .i64 0) := Haz10.out.cell 3
  have la_10 : wz3.heap.size < wz10.heap.size := Haz10.out.lt
  have qz0_10 : wz10.cell? ⟨wz4.heap.size, 0, none⟩ = some (.int .i64 0) := Hzz10.out.cell 0
  have qz1_10 : wz10.cell? ⟨wz4.heap.size, 1, none⟩ = some (.int .i64 0) := Hzz10.out.cell 1
  have qz2_10 : wz10.cell? ⟨wz4.heap.size, 2, none⟩ = some (.int .i64 0) := Hzz10.out.cell 2
  have qz3_10 : wz10.cell? ⟨wz4.heap.size, 3, none⟩ = some (.int .i64 0) := Hzz10.out.cell 3
  have lz_10 : wz4.heap.size < wz10.heap.size := Hzz10.out.lt
  go_wp2
  go_ret
  exact ⟨rfl, HBz10.out⟩
set_option linter.unusedSimpArgs false in
set_option linter.unusedVariables false in
set_option maxHeartbeats 8000000 in
set_option maxRecDepth 100000 in
theorem takes16_0100 (k n kind size m sum d : Int) (w : World)
    (HNEW : Hid (∀ W, Calls Try.prog 7 #[.int .i64 k, .int .i64 n] W fun e w' => e = .returned (.tuple #[.agg #[.int .i64 0, .int .i64 0, .int .i64 0, .int .i64 0], .int .i64 1]) ∧ Below W.heap.size W w'))
    (HTAK : Hid (∀ W, Calls Try.prog 8 #[.agg #[.int .i64 kind, .int .i64 size, .int .i64 m, .int .i64 sum], .int .i64 d] W fun e w' => e = .returned (.tuple #[.agg #[.int .i64 0, .int .i64 0, .int .i64 0, .int .i64 0], .int .i64 1]) ∧ Below W.heap.size W w'))
    (HRI : Hid (∀ W, Calls Try.prog 9 #[.agg #[.int .i64 kind, .int .i64 size, .int .i64 m, .int .i64 sum]] W fun e w' => e = .returned (.bool true) ∧ Below W.heap.size W w'))
    (HRR : Hid (∀ W, Calls Try.prog 10 #[.agg #[.int .i64 kind, .int .i64 size, .int .i64 m, .int .i64 sum]] W fun e w' => e = .returned (.bool true) ∧ Below W.heap.size W w'))
    (HAL : Hid (∀ W, Calls Try.prog 11 #[] W fun e w' => e = .returned (.bool true) ∧ Below W.heap.size W w'))
    (HSZ : Hid (∀ W, Calls Try.prog 12 #[.int .i64 k, .int .i64 n] W fun e w' => e = .returned (.bool false) ∧ Below W.heap.size W w'))
    (HCN : Hid (∀ W, Calls Try.prog 13 #[.agg #[.int .i64 kind, .int .i64 size, .int .i64 m, .int .i64 sum], .int .i64 d] W fun e w' => e = .returned (.bool false) ∧ Below W.heap.size W w')) :
    Calls Try.prog 3 #[.int .i64 k, .int .i64 n, .agg #[.int .i64 kind, .int .i64 size, .int .i64 m, .int .i64 sum], .int .i64 d] w fun e w' => e = .returned (.bool true) ∧ Below w.heap.size w w' := by
  obtain ⟨w1, hw1⟩ : ∃ w1, w.alloc (.cells #[.int .i64 kind, .int .i64 size, .int .i64 m, .int .i64 sum] 23) = w1 := ⟨_, rfl⟩
  have HX1 := Lib.hid (show Has w1 w.heap.size [.int .i64 kind, .int .i64 size, .int .i64 m, .int .i64 sum] 23 by rw [← hw1]; exact Has.new w _ _)
  have HB1 := Lib.hid (show Below w.heap.size w w1 by rw [← hw1]; exact (Below.refl _ _).alloc (Nat.le_refl _) _)
  have HW1 := Lib.hid hw1
  have hbase := Nat.le_refl w.heap.size
  clear hw1
  go_enter Try.func3, Try.ntmps3
  go_upto_region 1 with fail
  rw [HW1.out]
  have hqt := eqTal
  have hcz1 := HNEW.out w1
  go_wp2_with fail
  refine hcz1.mono ?_
  rintro e wz1 ⟨rfl, kz1⟩
  clear hcz1
  have HBz1 := Lib.hid (HB1.out.trans (kz1.mono (Nat.le_trans hbase HB1.out.size)))
  have Hbz1 := Lib.hid (HX1.out.call kz1)
  clear kz1
  obtain ⟨wz2, hwz2⟩ : ∃ wz2, wz1.alloc (.cells #[.int .i64 0, .int .i64 0, .int .i64 0, .int .i64 0] 23) = wz2 := ⟨_, rfl⟩
  have kz2 : Below wz1.heap.size wz1 wz2 := by rw [← hwz2]; exact (Below.refl _ _).alloc (Nat.le_refl _) _
  have Hnz2 := Lib.hid (show Has wz2 wz1.heap.size [.int .i64 0, .int .i64 0, .int .i64 0, .int .i64 0] 23 by rw [← hwz2]; exact Has.new _ _ _)
  have HWz2 := Lib.hid hwz2
  clear hwz2
  have HBz2 := Lib.hid (HBz1.out.trans (kz2.mono (Nat.le_trans hbase HBz1.out.size)))
  have Hbz2 := Lib.hid (Hbz1.out.call kz2)
  clear kz2
  have qb0_2 : wz1.cell? ⟨w.heap.size, 0, none⟩ = some (.int .i64 kind) := Hbz1.out.cell 0
  have qb1_2 : wz1.cell? ⟨w.heap.size, 1, none⟩ = some (.int .i64 size) := Hbz1.out.cell 1
  have qb2_2 : wz1.cell? ⟨w.heap.size, 2, none⟩ = some (.int .i64 m) := Hbz1.out.cell 2
  have qb3_2 : wz1.cell? ⟨w.heap.size, 3, none⟩ = some (.int .i64 sum) := Hbz1.out.cell 3
  have lb_2 : w.heap.size < wz1.heap.size := Hbz1.out.lt
  have hcz3 := HTAK.out wz2
  go_wp2_with fail
  rw [HWz2.out]
  refine hcz3.mono ?_
  rintro e wz3 ⟨rfl, kz3⟩
  clear hcz3 qb0_2 qb1_2 qb2_2 qb3_2 lb_2
  have HBz3 := Lib.hid (HBz2.out.trans (kz3.mono (Nat.le_trans hbase HBz2.out.size)))
  have Hbz3 := Lib.hid (Hbz2.out.call kz3)
  have Hnz3 := Lib.hid (Hnz2.out.call kz3)
  clear kz3
  obtain ⟨wz4, hwz4⟩ : ∃ wz4, wz3.alloc (.cells #[.int .i64 0, .int .i64 0, .int .i64 0, .int .i64 0] 23) = wz4 := ⟨_, rfl⟩
  have kz4 : Below wz3.heap.size wz3 wz4 := by rw [← hwz4]; exact (Below.refl _ _).alloc (Nat.le_refl _) _
  have Haz4 := Lib.hid (show Has wz4 wz3.heap.size [.int .i64 0, .int .i64 0, .int .i64 0, .int .i64 0] 23 by rw [← hwz4]; exact Has.new _ _ _)
  have HWz4 := Lib.hid hwz4
  clear hwz4
  have HBz4 := Lib.hid (HBz3.out.trans (kz4.mono (Nat.le_trans hbase HBz3.out.size)))
  have Hbz4 := Lib.hid (Hbz3.out.call kz4)
  have Hnz4 := Lib.hid (Hnz3.out.call kz4)
  clear kz4
  go_upto_region 3 with fail
  rw [HWz4.out]
  obtain ⟨wz5, hwz5⟩ : ∃ wz5, wz4.alloc (.cells #[.int .i64 0, .int .i64 0, .int .i64 0, .int .i64 0] 23) = wz5 := ⟨_, rfl⟩
  have kz5 : Below wz4.heap.size wz4 wz5 := by rw [← hwz5]; exact (Below.refl _ _).alloc (Nat.le_refl _) _
  have Hzz5 := Lib.hid (show Has wz5 wz4.heap.size [.int .i64 0, .int .i64 0, .int .i64 0, .int .i64 0] 23 by rw [← hwz5]; exact Has.new _ _ _)
  have HWz5 := Lib.hid hwz5
  clear hwz5
  have HBz5 := Lib.hid (HBz4.out.trans (kz5.mono (Nat.le_trans hbase HBz4.out.size)))
  have Hbz5 := Lib.hid (Hbz4.out.call kz5)
  have Hnz5 := Lib.hid (Hnz4.out.call kz5)
  have Haz5 := Lib.hid (Haz4.out.call kz5)
  clear kz5
  go_upto_region 4 with fail
  rw [HWz5.out]
  refine wp_region_held_drew (S := (fun W' => W'.cell? ⟨w.heap.size, 0, none⟩ = some (.int .i64 kind) ∧ W'.cell? ⟨w.heap.size, 1, none⟩ = some (.int .i64 size) ∧ W'.cell? ⟨w.heap.size, 2, none⟩ = some (.int .i64 m) ∧ W'.cell? ⟨w.heap.size, 3, none⟩ = some (.int .i64 sum))) (by kernel_rfl) ⟨Hbz5.out.cell 0, Hbz5.out.cell 1, Hbz5.out.cell 2, Hbz5.out.cell 3⟩ (fun hHeld => ?_)
  refine regTake 0 (some 27) (v := ?_) rfl rfl (by kernel_rfl) (by kernel_rfl) (by kernel_rfl) (fun _ _ _ h => h) (by rfl) hHeld ?_ ?_
  rotate_left 1
  · (intro w hSw; (try dsimp only at hSw); go_simp; try with_reducible rfl)
  simp only [Act.put, List.setIfInBounds_toArray, List.set_cons_zero, List.set_cons_succ]
  refine regTake 2 (some 29) (v := ?_) rfl rfl (by kernel_rfl) (by kernel_rfl) (by kernel_rfl) (fun _ _ _ h => h) (by rfl) hHeld ?_ ?_
  rotate_left 1
  · (intro w hSw; (try dsimp only at hSw); go_simp; try with_reducible rfl)
  simp only [Act.put, List.setIfInBounds_toArray, List.set_cons_zero, List.set_cons_succ]
  refine regCall 1 (some 28) (f := 9) (args := ?_) rfl rfl (by kernel_rfl) (by rfl) ?_ ?_
  rotate_left 1
  · (go_simp; try with_reducible rfl)
  refine (HRI.out _).mono ?_
  rintro e wx1 ⟨rfl, kg6⟩
  refine ⟨_, rfl, ⟨(Hbz5.out.step kg6 rfl).cell 0, (Hbz5.out.step kg6 rfl).cell 1, (Hbz5.out.step kg6 rfl).cell 2, (Hbz5.out.step kg6 rfl).cell 3⟩, fun hHeld => ?_⟩
  simp only [Act.put, List.setIfInBounds_toArray, List.set_cons_zero, List.set_cons_succ]
  have HBg6 := Lib.hid ((HBz5.out.drew).trans (kg6.mono (Nat.le_trans hbase (HBz5.out.drew).size)))
  have Hbg6 := Lib.hid (Hbz5.out.step kg6 rfl)
  have Hng6 := Lib.hid (Hnz5.out.step kg6 rfl)
  have Hag6 := Lib.hid (Haz5.out.step kg6 rfl)
  have Hzg6 := Lib.hid (Hzz5.out.step kg6 rfl)
  clear kg6
  refine regCall 3 (some 30) (f := 10) (args := ?_) rfl rfl (by kernel_rfl) (by rfl) ?_ ?_
  rotate_left 1
  · (go_simp; try with_reducible rfl)
  refine (HRR.out _).mono ?_
  rintro e wx3 ⟨rfl, kg7⟩
  refine ⟨_, rfl, ⟨(Hbg6.out.step kg7 rfl).cell 0, (Hbg6.out.step kg7 rfl).cell 1, (Hbg6.out.step kg7 rfl).cell 2, (Hbg6.out.step kg7 rfl).cell 3⟩, fun hHeld => ?_⟩
  simp only [Act.put, List.setIfInBounds_toArray, List.set_cons_zero, List.set_cons_succ]
  have HBg7 := Lib.hid ((HBg6.out).trans (kg7.mono (Nat.le_trans hbase (HBg6.out).size)))
  have Hbg7 := Lib.hid (Hbg6.out.step kg7 rfl)
  have Hng7 := Lib.hid (Hng6.out.step kg7 rfl)
  have Hag7 := Lib.hid (Hag6.out.step kg7 rfl)
  have Hzg7 := Lib.hid (Hzg6.out.step kg7 rfl)
  clear kg7
  refine regTake 4 (some 31) (v := ?_) rfl rfl (by kernel_rfl) (by kernel_rfl) (by kernel_rfl) (fun _ _ _ h => h) (by rfl) hHeld ?_ ?_
  rotate_left 1
  · (intro w hSw; (try dsimp only at hSw); go_simp; try with_reducible rfl)
  simp only [Act.put, List.setIfInBounds_toArray, List.set_cons_zero, List.set_cons_succ]
  refine regTake 5 (some 32) (v := ?_) rfl rfl (by kernel_rfl) (by kernel_rfl) (by kernel_rfl) (fun _ _ _ h => h) (by rfl) hHeld ?_ ?_
  rotate_left 1
  · (intro w hSw; (try dsimp only at hSw); go_simp; try with_reducible rfl)
  simp only [Act.put, List.setIfInBounds_toArray, List.set_cons_zero, List.set_cons_succ]
  refine regCall 6 (some 33) (f := 11) (args := ?_) rfl rfl (by kernel_rfl) (by rfl) ?_ ?_
  rotate_left 1
  · (go_simp; try with_reducible rfl)
  refine (HAL.out _).mono ?_
  rintro e wx6 ⟨rfl, kg8⟩
  refine ⟨_, rfl, ⟨(Hbg7.out.step kg8 rfl).cell 0, (Hbg7.out.step kg8 rfl).cell 1, (Hbg7.out.step kg8 rfl).cell 2, (Hbg7.out.step kg8 rfl).cell 3⟩, fun hHeld => ?_⟩
  simp only [Act.put, List.setIfInBounds_toArray, List.set_cons_zero, List.set_cons_succ]
  have HBg8 := Lib.hid ((HBg7.out).trans (kg8.mono (Nat.le_trans hbase (HBg7.out).size)))
  have Hbg8 := Lib.hid (Hbg7.out.step kg8 rfl)
  have Hng8 := Lib.hid (Hng7.out.step kg8 rfl)
  have Hag8 := Lib.hid (Hag7.out.step kg8 rfl)
  have Hzg8 := Lib.hid (Hzg7.out.step kg8 rfl)
  clear kg8
  refine regTake 7 (some 34) (v := ?_) rfl rfl (by kernel_rfl) (by kernel_rfl) (by kernel_rfl) (fun _ _ _ h => h) (by rfl) hHeld ?_ ?_
  rotate_left 1
  · (intro w hSw; (try dsimp only at hSw); go_simp; try with_reducible rfl)
  simp only [Act.put, List.setIfInBounds_toArray, List.set_cons_zero, List.set_cons_succ]
  refine regTake 8 (some 35) (v := ?_) rfl rfl (by kernel_rfl) (by kernel_rfl) (by kernel_rfl) (fun _ _ _ h => h) (by rfl) hHeld ?_ ?_
  rotate_left 1
  · (intro w hSw; (try dsimp only at hSw); go_simp; try with_reducible rfl)
  simp only [Act.put, List.setIfInBounds_toArray, List.set_cons_zero, List.set_cons_succ]
  refine wpAnyH_done (by kernel_rfl) ?_ _
  clear hHeld
  have qn0_8 : wx6.cell? ⟨wz1.heap.size, 0, none⟩ = some (.int .i64 0) := Hng8.out.cell 0
  have qn1_8 : wx6.cell? ⟨wz1.heap.size, 1, none⟩ = some (.int .i64 0) := Hng8.out.cell 1
  have qn2_8 : wx6.cell? ⟨wz1.heap.size, 2, none⟩ = some (.int .i64 0) := Hng8.out.cell 2
  have qn3_8 : wx6.cell? ⟨wz1.heap.size, 3, none⟩ = some (.int .i64 0) := Hng8.out.cell 3
  have ln_8 : wz1.heap.size < wx6.heap.size := Hng8.out.lt
  have qz0_8 : wx6.cell? ⟨wz4.heap.size, 0, none⟩ = some (.int .i64 0) := Hzg8.out.cell 0
  have qz1_8 : wx6.cell? ⟨wz4.heap.size, 1, none⟩ = some (.int .i64 0) := Hzg8.out.cell 1
  have qz2_8 : wx6.cell? ⟨wz4.heap.size, 2, none⟩ = some (.int .i64 0) := Hzg8.out.cell 2
  have qz3_8 : wx6.cell? ⟨wz4.heap.size, 3, none⟩ = some (.int .i64 0) := Hzg8.out.cell 3
  have lz_8 : wz4.heap.size < wx6.heap.size := Hzg8.out.lt
  have hcz9 := HSZ.out wx6
  go_wp2_with fail
  refine hcz9.mono ?_
  rintro e wz9 ⟨rfl, kz9⟩
  clear hcz9 qn0_8 qn1_8 qn2_8 qn3_8 ln_8 qz0_8 qz1_8 qz2_8 qz3_8 lz_8
  have HBz9 := Lib.hid (HBg8.out.trans (kz9.mono (Nat.le_trans hbase HBg8.out.size)))
  have Hbz9 := Lib.hid (Hbg8.out.call kz9)
  have Hnz9 := Lib.hid (Hng8.out.call kz9)
  have Haz9 := Lib.hid (Hag8.out.call kz9)
  have Hzz9 := Lib.hid (Hzg8.out.call kz9)
  clear kz9
  have qb0_9 : wz9.cell? ⟨w.heap.size, 0, none⟩ = some (.int .i64 kind) := Hbz9.out.cell 0
  have qb1_9 : wz9.cell? ⟨w.heap.size, 1, none⟩ = some (.int .i64 size) := Hbz9.out.cell 1
  have qb2_9 : wz9.cell? ⟨w.heap.size, 2, none⟩ = some (.int .i64 m) := Hbz9.out.cell 2
  have qb3_9 : wz9.cell? ⟨w.heap.size, 3, none⟩ = some (.int .i64 sum) := Hbz9.out.cell 3
  have lb_9 : w.heap.size < wz9.heap.size := Hbz9.out.lt
  have qn0_9 : wz9.cell? ⟨wz1.heap.size, 0, none⟩ = some (.int .i64 0) := Hnz9.out.cell 0
  have qn1_9 : wz9.cell? ⟨wz1.heap.size, 1, none⟩ = some (.int .i64 0) := Hnz9.out.cell 1
  have qn2_9 : wz9.cell? ⟨wz1.heap.size, 2, none⟩ = some (.int .i64 0) := Hnz9.out.cell 2
  have qn3_9 : wz9.cell? ⟨wz1.heap.size, 3, none⟩ = some (.int .i64 0) := Hnz9.out.cell 3
  have ln_9 : wz1.heap.size < wz9.heap.size := Hnz9.out.lt
  have qz0_9 : wz9.cell? ⟨wz4.heap.size, 0, none⟩ = some (.int .i64 0) := Hzz9.out.cell 0
  have qz1_9 : wz9.cell? ⟨wz4.heap.size, 1, none⟩ = some (.int .i64 0) := Hzz9.out.cell 1
  have qz2_9 : wz9.cell? ⟨wz4.heap.size, 2, none⟩ = some (.int .i64 0) := Hzz9.out.cell 2
  have qz3_9 : wz9.cell? ⟨wz4.heap.size, 3, none⟩ = some (.int .i64 0) := Hzz9.out.cell 3
  have lz_9 : wz4.heap.size < wz9.heap.size := Hzz9.out.lt
  have hcz10 := HRR.out wz9
  go_wp2_with fail
  refine hcz10.mono ?_
  rintro e wz10 ⟨rfl, kz10⟩
  clear hcz10 qb0_9 qb1_9 qb2_9 qb3_9 lb_9 qn0_9 qn1_9 qn2_9 qn3_9 ln_9 qz0_9 qz1_9 qz2_9 qz3_9 lz_9
  have HBz10 := Lib.hid (HBz9.out.trans (kz10.mono (Nat.le_trans hbase HBz9.out.size)))
  have Hbz10 := Lib.hid (Hbz9.out.call kz10)
  have Hnz10 := Lib.hid (Hnz9.out.call kz10)
  have Haz10 := Lib.hid (Haz9.out.call kz10)
  have Hzz10 := Lib.hid (Hzz9.out.call kz10)
  clear kz10
  have qb0_10 : wz10.cell? ⟨w.heap.size, 0, none⟩ = some (.int .i64 kind) := Hbz10.out.cell 0
  have qb1_10 : wz10.cell? ⟨w.heap.size, 1, none⟩ = some (.int .i64 size) := Hbz10.out.cell 1
  have qb2_10 : wz10.cell? ⟨w.heap.size, 2, none⟩ = some (.int .i64 m) := Hbz10.out.cell 2
  have qb3_10 : wz10.cell? ⟨w.heap.size, 3, none⟩ = some (.int .i64 sum) := Hbz10.out.cell 3
  have lb_10 : w.heap.size < wz10.heap.size := Hbz10.out.lt
  have qn0_10 : wz10.cell? ⟨wz1.heap.size, 0, none⟩ = some (.int .i64 0) := Hnz10.out.cell 0
  have qn1_10 : wz10.cell? ⟨wz1.heap.size, 1, none⟩ = some (.int .i64 0) := Hnz10.out.cell 1
  have qn2_10 : wz10.cell? ⟨wz1.heap.size, 2, none⟩ = some (.int .i64 0) := Hnz10.out.cell 2
  have qn3_10 : wz10.cell? ⟨wz1.heap.size, 3, none⟩ = some (.int .i64 0) := Hnz10.out.cell 3
  have ln_10 : wz1.heap.size < wz10.heap.size := Hnz10.out.lt
  have qz0_10 : wz10.cell? ⟨wz4.heap.size, 0, none⟩ = some (.int .i64 0) := Hzz10.out.cell 0
  have qz1_10 : wz10.cell? ⟨wz4.heap.size, 1, none⟩ = some (.int .i64 0) := Hzz10.out.cell 1
  have qz2_10 : wz10.cell? ⟨wz4.heap.size, 2, none⟩ = some (.int .i64 0) := Hzz10.out.cell 2
  have qz3_10 : wz10.cell? ⟨wz4.heap.size, 3, none⟩ = some (.int .i64 0) := Hzz10.out.cell 3
  have lz_10 : wz4.heap.size < wz10.heap.size := Hzz10.out.lt
  have qa0_10 : wz10.cell? ⟨wz3.heap.size, 0, none⟩ = some (.int .i64 0) := Haz10.out.cell 0
  have qa1_10 : wz10.cell? ⟨wz3.heap.size, 1, none⟩ = some (.int .i64 0) := Haz10.out.cell 1
  have qa2_10 : wz10.cell? ⟨wz3.heap.size, 2, none⟩ = some (.int .i64 0) := Haz10.out.cell 2
  have qa3_10 : wz10.cell? ⟨wz3.heap.size, 3, none⟩ = some (.int .i64 0) := Haz10.out.cell 3
  have la_10 : wz3.heap.size < wz10.heap.size := Haz10.out.lt
  have hcz11 := HCN.out wz10
  go_wp2_with fail
  refine hcz11.mono ?_
  rintro e wz11 ⟨rfl, kz11⟩
  clear hcz11 qb0_10 qb1_10 qb2_10 qb3_10 lb_10 qn0_10 qn1_10 qn2_10 qn3_10 ln_10 qz0_10 qz1_10 qz2_10 qz3_10 lz_10 qa0_10 qa1_10 qa2_10 qa3_10 la_10
  have HBz11 := Lib.hid (HBz10.out.trans (kz11.mono (Nat.le_trans hbase HBz10.out.size)))
  have Hbz11 := Lib.hid (Hbz10.out.call kz11)
  have Hnz11 := Lib.hid (Hnz10.out.call kz11)
  have Haz11 := Lib.hid (Haz10.out.call kz11)
  have Hzz11 := Lib.hid (Hzz10.out.call kz11)
  clear kz11
  have qb0_11 : wz11.cell? ⟨w.heap.size, 0, none⟩ = some (.int .i64 kind) := Hbz11.out.cell 0
  have qb1_11 : wz11.cell? ⟨w.heap.size, 1, none⟩ = some (.int .i64 size) := Hbz11.out.cell 1
  have qb2_11 : wz11.cell? ⟨w.heap.size, 2, none⟩ = some (.int .i64 m) := Hbz11.out.cell 2
  have qb3_11 : wz11.cell? ⟨w.heap.size, 3, none⟩ = some (.int .i64 sum) := Hbz11.out.cell 3
  have lb_11 : w.heap.size < wz11.heap.size := Hbz11.out.lt
  have qa0_11 : wz11.cell? ⟨wz3.heap.size, 0, none⟩ = some (.int .i64 0) := Haz11.out.cell 0
  have qa1_11 : wz11.cell? ⟨wz3.heap.size, 1, none⟩ = some (.int .i64 0) := Haz11.out.cell 1
  have qa2_11 : wz11.cell? ⟨wz3.heap.size, 2, none⟩ = some (.int .i64 0) := Haz11.out.cell 2
  have qa3_11 : wz11.cell? ⟨wz3.heap.size, 3, none⟩ = some (.int .i64 0) := Haz11.out.cell 3
  have la_11 : wz3.heap.size < wz11.heap.size := Haz11.out.lt
  have qz0_11 : wz11.cell? ⟨wz4.heap.size, 0, none⟩ = some (.int .i64 0) := Hzz11.out.cell 0
  have qz1_11 : wz11.cell? ⟨wz4.heap.size, 1, none⟩ = some (.int .i64 0) := Hzz11.out.cell 1
  have qz2_11 : wz11.cell? ⟨wz4.heap.size, 2, none⟩ = some (.int .i64 0) := Hzz11.out.cell 2
  have qz3_11 : wz11.cell? ⟨wz4.heap.size, 3, none⟩ = some (.int .i64 0) := Hzz11.out.cell 3
  have lz_11 : wz4.heap.size < wz11.heap.size := Hzz11.out.lt
  go_wp2
  go_ret
  exact ⟨rfl, HBz11.out⟩
set_option linter.unusedSimpArgs false in
set_option linter.unusedVariables false in
set_option maxHeartbeats 8000000 in
set_option maxRecDepth 100000 in
theorem takes16_0111 (k n kind size m sum d : Int) (w : World) (g25 : (m == 25) = true)
    (HNEW : Hid (∀ W, Calls Try.prog 7 #[.int .i64 k, .int .i64 n] W fun e w' => e = .returned (.tuple #[.agg #[.int .i64 0, .int .i64 0, .int .i64 0, .int .i64 0], .int .i64 1]) ∧ Below W.heap.size W w'))
    (HTAK : Hid (∀ W, Calls Try.prog 8 #[.agg #[.int .i64 kind, .int .i64 size, .int .i64 m, .int .i64 sum], .int .i64 d] W fun e w' => e = .returned (.tuple #[.agg #[.int .i64 0, .int .i64 0, .int .i64 0, .int .i64 0], .int .i64 11]) ∧ Below W.heap.size W w'))
    (HRI : Hid (∀ W, Calls Try.prog 9 #[.agg #[.int .i64 kind, .int .i64 size, .int .i64 m, .int .i64 sum]] W fun e w' => e = .returned (.bool true) ∧ Below W.heap.size W w'))
    (HRR : Hid (∀ W, Calls Try.prog 10 #[.agg #[.int .i64 kind, .int .i64 size, .int .i64 m, .int .i64 sum]] W fun e w' => e = .returned (.bool true) ∧ Below W.heap.size W w'))
    (HAL : Hid (∀ W, Calls Try.prog 11 #[] W fun e w' => e = .returned (.bool true) ∧ Below W.heap.size W w'))
    (HSZ : Hid (∀ W, Calls Try.prog 12 #[.int .i64 k, .int .i64 n] W fun e w' => e = .returned (.bool false) ∧ Below W.heap.size W w'))
    (HCN : Hid (∀ W, Calls Try.prog 13 #[.agg #[.int .i64 kind, .int .i64 size, .int .i64 m, .int .i64 sum], .int .i64 d] W fun e w' => e = .returned (.bool true) ∧ Below W.heap.size W w')) :
    Calls Try.prog 3 #[.int .i64 k, .int .i64 n, .agg #[.int .i64 kind, .int .i64 size, .int .i64 m, .int .i64 sum], .int .i64 d] w fun e w' => e = .returned (.bool true) ∧ Below w.heap.size w w' := by
  obtain ⟨w1, hw1⟩ : ∃ w1, w.alloc (.cells #[.int .i64 kind, .int .i64 size, .int .i64 m, .int .i64 sum] 23) = w1 := ⟨_, rfl⟩
  have HX1 := Lib.hid (show Has w1 w.heap.size [.int .i64 kind, .int .i64 size, .int .i64 m, .int .i64 sum] 23 by rw [← hw1]; exact Has.new w _ _)
  have HB1 := Lib.hid (show Below w.heap.size w w1 by rw [← hw1]; exact (Below.refl _ _).alloc (Nat.le_refl _) _)
  have HW1 := Lib.hid hw1
  have hbase := Nat.le_refl w.heap.size
  clear hw1
  go_enter Try.func3, Try.ntmps3
  go_upto_region 1 with fail
  rw [HW1.out]
  have hqt := eqTal
  have hcz1 := HNEW.out w1
  go_wp2_with fail
  refine hcz1.mono ?_
  rintro e wz1 ⟨rfl, kz1⟩
  clear hcz1
  have HBz1 := Lib.hid (HB1.out.trans (kz1.mono (Nat.le_trans hbase HB1.out.size)))
  have Hbz1 := Lib.hid (HX1.out.call kz1)
  clear kz1
  obtain ⟨wz2, hwz2⟩ : ∃ wz2, wz1.alloc (.cells #[.int .i64 0, .int .i64 0, .int .i64 0, .int .i64 0] 23) = wz2 := ⟨_, rfl⟩
  have kz2 : Below wz1.heap.size wz1 wz2 := by rw [← hwz2]; exact (Below.refl _ _).alloc (Nat.le_refl _) _
  have Hnz2 := Lib.hid (show Has wz2 wz1.heap.size [.int .i64 0, .int .i64 0, .int .i64 0, .int .i64 0] 23 by rw [← hwz2]; exact Has.new _ _ _)
  have HWz2 := Lib.hid hwz2
  clear hwz2
  have HBz2 := Lib.hid (HBz1.out.trans (kz2.mono (Nat.le_trans hbase HBz1.out.size)))
  have Hbz2 := Lib.hid (Hbz1.out.call kz2)
  clear kz2
  have qb0_2 : wz1.cell? ⟨w.heap.size, 0, none⟩ = some (.int .i64 kind) := Hbz1.out.cell 0
  have qb1_2 : wz1.cell? ⟨w.heap.size, 1, none⟩ = some (.int .i64 size) := Hbz1.out.cell 1
  have qb2_2 : wz1.cell? ⟨w.heap.size, 2, none⟩ = some (.int .i64 m) := Hbz1.out.cell 2
  have qb3_2 : wz1.cell? ⟨w.heap.size, 3, none⟩ = some (.int .i64 sum) := Hbz1.out.cell 3
  have lb_2 : w.heap.size < wz1.heap.size := Hbz1.out.lt
  have hcz3 := HTAK.out wz2
  go_wp2_with fail
  rw [HWz2.out]
  refine hcz3.mono ?_
  rintro e wz3 ⟨rfl, kz3⟩
  clear hcz3 qb0_2 qb1_2 qb2_2 qb3_2 lb_2
  have HBz3 := Lib.hid (HBz2.out.trans (kz3.mono (Nat.le_trans hbase HBz2.out.size)))
  have Hbz3 := Lib.hid (Hbz2.out.call kz3)
  have Hnz3 := Lib.hid (Hnz2.out.call kz3)
  clear kz3
  obtain ⟨wz4, hwz4⟩ : ∃ wz4, wz3.alloc (.cells #[.int .i64 0, .int .i64 0, .int .i64 0, .int .i64 0] 23) = wz4 := ⟨_, rfl⟩
  have kz4 : Below wz3.heap.size wz3 wz4 := by rw [← hwz4]; exact (Below.refl _ _).alloc (Nat.le_refl _) _
  have Haz4 := Lib.hid (show Has wz4 wz3.heap.size [.int .i64 0, .int .i64 0, .int .i64 0, .int .i64 0] 23 by rw [← hwz4]; exact Has.new _ _ _)
  have HWz4 := Lib.hid hwz4
  clear hwz4
  have HBz4 := Lib.hid (HBz3.out.trans (kz4.mono (Nat.le_trans hbase HBz3.out.size)))
  have Hbz4 := Lib.hid (Hbz3.out.call kz4)
  have Hnz4 := Lib.hid (Hnz3.out.call kz4)
  clear kz4
  go_upto_region 3 with fail
  rw [HWz4.out]
  obtain ⟨wz5, hwz5⟩ : ∃ wz5, wz4.alloc (.cells #[.int .i64 0, .int .i64 0, .int .i64 0, .int .i64 0] 23) = wz5 := ⟨_, rfl⟩
  have kz5 : Below wz4.heap.size wz4 wz5 := by rw [← hwz5]; exact (Below.refl _ _).alloc (Nat.le_refl _) _
  have Hzz5 := Lib.hid (show Has wz5 wz4.heap.size [.int .i64 0, .int .i64 0, .int .i64 0, .int .i64 0] 23 by rw [← hwz5]; exact Has.new _ _ _)
  have HWz5 := Lib.hid hwz5
  clear hwz5
  have HBz5 := Lib.hid (HBz4.out.trans (kz5.mono (Nat.le_trans hbase HBz4.out.size)))
  have Hbz5 := Lib.hid (Hbz4.out.call kz5)
  have Hnz5 := Lib.hid (Hnz4.out.call kz5)
  have Haz5 := Lib.hid (Haz4.out.call kz5)
  clear kz5
  go_upto_region 4 with fail
  rw [HWz5.out]
  refine wp_region_held_drew (S := (fun W' => W'.cell? ⟨w.heap.size, 0, none⟩ = some (.int .i64 kind) ∧ W'.cell? ⟨w.heap.size, 1, none⟩ = some (.int .i64 size) ∧ W'.cell? ⟨w.heap.size, 2, none⟩ = some (.int .i64 m) ∧ W'.cell? ⟨w.heap.size, 3, none⟩ = some (.int .i64 sum))) (by kernel_rfl) ⟨Hbz5.out.cell 0, Hbz5.out.cell 1, Hbz5.out.cell 2, Hbz5.out.cell 3⟩ (fun hHeld => ?_)
  refine regTake 0 (some 27) (v := ?_) rfl rfl (by kernel_rfl) (by kernel_rfl) (by kernel_rfl) (fun _ _ _ h => h) (by rfl) hHeld ?_ ?_
  rotate_left 1
  · (intro w hSw; (try dsimp only at hSw); go_simp; try with_reducible rfl)
  simp only [Act.put, List.setIfInBounds_toArray, List.set_cons_zero, List.set_cons_succ]
  refine regTake 2 (some 29) (v := ?_) rfl rfl (by kernel_rfl) (by kernel_rfl) (by kernel_rfl) (fun _ _ _ h => h) (by rfl) hHeld ?_ ?_
  rotate_left 1
  · (intro w hSw; (try dsimp only at hSw); go_simp; try with_reducible rfl)
  simp only [Act.put, List.setIfInBounds_toArray, List.set_cons_zero, List.set_cons_succ]
  refine regCall 1 (some 28) (f := 9) (args := ?_) rfl rfl (by kernel_rfl) (by rfl) ?_ ?_
  rotate_left 1
  · (go_simp; try with_reducible rfl)
  refine (HRI.out _).mono ?_
  rintro e wx1 ⟨rfl, kg6⟩
  refine ⟨_, rfl, ⟨(Hbz5.out.step kg6 rfl).cell 0, (Hbz5.out.step kg6 rfl).cell 1, (Hbz5.out.step kg6 rfl).cell 2, (Hbz5.out.step kg6 rfl).cell 3⟩, fun hHeld => ?_⟩
  simp only [Act.put, List.setIfInBounds_toArray, List.set_cons_zero, List.set_cons_succ]
  have HBg6 := Lib.hid ((HBz5.out.drew).trans (kg6.mono (Nat.le_trans hbase (HBz5.out.drew).size)))
  have Hbg6 := Lib.hid (Hbz5.out.step kg6 rfl)
  have Hng6 := Lib.hid (Hnz5.out.step kg6 rfl)
  have Hag6 := Lib.hid (Haz5.out.step kg6 rfl)
  have Hzg6 := Lib.hid (Hzz5.out.step kg6 rfl)
  clear kg6
  refine regCall 3 (some 30) (f := 10) (args := ?_) rfl rfl (by kernel_rfl) (by rfl) ?_ ?_
  rotate_left 1
  · (go_simp; try with_reducible rfl)
  refine (HRR.out _).mono ?_
  rintro e wx3 ⟨rfl, kg7⟩
  refine ⟨_, rfl, ⟨(Hbg6.out.step kg7 rfl).cell 0, (Hbg6.out.step kg7 rfl).cell 1, (Hbg6.out.step kg7 rfl).cell 2, (Hbg6.out.step kg7 rfl).cell 3⟩, fun hHeld => ?_⟩
  simp only [Act.put, List.setIfInBounds_toArray, List.set_cons_zero, List.set_cons_succ]
  have HBg7 := Lib.hid ((HBg6.out).trans (kg7.mono (Nat.le_trans hbase (HBg6.out).size)))
  have Hbg7 := Lib.hid (Hbg6.out.step kg7 rfl)
  have Hng7 := Lib.hid (Hng6.out.step kg7 rfl)
  have Hag7 := Lib.hid (Hag6.out.step kg7 rfl)
  have Hzg7 := Lib.hid (Hzg6.out.step kg7 rfl)
  clear kg7
  refine regTake 4 (some 31) (v := ?_) rfl rfl (by kernel_rfl) (by kernel_rfl) (by kernel_rfl) (fun _ _ _ h => h) (by rfl) hHeld ?_ ?_
  rotate_left 1
  · (intro w hSw; (try dsimp only at hSw); go_simp; try with_reducible rfl)
  simp only [Act.put, List.setIfInBounds_toArray, List.set_cons_zero, List.set_cons_succ]
  refine regTake 5 (some 32) (v := ?_) rfl rfl (by kernel_rfl) (by kernel_rfl) (by kernel_rfl) (fun _ _ _ h => h) (by rfl) hHeld ?_ ?_
  rotate_left 1
  · (intro w hSw; (try dsimp only at hSw); go_simp; try with_reducible rfl)
  simp only [Act.put, List.setIfInBounds_toArray, List.set_cons_zero, List.set_cons_succ]
  refine regCall 6 (some 33) (f := 11) (args := ?_) rfl rfl (by kernel_rfl) (by rfl) ?_ ?_
  rotate_left 1
  · (go_simp; try with_reducible rfl)
  refine (HAL.out _).mono ?_
  rintro e wx6 ⟨rfl, kg8⟩
  refine ⟨_, rfl, ⟨(Hbg7.out.step kg8 rfl).cell 0, (Hbg7.out.step kg8 rfl).cell 1, (Hbg7.out.step kg8 rfl).cell 2, (Hbg7.out.step kg8 rfl).cell 3⟩, fun hHeld => ?_⟩
  simp only [Act.put, List.setIfInBounds_toArray, List.set_cons_zero, List.set_cons_succ]
  have HBg8 := Lib.hid ((HBg7.out).trans (kg8.mono (Nat.le_trans hbase (HBg7.out).size)))
  have Hbg8 := Lib.hid (Hbg7.out.step kg8 rfl)
  have Hng8 := Lib.hid (Hng7.out.step kg8 rfl)
  have Hag8 := Lib.hid (Hag7.out.step kg8 rfl)
  have Hzg8 := Lib.hid (Hzg7.out.step kg8 rfl)
  clear kg8
  refine regTake 7 (some 34) (v := ?_) rfl rfl (by kernel_rfl) (by kernel_rfl) (by kernel_rfl) (fun _ _ _ h => h) (by rfl) hHeld ?_ ?_
  rotate_left 1
  · (intro w hSw; (try dsimp only at hSw); go_simp; try with_reducible rfl)
  simp only [Act.put, List.setIfInBounds_toArray, List.set_cons_zero, List.set_cons_succ]
  refine regTake 8 (some 35) (v := ?_) rfl rfl (by kernel_rfl) (by kernel_rfl) (by kernel_rfl) (fun _ _ _ h => h) (by rfl) hHeld ?_ ?_
  rotate_left 1
  · (intro w hSw; (try dsimp only at hSw); go_simp; try with_reducible rfl)
  simp only [Act.put, List.setIfInBounds_toArray, List.set_cons_zero, List.set_cons_succ]
  refine wpAnyH_done (by kernel_rfl) ?_ _
  clear hHeld
  have qn0_8 : wx6.cell? ⟨wz1.heap.size, 0, none⟩ = some (.int .i64 0) := Hng8.out.cell 0
  have qn1_8 : wx6.cell? ⟨wz1.heap.size, 1, none⟩ = some (.int .i64 0) := Hng8.out.cell 1
  have qn2_8 : wx6.cell? ⟨wz1.heap.size, 2, none⟩ = some (.int .i64 0) := Hng8.out.cell 2
  have qn3_8 : wx6.cell? ⟨wz1.heap.size, 3, none⟩ = some (.int .i64 0) := Hng8.out.cell 3
  have ln_8 : wz1.heap.size < wx6.heap.size := Hng8.out.lt
  have qz0_8 : wx6.cell? ⟨wz4.heap.size, 0, none⟩ = some (.int .i64 0) := Hzg8.out.cell 0
  have qz1_8 : wx6.cell? ⟨wz4.heap.size, 1, none⟩ = some (.int .i64 0) := Hzg8.out.cell 1
  have qz2_8 : wx6.cell? ⟨wz4.heap.size, 2, none⟩ = some (.int .i64 0) := Hzg8.out.cell 2
  have qz3_8 : wx6.cell? ⟨wz4.heap.size, 3, none⟩ = some (.int .i64 0) := Hzg8.out.cell 3
  have lz_8 : wz4.heap.size < wx6.heap.size := Hzg8.out.lt
  have hcz9 := HSZ.out wx6
  go_wp2_with fail
  refine hcz9.mono ?_
  rintro e wz9 ⟨rfl, kz9⟩
  clear hcz9 qn0_8 qn1_8 qn2_8 qn3_8 ln_8 qz0_8 qz1_8 qz2_8 qz3_8 lz_8
  have HBz9 := Lib.hid (HBg8.out.trans (kz9.mono (Nat.le_trans hbase HBg8.out.size)))
  have Hbz9 := Lib.hid (Hbg8.out.call kz9)
  have Hnz9 := Lib.hid (Hng8.out.call kz9)
  have Haz9 := Lib.hid (Hag8.out.call kz9)
  have Hzz9 := Lib.hid (Hzg8.out.call kz9)
  clear kz9
  have qb0_9 : wz9.cell? ⟨w.heap.size, 0, none⟩ = some (.int .i64 kind) := Hbz9.out.cell 0
  have qb1_9 : wz9.cell? ⟨w.heap.size, 1, none⟩ = some (.int .i64 size) := Hbz9.out.cell 1
  have qb2_9 : wz9.cell? ⟨w.heap.size, 2, none⟩ = some (.int .i64 m) := Hbz9.out.cell 2
  have qb3_9 : wz9.cell? ⟨w.heap.size, 3, none⟩ = some (.int .i64 sum) := Hbz9.out.cell 3
  have lb_9 : w.heap.size < wz9.heap.size := Hbz9.out.lt
  have qn0_9 : wz9.cell? ⟨wz1.heap.size, 0, none⟩ = some (.int .i64 0) := Hnz9.out.cell 0
  have qn1_9 : wz9.cell? ⟨wz1.heap.size, 1, none⟩ = some (.int .i64 0) := Hnz9.out.cell 1
  have qn2_9 : wz9.cell? ⟨wz1.heap.size, 2, none⟩ = some (.int .i64 0) := Hnz9.out.cell 2
  have qn3_9 : wz9.cell? ⟨wz1.heap.size, 3, none⟩ = some (.int .i64 0) := Hnz9.out.cell 3
  have ln_9 : wz1.heap.size < wz9.heap.size := Hnz9.out.lt
  have qz0_9 : wz9.cell? ⟨wz4.heap.size, 0, none⟩ = some (.int .i64 0) := Hzz9.out.cell 0
  have qz1_9 : wz9.cell? ⟨wz4.heap.size, 1, none⟩ = some (.int .i64 0) := Hzz9.out.cell 1
  have qz2_9 : wz9.cell? ⟨wz4.heap.size, 2, none⟩ = some (.int .i64 0) := Hzz9.out.cell 2
  have qz3_9 : wz9.cell? ⟨wz4.heap.size, 3, none⟩ = some (.int .i64 0) := Hzz9.out.cell 3
  have lz_9 : wz4.heap.size < wz9.heap.size := Hzz9.out.lt
  have hcz10 := HRR.out wz9
  go_wp2_with fail
  refine hcz10.mono ?_
  rintro e wz10 ⟨rfl, kz10⟩
  clear hcz10 qb0_9 qb1_9 qb2_9 qb3_9 lb_9 qn0_9 qn1_9 qn2_9 qn3_9 ln_9 qz0_9 qz1_9 qz2_9 qz3_9 lz_9
  have HBz10 := Lib.hid (HBz9.out.trans (kz10.mono (Nat.le_trans hbase HBz9.out.size)))
  have Hbz10 := Lib.hid (Hbz9.out.call kz10)
  have Hnz10 := Lib.hid (Hnz9.out.call kz10)
  have Haz10 := Lib.hid (Haz9.out.call kz10)
  have Hzz10 := Lib.hid (Hzz9.out.call kz10)
  clear kz10
  have qb0_10 : wz10.cell? ⟨w.heap.size, 0, none⟩ = some (.int .i64 kind) := Hbz10.out.cell 0
  have qb1_10 : wz10.cell? ⟨w.heap.size, 1, none⟩ = some (.int .i64 size) := Hbz10.out.cell 1
  have qb2_10 : wz10.cell? ⟨w.heap.size, 2, none⟩ = some (.int .i64 m) := Hbz10.out.cell 2
  have qb3_10 : wz10.cell? ⟨w.heap.size, 3, none⟩ = some (.int .i64 sum) := Hbz10.out.cell 3
  have lb_10 : w.heap.size < wz10.heap.size := Hbz10.out.lt
  have qn0_10 : wz10.cell? ⟨wz1.heap.size, 0, none⟩ = some (.int .i64 0) := Hnz10.out.cell 0
  have qn1_10 : wz10.cell? ⟨wz1.heap.size, 1, none⟩ = some (.int .i64 0) := Hnz10.out.cell 1
  have qn2_10 : wz10.cell? ⟨wz1.heap.size, 2, none⟩ = some (.int .i64 0) := Hnz10.out.cell 2
  have qn3_10 : wz10.cell? ⟨wz1.heap.size, 3, none⟩ = some (.int .i64 0) := Hnz10.out.cell 3
  have ln_10 : wz1.heap.size < wz10.heap.size := Hnz10.out.lt
  have qz0_10 : wz10.cell? ⟨wz4.heap.size, 0, none⟩ = some (.int .i64 0) := Hzz10.out.cell 0
  have qz1_10 : wz10.cell? ⟨wz4.heap.size, 1, none⟩ = some (.int .i64 0) := Hzz10.out.cell 1
  have qz2_10 : wz10.cell? ⟨wz4.heap.size, 2, none⟩ = some (.int .i64 0) := Hzz10.out.cell 2
  have qz3_10 : wz10.cell? ⟨wz4.heap.size, 3, none⟩ = some (.int .i64 0) := Hzz10.out.cell 3
  have lz_10 : wz4.heap.size < wz10.heap.size := Hzz10.out.lt
  have qa0_10 : wz10.cell? ⟨wz3.heap.size, 0, none⟩ = some (.int .i64 0) := Haz10.out.cell 0
  have qa1_10 : wz10.cell? ⟨wz3.heap.size, 1, none⟩ = some (.int .i64 0) := Haz10.out.cell 1
  have qa2_10 : wz10.cell? ⟨wz3.heap.size, 2, none⟩ = some (.int .i64 0) := Haz10.out.cell 2
  have qa3_10 : wz10.cell? ⟨wz3.heap.size, 3, none⟩ = some (.int .i64 0) := Haz10.out.cell 3
  have la_10 : wz3.heap.size < wz10.heap.size := Haz10.out.lt
  have hcz11 := HCN.out wz10
  go_wp2_with fail
  refine hcz11.mono ?_
  rintro e wz11 ⟨rfl, kz11⟩
  clear hcz11 qb0_10 qb1_10 qb2_10 qb3_10 lb_10 qn0_10 qn1_10 qn2_10 qn3_10 ln_10 qz0_10 qz1_10 qz2_10 qz3_10 lz_10 qa0_10 qa1_10 qa2_10 qa3_10 la_10
  have HBz11 := Lib.hid (HBz10.out.trans (kz11.mono (Nat.le_trans hbase HBz10.out.size)))
  have Hbz11 := Lib.hid (Hbz10.out.call kz11)
  have Hnz11 := Lib.hid (Hnz10.out.call kz11)
  have Haz11 := Lib.hid (Haz10.out.call kz11)
  have Hzz11 := Lib.hid (Hzz10.out.call kz11)
  clear kz11
  have qb0_11 : wz11.cell? ⟨w.heap.size, 0, none⟩ = some (.int .i64 kind) := Hbz11.out.cell 0
  have qb1_11 : wz11.cell? ⟨w.heap.size, 1, none⟩ = some (.int .i64 size) := Hbz11.out.cell 1
  have qb2_11 : wz11.cell? ⟨w.heap.size, 2, none⟩ = some (.int .i64 m) := Hbz11.out.cell 2
  have qb3_11 : wz11.cell? ⟨w.heap.size, 3, none⟩ = some (.int .i64 sum) := Hbz11.out.cell 3
  have lb_11 : w.heap.size < wz11.heap.size := Hbz11.out.lt
  have qa0_11 : wz11.cell? ⟨wz3.heap.size, 0, none⟩ = some (.int .i64 0) := Haz11.out.cell 0
  have qa1_11 : wz11.cell? ⟨wz3.heap.size, 1, none⟩ = some (.int .i64 0) := Haz11.out.cell 1
  have qa2_11 : wz11.cell? ⟨wz3.heap.size, 2, none⟩ = some (.int .i64 0) := Haz11.out.cell 2
  have qa3_11 : wz11.cell? ⟨wz3.heap.size, 3, none⟩ = some (.int .i64 0) := Haz11.out.cell 3
  have la_11 : wz3.heap.size < wz11.heap.size := Haz11.out.lt
  have qz0_11 : wz11.cell? ⟨wz4.heap.size, 0, none⟩ = some (.int .i64 0) := Hzz11.out.cell 0
  have qz1_11 : wz11.cell? ⟨wz4.heap.size, 1, none⟩ = some (.int .i64 0) := Hzz11.out.cell 1
  have qz2_11 : wz11.cell? ⟨wz4.heap.size, 2, none⟩ = some (.int .i64 0) := Hzz11.out.cell 2
  have qz3_11 : wz11.cell? ⟨wz4.heap.size, 3, none⟩ = some (.int .i64 0) := Hzz11.out.cell 3
  have lz_11 : wz4.heap.size < wz11.heap.size := Hzz11.out.lt
  go_wp2
  go_ret
  exact ⟨rfl, HBz11.out⟩
set_option linter.unusedSimpArgs false in
set_option linter.unusedVariables false in
set_option maxHeartbeats 8000000 in
set_option maxRecDepth 100000 in
theorem takes16_0110 (k n kind size m sum d ta tb tc td : Int) (w : World) (g25 : (m == 25) = false)
    (HNEW : Hid (∀ W, Calls Try.prog 7 #[.int .i64 k, .int .i64 n] W fun e w' => e = .returned (.tuple #[.agg #[.int .i64 0, .int .i64 0, .int .i64 0, .int .i64 0], .int .i64 1]) ∧ Below W.heap.size W w'))
    (HTAK : Hid (∀ W, Calls Try.prog 8 #[.agg #[.int .i64 kind, .int .i64 size, .int .i64 m, .int .i64 sum], .int .i64 d] W fun e w' => e = .returned (.tuple #[.agg #[.int .i64 ta, .int .i64 tb, .int .i64 tc, .int .i64 td], .int .i64 0]) ∧ Below W.heap.size W w'))
    (HRI : Hid (∀ W, Calls Try.prog 9 #[.agg #[.int .i64 kind, .int .i64 size, .int .i64 m, .int .i64 sum]] W fun e w' => e = .returned (.bool true) ∧ Below W.heap.size W w'))
    (HRR : Hid (∀ W, Calls Try.prog 10 #[.agg #[.int .i64 kind, .int .i64 size, .int .i64 m, .int .i64 sum]] W fun e w' => e = .returned (.bool true) ∧ Below W.heap.size W w'))
    (HAL : Hid (∀ W, Calls Try.prog 11 #[] W fun e w' => e = .returned (.bool true) ∧ Below W.heap.size W w'))
    (HSZ : Hid (∀ W, Calls Try.prog 12 #[.int .i64 k, .int .i64 n] W fun e w' => e = .returned (.bool false) ∧ Below W.heap.size W w'))
    (HCN : Hid (∀ W, Calls Try.prog 13 #[.agg #[.int .i64 kind, .int .i64 size, .int .i64 m, .int .i64 sum], .int .i64 d] W fun e w' => e = .returned (.bool true) ∧ Below W.heap.size W w'))
    (HRT : Hid (∀ W, Calls Try.prog 14 #[.agg #[.int .i64 kind, .int .i64 size, .int .i64 m, .int .i64 sum], .int .i64 d] W fun e w' => e = .returned (.agg #[.int .i64 ta, .int .i64 tb, .int .i64 tc, .int .i64 td]) ∧ Below W.heap.size W w')) :
    Calls Try.prog 3 #[.int .i64 k, .int .i64 n, .agg #[.int .i64 kind, .int .i64 size, .int .i64 m, .int .i64 sum], .int .i64 d] w fun e w' => e = .returned (.bool true) ∧ Below w.heap.size w w' := by
  obtain ⟨w1, hw1⟩ : ∃ w1, w.alloc (.cells #[.int .i64 kind, .int .i64 size, .int .i64 m, .int .i64 sum] 23) = w1 := ⟨_, rfl⟩
  have HX1 := Lib.hid (show Has w1 w.heap.size [.int .i64 kind, .int .i64 size, .int .i64 m, .int .i64 sum] 23 by rw [← hw1]; exact Has.new w _ _)
  have HB1 := Lib.hid (show Below w.heap.size w w1 by rw [← hw1]; exact (Below.refl _ _).alloc (Nat.le_refl _) _)
  have HW1 := Lib.hid hw1
  have hbase := Nat.le_refl w.heap.size
  clear hw1
  go_enter Try.func3, Try.ntmps3
  go_upto_region 1 with fail
  rw [HW1.out]
  have hqt := eqTal
  have hcz1 := HNEW.out w1
  go_wp2_with fail
  refine hcz1.mono ?_
  rintro e wz1 ⟨rfl, kz1⟩
  clear hcz1
  have HBz1 := Lib.hid (HB1.out.trans (kz1.mono (Nat.le_trans hbase HB1.out.size)))
  have Hbz1 := Lib.hid (HX1.out.call kz1)
  clear kz1
  obtain ⟨wz2, hwz2⟩ : ∃ wz2, wz1.alloc (.cells #[.int .i64 0, .int .i64 0, .int .i64 0, .int .i64 0] 23) = wz2 := ⟨_, rfl⟩
  have kz2 : Below wz1.heap.size wz1 wz2 := by rw [← hwz2]; exact (Below.refl _ _).alloc (Nat.le_refl _) _
  have Hnz2 := Lib.hid (show Has wz2 wz1.heap.size [.int .i64 0, .int .i64 0, .int .i64 0, .int .i64 0] 23 by rw [← hwz2]; exact Has.new _ _ _)
  have HWz2 := Lib.hid hwz2
  clear hwz2
  have HBz2 := Lib.hid (HBz1.out.trans (kz2.mono (Nat.le_trans hbase HBz1.out.size)))
  have Hbz2 := Lib.hid (Hbz1.out.call kz2)
  clear kz2
  have qb0_2 : wz1.cell? ⟨w.heap.size, 0, none⟩ = some (.int .i64 kind) := Hbz1.out.cell 0
  have qb1_2 : wz1.cell? ⟨w.heap.size, 1, none⟩ = some (.int .i64 size) := Hbz1.out.cell 1
  have qb2_2 : wz1.cell? ⟨w.heap.size, 2, none⟩ = some (.int .i64 m) := Hbz1.out.cell 2
  have qb3_2 : wz1.cell? ⟨w.heap.size, 3, none⟩ = some (.int .i64 sum) := Hbz1.out.cell 3
  have lb_2 : w.heap.size < wz1.heap.size := Hbz1.out.lt
  have hcz3 := HTAK.out wz2
  go_wp2_with fail
  rw [HWz2.out]
  refine hcz3.mono ?_
  rintro e wz3 ⟨rfl, kz3⟩
  clear hcz3 qb0_2 qb1_2 qb2_2 qb3_2 lb_2
  have HBz3 := Lib.hid (HBz2.out.trans (kz3.mono (Nat.le_trans hbase HBz2.out.size)))
  have Hbz3 := Lib.hid (Hbz2.out.call kz3)
  have Hnz3 := Lib.hid (Hnz2.out.call kz3)
  clear kz3
  obtain ⟨wz4, hwz4⟩ : ∃ wz4, wz3.alloc (.cells #[.int .i64 ta, .int .i64 tb, .int .i64 tc, .int .i64 td] 23) = wz4 := ⟨_, rfl⟩
  have kz4 : Below wz3.heap.size wz3 wz4 := by rw [← hwz4]; exact (Below.refl _ _).alloc (Nat.le_refl _) _
  have Haz4 := Lib.hid (show Has wz4 wz3.heap.size [.int .i64 ta, .int .i64 tb, .int .i64 tc, .int .i64 td] 23 by rw [← hwz4]; exact Has.new _ _ _)
  have HWz4 := Lib.hid hwz4
  clear hwz4
  have HBz4 := Lib.hid (HBz3.out.trans (kz4.mono (Nat.le_trans hbase HBz3.out.size)))
  have Hbz4 := Lib.hid (Hbz3.out.call kz4)
  have Hnz4 := Lib.hid (Hnz3.out.call kz4)
  clear kz4
  go_upto_region 3 with fail
  rw [HWz4.out]
  obtain ⟨wz5, hwz5⟩ : ∃ wz5, wz4.alloc (.cells #[.int .i64 0, .int .i64 0, .int .i64 0, .int .i64 0] 23) = wz5 := ⟨_, rfl⟩
  have kz5 : Below wz4.heap.size wz4 wz5 := by rw [← hwz5]; exact (Below.refl _ _).alloc (Nat.le_refl _) _
  have Hzz5 := Lib.hid (show Has wz5 wz4.heap.size [.int .i64 0, .int .i64 0, .int .i64 0, .int .i64 0] 23 by rw [← hwz5]; exact Has.new _ _ _)
  have HWz5 := Lib.hid hwz5
  clear hwz5
  have HBz5 := Lib.hid (HBz4.out.trans (kz5.mono (Nat.le_trans hbase HBz4.out.size)))
  have Hbz5 := Lib.hid (Hbz4.out.call kz5)
  have Hnz5 := Lib.hid (Hnz4.out.call kz5)
  have Haz5 := Lib.hid (Haz4.out.call kz5)
  clear kz5
  go_upto_region 4 with fail
  rw [HWz5.out]
  refine wp_region_held_drew (S := (fun W' => W'.cell? ⟨w.heap.size, 0, none⟩ = some (.int .i64 kind) ∧ W'.cell? ⟨w.heap.size, 1, none⟩ = some (.int .i64 size) ∧ W'.cell? ⟨w.heap.size, 2, none⟩ = some (.int .i64 m) ∧ W'.cell? ⟨w.heap.size, 3, none⟩ = some (.int .i64 sum))) (by kernel_rfl) ⟨Hbz5.out.cell 0, Hbz5.out.cell 1, Hbz5.out.cell 2, Hbz5.out.cell 3⟩ (fun hHeld => ?_)
  refine regTake 0 (some 27) (v := ?_) rfl rfl (by kernel_rfl) (by kernel_rfl) (by kernel_rfl) (fun _ _ _ h => h) (by rfl) hHeld ?_ ?_
  rotate_left 1
  · (intro w hSw; (try dsimp only at hSw); go_simp; try with_reducible rfl)
  simp only [Act.put, List.setIfInBounds_toArray, List.set_cons_zero, List.set_cons_succ]
  refine regTake 2 (some 29) (v := ?_) rfl rfl (by kernel_rfl) (by kernel_rfl) (by kernel_rfl) (fun _ _ _ h => h) (by rfl) hHeld ?_ ?_
  rotate_left 1
  · (intro w hSw; (try dsimp only at hSw); go_simp; try with_reducible rfl)
  simp only [Act.put, List.setIfInBounds_toArray, List.set_cons_zero, List.set_cons_succ]
  refine regCall 1 (some 28) (f := 9) (args := ?_) rfl rfl (by kernel_rfl) (by rfl) ?_ ?_
  rotate_left 1
  · (go_simp; try with_reducible rfl)
  refine (HRI.out _).mono ?_
  rintro e wx1 ⟨rfl, kg6⟩
  refine ⟨_, rfl, ⟨(Hbz5.out.step kg6 rfl).cell 0, (Hbz5.out.step kg6 rfl).cell 1, (Hbz5.out.step kg6 rfl).cell 2, (Hbz5.out.step kg6 rfl).cell 3⟩, fun hHeld => ?_⟩
  simp only [Act.put, List.setIfInBounds_toArray, List.set_cons_zero, List.set_cons_succ]
  have HBg6 := Lib.hid ((HBz5.out.drew).trans (kg6.mono (Nat.le_trans hbase (HBz5.out.drew).size)))
  have Hbg6 := Lib.hid (Hbz5.out.step kg6 rfl)
  have Hng6 := Lib.hid (Hnz5.out.step kg6 rfl)
  have Hag6 := Lib.hid (Haz5.out.step kg6 rfl)
  have Hzg6 := Lib.hid (Hzz5.out.step kg6 rfl)
  clear kg6
  refine regCall 3 (some 30) (f := 10) (args := ?_) rfl rfl (by kernel_rfl) (by rfl) ?_ ?_
  rotate_left 1
  · (go_simp; try with_reducible rfl)
  refine (HRR.out _).mono ?_
  rintro e wx3 ⟨rfl, kg7⟩
  refine ⟨_, rfl, ⟨(Hbg6.out.step kg7 rfl).cell 0, (Hbg6.out.step kg7 rfl).cell 1, (Hbg6.out.step kg7 rfl).cell 2, (Hbg6.out.step kg7 rfl).cell 3⟩, fun hHeld => ?_⟩
  simp only [Act.put, List.setIfInBounds_toArray, List.set_cons_zero, List.set_cons_succ]
  have HBg7 := Lib.hid ((HBg6.out).trans (kg7.mono (Nat.le_trans hbase (HBg6.out).size)))
  have Hbg7 := Lib.hid (Hbg6.out.step kg7 rfl)
  have Hng7 := Lib.hid (Hng6.out.step kg7 rfl)
  have Hag7 := Lib.hid (Hag6.out.step kg7 rfl)
  have Hzg7 := Lib.hid (Hzg6.out.step kg7 rfl)
  clear kg7
  refine regTake 4 (some 31) (v := ?_) rfl rfl (by kernel_rfl) (by kernel_rfl) (by kernel_rfl) (fun _ _ _ h => h) (by rfl) hHeld ?_ ?_
  rotate_left 1
  · (intro w hSw; (try dsimp only at hSw); go_simp; try with_reducible rfl)
  simp only [Act.put, List.setIfInBounds_toArray, List.set_cons_zero, List.set_cons_succ]
  refine regTake 5 (some 32) (v := ?_) rfl rfl (by kernel_rfl) (by kernel_rfl) (by kernel_rfl) (fun _ _ _ h => h) (by rfl) hHeld ?_ ?_
  rotate_left 1
  · (intro w hSw; (try dsimp only at hSw); go_simp; try with_reducible rfl)
  simp only [Act.put, List.setIfInBounds_toArray, List.set_cons_zero, List.set_cons_succ]
  refine regCall 6 (some 33) (f := 11) (args := ?_) rfl rfl (by kernel_rfl) (by rfl) ?_ ?_
  rotate_left 1
  · (go_simp; try with_reducible rfl)
  refine (HAL.out _).mono ?_
  rintro e wx6 ⟨rfl, kg8⟩
  refine ⟨_, rfl, ⟨(Hbg7.out.step kg8 rfl).cell 0, (Hbg7.out.step kg8 rfl).cell 1, (Hbg7.out.step kg8 rfl).cell 2, (Hbg7.out.step kg8 rfl).cell 3⟩, fun hHeld => ?_⟩
  simp only [Act.put, List.setIfInBounds_toArray, List.set_cons_zero, List.set_cons_succ]
  have HBg8 := Lib.hid ((HBg7.out).trans (kg8.mono (Nat.le_trans hbase (HBg7.out).size)))
  have Hbg8 := Lib.hid (Hbg7.out.step kg8 rfl)
  have Hng8 := Lib.hid (Hng7.out.step kg8 rfl)
  have Hag8 := Lib.hid (Hag7.out.step kg8 rfl)
  have Hzg8 := Lib.hid (Hzg7.out.step kg8 rfl)
  clear kg8
  refine regTake 7 (some 34) (v := ?_) rfl rfl (by kernel_rfl) (by kernel_rfl) (by kernel_rfl) (fun _ _ _ h => h) (by rfl) hHeld ?_ ?_
  rotate_left 1
  · (intro w hSw; (try dsimp only at hSw); go_simp; try with_reducible rfl)
  simp only [Act.put, List.setIfInBounds_toArray, List.set_cons_zero, List.set_cons_succ]
  refine regTake 8 (some 35) (v := ?_) rfl rfl (by kernel_rfl) (by kernel_rfl) (by kernel_rfl) (fun _ _ _ h => h) (by rfl) hHeld ?_ ?_
  rotate_left 1
  · (intro w hSw; (try dsimp only at hSw); go_simp; try with_reducible rfl)
  simp only [Act.put, List.setIfInBounds_toArray, List.set_cons_zero, List.set_cons_succ]
  refine wpAnyH_done (by kernel_rfl) ?_ _
  clear hHeld
  have qn0_8 : wx6.cell? ⟨wz1.heap.size, 0, none⟩ = some (.int .i64 0) := Hng8.out.cell 0
  have qn1_8 : wx6.cell? ⟨wz1.heap.size, 1, none⟩ = some (.int .i64 0) := Hng8.out.cell 1
  have qn2_8 : wx6.cell? ⟨wz1.heap.size, 2, none⟩ = some (.int .i64 0) := Hng8.out.cell 2
  have qn3_8 : wx6.cell? ⟨wz1.heap.size, 3, none⟩ = some (.int .i64 0) := Hng8.out.cell 3
  have ln_8 : wz1.heap.size < wx6.heap.size := Hng8.out.lt
  have qz0_8 : wx6.cell? ⟨wz4.heap.size, 0, none⟩ = some (.int .i64 0) := Hzg8.out.cell 0
  have qz1_8 : wx6.cell? ⟨wz4.heap.size, 1, none⟩ = some (.int .i64 0) := Hzg8.out.cell 1
  have qz2_8 : wx6.cell? ⟨wz4.heap.size, 2, none⟩ = some (.int .i64 0) := Hzg8.out.cell 2
  have qz3_8 : wx6.cell? ⟨wz4.heap.size, 3, none⟩ = some (.int .i64 0) := Hzg8.out.cell 3
  have lz_8 : wz4.heap.size < wx6.heap.size := Hzg8.out.lt
  have hcz9 := HSZ.out wx6
  go_wp2_with fail
  refine hcz9.mono ?_
  rintro e wz9 ⟨rfl, kz9⟩
  clear hcz9 qn0_8 qn1_8 qn2_8 qn3_8 ln_8 qz0_8 qz1_8 qz2_8 qz3_8 lz_8
  have HBz9 := Lib.hid (HBg8.out.trans (kz9.mono (Nat.le_trans hbase HBg8.out.size)))
  have Hbz9 := Lib.hid (Hbg8.out.call kz9)
  have Hnz9 := Lib.hid (Hng8.out.call kz9)
  have Haz9 := Lib.hid (Hag8.out.call kz9)
  have Hzz9 := Lib.hid (Hzg8.out.call kz9)
  clear kz9
  have qb0_9 : wz9.cell? ⟨w.heap.size, 0, none⟩ = some (.int .i64 kind) := Hbz9.out.cell 0
  have qb1_9 : wz9.cell? ⟨w.heap.size, 1, none⟩ = some (.int .i64 size) := Hbz9.out.cell 1
  have qb2_9 : wz9.cell? ⟨w.heap.size, 2, none⟩ = some (.int .i64 m) := Hbz9.out.cell 2
  have qb3_9 : wz9.cell? ⟨w.heap.size, 3, none⟩ = some (.int .i64 sum) := Hbz9.out.cell 3
  have lb_9 : w.heap.size < wz9.heap.size := Hbz9.out.lt
  have qn0_9 : wz9.cell? ⟨wz1.heap.size, 0, none⟩ = some (.int .i64 0) := Hnz9.out.cell 0
  have qn1_9 : wz9.cell? ⟨wz1.heap.size, 1, none⟩ = some (.int .i64 0) := Hnz9.out.cell 1
  have qn2_9 : wz9.cell? ⟨wz1.heap.size, 2, none⟩ = some (.int .i64 0) := Hnz9.out.cell 2
  have qn3_9 : wz9.cell? ⟨wz1.heap.size, 3, none⟩ = some (.int .i64 0) := Hnz9.out.cell 3
  have ln_9 : wz1.heap.size < wz9.heap.size := Hnz9.out.lt
  have qz0_9 : wz9.cell? ⟨wz4.heap.size, 0, none⟩ = some (.int .i64 0) := Hzz9.out.cell 0
  have qz1_9 : wz9.cell? ⟨wz4.heap.size, 1, none⟩ = some (.int .i64 0) := Hzz9.out.cell 1
  have qz2_9 : wz9.cell? ⟨wz4.heap.size, 2, none⟩ = some (.int .i64 0) := Hzz9.out.cell 2
  have qz3_9 : wz9.cell? ⟨wz4.heap.size, 3, none⟩ = some (.int .i64 0) := Hzz9.out.cell 3
  have lz_9 : wz4.heap.size < wz9.heap.size := Hzz9.out.lt
  have hcz10 := HRR.out wz9
  go_wp2_with fail
  refine hcz10.mono ?_
  rintro e wz10 ⟨rfl, kz10⟩
  clear hcz10 qb0_9 qb1_9 qb2_9 qb3_9 lb_9 qn0_9 qn1_9 qn2_9 qn3_9 ln_9 qz0_9 qz1_9 qz2_9 qz3_9 lz_9
  have HBz10 := Lib.hid (HBz9.out.trans (kz10.mono (Nat.le_trans hbase HBz9.out.size)))
  have Hbz10 := Lib.hid (Hbz9.out.call kz10)
  have Hnz10 := Lib.hid (Hnz9.out.call kz10)
  have Haz10 := Lib.hid (Haz9.out.call kz10)
  have Hzz10 := Lib.hid (Hzz9.out.call kz10)
  clear kz10
  have qb0_10 : wz10.cell? ⟨w.heap.size, 0, none⟩ = some (.int .i64 kind) := Hbz10.out.cell 0
  have qb1_10 : wz10.cell? ⟨w.heap.size, 1, none⟩ = some (.int .i64 size) := Hbz10.out.cell 1
  have qb2_10 : wz10.cell? ⟨w.heap.size, 2, none⟩ = some (.int .i64 m) := Hbz10.out.cell 2
  have qb3_10 : wz10.cell? ⟨w.heap.size, 3, none⟩ = some (.int .i64 sum) := Hbz10.out.cell 3
  have lb_10 : w.heap.size < wz10.heap.size := Hbz10.out.lt
  have qn0_10 : wz10.cell? ⟨wz1.heap.size, 0, none⟩ = some (.int .i64 0) := Hnz10.out.cell 0
  have qn1_10 : wz10.cell? ⟨wz1.heap.size, 1, none⟩ = some (.int .i64 0) := Hnz10.out.cell 1
  have qn2_10 : wz10.cell? ⟨wz1.heap.size, 2, none⟩ = some (.int .i64 0) := Hnz10.out.cell 2
  have qn3_10 : wz10.cell? ⟨wz1.heap.size, 3, none⟩ = some (.int .i64 0) := Hnz10.out.cell 3
  have ln_10 : wz1.heap.size < wz10.heap.size := Hnz10.out.lt
  have qz0_10 : wz10.cell? ⟨wz4.heap.size, 0, none⟩ = some (.int .i64 0) := Hzz10.out.cell 0
  have qz1_10 : wz10.cell? ⟨wz4.heap.size, 1, none⟩ = some (.int .i64 0) := Hzz10.out.cell 1
  have qz2_10 : wz10.cell? ⟨wz4.heap.size, 2, none⟩ = some (.int .i64 0) := Hzz10.out.cell 2
  have qz3_10 : wz10.cell? ⟨wz4.heap.size, 3, none⟩ = some (.int .i64 0) := Hzz10.out.cell 3
  have lz_10 : wz4.heap.size < wz10.heap.size := Hzz10.out.lt
  have qa0_10 : wz10.cell? ⟨wz3.heap.size, 0, none⟩ = some (.int .i64 ta) := Haz10.out.cell 0
  have qa1_10 : wz10.cell? ⟨wz3.heap.size, 1, none⟩ = some (.int .i64 tb) := Haz10.out.cell 1
  have qa2_10 : wz10.cell? ⟨wz3.heap.size, 2, none⟩ = some (.int .i64 tc) := Haz10.out.cell 2
  have qa3_10 : wz10.cell? ⟨wz3.heap.size, 3, none⟩ = some (.int .i64 td) := Haz10.out.cell 3
  have la_10 : wz3.heap.size < wz10.heap.size := Haz10.out.lt
  have hcz11 := HCN.out wz10
  go_wp2_with fail
  refine hcz11.mono ?_
  rintro e wz11 ⟨rfl, kz11⟩
  clear hcz11 qb0_10 qb1_10 qb2_10 qb3_10 lb_10 qn0_10 qn1_10 qn2_10 qn3_10 ln_10 qz0_10 qz1_10 qz2_10 qz3_10 lz_10 qa0_10 qa1_10 qa2_10 qa3_10 la_10
  have HBz11 := Lib.hid (HBz10.out.trans (kz11.mono (Nat.le_trans hbase HBz10.out.size)))
  have Hbz11 := Lib.hid (Hbz10.out.call kz11)
  have Hnz11 := Lib.hid (Hnz10.out.call kz11)
  have Haz11 := Lib.hid (Haz10.out.call kz11)
  have Hzz11 := Lib.hid (Hzz10.out.call kz11)
  clear kz11
  have qb0_11 : wz11.cell? ⟨w.heap.size, 0, none⟩ = some (.int .i64 kind) := Hbz11.out.cell 0
  have qb1_11 : wz11.cell? ⟨w.heap.size, 1, none⟩ = some (.int .i64 size) := Hbz11.out.cell 1
  have qb2_11 : wz11.cell? ⟨w.heap.size, 2, none⟩ = some (.int .i64 m) := Hbz11.out.cell 2
  have qb3_11 : wz11.cell? ⟨w.heap.size, 3, none⟩ = some (.int .i64 sum) := Hbz11.out.cell 3
  have lb_11 : w.heap.size < wz11.heap.size := Hbz11.out.lt
  have qa0_11 : wz11.cell? ⟨wz3.heap.size, 0, none⟩ = some (.int .i64 ta) := Haz11.out.cell 0
  have qa1_11 : wz11.cell? ⟨wz3.heap.size, 1, none⟩ = some (.int .i64 tb) := Haz11.out.cell 1
  have qa2_11 : wz11.cell? ⟨wz3.heap.size, 2, none⟩ = some (.int .i64 tc) := Haz11.out.cell 2
  have qa3_11 : wz11.cell? ⟨wz3.heap.size, 3, none⟩ = some (.int .i64 td) := Haz11.out.cell 3
  have la_11 : wz3.heap.size < wz11.heap.size := Haz11.out.lt
  have qz0_11 : wz11.cell? ⟨wz4.heap.size, 0, none⟩ = some (.int .i64 0) := Hzz11.out.cell 0
  have qz1_11 : wz11.cell? ⟨wz4.heap.size, 1, none⟩ = some (.int .i64 0) := Hzz11.out.cell 1
  have qz2_11 : wz11.cell? ⟨wz4.heap.size, 2, none⟩ = some (.int .i64 0) := Hzz11.out.cell 2
  have qz3_11 : wz11.cell? ⟨wz4.heap.size, 3, none⟩ = some (.int .i64 0) := Hzz11.out.cell 3
  have lz_11 : wz4.heap.size < wz11.heap.size := Hzz11.out.lt
  go_upto_region 15 with fail
  clear qb0_11 qb1_11 qb2_11 qb3_11 lb_11 qa0_11 qa1_11 qa2_11 qa3_11 la_11 qz0_11 qz1_11 qz2_11 qz3_11 lz_11
  refine wp_region_held_drew (S := (fun W' => W'.cell? ⟨w.heap.size, 0, none⟩ = some (.int .i64 kind) ∧ W'.cell? ⟨w.heap.size, 1, none⟩ = some (.int .i64 size) ∧ W'.cell? ⟨w.heap.size, 2, none⟩ = some (.int .i64 m) ∧ W'.cell? ⟨w.heap.size, 3, none⟩ = some (.int .i64 sum) ∧ W'.cell? ⟨wz3.heap.size, 0, none⟩ = some (.int .i64 ta) ∧ W'.cell? ⟨wz3.heap.size, 1, none⟩ = some (.int .i64 tb) ∧ W'.cell? ⟨wz3.heap.size, 2, none⟩ = some (.int .i64 tc) ∧ W'.cell? ⟨wz3.heap.size, 3, none⟩ = some (.int .i64 td))) (by kernel_rfl) ⟨Hbz11.out.cell 0, Hbz11.out.cell 1, Hbz11.out.cell 2, Hbz11.out.cell 3, Haz11.out.cell 0, Haz11.out.cell 1, Haz11.out.cell 2, Haz11.out.cell 3⟩ (fun hHeld => ?_)
  refine regTake 0 (some 84) (v := ?_) rfl rfl (by kernel_rfl) (by kernel_rfl) (by kernel_rfl) (fun _ _ _ h => h) (by rfl) hHeld ?_ ?_
  rotate_left 1
  · (intro w hSw; (try dsimp only at hSw); go_simp; try with_reducible rfl)
  simp only [Act.put, List.setIfInBounds_toArray, List.set_cons_zero, List.set_cons_succ]
  refine regTake 1 (some 85) (v := ?_) rfl rfl (by kernel_rfl) (by kernel_rfl) (by kernel_rfl) (fun _ _ _ h => h) (by rfl) hHeld ?_ ?_
  rotate_left 1
  · (intro w hSw; (try dsimp only at hSw); go_simp; try with_reducible rfl)
  simp only [Act.put, List.setIfInBounds_toArray, List.set_cons_zero, List.set_cons_succ]
  refine regTake 2 (some 86) (v := ?_) rfl rfl (by kernel_rfl) (by kernel_rfl) (by kernel_rfl) (fun _ _ _ h => h) (by rfl) hHeld ?_ ?_
  rotate_left 1
  · (intro w hSw; (try dsimp only at hSw); go_simp; try with_reducible rfl)
  simp only [Act.put, List.setIfInBounds_toArray, List.set_cons_zero, List.set_cons_succ]
  refine regTake 3 (some 87) (v := ?_) rfl rfl (by kernel_rfl) (by kernel_rfl) (by kernel_rfl) (fun _ _ _ h => h) (by rfl) hHeld ?_ ?_
  rotate_left 1
  · (intro w hSw; (try dsimp only at hSw); go_simp; try with_reducible rfl)
  simp only [Act.put, List.setIfInBounds_toArray, List.set_cons_zero, List.set_cons_succ]
  refine regTake 4 (some 88) (v := ?_) rfl rfl (by kernel_rfl) (by kernel_rfl) (by kernel_rfl) (fun _ _ _ h => h) (by rfl) hHeld ?_ ?_
  rotate_left 1
  · (intro w hSw; (try dsimp only at hSw); go_simp; try with_reducible rfl)
  simp only [Act.put, List.setIfInBounds_toArray, List.set_cons_zero, List.set_cons_succ]
  refine regTake 5 (some 89) (v := ?_) rfl rfl (by kernel_rfl) (by kernel_rfl) (by kernel_rfl) (fun _ _ _ h => h) (by rfl) hHeld ?_ ?_
  rotate_left 1
  · (intro w hSw; (try dsimp only at hSw); go_simp; try with_reducible rfl)
  simp only [Act.put, List.setIfInBounds_toArray, List.set_cons_zero, List.set_cons_succ]
  refine regCall 6 (some 90) (f := 14) (args := ?_) rfl rfl (by kernel_rfl) (by rfl) ?_ ?_
  rotate_left 1
  · (go_simp; try with_reducible rfl)
  refine (HRT.out _).mono ?_
  rintro e wx6 ⟨rfl, kg12⟩
  refine ⟨_, rfl, ⟨(Hbz11.out.step kg12 rfl).cell 0, (Hbz11.out.step kg12 rfl).cell 1, (Hbz11.out.step kg12 rfl).cell 2, (Hbz11.out.step kg12 rfl).cell 3, (Haz11.out.step kg12 rfl).cell 0, (Haz11.out.step kg12 rfl).cell 1, (Haz11.out.step kg12 rfl).cell 2, (Haz11.out.step kg12 rfl).cell 3⟩, fun hHeld => ?_⟩
  simp only [Act.put, List.setIfInBounds_toArray, List.set_cons_zero, List.set_cons_succ]
  have HBg12 := Lib.hid ((HBz11.out.drew).trans (kg12.mono (Nat.le_trans hbase (HBz11.out.drew).size)))
  have Hbg12 := Lib.hid (Hbz11.out.step kg12 rfl)
  have Hng12 := Lib.hid (Hnz11.out.step kg12 rfl)
  have Hag12 := Lib.hid (Haz11.out.step kg12 rfl)
  have Hzg12 := Lib.hid (Hzz11.out.step kg12 rfl)
  clear kg12
  refine regTake 7 (some 91) (v := ?_) rfl rfl (by kernel_rfl) (by kernel_rfl) (by kernel_rfl) (fun _ _ _ h => h) (by rfl) hHeld ?_ ?_
  rotate_left 1
  · (intro w hSw; (try dsimp only at hSw); go_simp; try with_reducible rfl)
  simp only [Act.put, List.setIfInBounds_toArray, List.set_cons_zero, List.set_cons_succ]
  refine regTake 8 (some 92) (v := ?_) rfl rfl (by kernel_rfl) (by kernel_rfl) (by kernel_rfl) (fun _ _ _ h => h) (by rfl) hHeld ?_ ?_
  rotate_left 1
  · (intro w hSw; (try dsimp only at hSw); go_simp; try with_reducible rfl)
  simp only [Act.put, List.setIfInBounds_toArray, List.set_cons_zero, List.set_cons_succ]
  refine regTake 9 (some 8) (v := ?_) rfl rfl (by kernel_rfl) (by kernel_rfl) (by kernel_rfl) (fun _ _ _ h => h) (by rfl) hHeld ?_ ?_
  rotate_left 1
  · (intro w hSw; (try dsimp only at hSw); go_simp; try with_reducible rfl)
  simp only [Act.put, List.setIfInBounds_toArray, List.set_cons_zero, List.set_cons_succ]
  refine wpAnyH_done (by kernel_rfl) ?_ _
  clear hHeld
  go_wp2
  go_ret
  exact ⟨rfl, HBg12.out⟩
set_option linter.unusedSimpArgs false in
set_option linter.unusedVariables false in
set_option maxHeartbeats 8000000 in
set_option maxRecDepth 100000 in
theorem points16_000 (kind size m sum d : Int) (w : World)
    (HPO : Hid (∀ W, Calls Try.prog 15 #[.agg #[.int .i64 kind, .int .i64 size, .int .i64 m, .int .i64 sum], .int .i64 d] W fun e w' => e = .returned (.tuple #[.agg #[.int .i64 0, .int .i64 0, .int .i64 0, .int .u64 0, .int .u64 0], .int .i64 1]) ∧ Below W.heap.size W w'))
    (HRR : Hid (∀ W, Calls Try.prog 10 #[.agg #[.int .i64 kind, .int .i64 size, .int .i64 m, .int .i64 sum]] W fun e w' => e = .returned (.bool false) ∧ Below W.heap.size W w'))
    (HAL : Hid (∀ W, Calls Try.prog 11 #[] W fun e w' => e = .returned (.bool true) ∧ Below W.heap.size W w')) :
    Calls Try.prog 4 #[.agg #[.int .i64 kind, .int .i64 size, .int .i64 m, .int .i64 sum], .int .i64 d] w fun e w' => e = .returned (.bool true) ∧ Below w.heap.size w w' := by
  obtain ⟨w1, hw1⟩ : ∃ w1, w.alloc (.cells #[.int .i64 kind, .int .i64 size, .int .i64 m, .int .i64 sum] 23) = w1 := ⟨_, rfl⟩
  have HX1 := Lib.hid (show Has w1 w.heap.size [.int .i64 kind, .int .i64 size, .int .i64 m, .int .i64 sum] 23 by rw [← hw1]; exact Has.new w _ _)
  have HB1 := Lib.hid (show Below w.heap.size w w1 by rw [← hw1]; exact (Below.refl _ _).alloc (Nat.le_refl _) _)
  have HW1 := Lib.hid hw1
  have hbase := Nat.le_refl w.heap.size
  clear hw1
  go_enter Try.func4, Try.ntmps4
  go_upto_region 1 with fail
  rw [HW1.out]
  have hqp := eqPntT
  have qb0_0 : w1.cell? ⟨w.heap.size, 0, none⟩ = some (.int .i64 kind) := HX1.out.cell 0
  have qb1_0 : w1.cell? ⟨w.heap.size, 1, none⟩ = some (.int .i64 size) := HX1.out.cell 1
  have qb2_0 : w1.cell? ⟨w.heap.size, 2, none⟩ = some (.int .i64 m) := HX1.out.cell 2
  have qb3_0 : w1.cell? ⟨w.heap.size, 3, none⟩ = some (.int .i64 sum) := HX1.out.cell 3
  have lb_0 : w.heap.size < w1.heap.size := HX1.out.lt
  have hcz1 := HPO.out w1
  go_wp2_with fail
  refine hcz1.mono ?_
  rintro e wz1 ⟨rfl, kz1⟩
  clear hcz1 qb0_0 qb1_0 qb2_0 qb3_0 lb_0
  have HBz1 := Lib.hid (HB1.out.trans (kz1.mono (Nat.le_trans hbase HB1.out.size)))
  have Hbz1 := Lib.hid (HX1.out.call kz1)
  clear kz1
  obtain ⟨wz2, hwz2⟩ : ∃ wz2, wz1.alloc (.cells #[.int .i64 0, .int .i64 0, .int .i64 0, .int .u64 0, .int .u64 0] 38) = wz2 := ⟨_, rfl⟩
  have kz2 : Below wz1.heap.size wz1 wz2 := by rw [← hwz2]; exact (Below.refl _ _).alloc (Nat.le_refl _) _
  have Hpz2 := Lib.hid (show Has wz2 wz1.heap.size [.int .i64 0, .int .i64 0, .int .i64 0, .int .u64 0, .int .u64 0] 38 by rw [← hwz2]; exact Has.new _ _ _)
  have HWz2 := Lib.hid hwz2
  clear hwz2
  have HBz2 := Lib.hid (HBz1.out.trans (kz2.mono (Nat.le_trans hbase HBz1.out.size)))
  have Hbz2 := Lib.hid (Hbz1.out.call kz2)
  clear kz2
  go_upto_region 2 with fail
  rw [HWz2.out]
  obtain ⟨wz3, hwz3⟩ : ∃ wz3, wz2.alloc (.cells #[.int .i64 0, .int .i64 0, .int .i64 0, .int .u64 0, .int .u64 0] 38) = wz3 := ⟨_, rfl⟩
  have kz3 : Below wz2.heap.size wz2 wz3 := by rw [← hwz3]; exact (Below.refl _ _).alloc (Nat.le_refl _) _
  have Hzz3 := Lib.hid (show Has wz3 wz2.heap.size [.int .i64 0, .int .i64 0, .int .i64 0, .int .u64 0, .int .u64 0] 38 by rw [← hwz3]; exact Has.new _ _ _)
  have HWz3 := Lib.hid hwz3
  clear hwz3
  have HBz3 := Lib.hid (HBz2.out.trans (kz3.mono (Nat.le_trans hbase HBz2.out.size)))
  have Hbz3 := Lib.hid (Hbz2.out.call kz3)
  have Hpz3 := Lib.hid (Hpz2.out.call kz3)
  clear kz3
  have qb0_3 : wz2.cell? ⟨w.heap.size, 0, none⟩ = some (.int .i64 kind) := Hbz2.out.cell 0
  have qb1_3 : wz2.cell? ⟨w.heap.size, 1, none⟩ = some (.int .i64 size) := Hbz2.out.cell 1
  have qb2_3 : wz2.cell? ⟨w.heap.size, 2, none⟩ = some (.int .i64 m) := Hbz2.out.cell 2
  have qb3_3 : wz2.cell? ⟨w.heap.size, 3, none⟩ = some (.int .i64 sum) := Hbz2.out.cell 3
  have lb_3 : w.heap.size < wz2.heap.size := Hbz2.out.lt
  have hcz4 := HRR.out wz3
  go_wp2_with fail
  rw [HWz3.out]
  refine hcz4.mono ?_
  rintro e wz4 ⟨rfl, kz4⟩
  clear hcz4 qb0_3 qb1_3 qb2_3 qb3_3 lb_3
  have HBz4 := Lib.hid (HBz3.out.trans (kz4.mono (Nat.le_trans hbase HBz3.out.size)))
  have Hbz4 := Lib.hid (Hbz3.out.call kz4)
  have Hpz4 := Lib.hid (Hpz3.out.call kz4)
  have Hzz4 := Lib.hid (Hzz3.out.call kz4)
  clear kz4
  have qb0_4 : wz4.cell? ⟨w.heap.size, 0, none⟩ = some (.int .i64 kind) := Hbz4.out.cell 0
  have qb1_4 : wz4.cell? ⟨w.heap.size, 1, none⟩ = some (.int .i64 size) := Hbz4.out.cell 1
  have qb2_4 : wz4.cell? ⟨w.heap.size, 2, none⟩ = some (.int .i64 m) := Hbz4.out.cell 2
  have qb3_4 : wz4.cell? ⟨w.heap.size, 3, none⟩ = some (.int .i64 sum) := Hbz4.out.cell 3
  have lb_4 : w.heap.size < wz4.heap.size := Hbz4.out.lt
  have qp0_4 : wz4.cell? ⟨wz1.heap.size, 0, none⟩ = some (.int .i64 0) := Hpz4.out.cell 0
  have qp1_4 : wz4.cell? ⟨wz1.heap.size, 1, none⟩ = some (.int .i64 0) := Hpz4.out.cell 1
  have qp2_4 : wz4.cell? ⟨wz1.heap.size, 2, none⟩ = some (.int .i64 0) := Hpz4.out.cell 2
  have qp3_4 : wz4.cell? ⟨wz1.heap.size, 3, none⟩ = some (.int .u64 0) := Hpz4.out.cell 3
  have qp4_4 : wz4.cell? ⟨wz1.heap.size, 4, none⟩ = some (.int .u64 0) := Hpz4.out.cell 4
  have lp_4 : wz1.heap.size < wz4.heap.size := Hpz4.out.lt
  have qz0_4 : wz4.cell? ⟨wz2.heap.size, 0, none⟩ = some (.int .i64 0) := Hzz4.out.cell 0
  have qz1_4 : wz4.cell? ⟨wz2.heap.size, 1, none⟩ = some (.int .i64 0) := Hzz4.out.cell 1
  have qz2_4 : wz4.cell? ⟨wz2.heap.size, 2, none⟩ = some (.int .i64 0) := Hzz4.out.cell 2
  have qz3_4 : wz4.cell? ⟨wz2.heap.size, 3, none⟩ = some (.int .u64 0) := Hzz4.out.cell 3
  have qz4_4 : wz4.cell? ⟨wz2.heap.size, 4, none⟩ = some (.int .u64 0) := Hzz4.out.cell 4
  have lz_4 : wz2.heap.size < wz4.heap.size := Hzz4.out.lt
  have hcz5 := HAL.out wz4
  go_wp2_with fail
  refine hcz5.mono ?_
  rintro e wz5 ⟨rfl, kz5⟩
  clear hcz5 qb0_4 qb1_4 qb2_4 qb3_4 lb_4 qp0_4 qp1_4 qp2_4 qp3_4 qp4_4 lp_4 qz0_4 qz1_4 qz2_4 qz3_4 qz4_4 lz_4
  have HBz5 := Lib.hid (HBz4.out.trans (kz5.mono (Nat.le_trans hbase HBz4.out.size)))
  have Hbz5 := Lib.hid (Hbz4.out.call kz5)
  have Hpz5 := Lib.hid (Hpz4.out.call kz5)
  have Hzz5 := Lib.hid (Hzz4.out.call kz5)
  clear kz5
  have qb0_5 : wz5.cell? ⟨w.heap.size, 0, none⟩ = some (.int .i64 kind) := Hbz5.out.cell 0
  have qb1_5 : wz5.cell? ⟨w.heap.size, 1, none⟩ = some (.int .i64 size) := Hbz5.out.cell 1
  have qb2_5 : wz5.cell? ⟨w.heap.size, 2, none⟩ = some (.int .i64 m) := Hbz5.out.cell 2
  have qb3_5 : wz5.cell? ⟨w.heap.size, 3, none⟩ = some (.int .i64 sum) := Hbz5.out.cell 3
  have lb_5 : w.heap.size < wz5.heap.size := Hbz5.out.lt
  have qp0_5 : wz5.cell? ⟨wz1.heap.size, 0, none⟩ = some (.int .i64 0) := Hpz5.out.cell 0
  have qp1_5 : wz5.cell? ⟨wz1.heap.size, 1, none⟩ = some (.int .i64 0) := Hpz5.out.cell 1
  have qp2_5 : wz5.cell? ⟨wz1.heap.size, 2, none⟩ = some (.int .i64 0) := Hpz5.out.cell 2
  have qp3_5 : wz5.cell? ⟨wz1.heap.size, 3, none⟩ = some (.int .u64 0) := Hpz5.out.cell 3
  have qp4_5 : wz5.cell? ⟨wz1.heap.size, 4, none⟩ = some (.int .u64 0) := Hpz5.out.cell 4
  have lp_5 : wz1.heap.size < wz5.heap.size := Hpz5.out.lt
  have qz0_5 : wz5.cell? ⟨wz2.heap.size, 0, none⟩ = some (.int .i64 0) := Hzz5.out.cell 0
  have qz1_5 : wz5.cell? ⟨wz2.heap.size, 1, none⟩ = some (.int .i64 0) := Hzz5.out.cell 1
  have qz2_5 : wz5.cell? ⟨wz2.heap.size, 2, none⟩ = some (.int .i64 0) := Hzz5.out.cell 2
  have qz3_5 : wz5.cell? ⟨wz2.heap.size, 3, none⟩ = some (.int .u64 0) := Hzz5.out.cell 3
  have qz4_5 : wz5.cell? ⟨wz2.heap.size, 4, none⟩ = some (.int .u64 0) := Hzz5.out.cell 4
  have lz_5 : wz2.heap.size < wz5.heap.size := Hzz5.out.lt
  go_wp2
  go_ret
  exact ⟨rfl, HBz5.out⟩
set_option linter.unusedSimpArgs false in
set_option linter.unusedVariables false in
set_option maxHeartbeats 8000000 in
set_option maxRecDepth 100000 in
theorem points16_100 (kind size m sum d : Int) (w : World)
    (HPO : Hid (∀ W, Calls Try.prog 15 #[.agg #[.int .i64 kind, .int .i64 size, .int .i64 m, .int .i64 sum], .int .i64 d] W fun e w' => e = .returned (.tuple #[.agg #[.int .i64 0, .int .i64 0, .int .i64 0, .int .u64 0, .int .u64 0], .int .i64 1]) ∧ Below W.heap.size W w'))
    (HRR : Hid (∀ W, Calls Try.prog 10 #[.agg #[.int .i64 kind, .int .i64 size, .int .i64 m, .int .i64 sum]] W fun e w' => e = .returned (.bool true) ∧ Below W.heap.size W w'))
    (HAL : Hid (∀ W, Calls Try.prog 11 #[] W fun e w' => e = .returned (.bool true) ∧ Below W.heap.size W w'))
    (HCN : Hid (∀ W, Calls Try.prog 13 #[.agg #[.int .i64 kind, .int .i64 size, .int .i64 m, .int .i64 sum], .int .i64 d] W fun e w' => e = .returned (.bool false) ∧ Below W.heap.size W w')) :
    Calls Try.prog 4 #[.agg #[.int .i64 kind, .int .i64 size, .int .i64 m, .int .i64 sum], .int .i64 d] w fun e w' => e = .returned (.bool true) ∧ Below w.heap.size w w' := by
  obtain ⟨w1, hw1⟩ : ∃ w1, w.alloc (.cells #[.int .i64 kind, .int .i64 size, .int .i64 m, .int .i64 sum] 23) = w1 := ⟨_, rfl⟩
  have HX1 := Lib.hid (show Has w1 w.heap.size [.int .i64 kind, .int .i64 size, .int .i64 m, .int .i64 sum] 23 by rw [← hw1]; exact Has.new w _ _)
  have HB1 := Lib.hid (show Below w.heap.size w w1 by rw [← hw1]; exact (Below.refl _ _).alloc (Nat.le_refl _) _)
  have HW1 := Lib.hid hw1
  have hbase := Nat.le_refl w.heap.size
  clear hw1
  go_enter Try.func4, Try.ntmps4
  go_upto_region 1 with fail
  rw [HW1.out]
  have hqp := eqPntT
  have qb0_0 : w1.cell? ⟨w.heap.size, 0, none⟩ = some (.int .i64 kind) := HX1.out.cell 0
  have qb1_0 : w1.cell? ⟨w.heap.size, 1, none⟩ = some (.int .i64 size) := HX1.out.cell 1
  have qb2_0 : w1.cell? ⟨w.heap.size, 2, none⟩ = some (.int .i64 m) := HX1.out.cell 2
  have qb3_0 : w1.cell? ⟨w.heap.size, 3, none⟩ = some (.int .i64 sum) := HX1.out.cell 3
  have lb_0 : w.heap.size < w1.heap.size := HX1.out.lt
  have hcz1 := HPO.out w1
  go_wp2_with fail
  refine hcz1.mono ?_
  rintro e wz1 ⟨rfl, kz1⟩
  clear hcz1 qb0_0 qb1_0 qb2_0 qb3_0 lb_0
  have HBz1 := Lib.hid (HB1.out.trans (kz1.mono (Nat.le_trans hbase HB1.out.size)))
  have Hbz1 := Lib.hid (HX1.out.call kz1)
  clear kz1
  obtain ⟨wz2, hwz2⟩ : ∃ wz2, wz1.alloc (.cells #[.int .i64 0, .int .i64 0, .int .i64 0, .int .u64 0, .int .u64 0] 38) = wz2 := ⟨_, rfl⟩
  have kz2 : Below wz1.heap.size wz1 wz2 := by rw [← hwz2]; exact (Below.refl _ _).alloc (Nat.le_refl _) _
  have Hpz2 := Lib.hid (show Has wz2 wz1.heap.size [.int .i64 0, .int .i64 0, .int .i64 0, .int .u64 0, .int .u64 0] 38 by rw [← hwz2]; exact Has.new _ _ _)
  have HWz2 := Lib.hid hwz2
  clear hwz2
  have HBz2 := Lib.hid (HBz1.out.trans (kz2.mono (Nat.le_trans hbase HBz1.out.size)))
  have Hbz2 := Lib.hid (Hbz1.out.call kz2)
  clear kz2
  go_upto_region 2 with fail
  rw [HWz2.out]
  obtain ⟨wz3, hwz3⟩ : ∃ wz3, wz2.alloc (.cells #[.int .i64 0, .int .i64 0, .int .i64 0, .int .u64 0, .int .u64 0] 38) = wz3 := ⟨_, rfl⟩
  have kz3 : Below wz2.heap.size wz2 wz3 := by rw [← hwz3]; exact (Below.refl _ _).alloc (Nat.le_refl _) _
  have Hzz3 := Lib.hid (show Has wz3 wz2.heap.size [.int .i64 0, .int .i64 0, .int .i64 0, .int .u64 0, .int .u64 0] 38 by rw [← hwz3]; exact Has.new _ _ _)
  have HWz3 := Lib.hid hwz3
  clear hwz3
  have HBz3 := Lib.hid (HBz2.out.trans (kz3.mono (Nat.le_trans hbase HBz2.out.size)))
  have Hbz3 := Lib.hid (Hbz2.out.call kz3)
  have Hpz3 := Lib.hid (Hpz2.out.call kz3)
  clear kz3
  have qb0_3 : wz2.cell? ⟨w.heap.size, 0, none⟩ = some (.int .i64 kind) := Hbz2.out.cell 0
  have qb1_3 : wz2.cell? ⟨w.heap.size, 1, none⟩ = some (.int .i64 size) := Hbz2.out.cell 1
  have qb2_3 : wz2.cell? ⟨w.heap.size, 2, none⟩ = some (.int .i64 m) := Hbz2.out.cell 2
  have qb3_3 : wz2.cell? ⟨w.heap.size, 3, none⟩ = some (.int .i64 sum) := Hbz2.out.cell 3
  have lb_3 : w.heap.size < wz2.heap.size := Hbz2.out.lt
  have hcz4 := HRR.out wz3
  go_wp2_with fail
  rw [HWz3.out]
  refine hcz4.mono ?_
  rintro e wz4 ⟨rfl, kz4⟩
  clear hcz4 qb0_3 qb1_3 qb2_3 qb3_3 lb_3
  have HBz4 := Lib.hid (HBz3.out.trans (kz4.mono (Nat.le_trans hbase HBz3.out.size)))
  have Hbz4 := Lib.hid (Hbz3.out.call kz4)
  have Hpz4 := Lib.hid (Hpz3.out.call kz4)
  have Hzz4 := Lib.hid (Hzz3.out.call kz4)
  clear kz4
  have qb0_4 : wz4.cell? ⟨w.heap.size, 0, none⟩ = some (.int .i64 kind) := Hbz4.out.cell 0
  have qb1_4 : wz4.cell? ⟨w.heap.size, 1, none⟩ = some (.int .i64 size) := Hbz4.out.cell 1
  have qb2_4 : wz4.cell? ⟨w.heap.size, 2, none⟩ = some (.int .i64 m) := Hbz4.out.cell 2
  have qb3_4 : wz4.cell? ⟨w.heap.size, 3, none⟩ = some (.int .i64 sum) := Hbz4.out.cell 3
  have lb_4 : w.heap.size < wz4.heap.size := Hbz4.out.lt
  have hcz5 := HCN.out wz4
  go_wp2_with fail
  refine hcz5.mono ?_
  rintro e wz5 ⟨rfl, kz5⟩
  clear hcz5 qb0_4 qb1_4 qb2_4 qb3_4 lb_4
  have HBz5 := Lib.hid (HBz4.out.trans (kz5.mono (Nat.le_trans hbase HBz4.out.size)))
  have Hbz5 := Lib.hid (Hbz4.out.call kz5)
  have Hpz5 := Lib.hid (Hpz4.out.call kz5)
  have Hzz5 := Lib.hid (Hzz4.out.call kz5)
  clear kz5
  have qb0_5 : wz5.cell? ⟨w.heap.size, 0, none⟩ = some (.int .i64 kind) := Hbz5.out.cell 0
  have qb1_5 : wz5.cell? ⟨w.heap.size, 1, none⟩ = some (.int .i64 size) := Hbz5.out.cell 1
  have qb2_5 : wz5.cell? ⟨w.heap.size, 2, none⟩ = some (.int .i64 m) := Hbz5.out.cell 2
  have qb3_5 : wz5.cell? ⟨w.heap.size, 3, none⟩ = some (.int .i64 sum) := Hbz5.out.cell 3
  have lb_5 : w.heap.size < wz5.heap.size := Hbz5.out.lt
  have qp0_5 : wz5.cell? ⟨wz1.heap.size, 0, none⟩ = some (.int .i64 0) := Hpz5.out.cell 0
  have qp1_5 : wz5.cell? ⟨wz1.heap.size, 1, none⟩ = some (.int .i64 0) := Hpz5.out.cell 1
  have qp2_5 : wz5.cell? ⟨wz1.heap.size, 2, none⟩ = some (.int .i64 0) := Hpz5.out.cell 2
  have qp3_5 : wz5.cell? ⟨wz1.heap.size, 3, none⟩ = some (.int .u64 0) := Hpz5.out.cell 3
  have qp4_5 : wz5.cell? ⟨wz1.heap.size, 4, none⟩ = some (.int .u64 0) := Hpz5.out.cell 4
  have lp_5 : wz1.heap.size < wz5.heap.size := Hpz5.out.lt
  have qz0_5 : wz5.cell? ⟨wz2.heap.size, 0, none⟩ = some (.int .i64 0) := Hzz5.out.cell 0
  have qz1_5 : wz5.cell? ⟨wz2.heap.size, 1, none⟩ = some (.int .i64 0) := Hzz5.out.cell 1
  have qz2_5 : wz5.cell? ⟨wz2.heap.size, 2, none⟩ = some (.int .i64 0) := Hzz5.out.cell 2
  have qz3_5 : wz5.cell? ⟨wz2.heap.size, 3, none⟩ = some (.int .u64 0) := Hzz5.out.cell 3
  have qz4_5 : wz5.cell? ⟨wz2.heap.size, 4, none⟩ = some (.int .u64 0) := Hzz5.out.cell 4
  have lz_5 : wz2.heap.size < wz5.heap.size := Hzz5.out.lt
  have hcz6 := HAL.out wz5
  go_wp2_with fail
  refine hcz6.mono ?_
  rintro e wz6 ⟨rfl, kz6⟩
  clear hcz6 qb0_5 qb1_5 qb2_5 qb3_5 lb_5 qp0_5 qp1_5 qp2_5 qp3_5 qp4_5 lp_5 qz0_5 qz1_5 qz2_5 qz3_5 qz4_5 lz_5
  have HBz6 := Lib.hid (HBz5.out.trans (kz6.mono (Nat.le_trans hbase HBz5.out.size)))
  have Hbz6 := Lib.hid (Hbz5.out.call kz6)
  have Hpz6 := Lib.hid (Hpz5.out.call kz6)
  have Hzz6 := Lib.hid (Hzz5.out.call kz6)
  clear kz6
  have qb0_6 : wz6.cell? ⟨w.heap.size, 0, none⟩ = some (.int .i64 kind) := Hbz6.out.cell 0
  have qb1_6 : wz6.cell? ⟨w.heap.size, 1, none⟩ = some (.int .i64 size) := Hbz6.out.cell 1
  have qb2_6 : wz6.cell? ⟨w.heap.size, 2, none⟩ = some (.int .i64 m) := Hbz6.out.cell 2
  have qb3_6 : wz6.cell? ⟨w.heap.size, 3, none⟩ = some (.int .i64 sum) := Hbz6.out.cell 3
  have lb_6 : w.heap.size < wz6.heap.size := Hbz6.out.lt
  have qp0_6 : wz6.cell? ⟨wz1.heap.size, 0, none⟩ = some (.int .i64 0) := Hpz6.out.cell 0
  have qp1_6 : wz6.cell? ⟨wz1.heap.size, 1, none⟩ = some (.int .i64 0) := Hpz6.out.cell 1
  have qp2_6 : wz6.cell? ⟨wz1.heap.size, 2, none⟩ = some (.int .i64 0) := Hpz6.out.cell 2
  have qp3_6 : wz6.cell? ⟨wz1.heap.size, 3, none⟩ = some (.int .u64 0) := Hpz6.out.cell 3
  have qp4_6 : wz6.cell? ⟨wz1.heap.size, 4, none⟩ = some (.int .u64 0) := Hpz6.out.cell 4
  have lp_6 : wz1.heap.size < wz6.heap.size := Hpz6.out.lt
  have qz0_6 : wz6.cell? ⟨wz2.heap.size, 0, none⟩ = some (.int .i64 0) := Hzz6.out.cell 0
  have qz1_6 : wz6.cell? ⟨wz2.heap.size, 1, none⟩ = some (.int .i64 0) := Hzz6.out.cell 1
  have qz2_6 : wz6.cell? ⟨wz2.heap.size, 2, none⟩ = some (.int .i64 0) := Hzz6.out.cell 2
  have qz3_6 : wz6.cell? ⟨wz2.heap.size, 3, none⟩ = some (.int .u64 0) := Hzz6.out.cell 3
  have qz4_6 : wz6.cell? ⟨wz2.heap.size, 4, none⟩ = some (.int .u64 0) := Hzz6.out.cell 4
  have lz_6 : wz2.heap.size < wz6.heap.size := Hzz6.out.lt
  go_wp2
  go_ret
  exact ⟨rfl, HBz6.out⟩
set_option linter.unusedSimpArgs false in
set_option linter.unusedVariables false in
set_option maxHeartbeats 8000000 in
set_option maxRecDepth 100000 in
theorem points16_111 (kind size m sum d : Int) (w : World) (g0 : (m == 0) = true)
    (HPO : Hid (∀ W, Calls Try.prog 15 #[.agg #[.int .i64 kind, .int .i64 size, .int .i64 m, .int .i64 sum], .int .i64 d] W fun e w' => e = .returned (.tuple #[.agg #[.int .i64 0, .int .i64 0, .int .i64 0, .int .u64 0, .int .u64 0], .int .i64 12]) ∧ Below W.heap.size W w'))
    (HRR : Hid (∀ W, Calls Try.prog 10 #[.agg #[.int .i64 kind, .int .i64 size, .int .i64 m, .int .i64 sum]] W fun e w' => e = .returned (.bool true) ∧ Below W.heap.size W w'))
    (HAL : Hid (∀ W, Calls Try.prog 11 #[] W fun e w' => e = .returned (.bool true) ∧ Below W.heap.size W w'))
    (HCN : Hid (∀ W, Calls Try.prog 13 #[.agg #[.int .i64 kind, .int .i64 size, .int .i64 m, .int .i64 sum], .int .i64 d] W fun e w' => e = .returned (.bool true) ∧ Below W.heap.size W w')) :
    Calls Try.prog 4 #[.agg #[.int .i64 kind, .int .i64 size, .int .i64 m, .int .i64 sum], .int .i64 d] w fun e w' => e = .returned (.bool true) ∧ Below w.heap.size w w' := by
  obtain ⟨w1, hw1⟩ : ∃ w1, w.alloc (.cells #[.int .i64 kind, .int .i64 size, .int .i64 m, .int .i64 sum] 23) = w1 := ⟨_, rfl⟩
  have HX1 := Lib.hid (show Has w1 w.heap.size [.int .i64 kind, .int .i64 size, .int .i64 m, .int .i64 sum] 23 by rw [← hw1]; exact Has.new w _ _)
  have HB1 := Lib.hid (show Below w.heap.size w w1 by rw [← hw1]; exact (Below.refl _ _).alloc (Nat.le_refl _) _)
  have HW1 := Lib.hid hw1
  have hbase := Nat.le_refl w.heap.size
  clear hw1
  go_enter Try.func4, Try.ntmps4
  go_upto_region 1 with fail
  rw [HW1.out]
  have hqp := eqPntT
  have qb0_0 : w1.cell? ⟨w.heap.size, 0, none⟩ = some (.int .i64 kind) := HX1.out.cell 0
  have qb1_0 : w1.cell? ⟨w.heap.size, 1, none⟩ = some (.int .i64 size) := HX1.out.cell 1
  have qb2_0 : w1.cell? ⟨w.heap.size, 2, none⟩ = some (.int .i64 m) := HX1.out.cell 2
  have qb3_0 : w1.cell? ⟨w.heap.size, 3, none⟩ = some (.int .i64 sum) := HX1.out.cell 3
  have lb_0 : w.heap.size < w1.heap.size := HX1.out.lt
  have hcz1 := HPO.out w1
  go_wp2_with fail
  refine hcz1.mono ?_
  rintro e wz1 ⟨rfl, kz1⟩
  clear hcz1 qb0_0 qb1_0 qb2_0 qb3_0 lb_0
  have HBz1 := Lib.hid (HB1.out.trans (kz1.mono (Nat.le_trans hbase HB1.out.size)))
  have Hbz1 := Lib.hid (HX1.out.call kz1)
  clear kz1
  obtain ⟨wz2, hwz2⟩ : ∃ wz2, wz1.alloc (.cells #[.int .i64 0, .int .i64 0, .int .i64 0, .int .u64 0, .int .u64 0] 38) = wz2 := ⟨_, rfl⟩
  have kz2 : Below wz1.heap.size wz1 wz2 := by rw [← hwz2]; exact (Below.refl _ _).alloc (Nat.le_refl _) _
  have Hpz2 := Lib.hid (show Has wz2 wz1.heap.size [.int .i64 0, .int .i64 0, .int .i64 0, .int .u64 0, .int .u64 0] 38 by rw [← hwz2]; exact Has.new _ _ _)
  have HWz2 := Lib.hid hwz2
  clear hwz2
  have HBz2 := Lib.hid (HBz1.out.trans (kz2.mono (Nat.le_trans hbase HBz1.out.size)))
  have Hbz2 := Lib.hid (Hbz1.out.call kz2)
  clear kz2
  go_upto_region 2 with fail
  rw [HWz2.out]
  obtain ⟨wz3, hwz3⟩ : ∃ wz3, wz2.alloc (.cells #[.int .i64 0, .int .i64 0, .int .i64 0, .int .u64 0, .int .u64 0] 38) = wz3 := ⟨_, rfl⟩
  have kz3 : Below wz2.heap.size wz2 wz3 := by rw [← hwz3]; exact (Below.refl _ _).alloc (Nat.le_refl _) _
  have Hzz3 := Lib.hid (show Has wz3 wz2.heap.size [.int .i64 0, .int .i64 0, .int .i64 0, .int .u64 0, .int .u64 0] 38 by rw [← hwz3]; exact Has.new _ _ _)
  have HWz3 := Lib.hid hwz3
  clear hwz3
  have HBz3 := Lib.hid (HBz2.out.trans (kz3.mono (Nat.le_trans hbase HBz2.out.size)))
  have Hbz3 := Lib.hid (Hbz2.out.call kz3)
  have Hpz3 := Lib.hid (Hpz2.out.call kz3)
  clear kz3
  have qb0_3 : wz2.cell? ⟨w.heap.size, 0, none⟩ = some (.int .i64 kind) := Hbz2.out.cell 0
  have qb1_3 : wz2.cell? ⟨w.heap.size, 1, none⟩ = some (.int .i64 size) := Hbz2.out.cell 1
  have qb2_3 : wz2.cell? ⟨w.heap.size, 2, none⟩ = some (.int .i64 m) := Hbz2.out.cell 2
  have qb3_3 : wz2.cell? ⟨w.heap.size, 3, none⟩ = some (.int .i64 sum) := Hbz2.out.cell 3
  have lb_3 : w.heap.size < wz2.heap.size := Hbz2.out.lt
  have hcz4 := HRR.out wz3
  go_wp2_with fail
  rw [HWz3.out]
  refine hcz4.mono ?_
  rintro e wz4 ⟨rfl, kz4⟩
  clear hcz4 qb0_3 qb1_3 qb2_3 qb3_3 lb_3
  have HBz4 := Lib.hid (HBz3.out.trans (kz4.mono (Nat.le_trans hbase HBz3.out.size)))
  have Hbz4 := Lib.hid (Hbz3.out.call kz4)
  have Hpz4 := Lib.hid (Hpz3.out.call kz4)
  have Hzz4 := Lib.hid (Hzz3.out.call kz4)
  clear kz4
  have qb0_4 : wz4.cell? ⟨w.heap.size, 0, none⟩ = some (.int .i64 kind) := Hbz4.out.cell 0
  have qb1_4 : wz4.cell? ⟨w.heap.size, 1, none⟩ = some (.int .i64 size) := Hbz4.out.cell 1
  have qb2_4 : wz4.cell? ⟨w.heap.size, 2, none⟩ = some (.int .i64 m) := Hbz4.out.cell 2
  have qb3_4 : wz4.cell? ⟨w.heap.size, 3, none⟩ = some (.int .i64 sum) := Hbz4.out.cell 3
  have lb_4 : w.heap.size < wz4.heap.size := Hbz4.out.lt
  have hcz5 := HCN.out wz4
  go_wp2_with fail
  refine hcz5.mono ?_
  rintro e wz5 ⟨rfl, kz5⟩
  clear hcz5 qb0_4 qb1_4 qb2_4 qb3_4 lb_4
  have HBz5 := Lib.hid (HBz4.out.trans (kz5.mono (Nat.le_trans hbase HBz4.out.size)))
  have Hbz5 := Lib.hid (Hbz4.out.call kz5)
  have Hpz5 := Lib.hid (Hpz4.out.call kz5)
  have Hzz5 := Lib.hid (Hzz4.out.call kz5)
  clear kz5
  have qb0_5 : wz5.cell? ⟨w.heap.size, 0, none⟩ = some (.int .i64 kind) := Hbz5.out.cell 0
  have qb1_5 : wz5.cell? ⟨w.heap.size, 1, none⟩ = some (.int .i64 size) := Hbz5.out.cell 1
  have qb2_5 : wz5.cell? ⟨w.heap.size, 2, none⟩ = some (.int .i64 m) := Hbz5.out.cell 2
  have qb3_5 : wz5.cell? ⟨w.heap.size, 3, none⟩ = some (.int .i64 sum) := Hbz5.out.cell 3
  have lb_5 : w.heap.size < wz5.heap.size := Hbz5.out.lt
  have qp0_5 : wz5.cell? ⟨wz1.heap.size, 0, none⟩ = some (.int .i64 0) := Hpz5.out.cell 0
  have qp1_5 : wz5.cell? ⟨wz1.heap.size, 1, none⟩ = some (.int .i64 0) := Hpz5.out.cell 1
  have qp2_5 : wz5.cell? ⟨wz1.heap.size, 2, none⟩ = some (.int .i64 0) := Hpz5.out.cell 2
  have qp3_5 : wz5.cell? ⟨wz1.heap.size, 3, none⟩ = some (.int .u64 0) := Hpz5.out.cell 3
  have qp4_5 : wz5.cell? ⟨wz1.heap.size, 4, none⟩ = some (.int .u64 0) := Hpz5.out.cell 4
  have lp_5 : wz1.heap.size < wz5.heap.size := Hpz5.out.lt
  have qz0_5 : wz5.cell? ⟨wz2.heap.size, 0, none⟩ = some (.int .i64 0) := Hzz5.out.cell 0
  have qz1_5 : wz5.cell? ⟨wz2.heap.size, 1, none⟩ = some (.int .i64 0) := Hzz5.out.cell 1
  have qz2_5 : wz5.cell? ⟨wz2.heap.size, 2, none⟩ = some (.int .i64 0) := Hzz5.out.cell 2
  have qz3_5 : wz5.cell? ⟨wz2.heap.size, 3, none⟩ = some (.int .u64 0) := Hzz5.out.cell 3
  have qz4_5 : wz5.cell? ⟨wz2.heap.size, 4, none⟩ = some (.int .u64 0) := Hzz5.out.cell 4
  have lz_5 : wz2.heap.size < wz5.heap.size := Hzz5.out.lt
  have hcz6 := HAL.out wz5
  go_wp2_with fail
  refine hcz6.mono ?_
  rintro e wz6 ⟨rfl, kz6⟩
  clear hcz6 qb0_5 qb1_5 qb2_5 qb3_5 lb_5 qp0_5 qp1_5 qp2_5 qp3_5 qp4_5 lp_5 qz0_5 qz1_5 qz2_5 qz3_5 qz4_5 lz_5
  have HBz6 := Lib.hid (HBz5.out.trans (kz6.mono (Nat.le_trans hbase HBz5.out.size)))
  have Hbz6 := Lib.hid (Hbz5.out.call kz6)
  have Hpz6 := Lib.hid (Hpz5.out.call kz6)
  have Hzz6 := Lib.hid (Hzz5.out.call kz6)
  clear kz6
  have qb0_6 : wz6.cell? ⟨w.heap.size, 0, none⟩ = some (.int .i64 kind) := Hbz6.out.cell 0
  have qb1_6 : wz6.cell? ⟨w.heap.size, 1, none⟩ = some (.int .i64 size) := Hbz6.out.cell 1
  have qb2_6 : wz6.cell? ⟨w.heap.size, 2, none⟩ = some (.int .i64 m) := Hbz6.out.cell 2
  have qb3_6 : wz6.cell? ⟨w.heap.size, 3, none⟩ = some (.int .i64 sum) := Hbz6.out.cell 3
  have lb_6 : w.heap.size < wz6.heap.size := Hbz6.out.lt
  have qp0_6 : wz6.cell? ⟨wz1.heap.size, 0, none⟩ = some (.int .i64 0) := Hpz6.out.cell 0
  have qp1_6 : wz6.cell? ⟨wz1.heap.size, 1, none⟩ = some (.int .i64 0) := Hpz6.out.cell 1
  have qp2_6 : wz6.cell? ⟨wz1.heap.size, 2, none⟩ = some (.int .i64 0) := Hpz6.out.cell 2
  have qp3_6 : wz6.cell? ⟨wz1.heap.size, 3, none⟩ = some (.int .u64 0) := Hpz6.out.cell 3
  have qp4_6 : wz6.cell? ⟨wz1.heap.size, 4, none⟩ = some (.int .u64 0) := Hpz6.out.cell 4
  have lp_6 : wz1.heap.size < wz6.heap.size := Hpz6.out.lt
  have qz0_6 : wz6.cell? ⟨wz2.heap.size, 0, none⟩ = some (.int .i64 0) := Hzz6.out.cell 0
  have qz1_6 : wz6.cell? ⟨wz2.heap.size, 1, none⟩ = some (.int .i64 0) := Hzz6.out.cell 1
  have qz2_6 : wz6.cell? ⟨wz2.heap.size, 2, none⟩ = some (.int .i64 0) := Hzz6.out.cell 2
  have qz3_6 : wz6.cell? ⟨wz2.heap.size, 3, none⟩ = some (.int .u64 0) := Hzz6.out.cell 3
  have qz4_6 : wz6.cell? ⟨wz2.heap.size, 4, none⟩ = some (.int .u64 0) := Hzz6.out.cell 4
  have lz_6 : wz2.heap.size < wz6.heap.size := Hzz6.out.lt
  go_wp2
  go_ret
  exact ⟨rfl, HBz6.out⟩
set_option linter.unusedSimpArgs false in
set_option linter.unusedVariables false in
set_option maxHeartbeats 8000000 in
set_option maxRecDepth 100000 in
theorem points16_110 (kind size m sum d pa pb pc pd pe : Int) (w : World) (g0 : (m == 0) = false)
    (HPO : Hid (∀ W, Calls Try.prog 15 #[.agg #[.int .i64 kind, .int .i64 size, .int .i64 m, .int .i64 sum], .int .i64 d] W fun e w' => e = .returned (.tuple #[.agg #[.int .i64 pa, .int .i64 pb, .int .i64 pc, .int .u64 pd, .int .u64 pe], .int .i64 0]) ∧ Below W.heap.size W w'))
    (HRR : Hid (∀ W, Calls Try.prog 10 #[.agg #[.int .i64 kind, .int .i64 size, .int .i64 m, .int .i64 sum]] W fun e w' => e = .returned (.bool true) ∧ Below W.heap.size W w'))
    (HAL : Hid (∀ W, Calls Try.prog 11 #[] W fun e w' => e = .returned (.bool true) ∧ Below W.heap.size W w'))
    (HCN : Hid (∀ W, Calls Try.prog 13 #[.agg #[.int .i64 kind, .int .i64 size, .int .i64 m, .int .i64 sum], .int .i64 d] W fun e w' => e = .returned (.bool true) ∧ Below W.heap.size W w'))
    (HRP : Hid (∀ W, Calls Try.prog 16 #[.agg #[.int .i64 kind, .int .i64 size, .int .i64 m, .int .i64 sum], .int .i64 d] W fun e w' => e = .returned (.agg #[.int .i64 pa, .int .i64 pb, .int .i64 pc, .int .u64 pd, .int .u64 pe]) ∧ Below W.heap.size W w')) :
    Calls Try.prog 4 #[.agg #[.int .i64 kind, .int .i64 size, .int .i64 m, .int .i64 sum], .int .i64 d] w fun e w' => e = .returned (.bool true) ∧ Below w.heap.size w w' := by
  obtain ⟨w1, hw1⟩ : ∃ w1, w.alloc (.cells #[.int .i64 kind, .int .i64 size, .int .i64 m, .int .i64 sum] 23) = w1 := ⟨_, rfl⟩
  have HX1 := Lib.hid (show Has w1 w.heap.size [.int .i64 kind, .int .i64 size, .int .i64 m, .int .i64 sum] 23 by rw [← hw1]; exact Has.new w _ _)
  have HB1 := Lib.hid (show Below w.heap.size w w1 by rw [← hw1]; exact (Below.refl _ _).alloc (Nat.le_refl _) _)
  have HW1 := Lib.hid hw1
  have hbase := Nat.le_refl w.heap.size
  clear hw1
  go_enter Try.func4, Try.ntmps4
  go_upto_region 1 with fail
  rw [HW1.out]
  have hqp := eqPntT
  have qb0_0 : w1.cell? ⟨w.heap.size, 0, none⟩ = some (.int .i64 kind) := HX1.out.cell 0
  have qb1_0 : w1.cell? ⟨w.heap.size, 1, none⟩ = some (.int .i64 size) := HX1.out.cell 1
  have qb2_0 : w1.cell? ⟨w.heap.size, 2, none⟩ = some (.int .i64 m) := HX1.out.cell 2
  have qb3_0 : w1.cell? ⟨w.heap.size, 3, none⟩ = some (.int .i64 sum) := HX1.out.cell 3
  have lb_0 : w.heap.size < w1.heap.size := HX1.out.lt
  have hcz1 := HPO.out w1
  go_wp2_with fail
  refine hcz1.mono ?_
  rintro e wz1 ⟨rfl, kz1⟩
  clear hcz1 qb0_0 qb1_0 qb2_0 qb3_0 lb_0
  have HBz1 := Lib.hid (HB1.out.trans (kz1.mono (Nat.le_trans hbase HB1.out.size)))
  have Hbz1 := Lib.hid (HX1.out.call kz1)
  clear kz1
  obtain ⟨wz2, hwz2⟩ : ∃ wz2, wz1.alloc (.cells #[.int .i64 pa, .int .i64 pb, .int .i64 pc, .int .u64 pd, .int .u64 pe] 38) = wz2 := ⟨_, rfl⟩
  have kz2 : Below wz1.heap.size wz1 wz2 := by rw [← hwz2]; exact (Below.refl _ _).alloc (Nat.le_refl _) _
  have Hpz2 := Lib.hid (show Has wz2 wz1.heap.size [.int .i64 pa, .int .i64 pb, .int .i64 pc, .int .u64 pd, .int .u64 pe] 38 by rw [← hwz2]; exact Has.new _ _ _)
  have HWz2 := Lib.hid hwz2
  clear hwz2
  have HBz2 := Lib.hid (HBz1.out.trans (kz2.mono (Nat.le_trans hbase HBz1.out.size)))
  have Hbz2 := Lib.hid (Hbz1.out.call kz2)
  clear kz2
  go_upto_region 2 with fail
  rw [HWz2.out]
  obtain ⟨wz3, hwz3⟩ : ∃ wz3, wz2.alloc (.cells #[.int .i64 0, .int .i64 0, .int .i64 0, .int .u64 0, .int .u64 0] 38) = wz3 := ⟨_, rfl⟩
  have kz3 : Below wz2.heap.size wz2 wz3 := by rw [← hwz3]; exact (Below.refl _ _).alloc (Nat.le_refl _) _
  have Hzz3 := Lib.hid (show Has wz3 wz2.heap.size [.int .i64 0, .int .i64 0, .int .i64 0, .int .u64 0, .int .u64 0] 38 by rw [← hwz3]; exact Has.new _ _ _)
  have HWz3 := Lib.hid hwz3
  clear hwz3
  have HBz3 := Lib.hid (HBz2.out.trans (kz3.mono (Nat.le_trans hbase HBz2.out.size)))
  have Hbz3 := Lib.hid (Hbz2.out.call kz3)
  have Hpz3 := Lib.hid (Hpz2.out.call kz3)
  clear kz3
  have qb0_3 : wz2.cell? ⟨w.heap.size, 0, none⟩ = some (.int .i64 kind) := Hbz2.out.cell 0
  have qb1_3 : wz2.cell? ⟨w.heap.size, 1, none⟩ = some (.int .i64 size) := Hbz2.out.cell 1
  have qb2_3 : wz2.cell? ⟨w.heap.size, 2, none⟩ = some (.int .i64 m) := Hbz2.out.cell 2
  have qb3_3 : wz2.cell? ⟨w.heap.size, 3, none⟩ = some (.int .i64 sum) := Hbz2.out.cell 3
  have lb_3 : w.heap.size < wz2.heap.size := Hbz2.out.lt
  have hcz4 := HRR.out wz3
  go_wp2_with fail
  rw [HWz3.out]
  refine hcz4.mono ?_
  rintro e wz4 ⟨rfl, kz4⟩
  clear hcz4 qb0_3 qb1_3 qb2_3 qb3_3 lb_3
  have HBz4 := Lib.hid (HBz3.out.trans (kz4.mono (Nat.le_trans hbase HBz3.out.size)))
  have Hbz4 := Lib.hid (Hbz3.out.call kz4)
  have Hpz4 := Lib.hid (Hpz3.out.call kz4)
  have Hzz4 := Lib.hid (Hzz3.out.call kz4)
  clear kz4
  have qb0_4 : wz4.cell? ⟨w.heap.size, 0, none⟩ = some (.int .i64 kind) := Hbz4.out.cell 0
  have qb1_4 : wz4.cell? ⟨w.heap.size, 1, none⟩ = some (.int .i64 size) := Hbz4.out.cell 1
  have qb2_4 : wz4.cell? ⟨w.heap.size, 2, none⟩ = some (.int .i64 m) := Hbz4.out.cell 2
  have qb3_4 : wz4.cell? ⟨w.heap.size, 3, none⟩ = some (.int .i64 sum) := Hbz4.out.cell 3
  have lb_4 : w.heap.size < wz4.heap.size := Hbz4.out.lt
  have hcz5 := HCN.out wz4
  go_wp2_with fail
  refine hcz5.mono ?_
  rintro e wz5 ⟨rfl, kz5⟩
  clear hcz5 qb0_4 qb1_4 qb2_4 qb3_4 lb_4
  have HBz5 := Lib.hid (HBz4.out.trans (kz5.mono (Nat.le_trans hbase HBz4.out.size)))
  have Hbz5 := Lib.hid (Hbz4.out.call kz5)
  have Hpz5 := Lib.hid (Hpz4.out.call kz5)
  have Hzz5 := Lib.hid (Hzz4.out.call kz5)
  clear kz5
  have qb0_5 : wz5.cell? ⟨w.heap.size, 0, none⟩ = some (.int .i64 kind) := Hbz5.out.cell 0
  have qb1_5 : wz5.cell? ⟨w.heap.size, 1, none⟩ = some (.int .i64 size) := Hbz5.out.cell 1
  have qb2_5 : wz5.cell? ⟨w.heap.size, 2, none⟩ = some (.int .i64 m) := Hbz5.out.cell 2
  have qb3_5 : wz5.cell? ⟨w.heap.size, 3, none⟩ = some (.int .i64 sum) := Hbz5.out.cell 3
  have lb_5 : w.heap.size < wz5.heap.size := Hbz5.out.lt
  have qp0_5 : wz5.cell? ⟨wz1.heap.size, 0, none⟩ = some (.int .i64 pa) := Hpz5.out.cell 0
  have qp1_5 : wz5.cell? ⟨wz1.heap.size, 1, none⟩ = some (.int .i64 pb) := Hpz5.out.cell 1
  have qp2_5 : wz5.cell? ⟨wz1.heap.size, 2, none⟩ = some (.int .i64 pc) := Hpz5.out.cell 2
  have qp3_5 : wz5.cell? ⟨wz1.heap.size, 3, none⟩ = some (.int .u64 pd) := Hpz5.out.cell 3
  have qp4_5 : wz5.cell? ⟨wz1.heap.size, 4, none⟩ = some (.int .u64 pe) := Hpz5.out.cell 4
  have lp_5 : wz1.heap.size < wz5.heap.size := Hpz5.out.lt
  have qz0_5 : wz5.cell? ⟨wz2.heap.size, 0, none⟩ = some (.int .i64 0) := Hzz5.out.cell 0
  have qz1_5 : wz5.cell? ⟨wz2.heap.size, 1, none⟩ = some (.int .i64 0) := Hzz5.out.cell 1
  have qz2_5 : wz5.cell? ⟨wz2.heap.size, 2, none⟩ = some (.int .i64 0) := Hzz5.out.cell 2
  have qz3_5 : wz5.cell? ⟨wz2.heap.size, 3, none⟩ = some (.int .u64 0) := Hzz5.out.cell 3
  have qz4_5 : wz5.cell? ⟨wz2.heap.size, 4, none⟩ = some (.int .u64 0) := Hzz5.out.cell 4
  have lz_5 : wz2.heap.size < wz5.heap.size := Hzz5.out.lt
  go_upto_region 7 with fail
  clear qb0_5 qb1_5 qb2_5 qb3_5 lb_5 qp0_5 qp1_5 qp2_5 qp3_5 qp4_5 lp_5 qz0_5 qz1_5 qz2_5 qz3_5 qz4_5 lz_5
  refine wp_region_held_drew (S := (fun W' => W'.cell? ⟨w.heap.size, 0, none⟩ = some (.int .i64 kind) ∧ W'.cell? ⟨w.heap.size, 1, none⟩ = some (.int .i64 size) ∧ W'.cell? ⟨w.heap.size, 2, none⟩ = some (.int .i64 m) ∧ W'.cell? ⟨w.heap.size, 3, none⟩ = some (.int .i64 sum) ∧ W'.cell? ⟨wz1.heap.size, 0, none⟩ = some (.int .i64 pa) ∧ W'.cell? ⟨wz1.heap.size, 1, none⟩ = some (.int .i64 pb) ∧ W'.cell? ⟨wz1.heap.size, 2, none⟩ = some (.int .i64 pc) ∧ W'.cell? ⟨wz1.heap.size, 3, none⟩ = some (.int .u64 pd) ∧ W'.cell? ⟨wz1.heap.size, 4, none⟩ = some (.int .u64 pe))) (by kernel_rfl) ⟨Hbz5.out.cell 0, Hbz5.out.cell 1, Hbz5.out.cell 2, Hbz5.out.cell 3, Hpz5.out.cell 0, Hpz5.out.cell 1, Hpz5.out.cell 2, Hpz5.out.cell 3, Hpz5.out.cell 4⟩ (fun hHeld => ?_)
  refine regCall 0 (some 49) (f := 11) (args := ?_) rfl rfl (by kernel_rfl) (by rfl) ?_ ?_
  rotate_left 1
  · (go_simp; try with_reducible rfl)
  refine (HAL.out _).mono ?_
  rintro e wx0 ⟨rfl, kg6⟩
  refine ⟨_, rfl, ⟨(Hbz5.out.step kg6 rfl).cell 0, (Hbz5.out.step kg6 rfl).cell 1, (Hbz5.out.step kg6 rfl).cell 2, (Hbz5.out.step kg6 rfl).cell 3, (Hpz5.out.step kg6 rfl).cell 0, (Hpz5.out.step kg6 rfl).cell 1, (Hpz5.out.step kg6 rfl).cell 2, (Hpz5.out.step kg6 rfl).cell 3, (Hpz5.out.step kg6 rfl).cell 4⟩, fun hHeld => ?_⟩
  simp only [Act.put, List.setIfInBounds_toArray, List.set_cons_zero, List.set_cons_succ]
  have HBg6 := Lib.hid ((HBz5.out.drew).trans (kg6.mono (Nat.le_trans hbase (HBz5.out.drew).size)))
  have Hbg6 := Lib.hid (Hbz5.out.step kg6 rfl)
  have Hpg6 := Lib.hid (Hpz5.out.step kg6 rfl)
  have Hzg6 := Lib.hid (Hzz5.out.step kg6 rfl)
  clear kg6
  refine regTake 1 (some 50) (v := ?_) rfl rfl (by kernel_rfl) (by kernel_rfl) (by kernel_rfl) (fun _ _ _ h => h) (by rfl) hHeld ?_ ?_
  rotate_left 1
  · (intro w hSw; (try dsimp only at hSw); go_simp; try with_reducible rfl)
  simp only [Act.put, List.setIfInBounds_toArray, List.set_cons_zero, List.set_cons_succ]
  refine regTake 2 (some 51) (v := ?_) rfl rfl (by kernel_rfl) (by kernel_rfl) (by kernel_rfl) (fun _ _ _ h => h) (by rfl) hHeld ?_ ?_
  rotate_left 1
  · (intro w hSw; (try dsimp only at hSw); go_simp; try with_reducible rfl)
  simp only [Act.put, List.setIfInBounds_toArray, List.set_cons_zero, List.set_cons_succ]
  refine regTake 3 (some 52) (v := ?_) rfl rfl (by kernel_rfl) (by kernel_rfl) (by kernel_rfl) (fun _ _ _ h => h) (by rfl) hHeld ?_ ?_
  rotate_left 1
  · (intro w hSw; (try dsimp only at hSw); go_simp; try with_reducible rfl)
  simp only [Act.put, List.setIfInBounds_toArray, List.set_cons_zero, List.set_cons_succ]
  refine regTake 4 (some 53) (v := ?_) rfl rfl (by kernel_rfl) (by kernel_rfl) (by kernel_rfl) (fun _ _ _ h => h) (by rfl) hHeld ?_ ?_
  rotate_left 1
  · (intro w hSw; (try dsimp only at hSw); go_simp; try with_reducible rfl)
  simp only [Act.put, List.setIfInBounds_toArray, List.set_cons_zero, List.set_cons_succ]
  refine regTake 5 (some 54) (v := ?_) rfl rfl (by kernel_rfl) (by kernel_rfl) (by kernel_rfl) (fun _ _ _ h => h) (by rfl) hHeld ?_ ?_
  rotate_left 1
  · (intro w hSw; (try dsimp only at hSw); go_simp; try with_reducible rfl)
  simp only [Act.put, List.setIfInBounds_toArray, List.set_cons_zero, List.set_cons_succ]
  refine regTake 6 (some 55) (v := ?_) rfl rfl (by kernel_rfl) (by kernel_rfl) (by kernel_rfl) (fun _ _ _ h => h) (by rfl) hHeld ?_ ?_
  rotate_left 1
  · (intro w hSw; (try dsimp only at hSw); go_simp; try with_reducible rfl)
  simp only [Act.put, List.setIfInBounds_toArray, List.set_cons_zero, List.set_cons_succ]
  refine regTake 7 (some 56) (v := ?_) rfl rfl (by kernel_rfl) (by kernel_rfl) (by kernel_rfl) (fun _ _ _ h => h) (by rfl) hHeld ?_ ?_
  rotate_left 1
  · (intro w hSw; (try dsimp only at hSw); go_simp; try with_reducible rfl)
  simp only [Act.put, List.setIfInBounds_toArray, List.set_cons_zero, List.set_cons_succ]
  refine regTake 8 (some 57) (v := ?_) rfl rfl (by kernel_rfl) (by kernel_rfl) (by kernel_rfl) (fun _ _ _ h => h) (by rfl) hHeld ?_ ?_
  rotate_left 1
  · (intro w hSw; (try dsimp only at hSw); go_simp; try with_reducible rfl)
  simp only [Act.put, List.setIfInBounds_toArray, List.set_cons_zero, List.set_cons_succ]
  refine regCall 9 (some 58) (f := 16) (args := ?_) rfl rfl (by kernel_rfl) (by rfl) ?_ ?_
  rotate_left 1
  · (go_simp; try with_reducible rfl)
  refine (HRP.out _).mono ?_
  rintro e wx9 ⟨rfl, kg7⟩
  refine ⟨_, rfl, ⟨(Hbg6.out.step kg7 rfl).cell 0, (Hbg6.out.step kg7 rfl).cell 1, (Hbg6.out.step kg7 rfl).cell 2, (Hbg6.out.step kg7 rfl).cell 3, (Hpg6.out.step kg7 rfl).cell 0, (Hpg6.out.step kg7 rfl).cell 1, (Hpg6.out.step kg7 rfl).cell 2, (Hpg6.out.step kg7 rfl).cell 3, (Hpg6.out.step kg7 rfl).cell 4⟩, fun hHeld => ?_⟩
  simp only [Act.put, List.setIfInBounds_toArray, List.set_cons_zero, List.set_cons_succ]
  have HBg7 := Lib.hid ((HBg6.out).trans (kg7.mono (Nat.le_trans hbase (HBg6.out).size)))
  have Hbg7 := Lib.hid (Hbg6.out.step kg7 rfl)
  have Hpg7 := Lib.hid (Hpg6.out.step kg7 rfl)
  have Hzg7 := Lib.hid (Hzg6.out.step kg7 rfl)
  clear kg7
  refine regTake 10 (some 59) (v := ?_) rfl rfl (by kernel_rfl) (by kernel_rfl) (by kernel_rfl) (fun _ _ _ h => h) (by rfl) hHeld ?_ ?_
  rotate_left 1
  · (intro w hSw; (try dsimp only at hSw); go_simp; try with_reducible rfl)
  simp only [Act.put, List.setIfInBounds_toArray, List.set_cons_zero, List.set_cons_succ]
  refine regTake 11 (some 60) (v := ?_) rfl rfl (by kernel_rfl) (by kernel_rfl) (by kernel_rfl) (fun _ _ _ h => h) (by rfl) hHeld ?_ ?_
  rotate_left 1
  · (intro w hSw; (try dsimp only at hSw); go_simp; try with_reducible rfl)
  simp only [Act.put, List.setIfInBounds_toArray, List.set_cons_zero, List.set_cons_succ]
  refine regTake 12 (some 4) (v := ?_) rfl rfl (by kernel_rfl) (by kernel_rfl) (by kernel_rfl) (fun _ _ _ h => h) (by rfl) hHeld ?_ ?_
  rotate_left 1
  · (intro w hSw; (try dsimp only at hSw); go_simp; try with_reducible rfl)
  simp only [Act.put, List.setIfInBounds_toArray, List.set_cons_zero, List.set_cons_succ]
  refine wpAnyH_done (by kernel_rfl) ?_ _
  clear hHeld
  go_wp2
  go_ret
  exact ⟨rfl, HBg7.out⟩
theorem takes16_walk (H : TalCode) (k n : Int) (s : Tal) (d : Int) (w : World) (hk : IsInt k) (hn : IsInt n) (hs : talI s) (hd : IsInt d) :
    Calls Try.prog 3 #[.int .i64 k, .int .i64 n, talV s, .int .i64 d] w fun e w' => e = .returned (.bool true) ∧ Below w.heap.size w w' := by
  have HNEW := Lib.hid (fun W => H.new k n hk hn W)
  have HTAK := Lib.hid (fun W => H.take s hs d hd W)
  have HRI := Lib.hid (fun W => H.right s hs W)
  have HRR := Lib.hid (fun W => right16_any s W)
  have HAL := Lib.hid (fun W => alive16_any H W)
  have HSZ := Lib.hid (fun W => below16 (sizes16_any k n W))
  have HCN := Lib.hid (fun W => count16_any s d W)
  cases g1 : sizesB k n <;> cases g2 : talB s
  all_goals
    unfold tnewA tnewE at HNEW
    unfold ttakA ttakE at HTAK
    rw [g1] at HNEW HSZ
    rw [g2] at HTAK HRI HRR
  · exact takes16_0000 _ _ _ _ _ _ _ w HNEW HTAK HRI HRR HAL HSZ
  · cases g3 : cntB s d
    · rw [g3] at HTAK HCN
      exact takes16_0100 _ _ _ _ _ _ _ w HNEW HTAK HRI HRR HAL HSZ HCN
    · rw [g3] at HTAK HCN
      by_cases g4 : s.m = 25
      · simp only [Bool.and_self, if_pos g4, if_true] at HTAK
        exact takes16_0111 _ _ _ _ _ _ _ w (beq_iff_eq.2 g4) HNEW HTAK HRI HRR HAL HSZ HCN
      · simp only [Bool.and_self, if_neg g4, if_true] at HTAK
        have HRT := Lib.hid (fun W => take16_any s d (of_decide_eq_true g2) g3 W)
        exact takes16_0110 _ _ _ _ _ _ _ _ _ _ _ w (beq_false_of_ne g4) HNEW HTAK HRI HRR HAL HSZ HCN HRT
  · exact takes16_1000 _ _ _ _ _ _ _ w HNEW HTAK HRI HRR HAL HSZ
  · cases g3 : cntB s d
    · rw [g3] at HTAK HCN
      exact takes16_1100 _ _ _ _ _ _ _ w HNEW HTAK HRI HRR HAL HSZ HCN
    · rw [g3] at HTAK HCN
      by_cases g4 : s.m = 25
      · simp only [Bool.and_self, if_pos g4, if_true] at HTAK
        exact takes16_1111 _ _ _ _ _ _ _ w (beq_iff_eq.2 g4) HNEW HTAK HRI HRR HAL HSZ HCN
      · simp only [Bool.and_self, if_neg g4, if_true] at HTAK
        have HRT := Lib.hid (fun W => take16_any s d (of_decide_eq_true g2) g3 W)
        exact takes16_1110 _ _ _ _ _ _ _ _ _ _ _ w (beq_false_of_ne g4) HNEW HTAK HRI HRR HAL HSZ HCN HRT
theorem points16_walk (H : TalCode) (s : Tal) (d : Int) (w : World) (hs : talI s) (hd : IsInt d) :
    Calls Try.prog 4 #[talV s, .int .i64 d] w fun e w' => e = .returned (.bool true) ∧ Below w.heap.size w w' := by
  have HPO := Lib.hid (fun W => H.point s hs d hd W)
  have HRR := Lib.hid (fun W => right16_any s W)
  have HAL := Lib.hid (fun W => alive16_any H W)
  have HCN := Lib.hid (fun W => count16_any s d W)
  have pN : tpoiE s d ≠ 0 → tpoiA s d = pnt0 := fun h => if_neg h
  cases g2 : talB s
  · rw [g2] at HRR
    have hE : tpoiE s d = 1 := by unfold tpoiE; rw [g2]; rfl
    rw [pN (by omega), hE] at HPO
    exact points16_000 _ _ _ _ _ w HPO HRR HAL
  · rw [g2] at HRR
    cases g3 : cntB s d
    · rw [g3] at HCN
      have hE : tpoiE s d = 1 := by unfold tpoiE; rw [g2, g3]; rfl
      rw [pN (by omega), hE] at HPO
      exact points16_100 _ _ _ _ _ w HPO HRR HAL HCN
    · rw [g3] at HCN
      by_cases g4 : s.m = 0
      · have hE : tpoiE s d = 12 := by unfold tpoiE; rw [g2, g3]; exact if_pos g4
        rw [pN (by omega), hE] at HPO
        exact points16_111 _ _ _ _ _ w (beq_iff_eq.2 g4) HPO HRR HAL HCN
      · have hE : tpoiE s d = 0 := by unfold tpoiE; rw [g2, g3]; exact if_neg g4
        have hA : tpoiA s d = pntT s d := by unfold tpoiA; rw [hE]; rfl
        rw [hA, hE] at HPO
        have HRP := Lib.hid (fun W => point16_any s d (of_decide_eq_true g2) g3 W)
        exact points16_110 _ _ _ _ _ _ _ _ _ _ w (beq_false_of_ne g4) HPO HRR HAL HCN HRP
end Go.Proofs.Ytgmifimpeefpcaa
