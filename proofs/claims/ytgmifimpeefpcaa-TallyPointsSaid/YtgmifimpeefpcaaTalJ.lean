/- tally.New, Take. -/
import Derived.Test.YtgmifimpeefpcaaTalG
namespace Go.Proofs.Ytgmifimpeefpcaa
open Go.RowKit

set_option linter.unusedSimpArgs false in
set_option linter.unusedVariables false in
set_option maxHeartbeats 8000000 in
set_option maxRecDepth 100000 in
theorem tnew_0 (k n : Int) (w : World) (mr : (∀ W, Calls Try.prog 9 #[.agg #[.int .i64 k, .int .i64 n, .int .i64 0, .int .i64 0]] W fun e w' => e = .returned (.bool false) ∧ Below W.heap.size W w')) : Calls Try.prog 7 #[.int .i64 k, .int .i64 n] w fun e w' => e = .returned (.tuple #[.agg #[.int .i64 0, .int .i64 0, .int .i64 0, .int .i64 0], .int .i64 1]) ∧ Below w.heap.size w w' := by
  have MR := Lib.hid mr
  clear mr
  obtain ⟨w2, hw2⟩ : ∃ w2, w.alloc (.cells #[.int .i64 0, .int .i64 0, .int .i64 0, .int .i64 0] 23) = w2 := ⟨_, rfl⟩
  have HB2 := Lib.hid (show Below w.heap.size w w2 by rw [← hw2]; exact (Below.refl _ _).alloc (Nat.le_refl _) _)
  have HZ2 := Lib.hid (show Has w2 w.heap.size [.int .i64 0, .int .i64 0, .int .i64 0, .int .i64 0] 23 by rw [← hw2]; exact Has.new w _ _)
  have HW2 := Lib.hid hw2
  clear hw2
  have hbase := Nat.le_refl w.heap.size
  go_enter Try.func7, Try.ntmps7
  go_upto_region 1 with fail
  rw [HW2.out]
  obtain ⟨wz1, hwz1⟩ : ∃ wz1, w2.alloc (.cells #[.int .i64 k, .int .i64 n, .int .i64 0, .int .i64 0] 23) = wz1 := ⟨_, rfl⟩
  have kz1 : Below w2.heap.size w2 wz1 := by rw [← hwz1]; exact (Below.refl _ _).alloc (Nat.le_refl _) _
  have Htz1 := Lib.hid (show Has wz1 w2.heap.size [.int .i64 k, .int .i64 n, .int .i64 0, .int .i64 0] 23 by rw [← hwz1]; exact Has.new _ _ _)
  have HWz1 := Lib.hid hwz1
  clear hwz1
  have HBz1 := Lib.hid (HB2.out.trans (kz1.mono (Nat.le_trans hbase HB2.out.size)))
  have Hzz1 := Lib.hid (HZ2.out.call kz1)
  clear kz1
  go_upto_region 2 with fail
  rw [HWz1.out]
  have qt0_1 : wz1.cell? ⟨w2.heap.size, 0, none⟩ = some (.int .i64 k) := Htz1.out.cell 0
  have qt1_1 : wz1.cell? ⟨w2.heap.size, 1, none⟩ = some (.int .i64 n) := Htz1.out.cell 1
  have qt2_1 : wz1.cell? ⟨w2.heap.size, 2, none⟩ = some (.int .i64 0) := Htz1.out.cell 2
  have qt3_1 : wz1.cell? ⟨w2.heap.size, 3, none⟩ = some (.int .i64 0) := Htz1.out.cell 3
  have lt_1 : w2.heap.size < wz1.heap.size := Htz1.out.lt
  have hcz2 := MR.out wz1
  go_wp2_with fail
  refine hcz2.mono ?_
  rintro e wz2 ⟨rfl, kz2⟩
  clear hcz2 qt0_1 qt1_1 qt2_1 qt3_1 lt_1
  have HBz2 := Lib.hid (HBz1.out.trans (kz2.mono (Nat.le_trans hbase HBz1.out.size)))
  have Hzz2 := Lib.hid (Hzz1.out.call kz2)
  have Htz2 := Lib.hid (Htz1.out.call kz2)
  clear kz2
  have qt0_2 : wz2.cell? ⟨w2.heap.size, 0, none⟩ = some (.int .i64 k) := Htz2.out.cell 0
  have qt1_2 : wz2.cell? ⟨w2.heap.size, 1, none⟩ = some (.int .i64 n) := Htz2.out.cell 1
  have qt2_2 : wz2.cell? ⟨w2.heap.size, 2, none⟩ = some (.int .i64 0) := Htz2.out.cell 2
  have qt3_2 : wz2.cell? ⟨w2.heap.size, 3, none⟩ = some (.int .i64 0) := Htz2.out.cell 3
  have lt_2 : w2.heap.size < wz2.heap.size := Htz2.out.lt
  have qz0_2 : wz2.cell? ⟨w.heap.size, 0, none⟩ = some (.int .i64 0) := Hzz2.out.cell 0
  have qz1_2 : wz2.cell? ⟨w.heap.size, 1, none⟩ = some (.int .i64 0) := Hzz2.out.cell 1
  have qz2_2 : wz2.cell? ⟨w.heap.size, 2, none⟩ = some (.int .i64 0) := Hzz2.out.cell 2
  have qz3_2 : wz2.cell? ⟨w.heap.size, 3, none⟩ = some (.int .i64 0) := Hzz2.out.cell 3
  have lz_2 : w.heap.size < wz2.heap.size := Hzz2.out.lt
  have zz0_2 : wz2.frozen? ⟨w.heap.size, 0, none⟩ = false := Hzz2.out.frozen 0
  have zz1_2 : wz2.frozen? ⟨w.heap.size, 1, none⟩ = false := Hzz2.out.frozen 1
  have zz2_2 : wz2.frozen? ⟨w.heap.size, 2, none⟩ = false := Hzz2.out.frozen 2
  have zz3_2 : wz2.frozen? ⟨w.heap.size, 3, none⟩ = false := Hzz2.out.frozen 3
  have HP := Lib.hid (Hzz2.out.put4B (.int .i64 0) (.int .i64 0) (.int .i64 0) (.int .i64 0))
  have HQ := Lib.hid (Below.put4B HBz2.out (b := w.heap.size) (by first | exact Nat.le_refl _ | omega) (.int .i64 0) (.int .i64 0) (.int .i64 0) (.int .i64 0))
  go_wp2_with fail
  (try simp only [Exit.inBlock, Exit.then])
  exact bodyPost_ret (results_cell_tmp rfl rfl (loadTal HP.out)) rfl ⟨rfl, HQ.out⟩
set_option linter.unusedSimpArgs false in
set_option linter.unusedVariables false in
set_option maxHeartbeats 8000000 in
set_option maxRecDepth 100000 in
theorem tnew_1 (k n : Int) (w : World) (mr : (∀ W, Calls Try.prog 9 #[.agg #[.int .i64 k, .int .i64 n, .int .i64 0, .int .i64 0]] W fun e w' => e = .returned (.bool true) ∧ Below W.heap.size W w')) : Calls Try.prog 7 #[.int .i64 k, .int .i64 n] w fun e w' => e = .returned (.tuple #[.agg #[.int .i64 k, .int .i64 n, .int .i64 0, .int .i64 0], .int .i64 0]) ∧ Below w.heap.size w w' := by
  have MR := Lib.hid mr
  clear mr
  obtain ⟨w2, hw2⟩ : ∃ w2, w.alloc (.cells #[.int .i64 0, .int .i64 0, .int .i64 0, .int .i64 0] 23) = w2 := ⟨_, rfl⟩
  have HB2 := Lib.hid (show Below w.heap.size w w2 by rw [← hw2]; exact (Below.refl _ _).alloc (Nat.le_refl _) _)
  have HZ2 := Lib.hid (show Has w2 w.heap.size [.int .i64 0, .int .i64 0, .int .i64 0, .int .i64 0] 23 by rw [← hw2]; exact Has.new w _ _)
  have HW2 := Lib.hid hw2
  clear hw2
  have hbase := Nat.le_refl w.heap.size
  go_enter Try.func7, Try.ntmps7
  go_upto_region 1 with fail
  rw [HW2.out]
  obtain ⟨wz1, hwz1⟩ : ∃ wz1, w2.alloc (.cells #[.int .i64 k, .int .i64 n, .int .i64 0, .int .i64 0] 23) = wz1 := ⟨_, rfl⟩
  have kz1 : Below w2.heap.size w2 wz1 := by rw [← hwz1]; exact (Below.refl _ _).alloc (Nat.le_refl _) _
  have Htz1 := Lib.hid (show Has wz1 w2.heap.size [.int .i64 k, .int .i64 n, .int .i64 0, .int .i64 0] 23 by rw [← hwz1]; exact Has.new _ _ _)
  have HWz1 := Lib.hid hwz1
  clear hwz1
  have HBz1 := Lib.hid (HB2.out.trans (kz1.mono (Nat.le_trans hbase HB2.out.size)))
  have Hzz1 := Lib.hid (HZ2.out.call kz1)
  clear kz1
  go_upto_region 2 with fail
  rw [HWz1.out]
  have qt0_1 : wz1.cell? ⟨w2.heap.size, 0, none⟩ = some (.int .i64 k) := Htz1.out.cell 0
  have qt1_1 : wz1.cell? ⟨w2.heap.size, 1, none⟩ = some (.int .i64 n) := Htz1.out.cell 1
  have qt2_1 : wz1.cell? ⟨w2.heap.size, 2, none⟩ = some (.int .i64 0) := Htz1.out.cell 2
  have qt3_1 : wz1.cell? ⟨w2.heap.size, 3, none⟩ = some (.int .i64 0) := Htz1.out.cell 3
  have lt_1 : w2.heap.size < wz1.heap.size := Htz1.out.lt
  have hcz2 := MR.out wz1
  go_wp2_with fail
  refine hcz2.mono ?_
  rintro e wz2 ⟨rfl, kz2⟩
  clear hcz2 qt0_1 qt1_1 qt2_1 qt3_1 lt_1
  have HBz2 := Lib.hid (HBz1.out.trans (kz2.mono (Nat.le_trans hbase HBz1.out.size)))
  have Hzz2 := Lib.hid (Hzz1.out.call kz2)
  have Htz2 := Lib.hid (Htz1.out.call kz2)
  clear kz2
  have qt0_2 : wz2.cell? ⟨w2.heap.size, 0, none⟩ = some (.int .i64 k) := Htz2.out.cell 0
  have qt1_2 : wz2.cell? ⟨w2.heap.size, 1, none⟩ = some (.int .i64 n) := Htz2.out.cell 1
  have qt2_2 : wz2.cell? ⟨w2.heap.size, 2, none⟩ = some (.int .i64 0) := Htz2.out.cell 2
  have qt3_2 : wz2.cell? ⟨w2.heap.size, 3, none⟩ = some (.int .i64 0) := Htz2.out.cell 3
  have lt_2 : w2.heap.size < wz2.heap.size := Htz2.out.lt
  have qz0_2 : wz2.cell? ⟨w.heap.size, 0, none⟩ = some (.int .i64 0) := Hzz2.out.cell 0
  have qz1_2 : wz2.cell? ⟨w.heap.size, 1, none⟩ = some (.int .i64 0) := Hzz2.out.cell 1
  have qz2_2 : wz2.cell? ⟨w.heap.size, 2, none⟩ = some (.int .i64 0) := Hzz2.out.cell 2
  have qz3_2 : wz2.cell? ⟨w.heap.size, 3, none⟩ = some (.int .i64 0) := Hzz2.out.cell 3
  have lz_2 : w.heap.size < wz2.heap.size := Hzz2.out.lt
  have zz0_2 : wz2.frozen? ⟨w.heap.size, 0, none⟩ = false := Hzz2.out.frozen 0
  have zz1_2 : wz2.frozen? ⟨w.heap.size, 1, none⟩ = false := Hzz2.out.frozen 1
  have zz2_2 : wz2.frozen? ⟨w.heap.size, 2, none⟩ = false := Hzz2.out.frozen 2
  have zz3_2 : wz2.frozen? ⟨w.heap.size, 3, none⟩ = false := Hzz2.out.frozen 3
  have HP := Lib.hid (Hzz2.out.put4B (.int .i64 k) (.int .i64 n) (.int .i64 0) (.int .i64 0))
  have HQ := Lib.hid (Below.put4B HBz2.out (b := w.heap.size) (by first | exact Nat.le_refl _ | omega) (.int .i64 k) (.int .i64 n) (.int .i64 0) (.int .i64 0))
  go_wp2_with fail
  (try simp only [Exit.inBlock, Exit.then])
  exact bodyPost_ret (results_cell_tmp rfl rfl (loadTal HP.out)) rfl ⟨rfl, HQ.out⟩
set_option linter.unusedSimpArgs false in
set_option linter.unusedVariables false in
set_option maxHeartbeats 8000000 in
set_option maxRecDepth 100000 in
theorem ttake_0 (kind size m sum d : Int) (w : World) (mr : (∀ W, Calls Try.prog 9 #[.agg #[.int .i64 kind, .int .i64 size, .int .i64 m, .int .i64 sum]] W fun e w' => e = .returned (.bool false) ∧ Below W.heap.size W w'))  : Calls Try.prog 8 #[.agg #[.int .i64 kind, .int .i64 size, .int .i64 m, .int .i64 sum], .int .i64 d] w fun e w' => e = .returned (.tuple #[.agg #[.int .i64 0, .int .i64 0, .int .i64 0, .int .i64 0], .int .i64 1]) ∧ Below w.heap.size w w' := by
  have MR := Lib.hid mr
  clear mr
  obtain ⟨w2, hw2⟩ : ∃ w2, (w.alloc (.cells #[.int .i64 kind, .int .i64 size, .int .i64 m, .int .i64 sum] 23)).alloc (.cells #[.int .i64 0, .int .i64 0, .int .i64 0, .int .i64 0] 23) = w2 := ⟨_, rfl⟩
  have h2 : TwoB w w2 [.int .i64 kind, .int .i64 size, .int .i64 m, .int .i64 sum] [.int .i64 0, .int .i64 0, .int .i64 0, .int .i64 0] 23 23 := by rw [← hw2]; exact twoB w _ _ _ _
  have HB2 := Lib.hid h2.below; have HV2 := Lib.hid h2.a; have HZ2 := Lib.hid h2.b
  have HW2 := Lib.hid hw2
  clear hw2 h2
  have hbase := Nat.le_refl w.heap.size
  go_enter Try.func8, Try.ntmps8
  go_upto_region 1 with fail
  rw [HW2.out]
  have qb0_0 : w2.cell? ⟨w.heap.size, 0, none⟩ = some (.int .i64 kind) := HV2.out.cell 0
  have qb1_0 : w2.cell? ⟨w.heap.size, 1, none⟩ = some (.int .i64 size) := HV2.out.cell 1
  have qb2_0 : w2.cell? ⟨w.heap.size, 2, none⟩ = some (.int .i64 m) := HV2.out.cell 2
  have qb3_0 : w2.cell? ⟨w.heap.size, 3, none⟩ = some (.int .i64 sum) := HV2.out.cell 3
  have lb_0 : w.heap.size < w2.heap.size := HV2.out.lt
  have hcz1 := MR.out w2
  go_wp2_with fail
  refine hcz1.mono ?_
  rintro e wz1 ⟨rfl, kz1⟩
  clear hcz1 qb0_0 qb1_0 qb2_0 qb3_0 lb_0
  have HBz1 := Lib.hid (HB2.out.trans (kz1.mono (Nat.le_trans hbase HB2.out.size)))
  have Hbz1 := Lib.hid (HV2.out.call kz1)
  have Hzz1 := Lib.hid (HZ2.out.call kz1)
  clear kz1
  have qb0_1 : wz1.cell? ⟨w.heap.size, 0, none⟩ = some (.int .i64 kind) := Hbz1.out.cell 0
  have qb1_1 : wz1.cell? ⟨w.heap.size, 1, none⟩ = some (.int .i64 size) := Hbz1.out.cell 1
  have qb2_1 : wz1.cell? ⟨w.heap.size, 2, none⟩ = some (.int .i64 m) := Hbz1.out.cell 2
  have qb3_1 : wz1.cell? ⟨w.heap.size, 3, none⟩ = some (.int .i64 sum) := Hbz1.out.cell 3
  have lb_1 : w.heap.size < wz1.heap.size := Hbz1.out.lt
  have qz0_1 : wz1.cell? ⟨w.heap.size + 1, 0, none⟩ = some (.int .i64 0) := Hzz1.out.cell 0
  have qz1_1 : wz1.cell? ⟨w.heap.size + 1, 1, none⟩ = some (.int .i64 0) := Hzz1.out.cell 1
  have qz2_1 : wz1.cell? ⟨w.heap.size + 1, 2, none⟩ = some (.int .i64 0) := Hzz1.out.cell 2
  have qz3_1 : wz1.cell? ⟨w.heap.size + 1, 3, none⟩ = some (.int .i64 0) := Hzz1.out.cell 3
  have lz_1 : w.heap.size + 1 < wz1.heap.size := Hzz1.out.lt
  have zz0_1 : wz1.frozen? ⟨w.heap.size + 1, 0, none⟩ = false := Hzz1.out.frozen 0
  have zz1_1 : wz1.frozen? ⟨w.heap.size + 1, 1, none⟩ = false := Hzz1.out.frozen 1
  have zz2_1 : wz1.frozen? ⟨w.heap.size + 1, 2, none⟩ = false := Hzz1.out.frozen 2
  have zz3_1 : wz1.frozen? ⟨w.heap.size + 1, 3, none⟩ = false := Hzz1.out.frozen 3
  have HP := Lib.hid (Hzz1.out.put4B (.int .i64 0) (.int .i64 0) (.int .i64 0) (.int .i64 0))
  have HQ := Lib.hid (Below.put4B HBz1.out (b := w.heap.size + 1) (by first | exact Nat.le_refl _ | omega) (.int .i64 0) (.int .i64 0) (.int .i64 0) (.int .i64 0))
  go_wp2_with fail
  (try simp only [Exit.inBlock, Exit.then])
  exact bodyPost_ret (results_cell_tmp rfl rfl (loadTal HP.out)) rfl ⟨rfl, HQ.out⟩
set_option linter.unusedSimpArgs false in
set_option linter.unusedVariables false in
set_option maxHeartbeats 8000000 in
set_option maxRecDepth 100000 in
theorem ttake_1 (kind size m sum d : Int) (w : World) (mr : (∀ W, Calls Try.prog 9 #[.agg #[.int .i64 kind, .int .i64 size, .int .i64 m, .int .i64 sum]] W fun e w' => e = .returned (.bool true) ∧ Below W.heap.size W w')) (mc : (∀ W, Calls Try.prog 19 #[.agg #[.int .i64 kind, .int .i64 size, .int .i64 m, .int .i64 sum], .int .i64 d] W fun e w' => e = .returned (.bool false) ∧ Below W.heap.size W w'))  : Calls Try.prog 8 #[.agg #[.int .i64 kind, .int .i64 size, .int .i64 m, .int .i64 sum], .int .i64 d] w fun e w' => e = .returned (.tuple #[.agg #[.int .i64 0, .int .i64 0, .int .i64 0, .int .i64 0], .int .i64 1]) ∧ Below w.heap.size w w' := by
  have MR := Lib.hid mr; have MC := Lib.hid mc
  clear mr mc
  obtain ⟨w2, hw2⟩ : ∃ w2, (w.alloc (.cells #[.int .i64 kind, .int .i64 size, .int .i64 m, .int .i64 sum] 23)).alloc (.cells #[.int .i64 0, .int .i64 0, .int .i64 0, .int .i64 0] 23) = w2 := ⟨_, rfl⟩
  have h2 : TwoB w w2 [.int .i64 kind, .int .i64 size, .int .i64 m, .int .i64 sum] [.int .i64 0, .int .i64 0, .int .i64 0, .int .i64 0] 23 23 := by rw [← hw2]; exact twoB w _ _ _ _
  have HB2 := Lib.hid h2.below; have HV2 := Lib.hid h2.a; have HZ2 := Lib.hid h2.b
  have HW2 := Lib.hid hw2
  clear hw2 h2
  have hbase := Nat.le_refl w.heap.size
  go_enter Try.func8, Try.ntmps8
  go_upto_region 1 with fail
  rw [HW2.out]
  have qb0_0 : w2.cell? ⟨w.heap.size, 0, none⟩ = some (.int .i64 kind) := HV2.out.cell 0
  have qb1_0 : w2.cell? ⟨w.heap.size, 1, none⟩ = some (.int .i64 size) := HV2.out.cell 1
  have qb2_0 : w2.cell? ⟨w.heap.size, 2, none⟩ = some (.int .i64 m) := HV2.out.cell 2
  have qb3_0 : w2.cell? ⟨w.heap.size, 3, none⟩ = some (.int .i64 sum) := HV2.out.cell 3
  have lb_0 : w.heap.size < w2.heap.size := HV2.out.lt
  have hcz1 := MR.out w2
  go_wp2_with fail
  refine hcz1.mono ?_
  rintro e wz1 ⟨rfl, kz1⟩
  clear hcz1 qb0_0 qb1_0 qb2_0 qb3_0 lb_0
  have HBz1 := Lib.hid (HB2.out.trans (kz1.mono (Nat.le_trans hbase HB2.out.size)))
  have Hbz1 := Lib.hid (HV2.out.call kz1)
  have Hzz1 := Lib.hid (HZ2.out.call kz1)
  clear kz1
  have qb0_1 : wz1.cell? ⟨w.heap.size, 0, none⟩ = some (.int .i64 kind) := Hbz1.out.cell 0
  have qb1_1 : wz1.cell? ⟨w.heap.size, 1, none⟩ = some (.int .i64 size) := Hbz1.out.cell 1
  have qb2_1 : wz1.cell? ⟨w.heap.size, 2, none⟩ = some (.int .i64 m) := Hbz1.out.cell 2
  have qb3_1 : wz1.cell? ⟨w.heap.size, 3, none⟩ = some (.int .i64 sum) := Hbz1.out.cell 3
  have lb_1 : w.heap.size < wz1.heap.size := Hbz1.out.lt
  have hcz2 := MC.out wz1
  go_wp2_with fail
  refine hcz2.mono ?_
  rintro e wz2 ⟨rfl, kz2⟩
  clear hcz2 qb0_1 qb1_1 qb2_1 qb3_1 lb_1
  have HBz2 := Lib.hid (HBz1.out.trans (kz2.mono (Nat.le_trans hbase HBz1.out.size)))
  have Hbz2 := Lib.hid (Hbz1.out.call kz2)
  have Hzz2 := Lib.hid (Hzz1.out.call kz2)
  clear kz2
  have qb0_2 : wz2.cell? ⟨w.heap.size, 0, none⟩ = some (.int .i64 kind) := Hbz2.out.cell 0
  have qb1_2 : wz2.cell? ⟨w.heap.size, 1, none⟩ = some (.int .i64 size) := Hbz2.out.cell 1
  have qb2_2 : wz2.cell? ⟨w.heap.size, 2, none⟩ = some (.int .i64 m) := Hbz2.out.cell 2
  have qb3_2 : wz2.cell? ⟨w.heap.size, 3, none⟩ = some (.int .i64 sum) := Hbz2.out.cell 3
  have lb_2 : w.heap.size < wz2.heap.size := Hbz2.out.lt
  have qz0_2 : wz2.cell? ⟨w.heap.size + 1, 0, none⟩ = some (.int .i64 0) := Hzz2.out.cell 0
  have qz1_2 : wz2.cell? ⟨w.heap.size + 1, 1, none⟩ = some (.int .i64 0) := Hzz2.out.cell 1
  have qz2_2 : wz2.cell? ⟨w.heap.size + 1, 2, none⟩ = some (.int .i64 0) := Hzz2.out.cell 2
  have qz3_2 : wz2.cell? ⟨w.heap.size + 1, 3, none⟩ = some (.int .i64 0) := Hzz2.out.cell 3
  have lz_2 : w.heap.size + 1 < wz2.heap.size := Hzz2.out.lt
  have zz0_2 : wz2.frozen? ⟨w.heap.size + 1, 0, none⟩ = false := Hzz2.out.frozen 0
  have zz1_2 : wz2.frozen? ⟨w.heap.size + 1, 1, none⟩ = false := Hzz2.out.frozen 1
  have zz2_2 : wz2.frozen? ⟨w.heap.size + 1, 2, none⟩ = false := Hzz2.out.frozen 2
  have zz3_2 : wz2.frozen? ⟨w.heap.size + 1, 3, none⟩ = false := Hzz2.out.frozen 3
  have HP := Lib.hid (Hzz2.out.put4B (.int .i64 0) (.int .i64 0) (.int .i64 0) (.int .i64 0))
  have HQ := Lib.hid (Below.put4B HBz2.out (b := w.heap.size + 1) (by first | exact Nat.le_refl _ | omega) (.int .i64 0) (.int .i64 0) (.int .i64 0) (.int .i64 0))
  go_wp2_with fail
  (try simp only [Exit.inBlock, Exit.then])
  exact bodyPost_ret (results_cell_tmp rfl rfl (loadTal HP.out)) rfl ⟨rfl, HQ.out⟩
set_option linter.unusedSimpArgs false in
set_option linter.unusedVariables false in
set_option maxHeartbeats 8000000 in
set_option maxRecDepth 100000 in
theorem ttake_2 (kind size m sum d : Int) (w : World) (mr : (∀ W, Calls Try.prog 9 #[.agg #[.int .i64 kind, .int .i64 size, .int .i64 m, .int .i64 sum]] W fun e w' => e = .returned (.bool true) ∧ Below W.heap.size W w')) (mc : (∀ W, Calls Try.prog 19 #[.agg #[.int .i64 kind, .int .i64 size, .int .i64 m, .int .i64 sum], .int .i64 d] W fun e w' => e = .returned (.bool true) ∧ Below W.heap.size W w')) (g : (m == 25) = true) : Calls Try.prog 8 #[.agg #[.int .i64 kind, .int .i64 size, .int .i64 m, .int .i64 sum], .int .i64 d] w fun e w' => e = .returned (.tuple #[.agg #[.int .i64 0, .int .i64 0, .int .i64 0, .int .i64 0], .int .i64 11]) ∧ Below w.heap.size w w' := by
  have MR := Lib.hid mr; have MC := Lib.hid mc
  clear mr mc
  obtain ⟨w2, hw2⟩ : ∃ w2, (w.alloc (.cells #[.int .i64 kind, .int .i64 size, .int .i64 m, .int .i64 sum] 23)).alloc (.cells #[.int .i64 0, .int .i64 0, .int .i64 0, .int .i64 0] 23) = w2 := ⟨_, rfl⟩
  have h2 : TwoB w w2 [.int .i64 kind, .int .i64 size, .int .i64 m, .int .i64 sum] [.int .i64 0, .int .i64 0, .int .i64 0, .int .i64 0] 23 23 := by rw [← hw2]; exact twoB w _ _ _ _
  have HB2 := Lib.hid h2.below; have HV2 := Lib.hid h2.a; have HZ2 := Lib.hid h2.b
  have HW2 := Lib.hid hw2
  clear hw2 h2
  have hbase := Nat.le_refl w.heap.size
  go_enter Try.func8, Try.ntmps8
  go_upto_region 1 with fail
  rw [HW2.out]
  have qb0_0 : w2.cell? ⟨w.heap.size, 0, none⟩ = some (.int .i64 kind) := HV2.out.cell 0
  have qb1_0 : w2.cell? ⟨w.heap.size, 1, none⟩ = some (.int .i64 size) := HV2.out.cell 1
  have qb2_0 : w2.cell? ⟨w.heap.size, 2, none⟩ = some (.int .i64 m) := HV2.out.cell 2
  have qb3_0 : w2.cell? ⟨w.heap.size, 3, none⟩ = some (.int .i64 sum) := HV2.out.cell 3
  have lb_0 : w.heap.size < w2.heap.size := HV2.out.lt
  have hcz1 := MR.out w2
  go_wp2_with fail
  refine hcz1.mono ?_
  rintro e wz1 ⟨rfl, kz1⟩
  clear hcz1 qb0_0 qb1_0 qb2_0 qb3_0 lb_0
  have HBz1 := Lib.hid (HB2.out.trans (kz1.mono (Nat.le_trans hbase HB2.out.size)))
  have Hbz1 := Lib.hid (HV2.out.call kz1)
  have Hzz1 := Lib.hid (HZ2.out.call kz1)
  clear kz1
  have qb0_1 : wz1.cell? ⟨w.heap.size, 0, none⟩ = some (.int .i64 kind) := Hbz1.out.cell 0
  have qb1_1 : wz1.cell? ⟨w.heap.size, 1, none⟩ = some (.int .i64 size) := Hbz1.out.cell 1
  have qb2_1 : wz1.cell? ⟨w.heap.size, 2, none⟩ = some (.int .i64 m) := Hbz1.out.cell 2
  have qb3_1 : wz1.cell? ⟨w.heap.size, 3, none⟩ = some (.int .i64 sum) := Hbz1.out.cell 3
  have lb_1 : w.heap.size < wz1.heap.size := Hbz1.out.lt
  have hcz2 := MC.out wz1
  go_wp2_with fail
  refine hcz2.mono ?_
  rintro e wz2 ⟨rfl, kz2⟩
  clear hcz2 qb0_1 qb1_1 qb2_1 qb3_1 lb_1
  have HBz2 := Lib.hid (HBz1.out.trans (kz2.mono (Nat.le_trans hbase HBz1.out.size)))
  have Hbz2 := Lib.hid (Hbz1.out.call kz2)
  have Hzz2 := Lib.hid (Hzz1.out.call kz2)
  clear kz2
  have qb0_2 : wz2.cell? ⟨w.heap.size, 0, none⟩ = some (.int .i64 kind) := Hbz2.out.cell 0
  have qb1_2 : wz2.cell? ⟨w.heap.size, 1, none⟩ = some (.int .i64 size) := Hbz2.out.cell 1
  have qb2_2 : wz2.cell? ⟨w.heap.size, 2, none⟩ = some (.int .i64 m) := Hbz2.out.cell 2
  have qb3_2 : wz2.cell? ⟨w.heap.size, 3, none⟩ = some (.int .i64 sum) := Hbz2.out.cell 3
  have lb_2 : w.heap.size < wz2.heap.size := Hbz2.out.lt
  have qz0_2 : wz2.cell? ⟨w.heap.size + 1, 0, none⟩ = some (.int .i64 0) := Hzz2.out.cell 0
  have qz1_2 : wz2.cell? ⟨w.heap.size + 1, 1, none⟩ = some (.int .i64 0) := Hzz2.out.cell 1
  have qz2_2 : wz2.cell? ⟨w.heap.size + 1, 2, none⟩ = some (.int .i64 0) := Hzz2.out.cell 2
  have qz3_2 : wz2.cell? ⟨w.heap.size + 1, 3, none⟩ = some (.int .i64 0) := Hzz2.out.cell 3
  have lz_2 : w.heap.size + 1 < wz2.heap.size := Hzz2.out.lt
  have zz0_2 : wz2.frozen? ⟨w.heap.size + 1, 0, none⟩ = false := Hzz2.out.frozen 0
  have zz1_2 : wz2.frozen? ⟨w.heap.size + 1, 1, none⟩ = false := Hzz2.out.frozen 1
  have zz2_2 : wz2.frozen? ⟨w.heap.size + 1, 2, none⟩ = false := Hzz2.out.frozen 2
  have zz3_2 : wz2.frozen? ⟨w.heap.size + 1, 3, none⟩ = false := Hzz2.out.frozen 3
  have HP := Lib.hid (Hzz2.out.put4B (.int .i64 0) (.int .i64 0) (.int .i64 0) (.int .i64 0))
  have HQ := Lib.hid (Below.put4B HBz2.out (b := w.heap.size + 1) (by first | exact Nat.le_refl _ | omega) (.int .i64 0) (.int .i64 0) (.int .i64 0) (.int .i64 0))
  go_wp2_with fail
  (try simp only [Exit.inBlock, Exit.then])
  exact bodyPost_ret (results_cell_tmp rfl rfl (loadTal HP.out)) rfl ⟨rfl, HQ.out⟩
set_option linter.unusedSimpArgs false in
set_option linter.unusedVariables false in
set_option maxHeartbeats 8000000 in
set_option maxRecDepth 100000 in
theorem ttake_3 (kind size m sum d M S : Int) (w : World) (mr : (∀ W, Calls Try.prog 9 #[.agg #[.int .i64 kind, .int .i64 size, .int .i64 m, .int .i64 sum]] W fun e w' => e = .returned (.bool true) ∧ Below W.heap.size W w')) (mc : (∀ W, Calls Try.prog 19 #[.agg #[.int .i64 kind, .int .i64 size, .int .i64 m, .int .i64 sum], .int .i64 d] W fun e w' => e = .returned (.bool true) ∧ Below W.heap.size W w')) (g : (m == 25) = false) (e1 : wrap64 (m + 1) = M) (e2 : wrap64 (sum + d) = S) : Calls Try.prog 8 #[.agg #[.int .i64 kind, .int .i64 size, .int .i64 m, .int .i64 sum], .int .i64 d] w fun e w' => e = .returned (.tuple #[.agg #[.int .i64 kind, .int .i64 size, .int .i64 M, .int .i64 S], .int .i64 0]) ∧ Below w.heap.size w w' := by
  have MR := Lib.hid mr; have MC := Lib.hid mc
  clear mr mc
  obtain ⟨w2, hw2⟩ : ∃ w2, (w.alloc (.cells #[.int .i64 kind, .int .i64 size, .int .i64 m, .int .i64 sum] 23)).alloc (.cells #[.int .i64 0, .int .i64 0, .int .i64 0, .int .i64 0] 23) = w2 := ⟨_, rfl⟩
  have h2 : TwoB w w2 [.int .i64 kind, .int .i64 size, .int .i64 m, .int .i64 sum] [.int .i64 0, .int .i64 0, .int .i64 0, .int .i64 0] 23 23 := by rw [← hw2]; exact twoB w _ _ _ _
  have HB2 := Lib.hid h2.below; have HV2 := Lib.hid h2.a; have HZ2 := Lib.hid h2.b
  have HW2 := Lib.hid hw2
  clear hw2 h2
  have hbase := Nat.le_refl w.heap.size
  go_enter Try.func8, Try.ntmps8
  go_upto_region 1 with fail
  rw [HW2.out]
  have qb0_0 : w2.cell? ⟨w.heap.size, 0, none⟩ = some (.int .i64 kind) := HV2.out.cell 0
  have qb1_0 : w2.cell? ⟨w.heap.size, 1, none⟩ = some (.int .i64 size) := HV2.out.cell 1
  have qb2_0 : w2.cell? ⟨w.heap.size, 2, none⟩ = some (.int .i64 m) := HV2.out.cell 2
  have qb3_0 : w2.cell? ⟨w.heap.size, 3, none⟩ = some (.int .i64 sum) := HV2.out.cell 3
  have lb_0 : w.heap.size < w2.heap.size := HV2.out.lt
  have hcz1 := MR.out w2
  go_wp2_with fail
  refine hcz1.mono ?_
  rintro e wz1 ⟨rfl, kz1⟩
  clear hcz1 qb0_0 qb1_0 qb2_0 qb3_0 lb_0
  have HBz1 := Lib.hid (HB2.out.trans (kz1.mono (Nat.le_trans hbase HB2.out.size)))
  have Hbz1 := Lib.hid (HV2.out.call kz1)
  have Hzz1 := Lib.hid (HZ2.out.call kz1)
  clear kz1
  have qb0_1 : wz1.cell? ⟨w.heap.size, 0, none⟩ = some (.int .i64 kind) := Hbz1.out.cell 0
  have qb1_1 : wz1.cell? ⟨w.heap.size, 1, none⟩ = some (.int .i64 size) := Hbz1.out.cell 1
  have qb2_1 : wz1.cell? ⟨w.heap.size, 2, none⟩ = some (.int .i64 m) := Hbz1.out.cell 2
  have qb3_1 : wz1.cell? ⟨w.heap.size, 3, none⟩ = some (.int .i64 sum) := Hbz1.out.cell 3
  have lb_1 : w.heap.size < wz1.heap.size := Hbz1.out.lt
  have hcz2 := MC.out wz1
  go_wp2_with fail
  refine hcz2.mono ?_
  rintro e wz2 ⟨rfl, kz2⟩
  clear hcz2 qb0_1 qb1_1 qb2_1 qb3_1 lb_1
  have HBz2 := Lib.hid (HBz1.out.trans (kz2.mono (Nat.le_trans hbase HBz1.out.size)))
  have Hbz2 := Lib.hid (Hbz1.out.call kz2)
  have Hzz2 := Lib.hid (Hzz1.out.call kz2)
  clear kz2
  have qb0_2 : wz2.cell? ⟨w.heap.size, 0, none⟩ = some (.int .i64 kind) := Hbz2.out.cell 0
  have qb1_2 : wz2.cell? ⟨w.heap.size, 1, none⟩ = some (.int .i64 size) := Hbz2.out.cell 1
  have qb2_2 : wz2.cell? ⟨w.heap.size, 2, none⟩ = some (.int .i64 m) := Hbz2.out.cell 2
  have qb3_2 : wz2.cell? ⟨w.heap.size, 3, none⟩ = some (.int .i64 sum) := Hbz2.out.cell 3
  have lb_2 : w.heap.size < wz2.heap.size := Hbz2.out.lt
  have qz0_2 : wz2.cell? ⟨w.heap.size + 1, 0, none⟩ = some (.int .i64 0) := Hzz2.out.cell 0
  have qz1_2 : wz2.cell? ⟨w.heap.size + 1, 1, none⟩ = some (.int .i64 0) := Hzz2.out.cell 1
  have qz2_2 : wz2.cell? ⟨w.heap.size + 1, 2, none⟩ = some (.int .i64 0) := Hzz2.out.cell 2
  have qz3_2 : wz2.cell? ⟨w.heap.size + 1, 3, none⟩ = some (.int .i64 0) := Hzz2.out.cell 3
  have lz_2 : w.heap.size + 1 < wz2.heap.size := Hzz2.out.lt
  have zz0_2 : wz2.frozen? ⟨w.heap.size + 1, 0, none⟩ = false := Hzz2.out.frozen 0
  have zz1_2 : wz2.frozen? ⟨w.heap.size + 1, 1, none⟩ = false := Hzz2.out.frozen 1
  have zz2_2 : wz2.frozen? ⟨w.heap.size + 1, 2, none⟩ = false := Hzz2.out.frozen 2
  have zz3_2 : wz2.frozen? ⟨w.heap.size + 1, 3, none⟩ = false := Hzz2.out.frozen 3
  have zb0_2 : wz2.frozen? ⟨w.heap.size, 0, none⟩ = false := Hbz2.out.frozen 0
  have zb1_2 : wz2.frozen? ⟨w.heap.size, 1, none⟩ = false := Hbz2.out.frozen 1
  have zb2_2 : wz2.frozen? ⟨w.heap.size, 2, none⟩ = false := Hbz2.out.frozen 2
  have zb3_2 : wz2.frozen? ⟨w.heap.size, 3, none⟩ = false := Hbz2.out.frozen 3
  have HP := Lib.hid (((Hzz2.out.other (p := ⟨w.heap.size, 2, none⟩) (by dsimp only; omega) (.int .i64 M)).other (p := ⟨w.heap.size, 3, none⟩) (by dsimp only; omega) (.int .i64 S)).put4B (.int .i64 kind) (.int .i64 size) (.int .i64 M) (.int .i64 S))
  have HQ := Lib.hid (Below.put4B ((HBz2.out.setCell (p := ⟨w.heap.size, 2, none⟩) (by first | exact Nat.le_refl _ | (dsimp only; omega)) (.int .i64 M)).setCell (p := ⟨w.heap.size, 3, none⟩) (by first | exact Nat.le_refl _ | (dsimp only; omega)) (.int .i64 S)) (b := w.heap.size + 1) (by first | exact Nat.le_refl _ | omega) (.int .i64 kind) (.int .i64 size) (.int .i64 M) (.int .i64 S))
  go_wp2_with fail
  (try simp only [Exit.inBlock, Exit.then])
  exact bodyPost_ret (results_cell_tmp rfl rfl (loadTal HP.out)) rfl ⟨rfl, HQ.out⟩
end Go.Proofs.Ytgmifimpeefpcaa
