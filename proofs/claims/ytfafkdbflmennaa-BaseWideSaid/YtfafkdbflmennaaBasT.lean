/- base.Point, base.Wide. -/
import Derived.Test.YtfafkdbflmennaaBasR
import Derived.Test.YtfafkdbflmennaaMul64
namespace Go.Proofs.Ytfafkdbflmennaa
open Go.RowKit

set_option linter.unusedSimpArgs false in
set_option linter.unusedVariables false in
set_option maxHeartbeats 8000000 in
set_option maxRecDepth 100000 in
theorem point15_0 (size m sum rng last s : Int) (w : World) (mr : (∀ W, Calls Try.prog 10 #[.agg #[.int .i64 size, .int .i64 m, .int .i64 sum, .int .i64 rng, .int .i64 last]] W fun e w' => e = .returned (.bool false) ∧ Below W.heap.size W w'))  :
    Calls Try.prog 15 #[.agg #[.int .i64 size, .int .i64 m, .int .i64 sum, .int .i64 rng, .int .i64 last], .int .i64 s] w fun e w' => e = .returned (.tuple #[.agg #[.int .i64 0, .int .i64 0, .int .i64 0, .int .u64 0, .int .u64 0], .int .i64 1]) ∧ Below w.heap.size w w' := by
  have MR := Lib.hid mr
  clear mr
  obtain ⟨w2, hw2⟩ : ∃ w2, (w.alloc (.cells #[.int .i64 size, .int .i64 m, .int .i64 sum, .int .i64 rng, .int .i64 last] 23)).alloc (.cells #[.int .i64 0, .int .i64 0, .int .i64 0, .int .u64 0, .int .u64 0] 38) = w2 := ⟨_, rfl⟩
  have h2 : TwoB w w2 [.int .i64 size, .int .i64 m, .int .i64 sum, .int .i64 rng, .int .i64 last] [.int .i64 0, .int .i64 0, .int .i64 0, .int .u64 0, .int .u64 0] 23 38 := by rw [← hw2]; exact twoB w _ _ _ _
  have HB2 := Lib.hid h2.below; have HV2 := Lib.hid h2.a; have HZ2 := Lib.hid h2.b
  have HW2 := Lib.hid hw2
  clear hw2 h2
  have hbase := Nat.le_refl w.heap.size
  go_enter Try.func15, Try.ntmps15
  go_upto_region 1 with fail
  rw [HW2.out]
  have qb0_0 : w2.cell? ⟨w.heap.size, 0, none⟩ = some (.int .i64 size) := HV2.out.cell 0
  have qb1_0 : w2.cell? ⟨w.heap.size, 1, none⟩ = some (.int .i64 m) := HV2.out.cell 1
  have qb2_0 : w2.cell? ⟨w.heap.size, 2, none⟩ = some (.int .i64 sum) := HV2.out.cell 2
  have qb3_0 : w2.cell? ⟨w.heap.size, 3, none⟩ = some (.int .i64 rng) := HV2.out.cell 3
  have qb4_0 : w2.cell? ⟨w.heap.size, 4, none⟩ = some (.int .i64 last) := HV2.out.cell 4
  have lb_0 : w.heap.size < w2.heap.size := HV2.out.lt
  have hcz1 := MR.out w2
  go_wp2_with fail
  refine hcz1.mono ?_
  rintro e wz1 ⟨rfl, kz1⟩
  clear hcz1 qb0_0 qb1_0 qb2_0 qb3_0 qb4_0 lb_0
  have HBz1 := Lib.hid (HB2.out.trans (kz1.mono (Nat.le_trans hbase HB2.out.size)))
  have Hbz1 := Lib.hid (HV2.out.call kz1)
  have Hzz1 := Lib.hid (HZ2.out.call kz1)
  clear kz1
  have qb0_1 : wz1.cell? ⟨w.heap.size, 0, none⟩ = some (.int .i64 size) := Hbz1.out.cell 0
  have qb1_1 : wz1.cell? ⟨w.heap.size, 1, none⟩ = some (.int .i64 m) := Hbz1.out.cell 1
  have qb2_1 : wz1.cell? ⟨w.heap.size, 2, none⟩ = some (.int .i64 sum) := Hbz1.out.cell 2
  have qb3_1 : wz1.cell? ⟨w.heap.size, 3, none⟩ = some (.int .i64 rng) := Hbz1.out.cell 3
  have qb4_1 : wz1.cell? ⟨w.heap.size, 4, none⟩ = some (.int .i64 last) := Hbz1.out.cell 4
  have lb_1 : w.heap.size < wz1.heap.size := Hbz1.out.lt
  have qz0_1 : wz1.cell? ⟨w.heap.size + 1, 0, none⟩ = some (.int .i64 0) := Hzz1.out.cell 0
  have qz1_1 : wz1.cell? ⟨w.heap.size + 1, 1, none⟩ = some (.int .i64 0) := Hzz1.out.cell 1
  have qz2_1 : wz1.cell? ⟨w.heap.size + 1, 2, none⟩ = some (.int .i64 0) := Hzz1.out.cell 2
  have qz3_1 : wz1.cell? ⟨w.heap.size + 1, 3, none⟩ = some (.int .u64 0) := Hzz1.out.cell 3
  have qz4_1 : wz1.cell? ⟨w.heap.size + 1, 4, none⟩ = some (.int .u64 0) := Hzz1.out.cell 4
  have lz_1 : w.heap.size + 1 < wz1.heap.size := Hzz1.out.lt
  have zz0_1 : wz1.frozen? ⟨w.heap.size + 1, 0, none⟩ = false := Hzz1.out.frozen 0
  have zz1_1 : wz1.frozen? ⟨w.heap.size + 1, 1, none⟩ = false := Hzz1.out.frozen 1
  have zz2_1 : wz1.frozen? ⟨w.heap.size + 1, 2, none⟩ = false := Hzz1.out.frozen 2
  have zz3_1 : wz1.frozen? ⟨w.heap.size + 1, 3, none⟩ = false := Hzz1.out.frozen 3
  have zz4_1 : wz1.frozen? ⟨w.heap.size + 1, 4, none⟩ = false := Hzz1.out.frozen 4
  have HP := Lib.hid (Hzz1.out.put5B (.int .i64 0) (.int .i64 0) (.int .i64 0) (.int .u64 0) (.int .u64 0))
  have HQ := Lib.hid (Below.put5B HBz1.out (b := w.heap.size + 1) (by omega) (.int .i64 0) (.int .i64 0) (.int .i64 0) (.int .u64 0) (.int .u64 0))
  go_wp2_with fail
  (try simp only [Exit.inBlock, Exit.then])
  exact bodyPost_ret (results_cell_tmp rfl rfl (loadPnt HP.out)) rfl ⟨rfl, HQ.out⟩
set_option linter.unusedSimpArgs false in
set_option linter.unusedVariables false in
set_option maxHeartbeats 8000000 in
set_option maxRecDepth 100000 in
theorem point15_1 (size m sum rng last s : Int) (w : World) (mr : (∀ W, Calls Try.prog 10 #[.agg #[.int .i64 size, .int .i64 m, .int .i64 sum, .int .i64 rng, .int .i64 last]] W fun e w' => e = .returned (.bool true) ∧ Below W.heap.size W w')) (mn : (∀ W, Calls Try.prog 26 #[.int .i64 s, .int .i64 size] W fun e w' => e = .returned (.bool false) ∧ Below W.heap.size W w'))  :
    Calls Try.prog 15 #[.agg #[.int .i64 size, .int .i64 m, .int .i64 sum, .int .i64 rng, .int .i64 last], .int .i64 s] w fun e w' => e = .returned (.tuple #[.agg #[.int .i64 0, .int .i64 0, .int .i64 0, .int .u64 0, .int .u64 0], .int .i64 1]) ∧ Below w.heap.size w w' := by
  have MR := Lib.hid mr; have MN := Lib.hid mn
  clear mr mn
  obtain ⟨w2, hw2⟩ : ∃ w2, (w.alloc (.cells #[.int .i64 size, .int .i64 m, .int .i64 sum, .int .i64 rng, .int .i64 last] 23)).alloc (.cells #[.int .i64 0, .int .i64 0, .int .i64 0, .int .u64 0, .int .u64 0] 38) = w2 := ⟨_, rfl⟩
  have h2 : TwoB w w2 [.int .i64 size, .int .i64 m, .int .i64 sum, .int .i64 rng, .int .i64 last] [.int .i64 0, .int .i64 0, .int .i64 0, .int .u64 0, .int .u64 0] 23 38 := by rw [← hw2]; exact twoB w _ _ _ _
  have HB2 := Lib.hid h2.below; have HV2 := Lib.hid h2.a; have HZ2 := Lib.hid h2.b
  have HW2 := Lib.hid hw2
  clear hw2 h2
  have hbase := Nat.le_refl w.heap.size
  go_enter Try.func15, Try.ntmps15
  go_upto_region 1 with fail
  rw [HW2.out]
  have qb0_0 : w2.cell? ⟨w.heap.size, 0, none⟩ = some (.int .i64 size) := HV2.out.cell 0
  have qb1_0 : w2.cell? ⟨w.heap.size, 1, none⟩ = some (.int .i64 m) := HV2.out.cell 1
  have qb2_0 : w2.cell? ⟨w.heap.size, 2, none⟩ = some (.int .i64 sum) := HV2.out.cell 2
  have qb3_0 : w2.cell? ⟨w.heap.size, 3, none⟩ = some (.int .i64 rng) := HV2.out.cell 3
  have qb4_0 : w2.cell? ⟨w.heap.size, 4, none⟩ = some (.int .i64 last) := HV2.out.cell 4
  have lb_0 : w.heap.size < w2.heap.size := HV2.out.lt
  have hcz1 := MR.out w2
  go_wp2_with fail
  refine hcz1.mono ?_
  rintro e wz1 ⟨rfl, kz1⟩
  clear hcz1 qb0_0 qb1_0 qb2_0 qb3_0 qb4_0 lb_0
  have HBz1 := Lib.hid (HB2.out.trans (kz1.mono (Nat.le_trans hbase HB2.out.size)))
  have Hbz1 := Lib.hid (HV2.out.call kz1)
  have Hzz1 := Lib.hid (HZ2.out.call kz1)
  clear kz1
  have qb0_1 : wz1.cell? ⟨w.heap.size, 0, none⟩ = some (.int .i64 size) := Hbz1.out.cell 0
  have qb1_1 : wz1.cell? ⟨w.heap.size, 1, none⟩ = some (.int .i64 m) := Hbz1.out.cell 1
  have qb2_1 : wz1.cell? ⟨w.heap.size, 2, none⟩ = some (.int .i64 sum) := Hbz1.out.cell 2
  have qb3_1 : wz1.cell? ⟨w.heap.size, 3, none⟩ = some (.int .i64 rng) := Hbz1.out.cell 3
  have qb4_1 : wz1.cell? ⟨w.heap.size, 4, none⟩ = some (.int .i64 last) := Hbz1.out.cell 4
  have lb_1 : w.heap.size < wz1.heap.size := Hbz1.out.lt
  have hcz2 := MN.out wz1
  go_wp2_with fail
  refine hcz2.mono ?_
  rintro e wz2 ⟨rfl, kz2⟩
  clear hcz2 qb0_1 qb1_1 qb2_1 qb3_1 qb4_1 lb_1
  have HBz2 := Lib.hid (HBz1.out.trans (kz2.mono (Nat.le_trans hbase HBz1.out.size)))
  have Hbz2 := Lib.hid (Hbz1.out.call kz2)
  have Hzz2 := Lib.hid (Hzz1.out.call kz2)
  clear kz2
  have qb0_2 : wz2.cell? ⟨w.heap.size, 0, none⟩ = some (.int .i64 size) := Hbz2.out.cell 0
  have qb1_2 : wz2.cell? ⟨w.heap.size, 1, none⟩ = some (.int .i64 m) := Hbz2.out.cell 1
  have qb2_2 : wz2.cell? ⟨w.heap.size, 2, none⟩ = some (.int .i64 sum) := Hbz2.out.cell 2
  have qb3_2 : wz2.cell? ⟨w.heap.size, 3, none⟩ = some (.int .i64 rng) := Hbz2.out.cell 3
  have qb4_2 : wz2.cell? ⟨w.heap.size, 4, none⟩ = some (.int .i64 last) := Hbz2.out.cell 4
  have lb_2 : w.heap.size < wz2.heap.size := Hbz2.out.lt
  have qz0_2 : wz2.cell? ⟨w.heap.size + 1, 0, none⟩ = some (.int .i64 0) := Hzz2.out.cell 0
  have qz1_2 : wz2.cell? ⟨w.heap.size + 1, 1, none⟩ = some (.int .i64 0) := Hzz2.out.cell 1
  have qz2_2 : wz2.cell? ⟨w.heap.size + 1, 2, none⟩ = some (.int .i64 0) := Hzz2.out.cell 2
  have qz3_2 : wz2.cell? ⟨w.heap.size + 1, 3, none⟩ = some (.int .u64 0) := Hzz2.out.cell 3
  have qz4_2 : wz2.cell? ⟨w.heap.size + 1, 4, none⟩ = some (.int .u64 0) := Hzz2.out.cell 4
  have lz_2 : w.heap.size + 1 < wz2.heap.size := Hzz2.out.lt
  have zz0_2 : wz2.frozen? ⟨w.heap.size + 1, 0, none⟩ = false := Hzz2.out.frozen 0
  have zz1_2 : wz2.frozen? ⟨w.heap.size + 1, 1, none⟩ = false := Hzz2.out.frozen 1
  have zz2_2 : wz2.frozen? ⟨w.heap.size + 1, 2, none⟩ = false := Hzz2.out.frozen 2
  have zz3_2 : wz2.frozen? ⟨w.heap.size + 1, 3, none⟩ = false := Hzz2.out.frozen 3
  have zz4_2 : wz2.frozen? ⟨w.heap.size + 1, 4, none⟩ = false := Hzz2.out.frozen 4
  have HP := Lib.hid (Hzz2.out.put5B (.int .i64 0) (.int .i64 0) (.int .i64 0) (.int .u64 0) (.int .u64 0))
  have HQ := Lib.hid (Below.put5B HBz2.out (b := w.heap.size + 1) (by omega) (.int .i64 0) (.int .i64 0) (.int .i64 0) (.int .u64 0) (.int .u64 0))
  go_wp2_with fail
  (try simp only [Exit.inBlock, Exit.then])
  exact bodyPost_ret (results_cell_tmp rfl rfl (loadPnt HP.out)) rfl ⟨rfl, HQ.out⟩
set_option linter.unusedSimpArgs false in
set_option linter.unusedVariables false in
set_option maxHeartbeats 8000000 in
set_option maxRecDepth 100000 in
theorem point15_2 (size m sum rng last s : Int) (w : World) (mr : (∀ W, Calls Try.prog 10 #[.agg #[.int .i64 size, .int .i64 m, .int .i64 sum, .int .i64 rng, .int .i64 last]] W fun e w' => e = .returned (.bool true) ∧ Below W.heap.size W w')) (mn : (∀ W, Calls Try.prog 26 #[.int .i64 s, .int .i64 size] W fun e w' => e = .returned (.bool true) ∧ Below W.heap.size W w')) (h1 : m < 2) :
    Calls Try.prog 15 #[.agg #[.int .i64 size, .int .i64 m, .int .i64 sum, .int .i64 rng, .int .i64 last], .int .i64 s] w fun e w' => e = .returned (.tuple #[.agg #[.int .i64 0, .int .i64 0, .int .i64 0, .int .u64 0, .int .u64 0], .int .i64 12]) ∧ Below w.heap.size w w' := by
  have MR := Lib.hid mr; have MN := Lib.hid mn
  clear mr mn
  obtain ⟨w2, hw2⟩ : ∃ w2, (w.alloc (.cells #[.int .i64 size, .int .i64 m, .int .i64 sum, .int .i64 rng, .int .i64 last] 23)).alloc (.cells #[.int .i64 0, .int .i64 0, .int .i64 0, .int .u64 0, .int .u64 0] 38) = w2 := ⟨_, rfl⟩
  have h2 : TwoB w w2 [.int .i64 size, .int .i64 m, .int .i64 sum, .int .i64 rng, .int .i64 last] [.int .i64 0, .int .i64 0, .int .i64 0, .int .u64 0, .int .u64 0] 23 38 := by rw [← hw2]; exact twoB w _ _ _ _
  have HB2 := Lib.hid h2.below; have HV2 := Lib.hid h2.a; have HZ2 := Lib.hid h2.b
  have HW2 := Lib.hid hw2
  clear hw2 h2
  have hbase := Nat.le_refl w.heap.size
  go_enter Try.func15, Try.ntmps15
  go_upto_region 1 with fail
  rw [HW2.out]
  have qb0_0 : w2.cell? ⟨w.heap.size, 0, none⟩ = some (.int .i64 size) := HV2.out.cell 0
  have qb1_0 : w2.cell? ⟨w.heap.size, 1, none⟩ = some (.int .i64 m) := HV2.out.cell 1
  have qb2_0 : w2.cell? ⟨w.heap.size, 2, none⟩ = some (.int .i64 sum) := HV2.out.cell 2
  have qb3_0 : w2.cell? ⟨w.heap.size, 3, none⟩ = some (.int .i64 rng) := HV2.out.cell 3
  have qb4_0 : w2.cell? ⟨w.heap.size, 4, none⟩ = some (.int .i64 last) := HV2.out.cell 4
  have lb_0 : w.heap.size < w2.heap.size := HV2.out.lt
  have hcz1 := MR.out w2
  go_wp2_with fail
  refine hcz1.mono ?_
  rintro e wz1 ⟨rfl, kz1⟩
  clear hcz1 qb0_0 qb1_0 qb2_0 qb3_0 qb4_0 lb_0
  have HBz1 := Lib.hid (HB2.out.trans (kz1.mono (Nat.le_trans hbase HB2.out.size)))
  have Hbz1 := Lib.hid (HV2.out.call kz1)
  have Hzz1 := Lib.hid (HZ2.out.call kz1)
  clear kz1
  have qb0_1 : wz1.cell? ⟨w.heap.size, 0, none⟩ = some (.int .i64 size) := Hbz1.out.cell 0
  have qb1_1 : wz1.cell? ⟨w.heap.size, 1, none⟩ = some (.int .i64 m) := Hbz1.out.cell 1
  have qb2_1 : wz1.cell? ⟨w.heap.size, 2, none⟩ = some (.int .i64 sum) := Hbz1.out.cell 2
  have qb3_1 : wz1.cell? ⟨w.heap.size, 3, none⟩ = some (.int .i64 rng) := Hbz1.out.cell 3
  have qb4_1 : wz1.cell? ⟨w.heap.size, 4, none⟩ = some (.int .i64 last) := Hbz1.out.cell 4
  have lb_1 : w.heap.size < wz1.heap.size := Hbz1.out.lt
  have hcz2 := MN.out wz1
  go_wp2_with fail
  refine hcz2.mono ?_
  rintro e wz2 ⟨rfl, kz2⟩
  clear hcz2 qb0_1 qb1_1 qb2_1 qb3_1 qb4_1 lb_1
  have HBz2 := Lib.hid (HBz1.out.trans (kz2.mono (Nat.le_trans hbase HBz1.out.size)))
  have Hbz2 := Lib.hid (Hbz1.out.call kz2)
  have Hzz2 := Lib.hid (Hzz1.out.call kz2)
  clear kz2
  have qb0_2 : wz2.cell? ⟨w.heap.size, 0, none⟩ = some (.int .i64 size) := Hbz2.out.cell 0
  have qb1_2 : wz2.cell? ⟨w.heap.size, 1, none⟩ = some (.int .i64 m) := Hbz2.out.cell 1
  have qb2_2 : wz2.cell? ⟨w.heap.size, 2, none⟩ = some (.int .i64 sum) := Hbz2.out.cell 2
  have qb3_2 : wz2.cell? ⟨w.heap.size, 3, none⟩ = some (.int .i64 rng) := Hbz2.out.cell 3
  have qb4_2 : wz2.cell? ⟨w.heap.size, 4, none⟩ = some (.int .i64 last) := Hbz2.out.cell 4
  have lb_2 : w.heap.size < wz2.heap.size := Hbz2.out.lt
  have qz0_2 : wz2.cell? ⟨w.heap.size + 1, 0, none⟩ = some (.int .i64 0) := Hzz2.out.cell 0
  have qz1_2 : wz2.cell? ⟨w.heap.size + 1, 1, none⟩ = some (.int .i64 0) := Hzz2.out.cell 1
  have qz2_2 : wz2.cell? ⟨w.heap.size + 1, 2, none⟩ = some (.int .i64 0) := Hzz2.out.cell 2
  have qz3_2 : wz2.cell? ⟨w.heap.size + 1, 3, none⟩ = some (.int .u64 0) := Hzz2.out.cell 3
  have qz4_2 : wz2.cell? ⟨w.heap.size + 1, 4, none⟩ = some (.int .u64 0) := Hzz2.out.cell 4
  have lz_2 : w.heap.size + 1 < wz2.heap.size := Hzz2.out.lt
  have zz0_2 : wz2.frozen? ⟨w.heap.size + 1, 0, none⟩ = false := Hzz2.out.frozen 0
  have zz1_2 : wz2.frozen? ⟨w.heap.size + 1, 1, none⟩ = false := Hzz2.out.frozen 1
  have zz2_2 : wz2.frozen? ⟨w.heap.size + 1, 2, none⟩ = false := Hzz2.out.frozen 2
  have zz3_2 : wz2.frozen? ⟨w.heap.size + 1, 3, none⟩ = false := Hzz2.out.frozen 3
  have zz4_2 : wz2.frozen? ⟨w.heap.size + 1, 4, none⟩ = false := Hzz2.out.frozen 4
  have HP := Lib.hid (Hzz2.out.put5B (.int .i64 0) (.int .i64 0) (.int .i64 0) (.int .u64 0) (.int .u64 0))
  have HQ := Lib.hid (Below.put5B HBz2.out (b := w.heap.size + 1) (by omega) (.int .i64 0) (.int .i64 0) (.int .i64 0) (.int .u64 0) (.int .u64 0))
  go_wp2_with fail
  (try simp only [Exit.inBlock, Exit.then])
  exact bodyPost_ret (results_cell_tmp rfl rfl (loadPnt HP.out)) rfl ⟨rfl, HQ.out⟩
set_option linter.unusedSimpArgs false in
set_option linter.unusedVariables false in
set_option maxHeartbeats 8000000 in
set_option maxRecDepth 100000 in
theorem point15_3 (size m sum rng last s U cen A den P D dev : Int) (N v : Nat) (w : World) (T : TypeId) (VV : Value) (F : FuncId) (mr : (∀ W, Calls Try.prog 10 #[.agg #[.int .i64 size, .int .i64 m, .int .i64 sum, .int .i64 rng, .int .i64 last]] W fun e w' => e = .returned (.bool true) ∧ Below W.heap.size W w')) (mn : (∀ W, Calls Try.prog 26 #[.int .i64 s, .int .i64 size] W fun e w' => e = .returned (.bool true) ∧ Below W.heap.size W w')) (mh : (∀ W, Calls Try.prog 25 #[.agg #[.int .i64 size, .int .i64 m, .int .i64 sum, .int .i64 rng, .int .i64 last]] W fun e w' => e = .returned (.iface T VV) ∧ Below W.heap.size W w')) (mg : (∀ W, Calls Try.prog F #[VV] W fun e w' => e = .returned (.tuple #[.int .i64 U, .int .i64 (N : Nat)]) ∧ Below W.heap.size W w')) (mm : (∀ W, Calls Try.prog 29 #[.int .u64 (N : Nat), .int .u64 (N : Nat)] W fun e w' => e = .returned (.agg #[.int .u64 (hi v : Nat), .int .u64 (lo v : Nat)]) ∧ Below W.heap.size W w')) (h1 : ¬ m < 2) (e1 : IntKind.i64.wrap (U * sum) = cen) (e2 : IntKind.i64.wrap (U * m) = A) (e3 : IntKind.i64.wrap (A * size) = den) (e4 : IntKind.i64.wrap (s * m) = P) (e5 : IntKind.i64.wrap (P - sum) = D) (e6 : IntKind.i64.wrap (U * D) = dev) (e7 : IntKind.u64.wrap (N : Nat) = (N : Nat)) (hm : ∀ W, (method 240 T VV "datum/base.measure").run Try.prog W = .ok (F, VV) W) (heg : ∀ args W, (callFunc F args).run Try.prog W = .ok (.enter F args) W) :
    Calls Try.prog 15 #[.agg #[.int .i64 size, .int .i64 m, .int .i64 sum, .int .i64 rng, .int .i64 last], .int .i64 s] w fun e w' => e = .returned (.tuple #[.agg #[.int .i64 cen, .int .i64 den, .int .i64 dev, .int .u64 (hi v : Nat), .int .u64 (lo v : Nat)], .int .i64 0]) ∧ Below w.heap.size w w' := by
  have MR := Lib.hid mr; have MN := Lib.hid mn; have MH := Lib.hid mh; have MG := Lib.hid mg; have MM := Lib.hid mm
  clear mr mn mh mg mm
  obtain ⟨w2, hw2⟩ : ∃ w2, (w.alloc (.cells #[.int .i64 size, .int .i64 m, .int .i64 sum, .int .i64 rng, .int .i64 last] 23)).alloc (.cells #[.int .i64 0, .int .i64 0, .int .i64 0, .int .u64 0, .int .u64 0] 38) = w2 := ⟨_, rfl⟩
  have h2 : TwoB w w2 [.int .i64 size, .int .i64 m, .int .i64 sum, .int .i64 rng, .int .i64 last] [.int .i64 0, .int .i64 0, .int .i64 0, .int .u64 0, .int .u64 0] 23 38 := by rw [← hw2]; exact twoB w _ _ _ _
  have HB2 := Lib.hid h2.below; have HV2 := Lib.hid h2.a; have HZ2 := Lib.hid h2.b
  have HW2 := Lib.hid hw2
  clear hw2 h2
  have hbase := Nat.le_refl w.heap.size
  go_enter Try.func15, Try.ntmps15
  go_upto_region 1 with fail
  rw [HW2.out]
  have qb0_0 : w2.cell? ⟨w.heap.size, 0, none⟩ = some (.int .i64 size) := HV2.out.cell 0
  have qb1_0 : w2.cell? ⟨w.heap.size, 1, none⟩ = some (.int .i64 m) := HV2.out.cell 1
  have qb2_0 : w2.cell? ⟨w.heap.size, 2, none⟩ = some (.int .i64 sum) := HV2.out.cell 2
  have qb3_0 : w2.cell? ⟨w.heap.size, 3, none⟩ = some (.int .i64 rng) := HV2.out.cell 3
  have qb4_0 : w2.cell? ⟨w.heap.size, 4, none⟩ = some (.int .i64 last) := HV2.out.cell 4
  have lb_0 : w.heap.size < w2.heap.size := HV2.out.lt
  have hcz1 := MR.out w2
  go_wp2_with fail
  refine hcz1.mono ?_
  rintro e wz1 ⟨rfl, kz1⟩
  clear hcz1 qb0_0 qb1_0 qb2_0 qb3_0 qb4_0 lb_0
  have HBz1 := Lib.hid (HB2.out.trans (kz1.mono (Nat.le_trans hbase HB2.out.size)))
  have Hbz1 := Lib.hid (HV2.out.call kz1)
  have Hzz1 := Lib.hid (HZ2.out.call kz1)
  clear kz1
  have qb0_1 : wz1.cell? ⟨w.heap.size, 0, none⟩ = some (.int .i64 size) := Hbz1.out.cell 0
  have qb1_1 : wz1.cell? ⟨w.heap.size, 1, none⟩ = some (.int .i64 m) := Hbz1.out.cell 1
  have qb2_1 : wz1.cell? ⟨w.heap.size, 2, none⟩ = some (.int .i64 sum) := Hbz1.out.cell 2
  have qb3_1 : wz1.cell? ⟨w.heap.size, 3, none⟩ = some (.int .i64 rng) := Hbz1.out.cell 3
  have qb4_1 : wz1.cell? ⟨w.heap.size, 4, none⟩ = some (.int .i64 last) := Hbz1.out.cell 4
  have lb_1 : w.heap.size < wz1.heap.size := Hbz1.out.lt
  have hcz2 := MN.out wz1
  go_wp2_with fail
  refine hcz2.mono ?_
  rintro e wz2 ⟨rfl, kz2⟩
  clear hcz2 qb0_1 qb1_1 qb2_1 qb3_1 qb4_1 lb_1
  have HBz2 := Lib.hid (HBz1.out.trans (kz2.mono (Nat.le_trans hbase HBz1.out.size)))
  have Hbz2 := Lib.hid (Hbz1.out.call kz2)
  have Hzz2 := Lib.hid (Hzz1.out.call kz2)
  clear kz2
  have qb0_2 : wz2.cell? ⟨w.heap.size, 0, none⟩ = some (.int .i64 size) := Hbz2.out.cell 0
  have qb1_2 : wz2.cell? ⟨w.heap.size, 1, none⟩ = some (.int .i64 m) := Hbz2.out.cell 1
  have qb2_2 : wz2.cell? ⟨w.heap.size, 2, none⟩ = some (.int .i64 sum) := Hbz2.out.cell 2
  have qb3_2 : wz2.cell? ⟨w.heap.size, 3, none⟩ = some (.int .i64 rng) := Hbz2.out.cell 3
  have qb4_2 : wz2.cell? ⟨w.heap.size, 4, none⟩ = some (.int .i64 last) := Hbz2.out.cell 4
  have lb_2 : w.heap.size < wz2.heap.size := Hbz2.out.lt
  have hcz3 := MH.out wz2
  go_wp2_with fail
  refine hcz3.mono ?_
  rintro e wz3 ⟨rfl, kz3⟩
  clear hcz3 qb0_2 qb1_2 qb2_2 qb3_2 qb4_2 lb_2
  have HBz3 := Lib.hid (HBz2.out.trans (kz3.mono (Nat.le_trans hbase HBz2.out.size)))
  have Hbz3 := Lib.hid (Hbz2.out.call kz3)
  have Hzz3 := Lib.hid (Hzz2.out.call kz3)
  clear kz3
  have hcz4 := MG.out wz3
  go_wp2_with fail
  refine hcz4.mono ?_
  rintro e wz4 ⟨rfl, kz4⟩
  clear hcz4
  have HBz4 := Lib.hid (HBz3.out.trans (kz4.mono (Nat.le_trans hbase HBz3.out.size)))
  have Hbz4 := Lib.hid (Hbz3.out.call kz4)
  have Hzz4 := Lib.hid (Hzz3.out.call kz4)
  clear kz4
  go_upto_region 6 with fail
  refine wp_region_held_drew (S := (fun W' => W'.cell? ⟨w.heap.size, 0, none⟩ = some (.int .i64 size) ∧ W'.cell? ⟨w.heap.size, 1, none⟩ = some (.int .i64 m) ∧ W'.cell? ⟨w.heap.size, 2, none⟩ = some (.int .i64 sum) ∧ W'.cell? ⟨w.heap.size, 3, none⟩ = some (.int .i64 rng) ∧ W'.cell? ⟨w.heap.size, 4, none⟩ = some (.int .i64 last))) (by kernel_rfl) ⟨Hbz4.out.cell 0, Hbz4.out.cell 1, Hbz4.out.cell 2, Hbz4.out.cell 3, Hbz4.out.cell 4⟩ (fun hHeld => ?_)
  refine regTake 0 (some 29) (v := ?_) rfl rfl (by kernel_rfl) (by kernel_rfl) (by kernel_rfl) (fun _ _ _ h => h) (by rfl) hHeld ?_ ?_
  rotate_left 1
  · (intro w hSw; (try dsimp only at hSw); go_simp; try with_reducible rfl)
  simp only [Act.put, List.setIfInBounds_toArray, List.set_cons_zero, List.set_cons_succ]
  refine regTake 1 (some 30) (v := ?_) rfl rfl (by kernel_rfl) (by kernel_rfl) (by kernel_rfl) (fun _ _ _ h => h) (by rfl) hHeld ?_ ?_
  rotate_left 1
  · (intro w hSw; (try dsimp only at hSw); go_simp; try with_reducible rfl)
  simp only [Act.put, List.setIfInBounds_toArray, List.set_cons_zero, List.set_cons_succ]
  refine regTake 2 (some 31) (v := ?_) rfl rfl (by kernel_rfl) (by kernel_rfl) (by kernel_rfl) (fun _ _ _ h => h) (by rfl) hHeld ?_ ?_
  rotate_left 1
  · (intro w hSw; (try dsimp only at hSw); go_simp; try with_reducible rfl)
  simp only [Act.put, List.setIfInBounds_toArray, List.set_cons_zero, List.set_cons_succ]
  refine regTake 3 (some 32) (v := ?_) rfl rfl (by kernel_rfl) (by kernel_rfl) (by kernel_rfl) (fun _ _ _ h => h) (by rfl) hHeld ?_ ?_
  rotate_left 1
  · (intro w hSw; (try dsimp only at hSw); go_simp; try with_reducible rfl)
  simp only [Act.put, List.setIfInBounds_toArray, List.set_cons_zero, List.set_cons_succ]
  refine regTake 4 (some 33) (v := ?_) rfl rfl (by kernel_rfl) (by kernel_rfl) (by kernel_rfl) (fun _ _ _ h => h) (by rfl) hHeld ?_ ?_
  rotate_left 1
  · (intro w hSw; (try dsimp only at hSw); go_simp; try with_reducible rfl)
  simp only [Act.put, List.setIfInBounds_toArray, List.set_cons_zero, List.set_cons_succ]
  refine regTake 5 (some 34) (v := ?_) rfl rfl (by kernel_rfl) (by kernel_rfl) (by kernel_rfl) (fun _ _ _ h => h) (by rfl) hHeld ?_ ?_
  rotate_left 1
  · (intro w hSw; (try dsimp only at hSw); go_simp; try with_reducible rfl)
  simp only [Act.put, List.setIfInBounds_toArray, List.set_cons_zero, List.set_cons_succ]
  refine regTake 6 (some 35) (v := ?_) rfl rfl (by kernel_rfl) (by kernel_rfl) (by kernel_rfl) (fun _ _ _ h => h) (by rfl) hHeld ?_ ?_
  rotate_left 1
  · (intro w hSw; (try dsimp only at hSw); go_simp; try with_reducible rfl)
  simp only [Act.put, List.setIfInBounds_toArray, List.set_cons_zero, List.set_cons_succ]
  refine regTake 7 (some 36) (v := ?_) rfl rfl (by kernel_rfl) (by kernel_rfl) (by kernel_rfl) (fun _ _ _ h => h) (by rfl) hHeld ?_ ?_
  rotate_left 1
  · (intro w hSw; (try dsimp only at hSw); go_simp; try with_reducible rfl)
  simp only [Act.put, List.setIfInBounds_toArray, List.set_cons_zero, List.set_cons_succ]
  refine regTake 8 (some 37) (v := ?_) rfl rfl (by kernel_rfl) (by kernel_rfl) (by kernel_rfl) (fun _ _ _ h => h) (by rfl) hHeld ?_ ?_
  rotate_left 1
  · (intro w hSw; (try dsimp only at hSw); go_simp; try with_reducible rfl)
  simp only [Act.put, List.setIfInBounds_toArray, List.set_cons_zero, List.set_cons_succ]
  refine regTake 9 (some 38) (v := ?_) rfl rfl (by kernel_rfl) (by kernel_rfl) (by kernel_rfl) (fun _ _ _ h => h) (by rfl) hHeld ?_ ?_
  rotate_left 1
  · (intro w hSw; (try dsimp only at hSw); go_simp; try with_reducible rfl)
  simp only [Act.put, List.setIfInBounds_toArray, List.set_cons_zero, List.set_cons_succ]
  refine regTake 10 (some 39) (v := ?_) rfl rfl (by kernel_rfl) (by kernel_rfl) (by kernel_rfl) (fun _ _ _ h => h) (by rfl) hHeld ?_ ?_
  rotate_left 1
  · (intro w hSw; (try dsimp only at hSw); go_simp; try with_reducible rfl)
  simp only [Act.put, List.setIfInBounds_toArray, List.set_cons_zero, List.set_cons_succ]
  refine regTake 11 (some 40) (v := ?_) rfl rfl (by kernel_rfl) (by kernel_rfl) (by kernel_rfl) (fun _ _ _ h => h) (by rfl) hHeld ?_ ?_
  rotate_left 1
  · (intro w hSw; (try dsimp only at hSw); go_simp; try with_reducible rfl)
  simp only [Act.put, List.setIfInBounds_toArray, List.set_cons_zero, List.set_cons_succ]
  refine regTake 12 (some 41) (v := ?_) rfl rfl (by kernel_rfl) (by kernel_rfl) (by kernel_rfl) (fun _ _ _ h => h) (by rfl) hHeld ?_ ?_
  rotate_left 1
  · (intro w hSw; (try dsimp only at hSw); go_simp; try with_reducible rfl)
  simp only [Act.put, List.setIfInBounds_toArray, List.set_cons_zero, List.set_cons_succ]
  refine regTake 13 (some 42) (v := ?_) rfl rfl (by kernel_rfl) (by kernel_rfl) (by kernel_rfl) (fun _ _ _ h => h) (by rfl) hHeld ?_ ?_
  rotate_left 1
  · (intro w hSw; (try dsimp only at hSw); go_simp; try with_reducible rfl)
  simp only [Act.put, List.setIfInBounds_toArray, List.set_cons_zero, List.set_cons_succ]
  refine regTake 14 (some 43) (v := ?_) rfl rfl (by kernel_rfl) (by kernel_rfl) (by kernel_rfl) (fun _ _ _ h => h) (by rfl) hHeld ?_ ?_
  rotate_left 1
  · (intro w hSw; (try dsimp only at hSw); go_simp; try with_reducible rfl)
  simp only [Act.put, List.setIfInBounds_toArray, List.set_cons_zero, List.set_cons_succ]
  refine regTake 15 (some 44) (v := ?_) rfl rfl (by kernel_rfl) (by kernel_rfl) (by kernel_rfl) (fun _ _ _ h => h) (by rfl) hHeld ?_ ?_
  rotate_left 1
  · (intro w hSw; (try dsimp only at hSw); go_simp; try with_reducible rfl)
  simp only [Act.put, List.setIfInBounds_toArray, List.set_cons_zero, List.set_cons_succ]
  refine regTake 16 (some 45) (v := ?_) rfl rfl (by kernel_rfl) (by kernel_rfl) (by kernel_rfl) (fun _ _ _ h => h) (by rfl) hHeld ?_ ?_
  rotate_left 1
  · (intro w hSw; (try dsimp only at hSw); go_simp; try with_reducible rfl)
  simp only [Act.put, List.setIfInBounds_toArray, List.set_cons_zero, List.set_cons_succ]
  refine regTake 17 (some 46) (v := ?_) rfl rfl (by kernel_rfl) (by kernel_rfl) (by kernel_rfl) (fun _ _ _ h => h) (by rfl) hHeld ?_ ?_
  rotate_left 1
  · (intro w hSw; (try dsimp only at hSw); go_simp; try with_reducible rfl)
  simp only [Act.put, List.setIfInBounds_toArray, List.set_cons_zero, List.set_cons_succ]
  refine regTake 18 (some 47) (v := ?_) rfl rfl (by kernel_rfl) (by kernel_rfl) (by kernel_rfl) (fun _ _ _ h => h) (by rfl) hHeld ?_ ?_
  rotate_left 1
  · (intro w hSw; (try dsimp only at hSw); go_simp; try with_reducible rfl)
  simp only [Act.put, List.setIfInBounds_toArray, List.set_cons_zero, List.set_cons_succ]
  refine regTake 19 (some 48) (v := ?_) rfl rfl (by kernel_rfl) (by kernel_rfl) (by kernel_rfl) (fun _ _ _ h => h) (by rfl) hHeld ?_ ?_
  rotate_left 1
  · (intro w hSw; (try dsimp only at hSw); go_simp; try with_reducible rfl)
  simp only [Act.put, List.setIfInBounds_toArray, List.set_cons_zero, List.set_cons_succ]
  refine regTake 20 (some 49) (v := ?_) rfl rfl (by kernel_rfl) (by kernel_rfl) (by kernel_rfl) (fun _ _ _ h => h) (by rfl) hHeld ?_ ?_
  rotate_left 1
  · (intro w hSw; (try dsimp only at hSw); go_simp; try with_reducible rfl)
  simp only [Act.put, List.setIfInBounds_toArray, List.set_cons_zero, List.set_cons_succ]
  refine regTake 21 (some 50) (v := ?_) rfl rfl (by kernel_rfl) (by kernel_rfl) (by kernel_rfl) (fun _ _ _ h => h) (by rfl) hHeld ?_ ?_
  rotate_left 1
  · (intro w hSw; (try dsimp only at hSw); go_simp; try with_reducible rfl)
  simp only [Act.put, List.setIfInBounds_toArray, List.set_cons_zero, List.set_cons_succ]
  refine regTake 22 (some 51) (v := ?_) rfl rfl (by kernel_rfl) (by kernel_rfl) (by kernel_rfl) (fun _ _ _ h => h) (by rfl) hHeld ?_ ?_
  rotate_left 1
  · (intro w hSw; (try dsimp only at hSw); go_simp; try with_reducible rfl)
  simp only [Act.put, List.setIfInBounds_toArray, List.set_cons_zero, List.set_cons_succ]
  refine regTake 23 (some 52) (v := ?_) rfl rfl (by kernel_rfl) (by kernel_rfl) (by kernel_rfl) (fun _ _ _ h => h) (by rfl) hHeld ?_ ?_
  rotate_left 1
  · (intro w hSw; (try dsimp only at hSw); go_simp; try with_reducible rfl)
  simp only [Act.put, List.setIfInBounds_toArray, List.set_cons_zero, List.set_cons_succ]
  refine regCall 24 (some 53) (f := 29) (args := ?_) rfl rfl (by kernel_rfl) (by rfl) ?_ ?_
  rotate_left 1
  · (go_simp; try with_reducible rfl)
  refine (MM.out _).mono ?_
  rintro e wx24 ⟨rfl, kg5⟩
  refine ⟨_, rfl, ⟨(Hbz4.out.step kg5 rfl).cell 0, (Hbz4.out.step kg5 rfl).cell 1, (Hbz4.out.step kg5 rfl).cell 2, (Hbz4.out.step kg5 rfl).cell 3, (Hbz4.out.step kg5 rfl).cell 4⟩, fun hHeld => ?_⟩
  simp only [Act.put, List.setIfInBounds_toArray, List.set_cons_zero, List.set_cons_succ]
  have HBg5 := Lib.hid ((HBz4.out.drew).trans (kg5.mono (Nat.le_trans hbase (HBz4.out.drew).size)))
  have Hbg5 := Lib.hid (Hbz4.out.step kg5 rfl)
  have Hzg5 := Lib.hid (Hzz4.out.step kg5 rfl)
  clear kg5
  refine regTake 25 (some 54) (v := ?_) rfl rfl (by kernel_rfl) (by kernel_rfl) (by kernel_rfl) (fun _ _ _ h => h) (by rfl) hHeld ?_ ?_
  rotate_left 1
  · (intro w hSw; (try dsimp only at hSw); go_simp; try with_reducible rfl)
  simp only [Act.put, List.setIfInBounds_toArray, List.set_cons_zero, List.set_cons_succ]
  have xs0 := Hzg5.out.cell 0; have xf0 := Hzg5.out.frozen 0
  have xs1 := Hzg5.out.cell 1; have xf1 := Hzg5.out.frozen 1
  have xs2 := Hzg5.out.cell 2; have xf2 := Hzg5.out.frozen 2
  have xs3 := Hzg5.out.cell 3; have xf3 := Hzg5.out.frozen 3
  have xs4 := Hzg5.out.cell 4; have xf4 := Hzg5.out.frozen 4
  simp only [List.getElem?_cons_zero, List.getElem?_cons_succ] at xs0 xs1 xs2 xs3 xs4
  have xsl := Hzg5.out.lt
  refine regStore 26 (w' := ?_) rfl rfl (by kernel_rfl) (by rfl) ?_ ?_ (fun hHeld => ?_)
  rotate_left 1
  · (go_simp; try with_reducible rfl)
  · exact ⟨(((((Hbg5.out.other (p := ⟨w.heap.size + 1, 0, none⟩) (by dsimp only; omega) (.int .i64 cen)).other (p := ⟨w.heap.size + 1, 1, none⟩) (by dsimp only; omega) (.int .i64 den)).other (p := ⟨w.heap.size + 1, 2, none⟩) (by dsimp only; omega) (.int .i64 dev)).other (p := ⟨w.heap.size + 1, 3, none⟩) (by dsimp only; omega) (.int .u64 (hi v : Nat))).other (p := ⟨w.heap.size + 1, 4, none⟩) (by dsimp only; omega) (.int .u64 (lo v : Nat))).cell 0, (((((Hbg5.out.other (p := ⟨w.heap.size + 1, 0, none⟩) (by dsimp only; omega) (.int .i64 cen)).other (p := ⟨w.heap.size + 1, 1, none⟩) (by dsimp only; omega) (.int .i64 den)).other (p := ⟨w.heap.size + 1, 2, none⟩) (by dsimp only; omega) (.int .i64 dev)).other (p := ⟨w.heap.size + 1, 3, none⟩) (by dsimp only; omega) (.int .u64 (hi v : Nat))).other (p := ⟨w.heap.size + 1, 4, none⟩) (by dsimp only; omega) (.int .u64 (lo v : Nat))).cell 1, (((((Hbg5.out.other (p := ⟨w.heap.size + 1, 0, none⟩) (by dsimp only; omega) (.int .i64 cen)).other (p := ⟨w.heap.size + 1, 1, none⟩) (by dsimp only; omega) (.int .i64 den)).other (p := ⟨w.heap.size + 1, 2, none⟩) (by dsimp only; omega) (.int .i64 dev)).other (p := ⟨w.heap.size + 1, 3, none⟩) (by dsimp only; omega) (.int .u64 (hi v : Nat))).other (p := ⟨w.heap.size + 1, 4, none⟩) (by dsimp only; omega) (.int .u64 (lo v : Nat))).cell 2, (((((Hbg5.out.other (p := ⟨w.heap.size + 1, 0, none⟩) (by dsimp only; omega) (.int .i64 cen)).other (p := ⟨w.heap.size + 1, 1, none⟩) (by dsimp only; omega) (.int .i64 den)).other (p := ⟨w.heap.size + 1, 2, none⟩) (by dsimp only; omega) (.int .i64 dev)).other (p := ⟨w.heap.size + 1, 3, none⟩) (by dsimp only; omega) (.int .u64 (hi v : Nat))).other (p := ⟨w.heap.size + 1, 4, none⟩) (by dsimp only; omega) (.int .u64 (lo v : Nat))).cell 3, (((((Hbg5.out.other (p := ⟨w.heap.size + 1, 0, none⟩) (by dsimp only; omega) (.int .i64 cen)).other (p := ⟨w.heap.size + 1, 1, none⟩) (by dsimp only; omega) (.int .i64 den)).other (p := ⟨w.heap.size + 1, 2, none⟩) (by dsimp only; omega) (.int .i64 dev)).other (p := ⟨w.heap.size + 1, 3, none⟩) (by dsimp only; omega) (.int .u64 (hi v : Nat))).other (p := ⟨w.heap.size + 1, 4, none⟩) (by dsimp only; omega) (.int .u64 (lo v : Nat))).cell 4⟩
  have HBg6 := Lib.hid ((((((HBg5.out.setCell (p := ⟨w.heap.size + 1, 0, none⟩) (by first | exact Nat.le_refl _ | (dsimp only; omega)) (.int .i64 cen)).setCell (p := ⟨w.heap.size + 1, 1, none⟩) (by first | exact Nat.le_refl _ | (dsimp only; omega)) (.int .i64 den)).setCell (p := ⟨w.heap.size + 1, 2, none⟩) (by first | exact Nat.le_refl _ | (dsimp only; omega)) (.int .i64 dev)).setCell (p := ⟨w.heap.size + 1, 3, none⟩) (by first | exact Nat.le_refl _ | (dsimp only; omega)) (.int .u64 (hi v : Nat))).setCell (p := ⟨w.heap.size + 1, 4, none⟩) (by first | exact Nat.le_refl _ | (dsimp only; omega)) (.int .u64 (lo v : Nat))))
  have Hbg6 := Lib.hid (((((Hbg5.out.other (p := ⟨w.heap.size + 1, 0, none⟩) (by dsimp only; omega) (.int .i64 cen)).other (p := ⟨w.heap.size + 1, 1, none⟩) (by dsimp only; omega) (.int .i64 den)).other (p := ⟨w.heap.size + 1, 2, none⟩) (by dsimp only; omega) (.int .i64 dev)).other (p := ⟨w.heap.size + 1, 3, none⟩) (by dsimp only; omega) (.int .u64 (hi v : Nat))).other (p := ⟨w.heap.size + 1, 4, none⟩) (by dsimp only; omega) (.int .u64 (lo v : Nat)))
  have Hzg6 := Lib.hid (((((Hzg5.out.set 0 (.int .i64 cen)).set 1 (.int .i64 den)).set 2 (.int .i64 dev)).set 3 (.int .u64 (hi v : Nat))).set 4 (.int .u64 (lo v : Nat)))
  clear xs0 xf0 xs1 xf1 xs2 xf2 xs3 xf3 xs4 xf4 xsl
  refine regTake 27 (some 5) (v := ?_) rfl rfl (by kernel_rfl) (by kernel_rfl) (by kernel_rfl) (fun _ _ _ h => h) (by rfl) hHeld ?_ ?_
  rotate_left 1
  · (intro w hSw; (try dsimp only at hSw); go_simp; try with_reducible rfl)
  simp only [Act.put, List.setIfInBounds_toArray, List.set_cons_zero, List.set_cons_succ]
  refine wpAnyH_done (by kernel_rfl) ?_ _
  clear hHeld
  go_wp2_with fail
  (try simp only [Exit.inBlock, Exit.then])
  exact bodyPost_ret (results_cell_tmp rfl rfl (loadPnt Hzg6.out)) rfl ⟨rfl, HBg6.out⟩
set_option linter.unusedSimpArgs false in
set_option linter.unusedVariables false in
set_option maxHeartbeats 8000000 in
set_option maxRecDepth 100000 in
theorem wide15_0 (size m sum rng last r : Int) (w : World) (mr : (∀ W, Calls Try.prog 10 #[.agg #[.int .i64 size, .int .i64 m, .int .i64 sum, .int .i64 rng, .int .i64 last]] W fun e w' => e = .returned (.bool false) ∧ Below W.heap.size W w'))  :
    Calls Try.prog 16 #[.agg #[.int .i64 size, .int .i64 m, .int .i64 sum, .int .i64 rng, .int .i64 last], .int .i64 r] w fun e w' => e = .returned (.tuple #[.int .i64 0, .int .i64 1]) ∧ Below w.heap.size w w' := by
  have MR := Lib.hid mr
  clear mr
  obtain ⟨w2, hw2⟩ : ∃ w2, w.alloc (.cells #[.int .i64 size, .int .i64 m, .int .i64 sum, .int .i64 rng, .int .i64 last] 23) = w2 := ⟨_, rfl⟩
  have HB2 := Lib.hid (show Below w.heap.size w w2 by rw [← hw2]; exact (Below.refl _ _).alloc (Nat.le_refl _) _)
  have HV2 := Lib.hid (show Has w2 w.heap.size [.int .i64 size, .int .i64 m, .int .i64 sum, .int .i64 rng, .int .i64 last] 23 by rw [← hw2]; exact Has.new w _ _)
  have HW2 := Lib.hid hw2
  clear hw2
  have hbase := Nat.le_refl w.heap.size
  go_enter Try.func16, Try.ntmps16
  go_upto_region 1 with fail
  rw [HW2.out]
  have qb0_0 : w2.cell? ⟨w.heap.size, 0, none⟩ = some (.int .i64 size) := HV2.out.cell 0
  have qb1_0 : w2.cell? ⟨w.heap.size, 1, none⟩ = some (.int .i64 m) := HV2.out.cell 1
  have qb2_0 : w2.cell? ⟨w.heap.size, 2, none⟩ = some (.int .i64 sum) := HV2.out.cell 2
  have qb3_0 : w2.cell? ⟨w.heap.size, 3, none⟩ = some (.int .i64 rng) := HV2.out.cell 3
  have qb4_0 : w2.cell? ⟨w.heap.size, 4, none⟩ = some (.int .i64 last) := HV2.out.cell 4
  have lb_0 : w.heap.size < w2.heap.size := HV2.out.lt
  have hcz1 := MR.out w2
  go_wp2_with fail
  refine hcz1.mono ?_
  rintro e wz1 ⟨rfl, kz1⟩
  clear hcz1 qb0_0 qb1_0 qb2_0 qb3_0 qb4_0 lb_0
  have HBz1 := Lib.hid (HB2.out.trans (kz1.mono (Nat.le_trans hbase HB2.out.size)))
  have Hbz1 := Lib.hid (HV2.out.call kz1)
  clear kz1
  have qb0_1 : wz1.cell? ⟨w.heap.size, 0, none⟩ = some (.int .i64 size) := Hbz1.out.cell 0
  have qb1_1 : wz1.cell? ⟨w.heap.size, 1, none⟩ = some (.int .i64 m) := Hbz1.out.cell 1
  have qb2_1 : wz1.cell? ⟨w.heap.size, 2, none⟩ = some (.int .i64 sum) := Hbz1.out.cell 2
  have qb3_1 : wz1.cell? ⟨w.heap.size, 3, none⟩ = some (.int .i64 rng) := Hbz1.out.cell 3
  have qb4_1 : wz1.cell? ⟨w.heap.size, 4, none⟩ = some (.int .i64 last) := Hbz1.out.cell 4
  have lb_1 : w.heap.size < wz1.heap.size := Hbz1.out.lt
  go_wp2
  go_ret2
  exact ⟨rfl, HBz1.out⟩
set_option linter.unusedSimpArgs false in
set_option linter.unusedVariables false in
set_option maxHeartbeats 8000000 in
set_option maxRecDepth 100000 in
theorem wide15_1 (size m sum rng last r : Int) (w : World) (mr : (∀ W, Calls Try.prog 10 #[.agg #[.int .i64 size, .int .i64 m, .int .i64 sum, .int .i64 rng, .int .i64 last]] W fun e w' => e = .returned (.bool true) ∧ Below W.heap.size W w')) (h1 : r < 0) :
    Calls Try.prog 16 #[.agg #[.int .i64 size, .int .i64 m, .int .i64 sum, .int .i64 rng, .int .i64 last], .int .i64 r] w fun e w' => e = .returned (.tuple #[.int .i64 0, .int .i64 1]) ∧ Below w.heap.size w w' := by
  have MR := Lib.hid mr
  clear mr
  obtain ⟨w2, hw2⟩ : ∃ w2, w.alloc (.cells #[.int .i64 size, .int .i64 m, .int .i64 sum, .int .i64 rng, .int .i64 last] 23) = w2 := ⟨_, rfl⟩
  have HB2 := Lib.hid (show Below w.heap.size w w2 by rw [← hw2]; exact (Below.refl _ _).alloc (Nat.le_refl _) _)
  have HV2 := Lib.hid (show Has w2 w.heap.size [.int .i64 size, .int .i64 m, .int .i64 sum, .int .i64 rng, .int .i64 last] 23 by rw [← hw2]; exact Has.new w _ _)
  have HW2 := Lib.hid hw2
  clear hw2
  have hbase := Nat.le_refl w.heap.size
  go_enter Try.func16, Try.ntmps16
  go_upto_region 1 with fail
  rw [HW2.out]
  have qb0_0 : w2.cell? ⟨w.heap.size, 0, none⟩ = some (.int .i64 size) := HV2.out.cell 0
  have qb1_0 : w2.cell? ⟨w.heap.size, 1, none⟩ = some (.int .i64 m) := HV2.out.cell 1
  have qb2_0 : w2.cell? ⟨w.heap.size, 2, none⟩ = some (.int .i64 sum) := HV2.out.cell 2
  have qb3_0 : w2.cell? ⟨w.heap.size, 3, none⟩ = some (.int .i64 rng) := HV2.out.cell 3
  have qb4_0 : w2.cell? ⟨w.heap.size, 4, none⟩ = some (.int .i64 last) := HV2.out.cell 4
  have lb_0 : w.heap.size < w2.heap.size := HV2.out.lt
  have hcz1 := MR.out w2
  go_wp2_with fail
  refine hcz1.mono ?_
  rintro e wz1 ⟨rfl, kz1⟩
  clear hcz1 qb0_0 qb1_0 qb2_0 qb3_0 qb4_0 lb_0
  have HBz1 := Lib.hid (HB2.out.trans (kz1.mono (Nat.le_trans hbase HB2.out.size)))
  have Hbz1 := Lib.hid (HV2.out.call kz1)
  clear kz1
  have qb0_1 : wz1.cell? ⟨w.heap.size, 0, none⟩ = some (.int .i64 size) := Hbz1.out.cell 0
  have qb1_1 : wz1.cell? ⟨w.heap.size, 1, none⟩ = some (.int .i64 m) := Hbz1.out.cell 1
  have qb2_1 : wz1.cell? ⟨w.heap.size, 2, none⟩ = some (.int .i64 sum) := Hbz1.out.cell 2
  have qb3_1 : wz1.cell? ⟨w.heap.size, 3, none⟩ = some (.int .i64 rng) := Hbz1.out.cell 3
  have qb4_1 : wz1.cell? ⟨w.heap.size, 4, none⟩ = some (.int .i64 last) := Hbz1.out.cell 4
  have lb_1 : w.heap.size < wz1.heap.size := Hbz1.out.lt
  go_wp2
  go_ret2
  exact ⟨rfl, HBz1.out⟩
set_option linter.unusedSimpArgs false in
set_option linter.unusedVariables false in
set_option maxHeartbeats 8000000 in
set_option maxRecDepth 100000 in
theorem wide15_2 (size m sum rng last r : Int) (w : World) (mr : (∀ W, Calls Try.prog 10 #[.agg #[.int .i64 size, .int .i64 m, .int .i64 sum, .int .i64 rng, .int .i64 last]] W fun e w' => e = .returned (.bool true) ∧ Below W.heap.size W w')) (h1 : ¬ r < 0) (h2 : 2000000 < r) :
    Calls Try.prog 16 #[.agg #[.int .i64 size, .int .i64 m, .int .i64 sum, .int .i64 rng, .int .i64 last], .int .i64 r] w fun e w' => e = .returned (.tuple #[.int .i64 0, .int .i64 1]) ∧ Below w.heap.size w w' := by
  have MR := Lib.hid mr
  clear mr
  obtain ⟨w2, hw2⟩ : ∃ w2, w.alloc (.cells #[.int .i64 size, .int .i64 m, .int .i64 sum, .int .i64 rng, .int .i64 last] 23) = w2 := ⟨_, rfl⟩
  have HB2 := Lib.hid (show Below w.heap.size w w2 by rw [← hw2]; exact (Below.refl _ _).alloc (Nat.le_refl _) _)
  have HV2 := Lib.hid (show Has w2 w.heap.size [.int .i64 size, .int .i64 m, .int .i64 sum, .int .i64 rng, .int .i64 last] 23 by rw [← hw2]; exact Has.new w _ _)
  have HW2 := Lib.hid hw2
  clear hw2
  have hbase := Nat.le_refl w.heap.size
  go_enter Try.func16, Try.ntmps16
  go_upto_region 1 with fail
  rw [HW2.out]
  have qb0_0 : w2.cell? ⟨w.heap.size, 0, none⟩ = some (.int .i64 size) := HV2.out.cell 0
  have qb1_0 : w2.cell? ⟨w.heap.size, 1, none⟩ = some (.int .i64 m) := HV2.out.cell 1
  have qb2_0 : w2.cell? ⟨w.heap.size, 2, none⟩ = some (.int .i64 sum) := HV2.out.cell 2
  have qb3_0 : w2.cell? ⟨w.heap.size, 3, none⟩ = some (.int .i64 rng) := HV2.out.cell 3
  have qb4_0 : w2.cell? ⟨w.heap.size, 4, none⟩ = some (.int .i64 last) := HV2.out.cell 4
  have lb_0 : w.heap.size < w2.heap.size := HV2.out.lt
  have hcz1 := MR.out w2
  go_wp2_with fail
  refine hcz1.mono ?_
  rintro e wz1 ⟨rfl, kz1⟩
  clear hcz1 qb0_0 qb1_0 qb2_0 qb3_0 qb4_0 lb_0
  have HBz1 := Lib.hid (HB2.out.trans (kz1.mono (Nat.le_trans hbase HB2.out.size)))
  have Hbz1 := Lib.hid (HV2.out.call kz1)
  clear kz1
  have qb0_1 : wz1.cell? ⟨w.heap.size, 0, none⟩ = some (.int .i64 size) := Hbz1.out.cell 0
  have qb1_1 : wz1.cell? ⟨w.heap.size, 1, none⟩ = some (.int .i64 m) := Hbz1.out.cell 1
  have qb2_1 : wz1.cell? ⟨w.heap.size, 2, none⟩ = some (.int .i64 sum) := Hbz1.out.cell 2
  have qb3_1 : wz1.cell? ⟨w.heap.size, 3, none⟩ = some (.int .i64 rng) := Hbz1.out.cell 3
  have qb4_1 : wz1.cell? ⟨w.heap.size, 4, none⟩ = some (.int .i64 last) := Hbz1.out.cell 4
  have lb_1 : w.heap.size < wz1.heap.size := Hbz1.out.lt
  go_wp2
  go_ret2
  exact ⟨rfl, HBz1.out⟩
set_option linter.unusedSimpArgs false in
set_option linter.unusedVariables false in
set_option maxHeartbeats 8000000 in
set_option maxRecDepth 100000 in
theorem wide15_3 (size m sum rng last r : Int) (w : World) (mr : (∀ W, Calls Try.prog 10 #[.agg #[.int .i64 size, .int .i64 m, .int .i64 sum, .int .i64 rng, .int .i64 last]] W fun e w' => e = .returned (.bool true) ∧ Below W.heap.size W w')) (h1 : ¬ r < 0) (h2 : ¬ 2000000 < r) (h3 : m < 2) :
    Calls Try.prog 16 #[.agg #[.int .i64 size, .int .i64 m, .int .i64 sum, .int .i64 rng, .int .i64 last], .int .i64 r] w fun e w' => e = .returned (.tuple #[.int .i64 0, .int .i64 12]) ∧ Below w.heap.size w w' := by
  have MR := Lib.hid mr
  clear mr
  obtain ⟨w2, hw2⟩ : ∃ w2, w.alloc (.cells #[.int .i64 size, .int .i64 m, .int .i64 sum, .int .i64 rng, .int .i64 last] 23) = w2 := ⟨_, rfl⟩
  have HB2 := Lib.hid (show Below w.heap.size w w2 by rw [← hw2]; exact (Below.refl _ _).alloc (Nat.le_refl _) _)
  have HV2 := Lib.hid (show Has w2 w.heap.size [.int .i64 size, .int .i64 m, .int .i64 sum, .int .i64 rng, .int .i64 last] 23 by rw [← hw2]; exact Has.new w _ _)
  have HW2 := Lib.hid hw2
  clear hw2
  have hbase := Nat.le_refl w.heap.size
  go_enter Try.func16, Try.ntmps16
  go_upto_region 1 with fail
  rw [HW2.out]
  have qb0_0 : w2.cell? ⟨w.heap.size, 0, none⟩ = some (.int .i64 size) := HV2.out.cell 0
  have qb1_0 : w2.cell? ⟨w.heap.size, 1, none⟩ = some (.int .i64 m) := HV2.out.cell 1
  have qb2_0 : w2.cell? ⟨w.heap.size, 2, none⟩ = some (.int .i64 sum) := HV2.out.cell 2
  have qb3_0 : w2.cell? ⟨w.heap.size, 3, none⟩ = some (.int .i64 rng) := HV2.out.cell 3
  have qb4_0 : w2.cell? ⟨w.heap.size, 4, none⟩ = some (.int .i64 last) := HV2.out.cell 4
  have lb_0 : w.heap.size < w2.heap.size := HV2.out.lt
  have hcz1 := MR.out w2
  go_wp2_with fail
  refine hcz1.mono ?_
  rintro e wz1 ⟨rfl, kz1⟩
  clear hcz1 qb0_0 qb1_0 qb2_0 qb3_0 qb4_0 lb_0
  have HBz1 := Lib.hid (HB2.out.trans (kz1.mono (Nat.le_trans hbase HB2.out.size)))
  have Hbz1 := Lib.hid (HV2.out.call kz1)
  clear kz1
  have qb0_1 : wz1.cell? ⟨w.heap.size, 0, none⟩ = some (.int .i64 size) := Hbz1.out.cell 0
  have qb1_1 : wz1.cell? ⟨w.heap.size, 1, none⟩ = some (.int .i64 m) := Hbz1.out.cell 1
  have qb2_1 : wz1.cell? ⟨w.heap.size, 2, none⟩ = some (.int .i64 sum) := Hbz1.out.cell 2
  have qb3_1 : wz1.cell? ⟨w.heap.size, 3, none⟩ = some (.int .i64 rng) := Hbz1.out.cell 3
  have qb4_1 : wz1.cell? ⟨w.heap.size, 4, none⟩ = some (.int .i64 last) := Hbz1.out.cell 4
  have lb_1 : w.heap.size < wz1.heap.size := Hbz1.out.lt
  go_wp2
  go_ret2
  exact ⟨rfl, HBz1.out⟩
set_option linter.unusedSimpArgs false in
set_option linter.unusedVariables false in
set_option maxHeartbeats 8000000 in
set_option maxRecDepth 100000 in
theorem wide15_4 (size m sum rng last r R nn X A f4 B4 : Int) (w : World) (T : TypeId) (VV : Value) (FR FW : FuncId) (mr : (∀ W, Calls Try.prog 10 #[.agg #[.int .i64 size, .int .i64 m, .int .i64 sum, .int .i64 rng, .int .i64 last]] W fun e w' => e = .returned (.bool true) ∧ Below W.heap.size W w')) (mh : (∀ W, Calls Try.prog 25 #[.agg #[.int .i64 size, .int .i64 m, .int .i64 sum, .int .i64 rng, .int .i64 last]] W fun e w' => e = .returned (.iface T VV) ∧ Below W.heap.size W w')) (mrr : (∀ W, Calls Try.prog FR #[VV] W fun e w' => e = .returned (.int .i64 R) ∧ Below W.heap.size W w')) (mw : (∀ W, Calls Try.prog FW #[VV] W fun e w' => e = .returned (.int .i64 nn) ∧ Below W.heap.size W w')) (mf4 : (∀ W, Calls Try.prog 30 #[.int .i64 2, .int .i64 nn] W fun e w' => e = .returned (.int .i64 f4) ∧ Below W.heap.size W w')) (h1 : ¬ r < 0) (h2 : ¬ 2000000 < r) (h3 : ¬ m < 2) (e1 : wrap64 (r * R) = X) (e2 : wrap64 (X * 10000) = A) (e3 : IntKind.i64.wrap (f4 * rng) = B4) (hm : ∀ W, (method 240 T VV "datum/base.ranges").run Try.prog W = .ok (FR, VV) W) (heg : ∀ args W, (callFunc FR args).run Try.prog W = .ok (.enter FR args) W) (hm2 : ∀ W, (method 240 T VV "datum/base.width").run Try.prog W = .ok (FW, VV) W) (heg2 : ∀ args W, (callFunc FW args).run Try.prog W = .ok (.enter FW args) W) (h4 : B4 < A) :
    Calls Try.prog 16 #[.agg #[.int .i64 size, .int .i64 m, .int .i64 sum, .int .i64 rng, .int .i64 last], .int .i64 r] w fun e w' => e = .returned (.tuple #[.int .i64 1, .int .i64 0]) ∧ Below w.heap.size w w' := by
  have MR := Lib.hid mr; have MH := Lib.hid mh; have MRR := Lib.hid mrr; have MW := Lib.hid mw; have MF4 := Lib.hid mf4
  clear mr mh mrr mw mf4
  obtain ⟨w2, hw2⟩ : ∃ w2, w.alloc (.cells #[.int .i64 size, .int .i64 m, .int .i64 sum, .int .i64 rng, .int .i64 last] 23) = w2 := ⟨_, rfl⟩
  have HB2 := Lib.hid (show Below w.heap.size w w2 by rw [← hw2]; exact (Below.refl _ _).alloc (Nat.le_refl _) _)
  have HV2 := Lib.hid (show Has w2 w.heap.size [.int .i64 size, .int .i64 m, .int .i64 sum, .int .i64 rng, .int .i64 last] 23 by rw [← hw2]; exact Has.new w _ _)
  have HW2 := Lib.hid hw2
  clear hw2
  have hbase := Nat.le_refl w.heap.size
  go_enter Try.func16, Try.ntmps16
  go_upto_region 1 with fail
  rw [HW2.out]
  have qb0_0 : w2.cell? ⟨w.heap.size, 0, none⟩ = some (.int .i64 size) := HV2.out.cell 0
  have qb1_0 : w2.cell? ⟨w.heap.size, 1, none⟩ = some (.int .i64 m) := HV2.out.cell 1
  have qb2_0 : w2.cell? ⟨w.heap.size, 2, none⟩ = some (.int .i64 sum) := HV2.out.cell 2
  have qb3_0 : w2.cell? ⟨w.heap.size, 3, none⟩ = some (.int .i64 rng) := HV2.out.cell 3
  have qb4_0 : w2.cell? ⟨w.heap.size, 4, none⟩ = some (.int .i64 last) := HV2.out.cell 4
  have lb_0 : w.heap.size < w2.heap.size := HV2.out.lt
  have hcz1 := MR.out w2
  go_wp2_with fail
  refine hcz1.mono ?_
  rintro e wz1 ⟨rfl, kz1⟩
  clear hcz1 qb0_0 qb1_0 qb2_0 qb3_0 qb4_0 lb_0
  have HBz1 := Lib.hid (HB2.out.trans (kz1.mono (Nat.le_trans hbase HB2.out.size)))
  have Hbz1 := Lib.hid (HV2.out.call kz1)
  clear kz1
  have qb0_1 : wz1.cell? ⟨w.heap.size, 0, none⟩ = some (.int .i64 size) := Hbz1.out.cell 0
  have qb1_1 : wz1.cell? ⟨w.heap.size, 1, none⟩ = some (.int .i64 m) := Hbz1.out.cell 1
  have qb2_1 : wz1.cell? ⟨w.heap.size, 2, none⟩ = some (.int .i64 sum) := Hbz1.out.cell 2
  have qb3_1 : wz1.cell? ⟨w.heap.size, 3, none⟩ = some (.int .i64 rng) := Hbz1.out.cell 3
  have qb4_1 : wz1.cell? ⟨w.heap.size, 4, none⟩ = some (.int .i64 last) := Hbz1.out.cell 4
  have lb_1 : w.heap.size < wz1.heap.size := Hbz1.out.lt
  have hcz2 := MH.out wz1
  go_wp2_with fail
  refine hcz2.mono ?_
  rintro e wz2 ⟨rfl, kz2⟩
  clear hcz2 qb0_1 qb1_1 qb2_1 qb3_1 qb4_1 lb_1
  have HBz2 := Lib.hid (HBz1.out.trans (kz2.mono (Nat.le_trans hbase HBz1.out.size)))
  have Hbz2 := Lib.hid (Hbz1.out.call kz2)
  clear kz2
  have hcz3 := MRR.out wz2
  go_wp2_with fail
  refine hcz3.mono ?_
  rintro e wz3 ⟨rfl, kz3⟩
  clear hcz3
  have HBz3 := Lib.hid (HBz2.out.trans (kz3.mono (Nat.le_trans hbase HBz2.out.size)))
  have Hbz3 := Lib.hid (Hbz2.out.call kz3)
  clear kz3
  go_upto_region 7 with fail
  refine wp_region_held_drew (S := (fun W' => W'.cell? ⟨w.heap.size, 0, none⟩ = some (.int .i64 size) ∧ W'.cell? ⟨w.heap.size, 1, none⟩ = some (.int .i64 m) ∧ W'.cell? ⟨w.heap.size, 2, none⟩ = some (.int .i64 sum) ∧ W'.cell? ⟨w.heap.size, 3, none⟩ = some (.int .i64 rng) ∧ W'.cell? ⟨w.heap.size, 4, none⟩ = some (.int .i64 last))) (by kernel_rfl) ⟨Hbz3.out.cell 0, Hbz3.out.cell 1, Hbz3.out.cell 2, Hbz3.out.cell 3, Hbz3.out.cell 4⟩ (fun hHeld => ?_)
  refine regTake 0 (some 30) (v := ?_) rfl rfl (by kernel_rfl) (by kernel_rfl) (by kernel_rfl) (fun _ _ _ h => h) (by rfl) hHeld ?_ ?_
  rotate_left 1
  · (intro w hSw; (try dsimp only at hSw); go_simp; try with_reducible rfl)
  simp only [Act.put, List.setIfInBounds_toArray, List.set_cons_zero, List.set_cons_succ]
  refine regTake 3 (some 33) (v := ?_) rfl rfl (by kernel_rfl) (by kernel_rfl) (by kernel_rfl) (fun _ _ _ h => h) (by rfl) hHeld ?_ ?_
  rotate_left 1
  · (intro w hSw; (try dsimp only at hSw); go_simp; try with_reducible rfl)
  simp only [Act.put, List.setIfInBounds_toArray, List.set_cons_zero, List.set_cons_succ]
  refine regTake 4 (some 34) (v := ?_) rfl rfl (by kernel_rfl) (by kernel_rfl) (by kernel_rfl) (fun _ _ _ h => h) (by rfl) hHeld ?_ ?_
  rotate_left 1
  · (intro w hSw; (try dsimp only at hSw); go_simp; try with_reducible rfl)
  simp only [Act.put, List.setIfInBounds_toArray, List.set_cons_zero, List.set_cons_succ]
  refine regTake 6 (some 36) (v := ?_) rfl rfl (by kernel_rfl) (by kernel_rfl) (by kernel_rfl) (fun _ _ _ h => h) (by rfl) hHeld ?_ ?_
  rotate_left 1
  · (intro w hSw; (try dsimp only at hSw); go_simp; try with_reducible rfl)
  simp only [Act.put, List.setIfInBounds_toArray, List.set_cons_zero, List.set_cons_succ]
  refine regCall 1 (some 31) (f := FW) (args := ?_) rfl rfl (by kernel_rfl) (by rfl) ?_ ?_
  rotate_left 1
  · (go_simp; try with_reducible rfl)
  refine (MW.out _).mono ?_
  rintro e wx1 ⟨rfl, kg4⟩
  refine ⟨_, rfl, ⟨(Hbz3.out.step kg4 rfl).cell 0, (Hbz3.out.step kg4 rfl).cell 1, (Hbz3.out.step kg4 rfl).cell 2, (Hbz3.out.step kg4 rfl).cell 3, (Hbz3.out.step kg4 rfl).cell 4⟩, fun hHeld => ?_⟩
  simp only [Act.put, List.setIfInBounds_toArray, List.set_cons_zero, List.set_cons_succ]
  have HBg4 := Lib.hid ((HBz3.out.drew).trans (kg4.mono (Nat.le_trans hbase (HBz3.out.drew).size)))
  have Hbg4 := Lib.hid (Hbz3.out.step kg4 rfl)
  clear kg4
  refine regCall 2 (some 32) (f := 30) (args := ?_) rfl rfl (by kernel_rfl) (by rfl) ?_ ?_
  rotate_left 1
  · (go_simp; try with_reducible rfl)
  refine (MF4.out _).mono ?_
  rintro e wx2 ⟨rfl, kg5⟩
  refine ⟨_, rfl, ⟨(Hbg4.out.step kg5 rfl).cell 0, (Hbg4.out.step kg5 rfl).cell 1, (Hbg4.out.step kg5 rfl).cell 2, (Hbg4.out.step kg5 rfl).cell 3, (Hbg4.out.step kg5 rfl).cell 4⟩, fun hHeld => ?_⟩
  simp only [Act.put, List.setIfInBounds_toArray, List.set_cons_zero, List.set_cons_succ]
  have HBg5 := Lib.hid ((HBg4.out).trans (kg5.mono (Nat.le_trans hbase (HBg4.out).size)))
  have Hbg5 := Lib.hid (Hbg4.out.step kg5 rfl)
  clear kg5
  refine regTake 5 (some 35) (v := ?_) rfl rfl (by kernel_rfl) (by kernel_rfl) (by kernel_rfl) (fun _ _ _ h => h) (by rfl) hHeld ?_ ?_
  rotate_left 1
  · (intro w hSw; (try dsimp only at hSw); go_simp; try with_reducible rfl)
  simp only [Act.put, List.setIfInBounds_toArray, List.set_cons_zero, List.set_cons_succ]
  refine regTake 7 (some 37) (v := ?_) rfl rfl (by kernel_rfl) (by kernel_rfl) (by kernel_rfl) (fun _ _ _ h => h) (by rfl) hHeld ?_ ?_
  rotate_left 1
  · (intro w hSw; (try dsimp only at hSw); go_simp; try with_reducible rfl)
  simp only [Act.put, List.setIfInBounds_toArray, List.set_cons_zero, List.set_cons_succ]
  refine regTake 8 (some 29) (v := ?_) rfl rfl (by kernel_rfl) (by kernel_rfl) (by kernel_rfl) (fun _ _ _ h => h) (by rfl) hHeld ?_ ?_
  rotate_left 1
  · (intro w hSw; (try dsimp only at hSw); go_simp; try with_reducible rfl)
  simp only [Act.put, List.setIfInBounds_toArray, List.set_cons_zero, List.set_cons_succ]
  refine wpAnyH_done (by kernel_rfl) ?_ _
  clear hHeld
  go_wp2
  go_ret2
  exact ⟨rfl, HBg5.out⟩
set_option linter.unusedSimpArgs false in
set_option linter.unusedVariables false in
set_option maxHeartbeats 8000000 in
set_option maxRecDepth 100000 in
theorem wide15_5 (size m sum rng last r R nn X A f4 B4 f3 B3 : Int) (w : World) (T : TypeId) (VV : Value) (FR FW : FuncId) (mr : (∀ W, Calls Try.prog 10 #[.agg #[.int .i64 size, .int .i64 m, .int .i64 sum, .int .i64 rng, .int .i64 last]] W fun e w' => e = .returned (.bool true) ∧ Below W.heap.size W w')) (mh : (∀ W, Calls Try.prog 25 #[.agg #[.int .i64 size, .int .i64 m, .int .i64 sum, .int .i64 rng, .int .i64 last]] W fun e w' => e = .returned (.iface T VV) ∧ Below W.heap.size W w')) (mrr : (∀ W, Calls Try.prog FR #[VV] W fun e w' => e = .returned (.int .i64 R) ∧ Below W.heap.size W w')) (mw : (∀ W, Calls Try.prog FW #[VV] W fun e w' => e = .returned (.int .i64 nn) ∧ Below W.heap.size W w')) (mf4 : (∀ W, Calls Try.prog 30 #[.int .i64 2, .int .i64 nn] W fun e w' => e = .returned (.int .i64 f4) ∧ Below W.heap.size W w')) (mf3 : (∀ W, Calls Try.prog 30 #[.int .i64 1, .int .i64 nn] W fun e w' => e = .returned (.int .i64 f3) ∧ Below W.heap.size W w')) (h1 : ¬ r < 0) (h2 : ¬ 2000000 < r) (h3 : ¬ m < 2) (e1 : wrap64 (r * R) = X) (e2 : wrap64 (X * 10000) = A) (e3 : IntKind.i64.wrap (f4 * rng) = B4) (hm : ∀ W, (method 240 T VV "datum/base.ranges").run Try.prog W = .ok (FR, VV) W) (heg : ∀ args W, (callFunc FR args).run Try.prog W = .ok (.enter FR args) W) (hm2 : ∀ W, (method 240 T VV "datum/base.width").run Try.prog W = .ok (FW, VV) W) (heg2 : ∀ args W, (callFunc FW args).run Try.prog W = .ok (.enter FW args) W) (h4 : ¬ B4 < A) (e4 : IntKind.i64.wrap (f3 * rng) = B3) (h5 : A < B3) :
    Calls Try.prog 16 #[.agg #[.int .i64 size, .int .i64 m, .int .i64 sum, .int .i64 rng, .int .i64 last], .int .i64 r] w fun e w' => e = .returned (.tuple #[.int .i64 (-1), .int .i64 0]) ∧ Below w.heap.size w w' := by
  have MR := Lib.hid mr; have MH := Lib.hid mh; have MRR := Lib.hid mrr; have MW := Lib.hid mw; have MF4 := Lib.hid mf4; have MF3 := Lib.hid mf3
  clear mr mh mrr mw mf4 mf3
  obtain ⟨w2, hw2⟩ : ∃ w2, w.alloc (.cells #[.int .i64 size, .int .i64 m, .int .i64 sum, .int .i64 rng, .int .i64 last] 23) = w2 := ⟨_, rfl⟩
  have HB2 := Lib.hid (show Below w.heap.size w w2 by rw [← hw2]; exact (Below.refl _ _).alloc (Nat.le_refl _) _)
  have HV2 := Lib.hid (show Has w2 w.heap.size [.int .i64 size, .int .i64 m, .int .i64 sum, .int .i64 rng, .int .i64 last] 23 by rw [← hw2]; exact Has.new w _ _)
  have HW2 := Lib.hid hw2
  clear hw2
  have hbase := Nat.le_refl w.heap.size
  go_enter Try.func16, Try.ntmps16
  go_upto_region 1 with fail
  rw [HW2.out]
  have qb0_0 : w2.cell? ⟨w.heap.size, 0, none⟩ = some (.int .i64 size) := HV2.out.cell 0
  have qb1_0 : w2.cell? ⟨w.heap.size, 1, none⟩ = some (.int .i64 m) := HV2.out.cell 1
  have qb2_0 : w2.cell? ⟨w.heap.size, 2, none⟩ = some (.int .i64 sum) := HV2.out.cell 2
  have qb3_0 : w2.cell? ⟨w.heap.size, 3, none⟩ = some (.int .i64 rng) := HV2.out.cell 3
  have qb4_0 : w2.cell? ⟨w.heap.size, 4, none⟩ = some (.int .i64 last) := HV2.out.cell 4
  have lb_0 : w.heap.size < w2.heap.size := HV2.out.lt
  have hcz1 := MR.out w2
  go_wp2_with fail
  refine hcz1.mono ?_
  rintro e wz1 ⟨rfl, kz1⟩
  clear hcz1 qb0_0 qb1_0 qb2_0 qb3_0 qb4_0 lb_0
  have HBz1 := Lib.hid (HB2.out.trans (kz1.mono (Nat.le_trans hbase HB2.out.size)))
  have Hbz1 := Lib.hid (HV2.out.call kz1)
  clear kz1
  have qb0_1 : wz1.cell? ⟨w.heap.size, 0, none⟩ = some (.int .i64 size) := Hbz1.out.cell 0
  have qb1_1 : wz1.cell? ⟨w.heap.size, 1, none⟩ = some (.int .i64 m) := Hbz1.out.cell 1
  have qb2_1 : wz1.cell? ⟨w.heap.size, 2, none⟩ = some (.int .i64 sum) := Hbz1.out.cell 2
  have qb3_1 : wz1.cell? ⟨w.heap.size, 3, none⟩ = some (.int .i64 rng) := Hbz1.out.cell 3
  have qb4_1 : wz1.cell? ⟨w.heap.size, 4, none⟩ = some (.int .i64 last) := Hbz1.out.cell 4
  have lb_1 : w.heap.size < wz1.heap.size := Hbz1.out.lt
  have hcz2 := MH.out wz1
  go_wp2_with fail
  refine hcz2.mono ?_
  rintro e wz2 ⟨rfl, kz2⟩
  clear hcz2 qb0_1 qb1_1 qb2_1 qb3_1 qb4_1 lb_1
  have HBz2 := Lib.hid (HBz1.out.trans (kz2.mono (Nat.le_trans hbase HBz1.out.size)))
  have Hbz2 := Lib.hid (Hbz1.out.call kz2)
  clear kz2
  have hcz3 := MRR.out wz2
  go_wp2_with fail
  refine hcz3.mono ?_
  rintro e wz3 ⟨rfl, kz3⟩
  clear hcz3
  have HBz3 := Lib.hid (HBz2.out.trans (kz3.mono (Nat.le_trans hbase HBz2.out.size)))
  have Hbz3 := Lib.hid (Hbz2.out.call kz3)
  clear kz3
  go_upto_region 7 with fail
  refine wp_region_held_drew (S := (fun W' => W'.cell? ⟨w.heap.size, 0, none⟩ = some (.int .i64 size) ∧ W'.cell? ⟨w.heap.size, 1, none⟩ = some (.int .i64 m) ∧ W'.cell? ⟨w.heap.size, 2, none⟩ = some (.int .i64 sum) ∧ W'.cell? ⟨w.heap.size, 3, none⟩ = some (.int .i64 rng) ∧ W'.cell? ⟨w.heap.size, 4, none⟩ = some (.int .i64 last))) (by kernel_rfl) ⟨Hbz3.out.cell 0, Hbz3.out.cell 1, Hbz3.out.cell 2, Hbz3.out.cell 3, Hbz3.out.cell 4⟩ (fun hHeld => ?_)
  refine regTake 0 (some 30) (v := ?_) rfl rfl (by kernel_rfl) (by kernel_rfl) (by kernel_rfl) (fun _ _ _ h => h) (by rfl) hHeld ?_ ?_
  rotate_left 1
  · (intro w hSw; (try dsimp only at hSw); go_simp; try with_reducible rfl)
  simp only [Act.put, List.setIfInBounds_toArray, List.set_cons_zero, List.set_cons_succ]
  refine regTake 3 (some 33) (v := ?_) rfl rfl (by kernel_rfl) (by kernel_rfl) (by kernel_rfl) (fun _ _ _ h => h) (by rfl) hHeld ?_ ?_
  rotate_left 1
  · (intro w hSw; (try dsimp only at hSw); go_simp; try with_reducible rfl)
  simp only [Act.put, List.setIfInBounds_toArray, List.set_cons_zero, List.set_cons_succ]
  refine regTake 4 (some 34) (v := ?_) rfl rfl (by kernel_rfl) (by kernel_rfl) (by kernel_rfl) (fun _ _ _ h => h) (by rfl) hHeld ?_ ?_
  rotate_left 1
  · (intro w hSw; (try dsimp only at hSw); go_simp; try with_reducible rfl)
  simp only [Act.put, List.setIfInBounds_toArray, List.set_cons_zero, List.set_cons_succ]
  refine regTake 6 (some 36) (v := ?_) rfl rfl (by kernel_rfl) (by kernel_rfl) (by kernel_rfl) (fun _ _ _ h => h) (by rfl) hHeld ?_ ?_
  rotate_left 1
  · (intro w hSw; (try dsimp only at hSw); go_simp; try with_reducible rfl)
  simp only [Act.put, List.setIfInBounds_toArray, List.set_cons_zero, List.set_cons_succ]
  refine regCall 1 (some 31) (f := FW) (args := ?_) rfl rfl (by kernel_rfl) (by rfl) ?_ ?_
  rotate_left 1
  · (go_simp; try with_reducible rfl)
  refine (MW.out _).mono ?_
  rintro e wx1 ⟨rfl, kg4⟩
  refine ⟨_, rfl, ⟨(Hbz3.out.step kg4 rfl).cell 0, (Hbz3.out.step kg4 rfl).cell 1, (Hbz3.out.step kg4 rfl).cell 2, (Hbz3.out.step kg4 rfl).cell 3, (Hbz3.out.step kg4 rfl).cell 4⟩, fun hHeld => ?_⟩
  simp only [Act.put, List.setIfInBounds_toArray, List.set_cons_zero, List.set_cons_succ]
  have HBg4 := Lib.hid ((HBz3.out.drew).trans (kg4.mono (Nat.le_trans hbase (HBz3.out.drew).size)))
  have Hbg4 := Lib.hid (Hbz3.out.step kg4 rfl)
  clear kg4
  refine regCall 2 (some 32) (f := 30) (args := ?_) rfl rfl (by kernel_rfl) (by rfl) ?_ ?_
  rotate_left 1
  · (go_simp; try with_reducible rfl)
  refine (MF4.out _).mono ?_
  rintro e wx2 ⟨rfl, kg5⟩
  refine ⟨_, rfl, ⟨(Hbg4.out.step kg5 rfl).cell 0, (Hbg4.out.step kg5 rfl).cell 1, (Hbg4.out.step kg5 rfl).cell 2, (Hbg4.out.step kg5 rfl).cell 3, (Hbg4.out.step kg5 rfl).cell 4⟩, fun hHeld => ?_⟩
  simp only [Act.put, List.setIfInBounds_toArray, List.set_cons_zero, List.set_cons_succ]
  have HBg5 := Lib.hid ((HBg4.out).trans (kg5.mono (Nat.le_trans hbase (HBg4.out).size)))
  have Hbg5 := Lib.hid (Hbg4.out.step kg5 rfl)
  clear kg5
  refine regTake 5 (some 35) (v := ?_) rfl rfl (by kernel_rfl) (by kernel_rfl) (by kernel_rfl) (fun _ _ _ h => h) (by rfl) hHeld ?_ ?_
  rotate_left 1
  · (intro w hSw; (try dsimp only at hSw); go_simp; try with_reducible rfl)
  simp only [Act.put, List.setIfInBounds_toArray, List.set_cons_zero, List.set_cons_succ]
  refine regTake 7 (some 37) (v := ?_) rfl rfl (by kernel_rfl) (by kernel_rfl) (by kernel_rfl) (fun _ _ _ h => h) (by rfl) hHeld ?_ ?_
  rotate_left 1
  · (intro w hSw; (try dsimp only at hSw); go_simp; try with_reducible rfl)
  simp only [Act.put, List.setIfInBounds_toArray, List.set_cons_zero, List.set_cons_succ]
  refine regTake 8 (some 29) (v := ?_) rfl rfl (by kernel_rfl) (by kernel_rfl) (by kernel_rfl) (fun _ _ _ h => h) (by rfl) hHeld ?_ ?_
  rotate_left 1
  · (intro w hSw; (try dsimp only at hSw); go_simp; try with_reducible rfl)
  simp only [Act.put, List.setIfInBounds_toArray, List.set_cons_zero, List.set_cons_succ]
  refine wpAnyH_done (by kernel_rfl) ?_ _
  clear hHeld
  go_upto_region 9 with fail
  refine wp_region_held_drew (S := (fun W' => W'.cell? ⟨w.heap.size, 0, none⟩ = some (.int .i64 size) ∧ W'.cell? ⟨w.heap.size, 1, none⟩ = some (.int .i64 m) ∧ W'.cell? ⟨w.heap.size, 2, none⟩ = some (.int .i64 sum) ∧ W'.cell? ⟨w.heap.size, 3, none⟩ = some (.int .i64 rng) ∧ W'.cell? ⟨w.heap.size, 4, none⟩ = some (.int .i64 last))) (by kernel_rfl) ⟨Hbg5.out.cell 0, Hbg5.out.cell 1, Hbg5.out.cell 2, Hbg5.out.cell 3, Hbg5.out.cell 4⟩ (fun hHeld => ?_)
  refine regTake 0 (some 39) (v := ?_) rfl rfl (by kernel_rfl) (by kernel_rfl) (by kernel_rfl) (fun _ _ _ h => h) (by rfl) hHeld ?_ ?_
  rotate_left 1
  · (intro w hSw; (try dsimp only at hSw); go_simp; try with_reducible rfl)
  simp only [Act.put, List.setIfInBounds_toArray, List.set_cons_zero, List.set_cons_succ]
  refine regTake 1 (some 40) (v := ?_) rfl rfl (by kernel_rfl) (by kernel_rfl) (by kernel_rfl) (fun _ _ _ h => h) (by rfl) hHeld ?_ ?_
  rotate_left 1
  · (intro w hSw; (try dsimp only at hSw); go_simp; try with_reducible rfl)
  simp only [Act.put, List.setIfInBounds_toArray, List.set_cons_zero, List.set_cons_succ]
  refine regTake 4 (some 43) (v := ?_) rfl rfl (by kernel_rfl) (by kernel_rfl) (by kernel_rfl) (fun _ _ _ h => h) (by rfl) hHeld ?_ ?_
  rotate_left 1
  · (intro w hSw; (try dsimp only at hSw); go_simp; try with_reducible rfl)
  simp only [Act.put, List.setIfInBounds_toArray, List.set_cons_zero, List.set_cons_succ]
  refine regTake 5 (some 44) (v := ?_) rfl rfl (by kernel_rfl) (by kernel_rfl) (by kernel_rfl) (fun _ _ _ h => h) (by rfl) hHeld ?_ ?_
  rotate_left 1
  · (intro w hSw; (try dsimp only at hSw); go_simp; try with_reducible rfl)
  simp only [Act.put, List.setIfInBounds_toArray, List.set_cons_zero, List.set_cons_succ]
  refine regCall 2 (some 41) (f := FW) (args := ?_) rfl rfl (by kernel_rfl) (by rfl) ?_ ?_
  rotate_left 1
  · (go_simp; try with_reducible rfl)
  refine (MW.out _).mono ?_
  rintro e wx2 ⟨rfl, kg6⟩
  refine ⟨_, rfl, ⟨(Hbg5.out.step kg6 rfl).cell 0, (Hbg5.out.step kg6 rfl).cell 1, (Hbg5.out.step kg6 rfl).cell 2, (Hbg5.out.step kg6 rfl).cell 3, (Hbg5.out.step kg6 rfl).cell 4⟩, fun hHeld => ?_⟩
  simp only [Act.put, List.setIfInBounds_toArray, List.set_cons_zero, List.set_cons_succ]
  have HBg6 := Lib.hid ((HBg5.out.drew).trans (kg6.mono (Nat.le_trans hbase (HBg5.out.drew).size)))
  have Hbg6 := Lib.hid (Hbg5.out.step kg6 rfl)
  clear kg6
  refine regCall 3 (some 42) (f := 30) (args := ?_) rfl rfl (by kernel_rfl) (by rfl) ?_ ?_
  rotate_left 1
  · (go_simp; try with_reducible rfl)
  refine (MF3.out _).mono ?_
  rintro e wx3 ⟨rfl, kg7⟩
  refine ⟨_, rfl, ⟨(Hbg6.out.step kg7 rfl).cell 0, (Hbg6.out.step kg7 rfl).cell 1, (Hbg6.out.step kg7 rfl).cell 2, (Hbg6.out.step kg7 rfl).cell 3, (Hbg6.out.step kg7 rfl).cell 4⟩, fun hHeld => ?_⟩
  simp only [Act.put, List.setIfInBounds_toArray, List.set_cons_zero, List.set_cons_succ]
  have HBg7 := Lib.hid ((HBg6.out).trans (kg7.mono (Nat.le_trans hbase (HBg6.out).size)))
  have Hbg7 := Lib.hid (Hbg6.out.step kg7 rfl)
  clear kg7
  refine regTake 6 (some 45) (v := ?_) rfl rfl (by kernel_rfl) (by kernel_rfl) (by kernel_rfl) (fun _ _ _ h => h) (by rfl) hHeld ?_ ?_
  rotate_left 1
  · (intro w hSw; (try dsimp only at hSw); go_simp; try with_reducible rfl)
  simp only [Act.put, List.setIfInBounds_toArray, List.set_cons_zero, List.set_cons_succ]
  refine regTake 7 (some 46) (v := ?_) rfl rfl (by kernel_rfl) (by kernel_rfl) (by kernel_rfl) (fun _ _ _ h => h) (by rfl) hHeld ?_ ?_
  rotate_left 1
  · (intro w hSw; (try dsimp only at hSw); go_simp; try with_reducible rfl)
  simp only [Act.put, List.setIfInBounds_toArray, List.set_cons_zero, List.set_cons_succ]
  refine regTake 8 (some 38) (v := ?_) rfl rfl (by kernel_rfl) (by kernel_rfl) (by kernel_rfl) (fun _ _ _ h => h) (by rfl) hHeld ?_ ?_
  rotate_left 1
  · (intro w hSw; (try dsimp only at hSw); go_simp; try with_reducible rfl)
  simp only [Act.put, List.setIfInBounds_toArray, List.set_cons_zero, List.set_cons_succ]
  refine wpAnyH_done (by kernel_rfl) ?_ _
  clear hHeld
  go_wp2
  go_ret2
  exact ⟨rfl, HBg7.out⟩
set_option linter.unusedSimpArgs false in
set_option linter.unusedVariables false in
set_option maxHeartbeats 8000000 in
set_option maxRecDepth 100000 in
theorem wide15_6 (size m sum rng last r R nn X A f4 B4 f3 B3 : Int) (w : World) (T : TypeId) (VV : Value) (FR FW : FuncId) (mr : (∀ W, Calls Try.prog 10 #[.agg #[.int .i64 size, .int .i64 m, .int .i64 sum, .int .i64 rng, .int .i64 last]] W fun e w' => e = .returned (.bool true) ∧ Below W.heap.size W w')) (mh : (∀ W, Calls Try.prog 25 #[.agg #[.int .i64 size, .int .i64 m, .int .i64 sum, .int .i64 rng, .int .i64 last]] W fun e w' => e = .returned (.iface T VV) ∧ Below W.heap.size W w')) (mrr : (∀ W, Calls Try.prog FR #[VV] W fun e w' => e = .returned (.int .i64 R) ∧ Below W.heap.size W w')) (mw : (∀ W, Calls Try.prog FW #[VV] W fun e w' => e = .returned (.int .i64 nn) ∧ Below W.heap.size W w')) (mf4 : (∀ W, Calls Try.prog 30 #[.int .i64 2, .int .i64 nn] W fun e w' => e = .returned (.int .i64 f4) ∧ Below W.heap.size W w')) (mf3 : (∀ W, Calls Try.prog 30 #[.int .i64 1, .int .i64 nn] W fun e w' => e = .returned (.int .i64 f3) ∧ Below W.heap.size W w')) (h1 : ¬ r < 0) (h2 : ¬ 2000000 < r) (h3 : ¬ m < 2) (e1 : wrap64 (r * R) = X) (e2 : wrap64 (X * 10000) = A) (e3 : IntKind.i64.wrap (f4 * rng) = B4) (hm : ∀ W, (method 240 T VV "datum/base.ranges").run Try.prog W = .ok (FR, VV) W) (heg : ∀ args W, (callFunc FR args).run Try.prog W = .ok (.enter FR args) W) (hm2 : ∀ W, (method 240 T VV "datum/base.width").run Try.prog W = .ok (FW, VV) W) (heg2 : ∀ args W, (callFunc FW args).run Try.prog W = .ok (.enter FW args) W) (h4 : ¬ B4 < A) (e4 : IntKind.i64.wrap (f3 * rng) = B3) (h5 : ¬ A < B3) :
    Calls Try.prog 16 #[.agg #[.int .i64 size, .int .i64 m, .int .i64 sum, .int .i64 rng, .int .i64 last], .int .i64 r] w fun e w' => e = .returned (.tuple #[.int .i64 0, .int .i64 0]) ∧ Below w.heap.size w w' := by
  have MR := Lib.hid mr; have MH := Lib.hid mh; have MRR := Lib.hid mrr; have MW := Lib.hid mw; have MF4 := Lib.hid mf4; have MF3 := Lib.hid mf3
  clear mr mh mrr mw mf4 mf3
  obtain ⟨w2, hw2⟩ : ∃ w2, w.alloc (.cells #[.int .i64 size, .int .i64 m, .int .i64 sum, .int .i64 rng, .int .i64 last] 23) = w2 := ⟨_, rfl⟩
  have HB2 := Lib.hid (show Below w.heap.size w w2 by rw [← hw2]; exact (Below.refl _ _).alloc (Nat.le_refl _) _)
  have HV2 := Lib.hid (show Has w2 w.heap.size [.int .i64 size, .int .i64 m, .int .i64 sum, .int .i64 rng, .int .i64 last] 23 by rw [← hw2]; exact Has.new w _ _)
  have HW2 := Lib.hid hw2
  clear hw2
  have hbase := Nat.le_refl w.heap.size
  go_enter Try.func16, Try.ntmps16
  go_upto_region 1 with fail
  rw [HW2.out]
  have qb0_0 : w2.cell? ⟨w.heap.size, 0, none⟩ = some (.int .i64 size) := HV2.out.cell 0
  have qb1_0 : w2.cell? ⟨w.heap.size, 1, none⟩ = some (.int .i64 m) := HV2.out.cell 1
  have qb2_0 : w2.cell? ⟨w.heap.size, 2, none⟩ = some (.int .i64 sum) := HV2.out.cell 2
  have qb3_0 : w2.cell? ⟨w.heap.size, 3, none⟩ = some (.int .i64 rng) := HV2.out.cell 3
  have qb4_0 : w2.cell? ⟨w.heap.size, 4, none⟩ = some (.int .i64 last) := HV2.out.cell 4
  have lb_0 : w.heap.size < w2.heap.size := HV2.out.lt
  have hcz1 := MR.out w2
  go_wp2_with fail
  refine hcz1.mono ?_
  rintro e wz1 ⟨rfl, kz1⟩
  clear hcz1 qb0_0 qb1_0 qb2_0 qb3_0 qb4_0 lb_0
  have HBz1 := Lib.hid (HB2.out.trans (kz1.mono (Nat.le_trans hbase HB2.out.size)))
  have Hbz1 := Lib.hid (HV2.out.call kz1)
  clear kz1
  have qb0_1 : wz1.cell? ⟨w.heap.size, 0, none⟩ = some (.int .i64 size) := Hbz1.out.cell 0
  have qb1_1 : wz1.cell? ⟨w.heap.size, 1, none⟩ = some (.int .i64 m) := Hbz1.out.cell 1
  have qb2_1 : wz1.cell? ⟨w.heap.size, 2, none⟩ = some (.int .i64 sum) := Hbz1.out.cell 2
  have qb3_1 : wz1.cell? ⟨w.heap.size, 3, none⟩ = some (.int .i64 rng) := Hbz1.out.cell 3
  have qb4_1 : wz1.cell? ⟨w.heap.size, 4, none⟩ = some (.int .i64 last) := Hbz1.out.cell 4
  have lb_1 : w.heap.size < wz1.heap.size := Hbz1.out.lt
  have hcz2 := MH.out wz1
  go_wp2_with fail
  refine hcz2.mono ?_
  rintro e wz2 ⟨rfl, kz2⟩
  clear hcz2 qb0_1 qb1_1 qb2_1 qb3_1 qb4_1 lb_1
  have HBz2 := Lib.hid (HBz1.out.trans (kz2.mono (Nat.le_trans hbase HBz1.out.size)))
  have Hbz2 := Lib.hid (Hbz1.out.call kz2)
  clear kz2
  have hcz3 := MRR.out wz2
  go_wp2_with fail
  refine hcz3.mono ?_
  rintro e wz3 ⟨rfl, kz3⟩
  clear hcz3
  have HBz3 := Lib.hid (HBz2.out.trans (kz3.mono (Nat.le_trans hbase HBz2.out.size)))
  have Hbz3 := Lib.hid (Hbz2.out.call kz3)
  clear kz3
  go_upto_region 7 with fail
  refine wp_region_held_drew (S := (fun W' => W'.cell? ⟨w.heap.size, 0, none⟩ = some (.int .i64 size) ∧ W'.cell? ⟨w.heap.size, 1, none⟩ = some (.int .i64 m) ∧ W'.cell? ⟨w.heap.size, 2, none⟩ = some (.int .i64 sum) ∧ W'.cell? ⟨w.heap.size, 3, none⟩ = some (.int .i64 rng) ∧ W'.cell? ⟨w.heap.size, 4, none⟩ = some (.int .i64 last))) (by kernel_rfl) ⟨Hbz3.out.cell 0, Hbz3.out.cell 1, Hbz3.out.cell 2, Hbz3.out.cell 3, Hbz3.out.cell 4⟩ (fun hHeld => ?_)
  refine regTake 0 (some 30) (v := ?_) rfl rfl (by kernel_rfl) (by kernel_rfl) (by kernel_rfl) (fun _ _ _ h => h) (by rfl) hHeld ?_ ?_
  rotate_left 1
  · (intro w hSw; (try dsimp only at hSw); go_simp; try with_reducible rfl)
  simp only [Act.put, List.setIfInBounds_toArray, List.set_cons_zero, List.set_cons_succ]
  refine regTake 3 (some 33) (v := ?_) rfl rfl (by kernel_rfl) (by kernel_rfl) (by kernel_rfl) (fun _ _ _ h => h) (by rfl) hHeld ?_ ?_
  rotate_left 1
  · (intro w hSw; (try dsimp only at hSw); go_simp; try with_reducible rfl)
  simp only [Act.put, List.setIfInBounds_toArray, List.set_cons_zero, List.set_cons_succ]
  refine regTake 4 (some 34) (v := ?_) rfl rfl (by kernel_rfl) (by kernel_rfl) (by kernel_rfl) (fun _ _ _ h => h) (by rfl) hHeld ?_ ?_
  rotate_left 1
  · (intro w hSw; (try dsimp only at hSw); go_simp; try with_reducible rfl)
  simp only [Act.put, List.setIfInBounds_toArray, List.set_cons_zero, List.set_cons_succ]
  refine regTake 6 (some 36) (v := ?_) rfl rfl (by kernel_rfl) (by kernel_rfl) (by kernel_rfl) (fun _ _ _ h => h) (by rfl) hHeld ?_ ?_
  rotate_left 1
  · (intro w hSw; (try dsimp only at hSw); go_simp; try with_reducible rfl)
  simp only [Act.put, List.setIfInBounds_toArray, List.set_cons_zero, List.set_cons_succ]
  refine regCall 1 (some 31) (f := FW) (args := ?_) rfl rfl (by kernel_rfl) (by rfl) ?_ ?_
  rotate_left 1
  · (go_simp; try with_reducible rfl)
  refine (MW.out _).mono ?_
  rintro e wx1 ⟨rfl, kg4⟩
  refine ⟨_, rfl, ⟨(Hbz3.out.step kg4 rfl).cell 0, (Hbz3.out.step kg4 rfl).cell 1, (Hbz3.out.step kg4 rfl).cell 2, (Hbz3.out.step kg4 rfl).cell 3, (Hbz3.out.step kg4 rfl).cell 4⟩, fun hHeld => ?_⟩
  simp only [Act.put, List.setIfInBounds_toArray, List.set_cons_zero, List.set_cons_succ]
  have HBg4 := Lib.hid ((HBz3.out.drew).trans (kg4.mono (Nat.le_trans hbase (HBz3.out.drew).size)))
  have Hbg4 := Lib.hid (Hbz3.out.step kg4 rfl)
  clear kg4
  refine regCall 2 (some 32) (f := 30) (args := ?_) rfl rfl (by kernel_rfl) (by rfl) ?_ ?_
  rotate_left 1
  · (go_simp; try with_reducible rfl)
  refine (MF4.out _).mono ?_
  rintro e wx2 ⟨rfl, kg5⟩
  refine ⟨_, rfl, ⟨(Hbg4.out.step kg5 rfl).cell 0, (Hbg4.out.step kg5 rfl).cell 1, (Hbg4.out.step kg5 rfl).cell 2, (Hbg4.out.step kg5 rfl).cell 3, (Hbg4.out.step kg5 rfl).cell 4⟩, fun hHeld => ?_⟩
  simp only [Act.put, List.setIfInBounds_toArray, List.set_cons_zero, List.set_cons_succ]
  have HBg5 := Lib.hid ((HBg4.out).trans (kg5.mono (Nat.le_trans hbase (HBg4.out).size)))
  have Hbg5 := Lib.hid (Hbg4.out.step kg5 rfl)
  clear kg5
  refine regTake 5 (some 35) (v := ?_) rfl rfl (by kernel_rfl) (by kernel_rfl) (by kernel_rfl) (fun _ _ _ h => h) (by rfl) hHeld ?_ ?_
  rotate_left 1
  · (intro w hSw; (try dsimp only at hSw); go_simp; try with_reducible rfl)
  simp only [Act.put, List.setIfInBounds_toArray, List.set_cons_zero, List.set_cons_succ]
  refine regTake 7 (some 37) (v := ?_) rfl rfl (by kernel_rfl) (by kernel_rfl) (by kernel_rfl) (fun _ _ _ h => h) (by rfl) hHeld ?_ ?_
  rotate_left 1
  · (intro w hSw; (try dsimp only at hSw); go_simp; try with_reducible rfl)
  simp only [Act.put, List.setIfInBounds_toArray, List.set_cons_zero, List.set_cons_succ]
  refine regTake 8 (some 29) (v := ?_) rfl rfl (by kernel_rfl) (by kernel_rfl) (by kernel_rfl) (fun _ _ _ h => h) (by rfl) hHeld ?_ ?_
  rotate_left 1
  · (intro w hSw; (try dsimp only at hSw); go_simp; try with_reducible rfl)
  simp only [Act.put, List.setIfInBounds_toArray, List.set_cons_zero, List.set_cons_succ]
  refine wpAnyH_done (by kernel_rfl) ?_ _
  clear hHeld
  go_upto_region 9 with fail
  refine wp_region_held_drew (S := (fun W' => W'.cell? ⟨w.heap.size, 0, none⟩ = some (.int .i64 size) ∧ W'.cell? ⟨w.heap.size, 1, none⟩ = some (.int .i64 m) ∧ W'.cell? ⟨w.heap.size, 2, none⟩ = some (.int .i64 sum) ∧ W'.cell? ⟨w.heap.size, 3, none⟩ = some (.int .i64 rng) ∧ W'.cell? ⟨w.heap.size, 4, none⟩ = some (.int .i64 last))) (by kernel_rfl) ⟨Hbg5.out.cell 0, Hbg5.out.cell 1, Hbg5.out.cell 2, Hbg5.out.cell 3, Hbg5.out.cell 4⟩ (fun hHeld => ?_)
  refine regTake 0 (some 39) (v := ?_) rfl rfl (by kernel_rfl) (by kernel_rfl) (by kernel_rfl) (fun _ _ _ h => h) (by rfl) hHeld ?_ ?_
  rotate_left 1
  · (intro w hSw; (try dsimp only at hSw); go_simp; try with_reducible rfl)
  simp only [Act.put, List.setIfInBounds_toArray, List.set_cons_zero, List.set_cons_succ]
  refine regTake 1 (some 40) (v := ?_) rfl rfl (by kernel_rfl) (by kernel_rfl) (by kernel_rfl) (fun _ _ _ h => h) (by rfl) hHeld ?_ ?_
  rotate_left 1
  · (intro w hSw; (try dsimp only at hSw); go_simp; try with_reducible rfl)
  simp only [Act.put, List.setIfInBounds_toArray, List.set_cons_zero, List.set_cons_succ]
  refine regTake 4 (some 43) (v := ?_) rfl rfl (by kernel_rfl) (by kernel_rfl) (by kernel_rfl) (fun _ _ _ h => h) (by rfl) hHeld ?_ ?_
  rotate_left 1
  · (intro w hSw; (try dsimp only at hSw); go_simp; try with_reducible rfl)
  simp only [Act.put, List.setIfInBounds_toArray, List.set_cons_zero, List.set_cons_succ]
  refine regTake 5 (some 44) (v := ?_) rfl rfl (by kernel_rfl) (by kernel_rfl) (by kernel_rfl) (fun _ _ _ h => h) (by rfl) hHeld ?_ ?_
  rotate_left 1
  · (intro w hSw; (try dsimp only at hSw); go_simp; try with_reducible rfl)
  simp only [Act.put, List.setIfInBounds_toArray, List.set_cons_zero, List.set_cons_succ]
  refine regCall 2 (some 41) (f := FW) (args := ?_) rfl rfl (by kernel_rfl) (by rfl) ?_ ?_
  rotate_left 1
  · (go_simp; try with_reducible rfl)
  refine (MW.out _).mono ?_
  rintro e wx2 ⟨rfl, kg6⟩
  refine ⟨_, rfl, ⟨(Hbg5.out.step kg6 rfl).cell 0, (Hbg5.out.step kg6 rfl).cell 1, (Hbg5.out.step kg6 rfl).cell 2, (Hbg5.out.step kg6 rfl).cell 3, (Hbg5.out.step kg6 rfl).cell 4⟩, fun hHeld => ?_⟩
  simp only [Act.put, List.setIfInBounds_toArray, List.set_cons_zero, List.set_cons_succ]
  have HBg6 := Lib.hid ((HBg5.out.drew).trans (kg6.mono (Nat.le_trans hbase (HBg5.out.drew).size)))
  have Hbg6 := Lib.hid (Hbg5.out.step kg6 rfl)
  clear kg6
  refine regCall 3 (some 42) (f := 30) (args := ?_) rfl rfl (by kernel_rfl) (by rfl) ?_ ?_
  rotate_left 1
  · (go_simp; try with_reducible rfl)
  refine (MF3.out _).mono ?_
  rintro e wx3 ⟨rfl, kg7⟩
  refine ⟨_, rfl, ⟨(Hbg6.out.step kg7 rfl).cell 0, (Hbg6.out.step kg7 rfl).cell 1, (Hbg6.out.step kg7 rfl).cell 2, (Hbg6.out.step kg7 rfl).cell 3, (Hbg6.out.step kg7 rfl).cell 4⟩, fun hHeld => ?_⟩
  simp only [Act.put, List.setIfInBounds_toArray, List.set_cons_zero, List.set_cons_succ]
  have HBg7 := Lib.hid ((HBg6.out).trans (kg7.mono (Nat.le_trans hbase (HBg6.out).size)))
  have Hbg7 := Lib.hid (Hbg6.out.step kg7 rfl)
  clear kg7
  refine regTake 6 (some 45) (v := ?_) rfl rfl (by kernel_rfl) (by kernel_rfl) (by kernel_rfl) (fun _ _ _ h => h) (by rfl) hHeld ?_ ?_
  rotate_left 1
  · (intro w hSw; (try dsimp only at hSw); go_simp; try with_reducible rfl)
  simp only [Act.put, List.setIfInBounds_toArray, List.set_cons_zero, List.set_cons_succ]
  refine regTake 7 (some 46) (v := ?_) rfl rfl (by kernel_rfl) (by kernel_rfl) (by kernel_rfl) (fun _ _ _ h => h) (by rfl) hHeld ?_ ?_
  rotate_left 1
  · (intro w hSw; (try dsimp only at hSw); go_simp; try with_reducible rfl)
  simp only [Act.put, List.setIfInBounds_toArray, List.set_cons_zero, List.set_cons_succ]
  refine regTake 8 (some 38) (v := ?_) rfl rfl (by kernel_rfl) (by kernel_rfl) (by kernel_rfl) (fun _ _ _ h => h) (by rfl) hHeld ?_ ?_
  rotate_left 1
  · (intro w hSw; (try dsimp only at hSw); go_simp; try with_reducible rfl)
  simp only [Act.put, List.setIfInBounds_toArray, List.set_cons_zero, List.set_cons_succ]
  refine wpAnyH_done (by kernel_rfl) ?_ _
  clear hHeld
  go_wp2
  go_ret2
  exact ⟨rfl, HBg7.out⟩
end Go.Proofs.Ytfafkdbflmennaa
