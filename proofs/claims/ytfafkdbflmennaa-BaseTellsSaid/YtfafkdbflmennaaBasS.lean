/- base.Take. -/
import Derived.Test.YtfafkdbflmennaaBasR
namespace Go.Proofs.Ytfafkdbflmennaa
open Go.RowKit

set_option linter.unusedSimpArgs false in
set_option linter.unusedVariables false in
set_option maxHeartbeats 8000000 in
set_option maxRecDepth 100000 in
theorem take15_0 (size m sum rng last : Int) (ao : Option Addr) (n cap : Nat) (w : World) (mr : (∀ W, Calls Try.prog 10 #[.agg #[.int .i64 size, .int .i64 m, .int .i64 sum, .int .i64 rng, .int .i64 last]] W fun e w' => e = .returned (.bool false) ∧ Below W.heap.size W w'))  :
    Calls Try.prog 9 #[.agg #[.int .i64 size, .int .i64 m, .int .i64 sum, .int .i64 rng, .int .i64 last], .slice ao n cap] w fun e w' => e = .returned (.tuple #[.agg #[.int .i64 0, .int .i64 0, .int .i64 0, .int .i64 0, .int .i64 0], .int .i64 1]) ∧ Below w.heap.size w w' := by
  have MR := Lib.hid mr
  clear mr
  obtain ⟨w2, hw2⟩ : ∃ w2, (w.alloc (.cells #[.int .i64 size, .int .i64 m, .int .i64 sum, .int .i64 rng, .int .i64 last] 23)).alloc (.cells #[.int .i64 0, .int .i64 0, .int .i64 0, .int .i64 0, .int .i64 0] 23) = w2 := ⟨_, rfl⟩
  have h2 : TwoB w w2 [.int .i64 size, .int .i64 m, .int .i64 sum, .int .i64 rng, .int .i64 last] [.int .i64 0, .int .i64 0, .int .i64 0, .int .i64 0, .int .i64 0] 23 23 := by rw [← hw2]; exact twoB w _ _ _ _
  have HB2 := Lib.hid h2.below; have HV2 := Lib.hid h2.a; have HZ2 := Lib.hid h2.b
  have HW2 := Lib.hid hw2
  clear hw2 h2
  have hbase := Nat.le_refl w.heap.size
  go_enter Try.func9, Try.ntmps9
  go_upto_region 1 with fail
  rw [HW2.out]
  have qb0_0 : w2.cell? ⟨w.heap.size, 0, none⟩ = some (.int .i64 size) := HV2.out.cell 0
  have qb1_0 : w2.cell? ⟨w.heap.size, 1, none⟩ = some (.int .i64 m) := HV2.out.cell 1
  have qb2_0 : w2.cell? ⟨w.heap.size, 2, none⟩ = some (.int .i64 sum) := HV2.out.cell 2
  have qb3_0 : w2.cell? ⟨w.heap.size, 3, none⟩ = some (.int .i64 rng) := HV2.out.cell 3
  have qb4_0 : w2.cell? ⟨w.heap.size, 4, none⟩ = some (.int .i64 last) := HV2.out.cell 4
  have lb_0 : w.heap.size < w2.heap.size := HV2.out.lt
  have hcz1 := MR.out w2
  go_wp2_with fail
  refine hcz1.mono ?_
  rintro e wz1 ⟨rfl, kz1⟩
  clear hcz1 qb0_0 qb1_0 qb2_0 qb3_0 qb4_0 lb_0
  have HBz1 := Lib.hid (HB2.out.trans (kz1.mono (Nat.le_trans hbase HB2.out.size)))
  have Hbz1 := Lib.hid (HV2.out.call kz1)
  have Hzz1 := Lib.hid (HZ2.out.call kz1)
  clear kz1
  have qb0_1 : wz1.cell? ⟨w.heap.size, 0, none⟩ = some (.int .i64 size) := Hbz1.out.cell 0
  have qb1_1 : wz1.cell? ⟨w.heap.size, 1, none⟩ = some (.int .i64 m) := Hbz1.out.cell 1
  have qb2_1 : wz1.cell? ⟨w.heap.size, 2, none⟩ = some (.int .i64 sum) := Hbz1.out.cell 2
  have qb3_1 : wz1.cell? ⟨w.heap.size, 3, none⟩ = some (.int .i64 rng) := Hbz1.out.cell 3
  have qb4_1 : wz1.cell? ⟨w.heap.size, 4, none⟩ = some (.int .i64 last) := Hbz1.out.cell 4
  have lb_1 : w.heap.size < wz1.heap.size := Hbz1.out.lt
  have qz0_1 : wz1.cell? ⟨w.heap.size + 1, 0, none⟩ = some (.int .i64 0) := Hzz1.out.cell 0
  have qz1_1 : wz1.cell? ⟨w.heap.size + 1, 1, none⟩ = some (.int .i64 0) := Hzz1.out.cell 1
  have qz2_1 : wz1.cell? ⟨w.heap.size + 1, 2, none⟩ = some (.int .i64 0) := Hzz1.out.cell 2
  have qz3_1 : wz1.cell? ⟨w.heap.size + 1, 3, none⟩ = some (.int .i64 0) := Hzz1.out.cell 3
  have qz4_1 : wz1.cell? ⟨w.heap.size + 1, 4, none⟩ = some (.int .i64 0) := Hzz1.out.cell 4
  have lz_1 : w.heap.size + 1 < wz1.heap.size := Hzz1.out.lt
  have zz0_1 : wz1.frozen? ⟨w.heap.size + 1, 0, none⟩ = false := Hzz1.out.frozen 0
  have zz1_1 : wz1.frozen? ⟨w.heap.size + 1, 1, none⟩ = false := Hzz1.out.frozen 1
  have zz2_1 : wz1.frozen? ⟨w.heap.size + 1, 2, none⟩ = false := Hzz1.out.frozen 2
  have zz3_1 : wz1.frozen? ⟨w.heap.size + 1, 3, none⟩ = false := Hzz1.out.frozen 3
  have zz4_1 : wz1.frozen? ⟨w.heap.size + 1, 4, none⟩ = false := Hzz1.out.frozen 4
  have HP := Lib.hid (Hzz1.out.put5B (.int .i64 0) (.int .i64 0) (.int .i64 0) (.int .i64 0) (.int .i64 0))
  have HQ := Lib.hid (Below.put5B HBz1.out (b := w.heap.size + 1) (by omega) (.int .i64 0) (.int .i64 0) (.int .i64 0) (.int .i64 0) (.int .i64 0))
  go_wp2_with fail
  (try simp only [Exit.inBlock, Exit.then])
  exact bodyPost_ret (results_cell_tmp rfl rfl (loadBas HP.out)) rfl ⟨rfl, HQ.out⟩
set_option linter.unusedSimpArgs false in
set_option linter.unusedVariables false in
set_option maxHeartbeats 8000000 in
set_option maxRecDepth 100000 in
theorem take15_1 (size m sum rng last : Int) (ao : Option Addr) (n cap : Nat) (w : World) (mr : (∀ W, Calls Try.prog 10 #[.agg #[.int .i64 size, .int .i64 m, .int .i64 sum, .int .i64 rng, .int .i64 last]] W fun e w' => e = .returned (.bool true) ∧ Below W.heap.size W w')) (h1 : ((n : Int) == size) = false) (h2 : ((n : Int) != size) = true) :
    Calls Try.prog 9 #[.agg #[.int .i64 size, .int .i64 m, .int .i64 sum, .int .i64 rng, .int .i64 last], .slice ao n cap] w fun e w' => e = .returned (.tuple #[.agg #[.int .i64 0, .int .i64 0, .int .i64 0, .int .i64 0, .int .i64 0], .int .i64 1]) ∧ Below w.heap.size w w' := by
  have MR := Lib.hid mr
  clear mr
  obtain ⟨w2, hw2⟩ : ∃ w2, (w.alloc (.cells #[.int .i64 size, .int .i64 m, .int .i64 sum, .int .i64 rng, .int .i64 last] 23)).alloc (.cells #[.int .i64 0, .int .i64 0, .int .i64 0, .int .i64 0, .int .i64 0] 23) = w2 := ⟨_, rfl⟩
  have h2 : TwoB w w2 [.int .i64 size, .int .i64 m, .int .i64 sum, .int .i64 rng, .int .i64 last] [.int .i64 0, .int .i64 0, .int .i64 0, .int .i64 0, .int .i64 0] 23 23 := by rw [← hw2]; exact twoB w _ _ _ _
  have HB2 := Lib.hid h2.below; have HV2 := Lib.hid h2.a; have HZ2 := Lib.hid h2.b
  have HW2 := Lib.hid hw2
  clear hw2 h2
  have hbase := Nat.le_refl w.heap.size
  go_enter Try.func9, Try.ntmps9
  go_upto_region 1 with fail
  rw [HW2.out]
  have qb0_0 : w2.cell? ⟨w.heap.size, 0, none⟩ = some (.int .i64 size) := HV2.out.cell 0
  have qb1_0 : w2.cell? ⟨w.heap.size, 1, none⟩ = some (.int .i64 m) := HV2.out.cell 1
  have qb2_0 : w2.cell? ⟨w.heap.size, 2, none⟩ = some (.int .i64 sum) := HV2.out.cell 2
  have qb3_0 : w2.cell? ⟨w.heap.size, 3, none⟩ = some (.int .i64 rng) := HV2.out.cell 3
  have qb4_0 : w2.cell? ⟨w.heap.size, 4, none⟩ = some (.int .i64 last) := HV2.out.cell 4
  have lb_0 : w.heap.size < w2.heap.size := HV2.out.lt
  have hcz1 := MR.out w2
  go_wp2_with fail
  refine hcz1.mono ?_
  rintro e wz1 ⟨rfl, kz1⟩
  clear hcz1 qb0_0 qb1_0 qb2_0 qb3_0 qb4_0 lb_0
  have HBz1 := Lib.hid (HB2.out.trans (kz1.mono (Nat.le_trans hbase HB2.out.size)))
  have Hbz1 := Lib.hid (HV2.out.call kz1)
  have Hzz1 := Lib.hid (HZ2.out.call kz1)
  clear kz1
  have qb0_1 : wz1.cell? ⟨w.heap.size, 0, none⟩ = some (.int .i64 size) := Hbz1.out.cell 0
  have qb1_1 : wz1.cell? ⟨w.heap.size, 1, none⟩ = some (.int .i64 m) := Hbz1.out.cell 1
  have qb2_1 : wz1.cell? ⟨w.heap.size, 2, none⟩ = some (.int .i64 sum) := Hbz1.out.cell 2
  have qb3_1 : wz1.cell? ⟨w.heap.size, 3, none⟩ = some (.int .i64 rng) := Hbz1.out.cell 3
  have qb4_1 : wz1.cell? ⟨w.heap.size, 4, none⟩ = some (.int .i64 last) := Hbz1.out.cell 4
  have lb_1 : w.heap.size < wz1.heap.size := Hbz1.out.lt
  have qz0_1 : wz1.cell? ⟨w.heap.size + 1, 0, none⟩ = some (.int .i64 0) := Hzz1.out.cell 0
  have qz1_1 : wz1.cell? ⟨w.heap.size + 1, 1, none⟩ = some (.int .i64 0) := Hzz1.out.cell 1
  have qz2_1 : wz1.cell? ⟨w.heap.size + 1, 2, none⟩ = some (.int .i64 0) := Hzz1.out.cell 2
  have qz3_1 : wz1.cell? ⟨w.heap.size + 1, 3, none⟩ = some (.int .i64 0) := Hzz1.out.cell 3
  have qz4_1 : wz1.cell? ⟨w.heap.size + 1, 4, none⟩ = some (.int .i64 0) := Hzz1.out.cell 4
  have lz_1 : w.heap.size + 1 < wz1.heap.size := Hzz1.out.lt
  have zz0_1 : wz1.frozen? ⟨w.heap.size + 1, 0, none⟩ = false := Hzz1.out.frozen 0
  have zz1_1 : wz1.frozen? ⟨w.heap.size + 1, 1, none⟩ = false := Hzz1.out.frozen 1
  have zz2_1 : wz1.frozen? ⟨w.heap.size + 1, 2, none⟩ = false := Hzz1.out.frozen 2
  have zz3_1 : wz1.frozen? ⟨w.heap.size + 1, 3, none⟩ = false := Hzz1.out.frozen 3
  have zz4_1 : wz1.frozen? ⟨w.heap.size + 1, 4, none⟩ = false := Hzz1.out.frozen 4
  have HP := Lib.hid (Hzz1.out.put5B (.int .i64 0) (.int .i64 0) (.int .i64 0) (.int .i64 0) (.int .i64 0))
  have HQ := Lib.hid (Below.put5B HBz1.out (b := w.heap.size + 1) (by omega) (.int .i64 0) (.int .i64 0) (.int .i64 0) (.int .i64 0) (.int .i64 0))
  go_wp2_with fail
  (try simp only [Exit.inBlock, Exit.then])
  exact bodyPost_ret (results_cell_tmp rfl rfl (loadBas HP.out)) rfl ⟨rfl, HQ.out⟩
set_option linter.unusedSimpArgs false in
set_option linter.unusedVariables false in
set_option maxHeartbeats 8000000 in
set_option maxRecDepth 100000 in
theorem take15_2 (size m sum rng last : Int) (ao : Option Addr) (n cap : Nat) (w : World) (mr : (∀ W, Calls Try.prog 10 #[.agg #[.int .i64 size, .int .i64 m, .int .i64 sum, .int .i64 rng, .int .i64 last]] W fun e w' => e = .returned (.bool true) ∧ Below W.heap.size W w')) (mc : (∀ W, Below w.heap.size w W → Calls Try.prog 23 #[.slice ao n cap, .func (.func 24) #[] #[]] W fun e w' => e = .returned (.bool true) ∧ Below W.heap.size W w')) (h1 : ((n : Int) == size) = true) (h2 : ((n : Int) != size) = false) :
    Calls Try.prog 9 #[.agg #[.int .i64 size, .int .i64 m, .int .i64 sum, .int .i64 rng, .int .i64 last], .slice ao n cap] w fun e w' => e = .returned (.tuple #[.agg #[.int .i64 0, .int .i64 0, .int .i64 0, .int .i64 0, .int .i64 0], .int .i64 1]) ∧ Below w.heap.size w w' := by
  have MR := Lib.hid mr; have MC := Lib.hid mc
  clear mr mc
  obtain ⟨w2, hw2⟩ : ∃ w2, (w.alloc (.cells #[.int .i64 size, .int .i64 m, .int .i64 sum, .int .i64 rng, .int .i64 last] 23)).alloc (.cells #[.int .i64 0, .int .i64 0, .int .i64 0, .int .i64 0, .int .i64 0] 23) = w2 := ⟨_, rfl⟩
  have h2 : TwoB w w2 [.int .i64 size, .int .i64 m, .int .i64 sum, .int .i64 rng, .int .i64 last] [.int .i64 0, .int .i64 0, .int .i64 0, .int .i64 0, .int .i64 0] 23 23 := by rw [← hw2]; exact twoB w _ _ _ _
  have HB2 := Lib.hid h2.below; have HV2 := Lib.hid h2.a; have HZ2 := Lib.hid h2.b
  have HW2 := Lib.hid hw2
  clear hw2 h2
  have hbase := Nat.le_refl w.heap.size
  go_enter Try.func9, Try.ntmps9
  go_upto_region 1 with fail
  rw [HW2.out]
  have qb0_0 : w2.cell? ⟨w.heap.size, 0, none⟩ = some (.int .i64 size) := HV2.out.cell 0
  have qb1_0 : w2.cell? ⟨w.heap.size, 1, none⟩ = some (.int .i64 m) := HV2.out.cell 1
  have qb2_0 : w2.cell? ⟨w.heap.size, 2, none⟩ = some (.int .i64 sum) := HV2.out.cell 2
  have qb3_0 : w2.cell? ⟨w.heap.size, 3, none⟩ = some (.int .i64 rng) := HV2.out.cell 3
  have qb4_0 : w2.cell? ⟨w.heap.size, 4, none⟩ = some (.int .i64 last) := HV2.out.cell 4
  have lb_0 : w.heap.size < w2.heap.size := HV2.out.lt
  have hcz1 := MR.out w2
  go_wp2_with fail
  refine hcz1.mono ?_
  rintro e wz1 ⟨rfl, kz1⟩
  clear hcz1 qb0_0 qb1_0 qb2_0 qb3_0 qb4_0 lb_0
  have HBz1 := Lib.hid (HB2.out.trans (kz1.mono (Nat.le_trans hbase HB2.out.size)))
  have Hbz1 := Lib.hid (HV2.out.call kz1)
  have Hzz1 := Lib.hid (HZ2.out.call kz1)
  clear kz1
  have qb0_1 : wz1.cell? ⟨w.heap.size, 0, none⟩ = some (.int .i64 size) := Hbz1.out.cell 0
  have qb1_1 : wz1.cell? ⟨w.heap.size, 1, none⟩ = some (.int .i64 m) := Hbz1.out.cell 1
  have qb2_1 : wz1.cell? ⟨w.heap.size, 2, none⟩ = some (.int .i64 sum) := Hbz1.out.cell 2
  have qb3_1 : wz1.cell? ⟨w.heap.size, 3, none⟩ = some (.int .i64 rng) := Hbz1.out.cell 3
  have qb4_1 : wz1.cell? ⟨w.heap.size, 4, none⟩ = some (.int .i64 last) := Hbz1.out.cell 4
  have lb_1 : w.heap.size < wz1.heap.size := Hbz1.out.lt
  have hcz2 := MC.out wz1 HBz1.out
  go_wp2_with fail
  refine hcz2.mono ?_
  rintro e wz2 ⟨rfl, kz2⟩
  clear hcz2 qb0_1 qb1_1 qb2_1 qb3_1 qb4_1 lb_1
  have HBz2 := Lib.hid (HBz1.out.trans (kz2.mono (Nat.le_trans hbase HBz1.out.size)))
  have Hbz2 := Lib.hid (Hbz1.out.call kz2)
  have Hzz2 := Lib.hid (Hzz1.out.call kz2)
  clear kz2
  have qb0_2 : wz2.cell? ⟨w.heap.size, 0, none⟩ = some (.int .i64 size) := Hbz2.out.cell 0
  have qb1_2 : wz2.cell? ⟨w.heap.size, 1, none⟩ = some (.int .i64 m) := Hbz2.out.cell 1
  have qb2_2 : wz2.cell? ⟨w.heap.size, 2, none⟩ = some (.int .i64 sum) := Hbz2.out.cell 2
  have qb3_2 : wz2.cell? ⟨w.heap.size, 3, none⟩ = some (.int .i64 rng) := Hbz2.out.cell 3
  have qb4_2 : wz2.cell? ⟨w.heap.size, 4, none⟩ = some (.int .i64 last) := Hbz2.out.cell 4
  have lb_2 : w.heap.size < wz2.heap.size := Hbz2.out.lt
  have qz0_2 : wz2.cell? ⟨w.heap.size + 1, 0, none⟩ = some (.int .i64 0) := Hzz2.out.cell 0
  have qz1_2 : wz2.cell? ⟨w.heap.size + 1, 1, none⟩ = some (.int .i64 0) := Hzz2.out.cell 1
  have qz2_2 : wz2.cell? ⟨w.heap.size + 1, 2, none⟩ = some (.int .i64 0) := Hzz2.out.cell 2
  have qz3_2 : wz2.cell? ⟨w.heap.size + 1, 3, none⟩ = some (.int .i64 0) := Hzz2.out.cell 3
  have qz4_2 : wz2.cell? ⟨w.heap.size + 1, 4, none⟩ = some (.int .i64 0) := Hzz2.out.cell 4
  have lz_2 : w.heap.size + 1 < wz2.heap.size := Hzz2.out.lt
  have zz0_2 : wz2.frozen? ⟨w.heap.size + 1, 0, none⟩ = false := Hzz2.out.frozen 0
  have zz1_2 : wz2.frozen? ⟨w.heap.size + 1, 1, none⟩ = false := Hzz2.out.frozen 1
  have zz2_2 : wz2.frozen? ⟨w.heap.size + 1, 2, none⟩ = false := Hzz2.out.frozen 2
  have zz3_2 : wz2.frozen? ⟨w.heap.size + 1, 3, none⟩ = false := Hzz2.out.frozen 3
  have zz4_2 : wz2.frozen? ⟨w.heap.size + 1, 4, none⟩ = false := Hzz2.out.frozen 4
  have HP := Lib.hid (Hzz2.out.put5B (.int .i64 0) (.int .i64 0) (.int .i64 0) (.int .i64 0) (.int .i64 0))
  have HQ := Lib.hid (Below.put5B HBz2.out (b := w.heap.size + 1) (by omega) (.int .i64 0) (.int .i64 0) (.int .i64 0) (.int .i64 0) (.int .i64 0))
  go_wp2_with fail
  (try simp only [Exit.inBlock, Exit.then])
  exact bodyPost_ret (results_cell_tmp rfl rfl (loadBas HP.out)) rfl ⟨rfl, HQ.out⟩
set_option linter.unusedSimpArgs false in
set_option linter.unusedVariables false in
set_option maxHeartbeats 8000000 in
set_option maxRecDepth 100000 in
theorem take15_3 (size m sum rng last : Int) (ao : Option Addr) (n cap : Nat) (w : World) (mr : (∀ W, Calls Try.prog 10 #[.agg #[.int .i64 size, .int .i64 m, .int .i64 sum, .int .i64 rng, .int .i64 last]] W fun e w' => e = .returned (.bool true) ∧ Below W.heap.size W w')) (mc : (∀ W, Below w.heap.size w W → Calls Try.prog 23 #[.slice ao n cap, .func (.func 24) #[] #[]] W fun e w' => e = .returned (.bool false) ∧ Below W.heap.size W w')) (h1 : ((n : Int) == size) = true) (h2 : ((n : Int) != size) = false) (h3 : (m == 25) = true) :
    Calls Try.prog 9 #[.agg #[.int .i64 size, .int .i64 m, .int .i64 sum, .int .i64 rng, .int .i64 last], .slice ao n cap] w fun e w' => e = .returned (.tuple #[.agg #[.int .i64 0, .int .i64 0, .int .i64 0, .int .i64 0, .int .i64 0], .int .i64 11]) ∧ Below w.heap.size w w' := by
  have MR := Lib.hid mr; have MC := Lib.hid mc
  clear mr mc
  obtain ⟨w2, hw2⟩ : ∃ w2, (w.alloc (.cells #[.int .i64 size, .int .i64 m, .int .i64 sum, .int .i64 rng, .int .i64 last] 23)).alloc (.cells #[.int .i64 0, .int .i64 0, .int .i64 0, .int .i64 0, .int .i64 0] 23) = w2 := ⟨_, rfl⟩
  have h2 : TwoB w w2 [.int .i64 size, .int .i64 m, .int .i64 sum, .int .i64 rng, .int .i64 last] [.int .i64 0, .int .i64 0, .int .i64 0, .int .i64 0, .int .i64 0] 23 23 := by rw [← hw2]; exact twoB w _ _ _ _
  have HB2 := Lib.hid h2.below; have HV2 := Lib.hid h2.a; have HZ2 := Lib.hid h2.b
  have HW2 := Lib.hid hw2
  clear hw2 h2
  have hbase := Nat.le_refl w.heap.size
  go_enter Try.func9, Try.ntmps9
  go_upto_region 1 with fail
  rw [HW2.out]
  have qb0_0 : w2.cell? ⟨w.heap.size, 0, none⟩ = some (.int .i64 size) := HV2.out.cell 0
  have qb1_0 : w2.cell? ⟨w.heap.size, 1, none⟩ = some (.int .i64 m) := HV2.out.cell 1
  have qb2_0 : w2.cell? ⟨w.heap.size, 2, none⟩ = some (.int .i64 sum) := HV2.out.cell 2
  have qb3_0 : w2.cell? ⟨w.heap.size, 3, none⟩ = some (.int .i64 rng) := HV2.out.cell 3
  have qb4_0 : w2.cell? ⟨w.heap.size, 4, none⟩ = some (.int .i64 last) := HV2.out.cell 4
  have lb_0 : w.heap.size < w2.heap.size := HV2.out.lt
  have hcz1 := MR.out w2
  go_wp2_with fail
  refine hcz1.mono ?_
  rintro e wz1 ⟨rfl, kz1⟩
  clear hcz1 qb0_0 qb1_0 qb2_0 qb3_0 qb4_0 lb_0
  have HBz1 := Lib.hid (HB2.out.trans (kz1.mono (Nat.le_trans hbase HB2.out.size)))
  have Hbz1 := Lib.hid (HV2.out.call kz1)
  have Hzz1 := Lib.hid (HZ2.out.call kz1)
  clear kz1
  have qb0_1 : wz1.cell? ⟨w.heap.size, 0, none⟩ = some (.int .i64 size) := Hbz1.out.cell 0
  have qb1_1 : wz1.cell? ⟨w.heap.size, 1, none⟩ = some (.int .i64 m) := Hbz1.out.cell 1
  have qb2_1 : wz1.cell? ⟨w.heap.size, 2, none⟩ = some (.int .i64 sum) := Hbz1.out.cell 2
  have qb3_1 : wz1.cell? ⟨w.heap.size, 3, none⟩ = some (.int .i64 rng) := Hbz1.out.cell 3
  have qb4_1 : wz1.cell? ⟨w.heap.size, 4, none⟩ = some (.int .i64 last) := Hbz1.out.cell 4
  have lb_1 : w.heap.size < wz1.heap.size := Hbz1.out.lt
  have hcz2 := MC.out wz1 HBz1.out
  go_wp2_with fail
  refine hcz2.mono ?_
  rintro e wz2 ⟨rfl, kz2⟩
  clear hcz2 qb0_1 qb1_1 qb2_1 qb3_1 qb4_1 lb_1
  have HBz2 := Lib.hid (HBz1.out.trans (kz2.mono (Nat.le_trans hbase HBz1.out.size)))
  have Hbz2 := Lib.hid (Hbz1.out.call kz2)
  have Hzz2 := Lib.hid (Hzz1.out.call kz2)
  clear kz2
  have qb0_2 : wz2.cell? ⟨w.heap.size, 0, none⟩ = some (.int .i64 size) := Hbz2.out.cell 0
  have qb1_2 : wz2.cell? ⟨w.heap.size, 1, none⟩ = some (.int .i64 m) := Hbz2.out.cell 1
  have qb2_2 : wz2.cell? ⟨w.heap.size, 2, none⟩ = some (.int .i64 sum) := Hbz2.out.cell 2
  have qb3_2 : wz2.cell? ⟨w.heap.size, 3, none⟩ = some (.int .i64 rng) := Hbz2.out.cell 3
  have qb4_2 : wz2.cell? ⟨w.heap.size, 4, none⟩ = some (.int .i64 last) := Hbz2.out.cell 4
  have lb_2 : w.heap.size < wz2.heap.size := Hbz2.out.lt
  have qz0_2 : wz2.cell? ⟨w.heap.size + 1, 0, none⟩ = some (.int .i64 0) := Hzz2.out.cell 0
  have qz1_2 : wz2.cell? ⟨w.heap.size + 1, 1, none⟩ = some (.int .i64 0) := Hzz2.out.cell 1
  have qz2_2 : wz2.cell? ⟨w.heap.size + 1, 2, none⟩ = some (.int .i64 0) := Hzz2.out.cell 2
  have qz3_2 : wz2.cell? ⟨w.heap.size + 1, 3, none⟩ = some (.int .i64 0) := Hzz2.out.cell 3
  have qz4_2 : wz2.cell? ⟨w.heap.size + 1, 4, none⟩ = some (.int .i64 0) := Hzz2.out.cell 4
  have lz_2 : w.heap.size + 1 < wz2.heap.size := Hzz2.out.lt
  have zz0_2 : wz2.frozen? ⟨w.heap.size + 1, 0, none⟩ = false := Hzz2.out.frozen 0
  have zz1_2 : wz2.frozen? ⟨w.heap.size + 1, 1, none⟩ = false := Hzz2.out.frozen 1
  have zz2_2 : wz2.frozen? ⟨w.heap.size + 1, 2, none⟩ = false := Hzz2.out.frozen 2
  have zz3_2 : wz2.frozen? ⟨w.heap.size + 1, 3, none⟩ = false := Hzz2.out.frozen 3
  have zz4_2 : wz2.frozen? ⟨w.heap.size + 1, 4, none⟩ = false := Hzz2.out.frozen 4
  have HP := Lib.hid (Hzz2.out.put5B (.int .i64 0) (.int .i64 0) (.int .i64 0) (.int .i64 0) (.int .i64 0))
  have HQ := Lib.hid (Below.put5B HBz2.out (b := w.heap.size + 1) (by omega) (.int .i64 0) (.int .i64 0) (.int .i64 0) (.int .i64 0) (.int .i64 0))
  go_wp2_with fail
  (try simp only [Exit.inBlock, Exit.then])
  exact bodyPost_ret (results_cell_tmp rfl rfl (loadBas HP.out)) rfl ⟨rfl, HQ.out⟩
theorem TwoC.putC {w w2 : World} {A B C : List Value} {k : Nat} {TA TB TC : TypeId} (h : TwoC w w2 A B C k TA TB TC) (i : Nat) (v : Value) : TwoC w (w2.setCell ⟨k, i, none⟩ v) A B (C.set i v) k TA TB TC :=
  have h1 := h.lt
  ⟨h.below.setCell (p := ⟨k, i, none⟩) (by dsimp only; omega) v, h.a.other (p := ⟨k, i, none⟩) (by dsimp only; omega) v, h.b.other (p := ⟨k, i, none⟩) (by dsimp only; omega) v, h.c.set i v, h.lt⟩
def TakeRel (l : List Int) (n : Nat) (size m sum rng last M1 : Int) (K : Nat) (w : World) (i : Value) (wr : World) : Prop :=
  ∃ j : Nat, j ≤ n ∧ i = .int .i64 (j : Nat) ∧ Hid (TwoC w wr [.int .i64 size, .int .i64 m, .int .i64 sum, .int .i64 rng, .int .i64 last] [.int .i64 0, .int .i64 0, .int .i64 0, .int .i64 0, .int .i64 0] [.int .i64 size, .int .i64 M1, .int .i64 (sum + ssum (l.take j)), .int .i64 rng, .int .i64 last] K 23 23 23)
theorem ssum_step {l : List Int} {k : Nat} {x : Int} (hx : l[k]? = some x) : ssum (l.take (k + 1)) = ssum (l.take k) + x := by
  rw [List.take_add_one, hx, ssum_append]
  simp [ssum]
theorem ssum_bnd {l : List Int} (h : inB l = true) (j : Nat) (hj : j ≤ 10) : -10000000 ≤ ssum (l.take j) ∧ ssum (l.take j) ≤ 10000000 := by
  have h1 : inB (l.take j) = true := by
    unfold inB at h ⊢
    rw [List.all_eq_true] at h ⊢
    exact fun x hx => h x (List.mem_of_mem_take hx)
  have h2 := ssum_in h1
  have h3 : (l.take j).length ≤ 10 := by rw [List.length_take]; omega
  omega
set_option linter.unusedSimpArgs false in
set_option linter.unusedVariables false in
set_option maxHeartbeats 8000000 in
set_option maxRecDepth 100000 in
theorem take15_4 (size m sum rng last M1 S R G y : Int) (l : List Int) (ao : Option Addr) (n cap : Nat) (w : World) (T : TypeId) (VV : Value) (F : FuncId) (mr : (∀ W, Calls Try.prog 10 #[.agg #[.int .i64 size, .int .i64 m, .int .i64 sum, .int .i64 rng, .int .i64 last]] W fun e w' => e = .returned (.bool true) ∧ Below W.heap.size W w')) (mc : (∀ W, Below w.heap.size w W → Calls Try.prog 23 #[.slice ao n cap, .func (.func 24) #[] #[]] W fun e w' => e = .returned (.bool false) ∧ Below W.heap.size W w')) (mh : (∀ W, Calls Try.prog 25 #[.agg #[.int .i64 size, .int .i64 m, .int .i64 sum, .int .i64 rng, .int .i64 last]] W fun e w' => e = .returned (.iface T VV) ∧ Below W.heap.size W w')) (mg : (∀ W, Below w.heap.size w W → Calls Try.prog F #[VV, .slice ao n cap] W fun e w' => e = .returned (.int .i64 G) ∧ Below W.heap.size W w')) (h1 : ((n : Int) == size) = true) (h2 : ((n : Int) != size) = false) (h3 : (m == 25) = false) (hn : l.length = n) (hn1 : 1 ≤ n ∧ n ≤ 10) (hin : inB l = true) (hsum : -1000000000 ≤ sum ∧ sum ≤ 1000000000) (hS : sum + ssum l = S) (hM : wrap64 (m + 1) = M1) (hG : IntKind.i64.wrap (rng + G) = R) (hy : l[n - 1]? = some y) (hr : ReadsI w (.slice ao n cap) l) (hm : ∀ W, (method 240 T VV "datum/base.rangeOf").run Try.prog W = .ok (F, VV) W) (heg : ∀ args W, (callFunc F args).run Try.prog W = .ok (.enter F args) W) :
    Calls Try.prog 9 #[.agg #[.int .i64 size, .int .i64 m, .int .i64 sum, .int .i64 rng, .int .i64 last], .slice ao n cap] w fun e w' => e = .returned (.tuple #[.agg #[.int .i64 size, .int .i64 M1, .int .i64 S, .int .i64 R, .int .i64 y], .int .i64 0]) ∧ Below w.heap.size w w' := by
  have MR := Lib.hid mr; have MC := Lib.hid mc; have MH := Lib.hid mh; have MG := Lib.hid mg
  clear mr mc mh mg
  have HROW := Lib.hid (fun (W : World) (hW : Below w.heap.size w W) => hr.below hW)
  have HN := Lib.hid hn; have HY := Lib.hid hy
  have HSB := Lib.hid (fun (j : Nat) (hj : j ≤ n) => ssum_bnd hin j (Nat.le_trans hj hn1.2))
  have HQN := Lib.hid (show wrap64 ((n : Int) - 1) = ((n - 1 : Nat) : Int) by rw [wrapJ6 (by omega)]; omega)
  have HQX := Lib.hid (show 0 ≤ ((n - 1 : Nat) : Int) ∧ ((n - 1 : Nat) : Int) < (n : Int) by omega)
  have hjn := hn1
  clear hr hn hy hin hn1
  obtain ⟨w2, hw2⟩ : ∃ w2, (w.alloc (.cells #[.int .i64 size, .int .i64 m, .int .i64 sum, .int .i64 rng, .int .i64 last] 23)).alloc (.cells #[.int .i64 0, .int .i64 0, .int .i64 0, .int .i64 0, .int .i64 0] 23) = w2 := ⟨_, rfl⟩
  have h2 : TwoB w w2 [.int .i64 size, .int .i64 m, .int .i64 sum, .int .i64 rng, .int .i64 last] [.int .i64 0, .int .i64 0, .int .i64 0, .int .i64 0, .int .i64 0] 23 23 := by rw [← hw2]; exact twoB w _ _ _ _
  have HB2 := Lib.hid h2.below; have HV2 := Lib.hid h2.a; have HZ2 := Lib.hid h2.b
  have HW2 := Lib.hid hw2
  clear hw2 h2
  have hbase := Nat.le_refl w.heap.size
  go_enter Try.func9, Try.ntmps9
  go_upto_region 1 with fail
  rw [HW2.out]
  have qb0_0 : w2.cell? ⟨w.heap.size, 0, none⟩ = some (.int .i64 size) := HV2.out.cell 0
  have qb1_0 : w2.cell? ⟨w.heap.size, 1, none⟩ = some (.int .i64 m) := HV2.out.cell 1
  have qb2_0 : w2.cell? ⟨w.heap.size, 2, none⟩ = some (.int .i64 sum) := HV2.out.cell 2
  have qb3_0 : w2.cell? ⟨w.heap.size, 3, none⟩ = some (.int .i64 rng) := HV2.out.cell 3
  have qb4_0 : w2.cell? ⟨w.heap.size, 4, none⟩ = some (.int .i64 last) := HV2.out.cell 4
  have lb_0 : w.heap.size < w2.heap.size := HV2.out.lt
  have hcz1 := MR.out w2
  go_wp2_with fail
  refine hcz1.mono ?_
  rintro e wz1 ⟨rfl, kz1⟩
  clear hcz1 qb0_0 qb1_0 qb2_0 qb3_0 qb4_0 lb_0
  have HBz1 := Lib.hid (HB2.out.trans (kz1.mono (Nat.le_trans hbase HB2.out.size)))
  have Hbz1 := Lib.hid (HV2.out.call kz1)
  have Hzz1 := Lib.hid (HZ2.out.call kz1)
  clear kz1
  have qb0_1 : wz1.cell? ⟨w.heap.size, 0, none⟩ = some (.int .i64 size) := Hbz1.out.cell 0
  have qb1_1 : wz1.cell? ⟨w.heap.size, 1, none⟩ = some (.int .i64 m) := Hbz1.out.cell 1
  have qb2_1 : wz1.cell? ⟨w.heap.size, 2, none⟩ = some (.int .i64 sum) := Hbz1.out.cell 2
  have qb3_1 : wz1.cell? ⟨w.heap.size, 3, none⟩ = some (.int .i64 rng) := Hbz1.out.cell 3
  have qb4_1 : wz1.cell? ⟨w.heap.size, 4, none⟩ = some (.int .i64 last) := Hbz1.out.cell 4
  have lb_1 : w.heap.size < wz1.heap.size := Hbz1.out.lt
  have hcz2 := MC.out wz1 HBz1.out
  go_wp2_with fail
  refine hcz2.mono ?_
  rintro e wz2 ⟨rfl, kz2⟩
  clear hcz2 qb0_1 qb1_1 qb2_1 qb3_1 qb4_1 lb_1
  have HBz2 := Lib.hid (HBz1.out.trans (kz2.mono (Nat.le_trans hbase HBz1.out.size)))
  have Hbz2 := Lib.hid (Hbz1.out.call kz2)
  have Hzz2 := Lib.hid (Hzz1.out.call kz2)
  clear kz2
  have qb0_2 : wz2.cell? ⟨w.heap.size, 0, none⟩ = some (.int .i64 size) := Hbz2.out.cell 0
  have qb1_2 : wz2.cell? ⟨w.heap.size, 1, none⟩ = some (.int .i64 m) := Hbz2.out.cell 1
  have qb2_2 : wz2.cell? ⟨w.heap.size, 2, none⟩ = some (.int .i64 sum) := Hbz2.out.cell 2
  have qb3_2 : wz2.cell? ⟨w.heap.size, 3, none⟩ = some (.int .i64 rng) := Hbz2.out.cell 3
  have qb4_2 : wz2.cell? ⟨w.heap.size, 4, none⟩ = some (.int .i64 last) := Hbz2.out.cell 4
  have lb_2 : w.heap.size < wz2.heap.size := Hbz2.out.lt
  obtain ⟨wz3, hwz3⟩ : ∃ wz3, wz2.alloc (.cells #[.int .i64 size, .int .i64 M1, .int .i64 sum, .int .i64 rng, .int .i64 last] 23) = wz3 := ⟨_, rfl⟩
  have kz3 : Below wz2.heap.size wz2 wz3 := by rw [← hwz3]; exact (Below.refl _ _).alloc (Nat.le_refl _) _
  have Htz3 := Lib.hid (show Has wz3 wz2.heap.size [.int .i64 size, .int .i64 M1, .int .i64 sum, .int .i64 rng, .int .i64 last] 23 by rw [← hwz3]; exact Has.new _ _ _)
  have HWz3 := Lib.hid hwz3
  clear hwz3
  have HBz3 := Lib.hid (HBz2.out.trans (kz3.mono (Nat.le_trans hbase HBz2.out.size)))
  have Hbz3 := Lib.hid (Hbz2.out.call kz3)
  have Hzz3 := Lib.hid (Hzz2.out.call kz3)
  clear kz3
  go_upto_region 7 with fail
  rw [HWz3.out]
  obtain ⟨K, hK⟩ : ∃ K, wz2.heap.size = K := ⟨_, rfl⟩
  have HT0 := Lib.hid (show TwoC w wz3 [.int .i64 size, .int .i64 m, .int .i64 sum, .int .i64 rng, .int .i64 last] [.int .i64 0, .int .i64 0, .int .i64 0, .int .i64 0, .int .i64 0] [.int .i64 size, .int .i64 M1, .int .i64 sum, .int .i64 rng, .int .i64 last] K 23 23 23 from ⟨HBz3.out, Hbz3.out, Hzz3.out, by rw [← hK]; exact Htz3.out, by rw [← hK]; exact Hzz2.out.lt⟩)
  rw [hK]
  clear hK
  go_wp2_with fail
  go_loopw [35] (TakeRel l n size m sum rng last M1 K w) (fun i _ => n - (intOf i).toNat)
  case atStart => exact ⟨0, Nat.zero_le _, rfl, by rw [List.take_zero]; show Hid (TwoC w wz3 [.int .i64 size, .int .i64 m, .int .i64 sum, .int .i64 rng, .int .i64 last] [.int .i64 0, .int .i64 0, .int .i64 0, .int .i64 0, .int .i64 0] [.int .i64 size, .int .i64 M1, .int .i64 (sum + 0), .int .i64 rng, .int .i64 last] K 23 23 23); rw [Int.add_zero]; exact HT0⟩
  case round =>
    obtain ⟨j, hj, rfl, H0⟩ := hrel
    rename World => wr
    clear HT0
    by_cases hl : j < n
    · obtain ⟨u, hu⟩ : ∃ u, l[j]? = some u := ⟨_, List.getElem?_eq_getElem (by rw [HN.out]; exact hl)⟩
      obtain ⟨br, off, hao, hbl, hc⟩ := (HROW.out wr H0.out.below).spot hu
      have hjz : (j : Int) < (n : Int) := by omega
      have hjx : 0 ≤ (j : Int) ∧ (j : Int) < (n : Int) := by omega
      have HS2 := Lib.hid (ssum_step hu)
      have hb1 := HSB.out j (by omega)
      have hb2 := HSB.out (j + 1) (by omega)
      rw [HS2.out] at hb2
      obtain ⟨s, hs⟩ : ∃ s, sum + ssum (l.take j) = s := ⟨_, rfl⟩
      have hw : wrap64 (s + u) = s + u := by rw [← hs]; exact wrapJ6 (by omega)
      rw [hs] at H0
      have HS := Lib.hid hs
      subst hao
      have c0 := H0.out.c.cell 0; have c1 := H0.out.c.cell 1; have c2 := H0.out.c.cell 2; have c3 := H0.out.c.cell 3; have c4 := H0.out.c.cell 4
      simp only [List.getElem?_cons_zero, List.getElem?_cons_succ] at c0 c1 c2 c3 c4
      have f2 := H0.out.c.frozen 2
      have klt := H0.out.c.lt
      have HQ := Lib.hid (H0.out.putC 2 (.int .i64 (s + u)))
      clear hb1 hb2 hs hu
      go_wp2
      go_roundw
      case rel => exact ⟨j + 1, by omega, by first | rfl | go_num, by rw [HS2.out, ← Int.add_assoc, HS.out]; exact HQ⟩
      case measure => simp [intOf]; omega
    · obtain rfl : j = n := by omega
      have HSS := Lib.hid (show sum + ssum (l.take j) = S by rw [List.take_of_length_le (by rw [HN.out]; exact Nat.le_refl _), hS])
      rw [HSS.out] at H0
      clear hj hl hjn
      go_upto_region 12 with fail
      go_cut [] (fun wx => Hid (TwoC w wx [.int .i64 size, .int .i64 m, .int .i64 sum, .int .i64 rng, .int .i64 last] [.int .i64 0, .int .i64 0, .int .i64 0, .int .i64 0, .int .i64 0] [.int .i64 size, .int .i64 M1, .int .i64 S, .int .i64 R, .int .i64 last] K 23 23 23))
      case first =>
        have HD := Lib.hid H0.out.drew
        refine wp_region_held_drew (S := (fun W' => W'.cell? ⟨w.heap.size, 0, none⟩ = some (.int .i64 size) ∧ W'.cell? ⟨w.heap.size, 1, none⟩ = some (.int .i64 m) ∧ W'.cell? ⟨w.heap.size, 2, none⟩ = some (.int .i64 sum) ∧ W'.cell? ⟨w.heap.size, 3, none⟩ = some (.int .i64 rng) ∧ W'.cell? ⟨w.heap.size, 4, none⟩ = some (.int .i64 last))) (by kernel_rfl) ⟨HD.out.a.cell 0, HD.out.a.cell 1, HD.out.a.cell 2, HD.out.a.cell 3, HD.out.a.cell 4⟩ (fun hHeld => ?_)
        refine regTake 0 (some 45) (v := ?_) rfl rfl (by kernel_rfl) (by kernel_rfl) (by kernel_rfl) (fun _ _ _ h => h) (by rfl) hHeld ?_ ?_
        rotate_left 1
        · (intro w hSw; (try dsimp only at hSw); go_simp; try with_reducible rfl)
        simp only [Act.put, List.setIfInBounds_toArray, List.set_cons_zero, List.set_cons_succ]
        refine regTake 2 (some 47) (v := ?_) rfl rfl (by kernel_rfl) (by kernel_rfl) (by kernel_rfl) (fun _ _ _ h => h) (by rfl) hHeld ?_ ?_
        rotate_left 1
        · (intro w hSw; (try dsimp only at hSw); go_simp; try with_reducible rfl)
        simp only [Act.put, List.setIfInBounds_toArray, List.set_cons_zero, List.set_cons_succ]
        refine regTake 4 (some 49) (v := ?_) rfl rfl (by kernel_rfl) (by kernel_rfl) (by kernel_rfl) (fun _ _ _ h => h) (by rfl) hHeld ?_ ?_
        rotate_left 1
        · (intro w hSw; (try dsimp only at hSw); go_simp; try with_reducible rfl)
        simp only [Act.put, List.setIfInBounds_toArray, List.set_cons_zero, List.set_cons_succ]
        refine regTwo 1 3 (by kernel_rfl) ?_ ?_
        · skip
          have y3 := HD.out.c.cell 3
          simp only [List.getElem?_cons_zero, List.getElem?_cons_succ] at y3
          refine stepDo 1 (some 46) (v := ?_) (w' := ?_) rfl rfl (by rfl) ?_ ?_ (fun hHeld => ?_)
          rotate_left 2
          · (go_simp; refine ⟨?_, ?_⟩ <;> with_reducible rfl)
          · exact hHeld
          simp only [Act.put, List.setIfInBounds_toArray, List.set_cons_zero, List.set_cons_succ]
          clear y3
          refine regCall 3 (some 48) (f := 25) (args := ?_) rfl rfl (by kernel_rfl) (by rfl) ?_ ?_
          rotate_left 1
          · (go_simp; try with_reducible rfl)
          refine (MH.out _).mono ?_
          rintro e wx3 ⟨rfl, kk⟩
          refine ⟨_, rfl, ⟨(HD.out.call kk).a.cell 0, (HD.out.call kk).a.cell 1, (HD.out.call kk).a.cell 2, (HD.out.call kk).a.cell 3, (HD.out.call kk).a.cell 4⟩, fun hHeld => ?_⟩
          simp only [Act.put, List.setIfInBounds_toArray, List.set_cons_zero, List.set_cons_succ]
          have HE := Lib.hid (HD.out.call kk)
          clear kk
          refine regCall 5 (some 50) (f := F) (args := ?_) rfl rfl (by kernel_rfl) (by rfl) ?_ ?_
          rotate_left 1
          · (go_simp; try with_reducible rfl)
          refine (MG.out _ HE.out.below).mono ?_
          rintro e wx5 ⟨rfl, kk⟩
          refine ⟨_, rfl, ⟨(HE.out.call kk).a.cell 0, (HE.out.call kk).a.cell 1, (HE.out.call kk).a.cell 2, (HE.out.call kk).a.cell 3, (HE.out.call kk).a.cell 4⟩, fun hHeld => ?_⟩
          simp only [Act.put, List.setIfInBounds_toArray, List.set_cons_zero, List.set_cons_succ]
          have HF := Lib.hid (HE.out.call kk)
          clear kk
          refine regTake 6 (some 51) (v := ?_) rfl rfl (by kernel_rfl) (by kernel_rfl) (by kernel_rfl) (fun _ _ _ h => h) (by rfl) hHeld ?_ ?_
          rotate_left 1
          · (intro w hSw; (try dsimp only at hSw); go_simp; try with_reducible rfl)
          simp only [Act.put, List.setIfInBounds_toArray, List.set_cons_zero, List.set_cons_succ]
          refine regTake 7 (some 52) (v := ?_) rfl rfl (by kernel_rfl) (by kernel_rfl) (by kernel_rfl) (fun _ _ _ h => h) (by rfl) hHeld ?_ ?_
          rotate_left 1
          · (intro w hSw; (try dsimp only at hSw); go_simp; try with_reducible rfl)
          simp only [Act.put, List.setIfInBounds_toArray, List.set_cons_zero, List.set_cons_succ]
          have xs0 := HF.out.c.cell 0
          have xs1 := HF.out.c.cell 1
          have xs2 := HF.out.c.cell 2
          have xs3 := HF.out.c.cell 3
          have xs4 := HF.out.c.cell 4
          simp only [List.getElem?_cons_zero, List.getElem?_cons_succ] at xs0 xs1 xs2 xs3 xs4
          have xf3 := HF.out.c.frozen 3
          have xsl := HF.out.c.lt
          refine regStore 8 (w' := ?_) rfl rfl (by kernel_rfl) (by rfl) ?_ ?_ (fun hHeld => ?_)
          rotate_left 1
          · (go_simp; try with_reducible rfl)
          · exact ⟨(HF.out.putC 3 (.int .i64 R)).a.cell 0, (HF.out.putC 3 (.int .i64 R)).a.cell 1, (HF.out.putC 3 (.int .i64 R)).a.cell 2, (HF.out.putC 3 (.int .i64 R)).a.cell 3, (HF.out.putC 3 (.int .i64 R)).a.cell 4⟩
          refine wpAnyH_done (by kernel_rfl) ?_ _
          clear hHeld
          have HG := Lib.hid (HF.out.putC 3 (.int .i64 R))
          go_wp2_with fail
          go_meet
          exact HG
        · skip
          refine stepCall 3 (some 48) (f := 25) (args := ?_) rfl rfl (by rfl) ?_ ?_
          rotate_left 1
          · (go_simp; try with_reducible rfl)
          refine (MH.out _).mono ?_
          rintro e wx3 ⟨rfl, kk⟩
          refine ⟨_, rfl, ⟨(HD.out.call kk).a.cell 0, (HD.out.call kk).a.cell 1, (HD.out.call kk).a.cell 2, (HD.out.call kk).a.cell 3, (HD.out.call kk).a.cell 4⟩, fun hHeld => ?_⟩
          simp only [Act.put, List.setIfInBounds_toArray, List.set_cons_zero, List.set_cons_succ]
          have HE := Lib.hid (HD.out.call kk)
          clear kk
          refine regTwo 1 5 (by kernel_rfl) ?_ ?_
          · skip
            have y3 := HE.out.c.cell 3
            simp only [List.getElem?_cons_zero, List.getElem?_cons_succ] at y3
            refine stepDo 1 (some 46) (v := ?_) (w' := ?_) rfl rfl (by rfl) ?_ ?_ (fun hHeld => ?_)
            rotate_left 2
            · (go_simp; refine ⟨?_, ?_⟩ <;> with_reducible rfl)
            · exact hHeld
            simp only [Act.put, List.setIfInBounds_toArray, List.set_cons_zero, List.set_cons_succ]
            clear y3
            refine regCall 5 (some 50) (f := F) (args := ?_) rfl rfl (by kernel_rfl) (by rfl) ?_ ?_
            rotate_left 1
            · (go_simp; try with_reducible rfl)
            refine (MG.out _ HE.out.below).mono ?_
            rintro e wx5 ⟨rfl, kk⟩
            refine ⟨_, rfl, ⟨(HE.out.call kk).a.cell 0, (HE.out.call kk).a.cell 1, (HE.out.call kk).a.cell 2, (HE.out.call kk).a.cell 3, (HE.out.call kk).a.cell 4⟩, fun hHeld => ?_⟩
            simp only [Act.put, List.setIfInBounds_toArray, List.set_cons_zero, List.set_cons_succ]
            have HF := Lib.hid (HE.out.call kk)
            clear kk
            refine regTake 6 (some 51) (v := ?_) rfl rfl (by kernel_rfl) (by kernel_rfl) (by kernel_rfl) (fun _ _ _ h => h) (by rfl) hHeld ?_ ?_
            rotate_left 1
            · (intro w hSw; (try dsimp only at hSw); go_simp; try with_reducible rfl)
            simp only [Act.put, List.setIfInBounds_toArray, List.set_cons_zero, List.set_cons_succ]
            refine regTake 7 (some 52) (v := ?_) rfl rfl (by kernel_rfl) (by kernel_rfl) (by kernel_rfl) (fun _ _ _ h => h) (by rfl) hHeld ?_ ?_
            rotate_left 1
            · (intro w hSw; (try dsimp only at hSw); go_simp; try with_reducible rfl)
            simp only [Act.put, List.setIfInBounds_toArray, List.set_cons_zero, List.set_cons_succ]
            have xs0 := HF.out.c.cell 0
            have xs1 := HF.out.c.cell 1
            have xs2 := HF.out.c.cell 2
            have xs3 := HF.out.c.cell 3
            have xs4 := HF.out.c.cell 4
            simp only [List.getElem?_cons_zero, List.getElem?_cons_succ] at xs0 xs1 xs2 xs3 xs4
            have xf3 := HF.out.c.frozen 3
            have xsl := HF.out.c.lt
            refine regStore 8 (w' := ?_) rfl rfl (by kernel_rfl) (by rfl) ?_ ?_ (fun hHeld => ?_)
            rotate_left 1
            · (go_simp; try with_reducible rfl)
            · exact ⟨(HF.out.putC 3 (.int .i64 R)).a.cell 0, (HF.out.putC 3 (.int .i64 R)).a.cell 1, (HF.out.putC 3 (.int .i64 R)).a.cell 2, (HF.out.putC 3 (.int .i64 R)).a.cell 3, (HF.out.putC 3 (.int .i64 R)).a.cell 4⟩
            refine wpAnyH_done (by kernel_rfl) ?_ _
            clear hHeld
            have HG := Lib.hid (HF.out.putC 3 (.int .i64 R))
            go_wp2_with fail
            go_meet
            exact HG
          · skip
            refine stepCall 5 (some 50) (f := F) (args := ?_) rfl rfl (by rfl) ?_ ?_
            rotate_left 1
            · (go_simp; try with_reducible rfl)
            refine (MG.out _ HE.out.below).mono ?_
            rintro e wx5 ⟨rfl, kk⟩
            refine ⟨_, rfl, ⟨(HE.out.call kk).a.cell 0, (HE.out.call kk).a.cell 1, (HE.out.call kk).a.cell 2, (HE.out.call kk).a.cell 3, (HE.out.call kk).a.cell 4⟩, fun hHeld => ?_⟩
            simp only [Act.put, List.setIfInBounds_toArray, List.set_cons_zero, List.set_cons_succ]
            have HF := Lib.hid (HE.out.call kk)
            clear kk
            have y3 := HF.out.c.cell 3
            simp only [List.getElem?_cons_zero, List.getElem?_cons_succ] at y3
            refine regDo 1 (some 46) (v := ?_) (w' := ?_) rfl rfl (by kernel_rfl) (by rfl) ?_ ?_ (fun hHeld => ?_)
            rotate_left 2
            · (go_simp; refine ⟨?_, ?_⟩ <;> with_reducible rfl)
            · exact hHeld
            simp only [Act.put, List.setIfInBounds_toArray, List.set_cons_zero, List.set_cons_succ]
            clear y3
            refine regTake 6 (some 51) (v := ?_) rfl rfl (by kernel_rfl) (by kernel_rfl) (by kernel_rfl) (fun _ _ _ h => h) (by rfl) hHeld ?_ ?_
            rotate_left 1
            · (intro w hSw; (try dsimp only at hSw); go_simp; try with_reducible rfl)
            simp only [Act.put, List.setIfInBounds_toArray, List.set_cons_zero, List.set_cons_succ]
            refine regTake 7 (some 52) (v := ?_) rfl rfl (by kernel_rfl) (by kernel_rfl) (by kernel_rfl) (fun _ _ _ h => h) (by rfl) hHeld ?_ ?_
            rotate_left 1
            · (intro w hSw; (try dsimp only at hSw); go_simp; try with_reducible rfl)
            simp only [Act.put, List.setIfInBounds_toArray, List.set_cons_zero, List.set_cons_succ]
            have xs0 := HF.out.c.cell 0
            have xs1 := HF.out.c.cell 1
            have xs2 := HF.out.c.cell 2
            have xs3 := HF.out.c.cell 3
            have xs4 := HF.out.c.cell 4
            simp only [List.getElem?_cons_zero, List.getElem?_cons_succ] at xs0 xs1 xs2 xs3 xs4
            have xf3 := HF.out.c.frozen 3
            have xsl := HF.out.c.lt
            refine regStore 8 (w' := ?_) rfl rfl (by kernel_rfl) (by rfl) ?_ ?_ (fun hHeld => ?_)
            rotate_left 1
            · (go_simp; try with_reducible rfl)
            · exact ⟨(HF.out.putC 3 (.int .i64 R)).a.cell 0, (HF.out.putC 3 (.int .i64 R)).a.cell 1, (HF.out.putC 3 (.int .i64 R)).a.cell 2, (HF.out.putC 3 (.int .i64 R)).a.cell 3, (HF.out.putC 3 (.int .i64 R)).a.cell 4⟩
            refine wpAnyH_done (by kernel_rfl) ?_ _
            clear hHeld
            have HG := Lib.hid (HF.out.putC 3 (.int .i64 R))
            go_wp2_with fail
            go_meet
            exact HG
      case rest =>
        have HC := hcut
        obtain ⟨w5, hw5⟩ : ∃ w5 : World, w5 = wc := ⟨_, rfl⟩
        rw [← hw5] at HC ⊢
        clear hw5 hcut H0
        obtain ⟨br, off, hao, hbl, hc⟩ := (HROW.out w5 HC.out.below).spot HY.out
        subst hao
        have c0 := HC.out.c.cell 0; have c1 := HC.out.c.cell 1; have c2 := HC.out.c.cell 2; have c3 := HC.out.c.cell 3; have c4 := HC.out.c.cell 4
        simp only [List.getElem?_cons_zero, List.getElem?_cons_succ] at c0 c1 c2 c3 c4
        have f4 := HC.out.c.frozen 4
        have klt := HC.out.c.lt
        have hq := HQN.out
        have hqx := HQX.out
        obtain ⟨w6, hw6⟩ : ∃ w6, w5.setCell ⟨K, 4, none⟩ (.int .i64 y) = w6 := ⟨_, rfl⟩
        have HG := Lib.hid (show TwoC w w6 [.int .i64 size, .int .i64 m, .int .i64 sum, .int .i64 rng, .int .i64 last] [.int .i64 0, .int .i64 0, .int .i64 0, .int .i64 0, .int .i64 0] [.int .i64 size, .int .i64 M1, .int .i64 S, .int .i64 R, .int .i64 y] K 23 23 23 by rw [← hw6]; exact HC.out.putC 4 (.int .i64 y))
        have HW6 := Lib.hid hw6
        clear hw6
        go_upto_region 14 with fail
        rw [HW6.out]
        clear c0 c1 c2 c3 c4 f4 klt hc hq hqx
        have c0 := HG.out.c.cell 0; have c1 := HG.out.c.cell 1; have c2 := HG.out.c.cell 2; have c3 := HG.out.c.cell 3; have c4 := HG.out.c.cell 4
        have d0 := HG.out.b.cell 0; have d1 := HG.out.b.cell 1; have d2 := HG.out.b.cell 2; have d3 := HG.out.b.cell 3; have d4 := HG.out.b.cell 4
        simp only [List.getElem?_cons_zero, List.getElem?_cons_succ] at c0 c1 c2 c3 c4 d0 d1 d2 d3 d4
        have f0 := HG.out.b.frozen 0; have f1 := HG.out.b.frozen 1; have f2 := HG.out.b.frozen 2; have f3 := HG.out.b.frozen 3; have f4 := HG.out.b.frozen 4
        have klt := HG.out.c.lt; have zlt := HG.out.b.lt
        have HP := Lib.hid (HG.out.b.put5B (.int .i64 size) (.int .i64 M1) (.int .i64 S) (.int .i64 R) (.int .i64 y))
        have HQ := Lib.hid (Below.put5B HG.out.below (b := w.heap.size + 1) (by omega) (.int .i64 size) (.int .i64 M1) (.int .i64 S) (.int .i64 R) (.int .i64 y))
        go_wp2_with fail
        (try simp only [Exit.inBlock, Exit.then])
        exact bodyPost_ret (results_cell_tmp rfl rfl (loadBas HP.out)) rfl ⟨rfl, HQ.out⟩
theorem near_all (l : List Int) : l.all (fun x => nearB x 1) = inB l := by
  unfold inB nearB
  congr 1
theorem cont_any (l : List Int) (v : Value) (w : World) (hn : l.length ≤ 100000) (hr : ReadsI w v l) (W : World) (hW : Below w.heap.size w W) :
    Calls Try.prog 23 #[v, .func (.func 24) #[] #[]] W fun e w' => e = .returned (.bool (!inB l)) ∧ Below W.heap.size W w' := by
  rw [← near_all]
  exact (contf_any _ _ notSample l v W hn (hr.below hW)).mono fun _ _ ⟨h1, h2⟩ => ⟨h1, h2 ▸ Below.refl _ _⟩
theorem btake_any (b : Bas) (hI : basI b) (l : List Int) (v : Value) (w : World) (hl : l.length ≤ 1000) (hr : ReadsI w v l) :
    Calls Try.prog 9 #[basV b, v] w fun e w' => e = .returned (.tuple #[basV (takA b l), .int .i64 (takE b l)]) ∧ Below w.heap.size w w' := by
  have MR := fun W => bright_any b hI W
  have MC := cont_any l v w (by omega) hr
  obtain ⟨ao, cap, rfl⟩ := hr.shape
  obtain ⟨n, hn⟩ : ∃ n, l.length = n := ⟨_, rfl⟩
  rw [hn] at MC hr hl ⊢
  by_cases h0 : basOk b
  · rw [show basB b = true from decide_eq_true h0] at MR
    by_cases h1 : (n : Int) = b.size
    · have q1 : ((n : Int) == b.size) = true := beq_iff_eq.2 h1
      have q2 : ((n : Int) != b.size) = false := by rw [bne, q1]; rfl
      cases h2 : inB l with
      | false =>
        rw [h2] at MC
        have e : takE b l = 1 := by unfold takE rowB; rw [h2, Bool.and_false, Bool.and_false]; rfl
        unfold takA
        rw [e]
        exact take15_2 _ _ _ _ _ ao n cap w MR MC q1 q2
      | true =>
        rw [h2] at MC
        have hw : rowB b l = true := by unfold rowB; rw [h2, hn, decide_eq_true h1]; rfl
        by_cases h3 : b.m = 25
        · have e : takE b l = 11 := by unfold takE; rw [hw, show basB b = true from decide_eq_true h0]; exact if_pos h3
          unfold takA
          rw [e]
          exact take15_3 _ _ _ _ _ ao n cap w MR MC q1 q2 (beq_iff_eq.2 h3)
        · have e : takE b l = 0 := by unfold takE; rw [hw, show basB b = true from decide_eq_true h0]; exact if_neg h3
          unfold takA
          rw [e, if_pos rfl]
          have hz := h0.1
          have hsb := sum_bounds h0
          have hst := stp_bounds h0
          have hrng := h0.2.2
          have hrb := rng_bounds h0 hw
          have hne : l ≠ [] := row_some h0 hw
          obtain ⟨y, hy⟩ : ∃ y, l[n - 1]? = some y := ⟨_, List.getElem?_eq_getElem (by omega)⟩
          have hM : wrap64 (b.m + 1) = b.m + 1 := wrapJ6 (by omega)
          have hG : IntKind.i64.wrap (b.rng + rngN b l) = b.rng + rngN b l := wrapJ (by omega)
          have ey : l.getD (l.length - 1) 0 = y := by rw [List.getD_eq_getElem?_getD, hn, hy]; rfl
          unfold takeN
          rw [ey]
          obtain ⟨T, V, F, MH, MG, hm, he⟩ : ∃ T V F, (∀ W, Calls Try.prog 25 #[basV b] W fun e w' => e = .returned (.iface T V) ∧ Below W.heap.size W w') ∧ (∀ W, Below w.heap.size w W → Calls Try.prog F #[V, .slice ao n cap] W fun e w' => e = .returned (.int .i64 (rngN b l)) ∧ Below W.heap.size W w') ∧ (∀ W, (method 240 T V "datum/base.rangeOf").run Try.prog W = .ok (F, V) W) ∧ (∀ args W, (callFunc F args).run Try.prog W = .ok (.enter F args) W) := by
            obtain ⟨size, m, sum, rng, last⟩ := b
            dsimp only at *
            by_cases k : size = 1
            · subst k
              refine ⟨_, _, _, fun W => chartOf_1 m sum rng last W, fun W hW => ?_, fun W => mth_rangeOf_1 _ W, fun a W => ent_rangeOf_1 a W⟩
              by_cases k0 : m = 0
              · subst k0
                rw [rng_one hw rfl rfl]
                exact rangeOf_1z 1 sum rng last _ W
              · have hx := getD_in h2 0
                have hd : rngN ⟨1, m, sum, rng, last⟩ l = max (l.getD 0 0 - last) (last - l.getD 0 0) := by
                  unfold rngN distI
                  dsimp only
                  rw [if_pos ⟨rfl, by omega⟩]
                  omega
                exact rangeOf_1 1 m sum rng last _ _ _ _ l _ W (hr.below hW) (beq_false_of_ne k0) (by rw [hn]; omega) rfl (wrapJ (by omega)) (wrapJ (by omega)) hd.symm
            · have hx := span_in hne h2
              have hd : rngN ⟨size, m, sum, rng, last⟩ l = lmax l - lmin l := by unfold rngN; dsimp only; rw [if_neg (by omega)]
              exact ⟨_, _, _, fun W => chartOf_2 size m sum rng last (beq_false_of_ne k) W, fun W hW => rangeOf_2 size m sum rng last _ _ _ l _ W (hr.below hW) (by omega) (by omega) rfl rfl (by rw [hd]; exact wrapJ (by omega)), fun W => mth_rangeOf_2 _ W, fun a W => ent_rangeOf_2 a W⟩
          exact take15_4 _ _ _ _ _ _ _ _ _ _ l ao n cap w T V F MR MC MH MG q1 q2 (beq_false_of_ne h3) hn ⟨by omega, by omega⟩ h2 (by omega) rfl hM hG hy hr hm he
    · have e : takE b l = 1 := by
        unfold takE rowB
        rw [hn, decide_eq_false h1, Bool.false_and, Bool.and_false]; rfl
      unfold takA
      rw [e]
      have q1 : ((n : Int) == b.size) = false := beq_false_of_ne h1
      exact take15_1 _ _ _ _ _ ao n cap w MR q1 (by rw [bne, q1]; rfl)
  · rw [show basB b = false from decide_eq_false h0] at MR
    have e : takE b l = 1 := by unfold takE; rw [show basB b = false from decide_eq_false h0, Bool.false_and]; rfl
    unfold takA
    rw [e]
    exact take15_0 _ _ _ _ _ ao n cap w MR
end Go.Proofs.Ytfafkdbflmennaa
