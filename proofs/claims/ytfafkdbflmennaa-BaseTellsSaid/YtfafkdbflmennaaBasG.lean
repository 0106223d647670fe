/- The law of BaseTells: its walk. -/
import Derived.Test.YtfafkdbflmennaaBasE
namespace Go.Proofs.Ytfafkdbflmennaa
open Go.RowKit

set_option linter.unusedSimpArgs false in
set_option linter.unusedVariables false in
set_option maxHeartbeats 8000000 in
set_option maxRecDepth 100000 in
theorem tells15_bad (size m sum rng last s r pa pb pc pd pe wv : Int) (w : World)
    (HPO : Hid (∀ W, Calls Try.prog 15 #[.agg #[.int .i64 size, .int .i64 m, .int .i64 sum, .int .i64 rng, .int .i64 last], .int .i64 s] W fun e w' => e = .returned (.tuple #[.agg #[.int .i64 0, .int .i64 0, .int .i64 0, .int .u64 0, .int .u64 0], .int .i64 1]) ∧ Below W.heap.size W w'))
    (HWI : Hid (∀ W, Calls Try.prog 16 #[.agg #[.int .i64 size, .int .i64 m, .int .i64 sum, .int .i64 rng, .int .i64 last], .int .i64 r] W fun e w' => e = .returned (.tuple #[.int .i64 0, .int .i64 1]) ∧ Below W.heap.size W w'))
    (HAL : Hid (∀ W, Calls Try.prog 12 #[] W fun e w' => e = .returned (.bool true) ∧ Below W.heap.size W w'))
    (HRR : Hid (∀ W, Calls Try.prog 11 #[.agg #[.int .i64 size, .int .i64 m, .int .i64 sum, .int .i64 rng, .int .i64 last]] W fun e w' => e = .returned (.bool false) ∧ Below W.heap.size W w'))
    : Calls Try.prog 4 #[.agg #[.int .i64 size, .int .i64 m, .int .i64 sum, .int .i64 rng, .int .i64 last], .int .i64 s, .int .i64 r] w fun e w' => e = .returned (.bool true) ∧ Below w.heap.size w w' := by
  obtain ⟨w1, hw1⟩ : ∃ w1, w.alloc (.cells #[.int .i64 size, .int .i64 m, .int .i64 sum, .int .i64 rng, .int .i64 last] 23) = w1 := ⟨_, rfl⟩
  have HX1 := Lib.hid (show Has w1 w.heap.size [.int .i64 size, .int .i64 m, .int .i64 sum, .int .i64 rng, .int .i64 last] 23 by rw [← hw1]; exact Has.new w _ _)
  have HB1 := Lib.hid (show Below w.heap.size w w1 by rw [← hw1]; exact (Below.refl _ _).alloc (Nat.le_refl _) _)
  have HW1 := Lib.hid hw1
  have hbase := Nat.le_refl w.heap.size
  clear hw1
  go_enter Try.func4, Try.ntmps4
  go_upto_region 1 with fail
  rw [HW1.out]
  have qb0_0 : w1.cell? ⟨w.heap.size, 0, none⟩ = some (.int .i64 size) := HX1.out.cell 0
  have qb1_0 : w1.cell? ⟨w.heap.size, 1, none⟩ = some (.int .i64 m) := HX1.out.cell 1
  have qb2_0 : w1.cell? ⟨w.heap.size, 2, none⟩ = some (.int .i64 sum) := HX1.out.cell 2
  have qb3_0 : w1.cell? ⟨w.heap.size, 3, none⟩ = some (.int .i64 rng) := HX1.out.cell 3
  have qb4_0 : w1.cell? ⟨w.heap.size, 4, none⟩ = some (.int .i64 last) := HX1.out.cell 4
  have lb_0 : w.heap.size < w1.heap.size := HX1.out.lt
  have hcz1 := HPO.out w1
  go_wp2_with fail
  refine hcz1.mono ?_
  rintro e wz1 ⟨rfl, kz1⟩
  clear hcz1 qb0_0 qb1_0 qb2_0 qb3_0 qb4_0 lb_0
  have HBz1 := Lib.hid (HB1.out.trans (kz1.mono (Nat.le_trans hbase HB1.out.size)))
  have Hbz1 := Lib.hid (HX1.out.call kz1)
  clear kz1
  obtain ⟨wz2, hwz2⟩ : ∃ wz2, wz1.alloc (.cells #[.int .i64 0, .int .i64 0, .int .i64 0, .int .u64 0, .int .u64 0] 38) = wz2 := ⟨_, rfl⟩
  have kz2 : Below wz1.heap.size wz1 wz2 := by rw [← hwz2]; exact (Below.refl _ _).alloc (Nat.le_refl _) _
  have Hpz2 := Lib.hid (show Has wz2 wz1.heap.size [.int .i64 0, .int .i64 0, .int .i64 0, .int .u64 0, .int .u64 0] 38 by rw [← hwz2]; exact Has.new _ _ _)
  have HWz2 := Lib.hid hwz2
  clear hwz2
  have HBz2 := Lib.hid (HBz1.out.trans (kz2.mono (Nat.le_trans hbase HBz1.out.size)))
  have Hbz2 := Lib.hid (Hbz1.out.call kz2)
  clear kz2
  have qb0_2 : wz1.cell? ⟨w.heap.size, 0, none⟩ = some (.int .i64 size) := Hbz1.out.cell 0
  have qb1_2 : wz1.cell? ⟨w.heap.size, 1, none⟩ = some (.int .i64 m) := Hbz1.out.cell 1
  have qb2_2 : wz1.cell? ⟨w.heap.size, 2, none⟩ = some (.int .i64 sum) := Hbz1.out.cell 2
  have qb3_2 : wz1.cell? ⟨w.heap.size, 3, none⟩ = some (.int .i64 rng) := Hbz1.out.cell 3
  have qb4_2 : wz1.cell? ⟨w.heap.size, 4, none⟩ = some (.int .i64 last) := Hbz1.out.cell 4
  have lb_2 : w.heap.size < wz1.heap.size := Hbz1.out.lt
  have hcz3 := HWI.out wz2
  go_wp2_with fail
  rw [HWz2.out]
  refine hcz3.mono ?_
  rintro e wz3 ⟨rfl, kz3⟩
  clear hcz3 qb0_2 qb1_2 qb2_2 qb3_2 qb4_2 lb_2
  have HBz3 := Lib.hid (HBz2.out.trans (kz3.mono (Nat.le_trans hbase HBz2.out.size)))
  have Hbz3 := Lib.hid (Hbz2.out.call kz3)
  have Hpz3 := Lib.hid (Hpz2.out.call kz3)
  clear kz3
  have hcz4 := HAL.out wz3
  go_wp2_with fail
  refine hcz4.mono ?_
  rintro e wz4 ⟨rfl, kz4⟩
  clear hcz4
  have HBz4 := Lib.hid (HBz3.out.trans (kz4.mono (Nat.le_trans hbase HBz3.out.size)))
  have Hbz4 := Lib.hid (Hbz3.out.call kz4)
  have Hpz4 := Lib.hid (Hpz3.out.call kz4)
  clear kz4
  obtain ⟨wz5, hwz5⟩ : ∃ wz5, wz4.alloc (.cells #[.int .i64 0, .int .i64 0, .int .i64 0, .int .u64 0, .int .u64 0] 38) = wz5 := ⟨_, rfl⟩
  have kz5 : Below wz4.heap.size wz4 wz5 := by rw [← hwz5]; exact (Below.refl _ _).alloc (Nat.le_refl _) _
  have Hzz5 := Lib.hid (show Has wz5 wz4.heap.size [.int .i64 0, .int .i64 0, .int .i64 0, .int .u64 0, .int .u64 0] 38 by rw [← hwz5]; exact Has.new _ _ _)
  have HWz5 := Lib.hid hwz5
  clear hwz5
  have HBz5 := Lib.hid (HBz4.out.trans (kz5.mono (Nat.le_trans hbase HBz4.out.size)))
  have Hbz5 := Lib.hid (Hbz4.out.call kz5)
  have Hpz5 := Lib.hid (Hpz4.out.call kz5)
  clear kz5
  go_upto_region 6 with fail
  rw [HWz5.out]
  have hqp := eqPnt
  have qb0_5 : wz5.cell? ⟨w.heap.size, 0, none⟩ = some (.int .i64 size) := Hbz5.out.cell 0
  have qb1_5 : wz5.cell? ⟨w.heap.size, 1, none⟩ = some (.int .i64 m) := Hbz5.out.cell 1
  have qb2_5 : wz5.cell? ⟨w.heap.size, 2, none⟩ = some (.int .i64 sum) := Hbz5.out.cell 2
  have qb3_5 : wz5.cell? ⟨w.heap.size, 3, none⟩ = some (.int .i64 rng) := Hbz5.out.cell 3
  have qb4_5 : wz5.cell? ⟨w.heap.size, 4, none⟩ = some (.int .i64 last) := Hbz5.out.cell 4
  have lb_5 : w.heap.size < wz5.heap.size := Hbz5.out.lt
  have hcz6 := HRR.out wz5
  go_wp2_with fail
  refine hcz6.mono ?_
  rintro e wz6 ⟨rfl, kz6⟩
  clear hcz6 qb0_5 qb1_5 qb2_5 qb3_5 qb4_5 lb_5
  have HBz6 := Lib.hid (HBz5.out.trans (kz6.mono (Nat.le_trans hbase HBz5.out.size)))
  have Hbz6 := Lib.hid (Hbz5.out.call kz6)
  have Hpz6 := Lib.hid (Hpz5.out.call kz6)
  have Hzz6 := Lib.hid (Hzz5.out.call kz6)
  clear kz6
  have qb0_6 : wz6.cell? ⟨w.heap.size, 0, none⟩ = some (.int .i64 size) := Hbz6.out.cell 0
  have qb1_6 : wz6.cell? ⟨w.heap.size, 1, none⟩ = some (.int .i64 m) := Hbz6.out.cell 1
  have qb2_6 : wz6.cell? ⟨w.heap.size, 2, none⟩ = some (.int .i64 sum) := Hbz6.out.cell 2
  have qb3_6 : wz6.cell? ⟨w.heap.size, 3, none⟩ = some (.int .i64 rng) := Hbz6.out.cell 3
  have qb4_6 : wz6.cell? ⟨w.heap.size, 4, none⟩ = some (.int .i64 last) := Hbz6.out.cell 4
  have lb_6 : w.heap.size < wz6.heap.size := Hbz6.out.lt
  have qp0_6 : wz6.cell? ⟨wz1.heap.size, 0, none⟩ = some (.int .i64 0) := Hpz6.out.cell 0
  have qp1_6 : wz6.cell? ⟨wz1.heap.size, 1, none⟩ = some (.int .i64 0) := Hpz6.out.cell 1
  have qp2_6 : wz6.cell? ⟨wz1.heap.size, 2, none⟩ = some (.int .i64 0) := Hpz6.out.cell 2
  have qp3_6 : wz6.cell? ⟨wz1.heap.size, 3, none⟩ = some (.int .u64 0) := Hpz6.out.cell 3
  have qp4_6 : wz6.cell? ⟨wz1.heap.size, 4, none⟩ = some (.int .u64 0) := Hpz6.out.cell 4
  have lp_6 : wz1.heap.size < wz6.heap.size := Hpz6.out.lt
  have qz0_6 : wz6.cell? ⟨wz4.heap.size, 0, none⟩ = some (.int .i64 0) := Hzz6.out.cell 0
  have qz1_6 : wz6.cell? ⟨wz4.heap.size, 1, none⟩ = some (.int .i64 0) := Hzz6.out.cell 1
  have qz2_6 : wz6.cell? ⟨wz4.heap.size, 2, none⟩ = some (.int .i64 0) := Hzz6.out.cell 2
  have qz3_6 : wz6.cell? ⟨wz4.heap.size, 3, none⟩ = some (.int .u64 0) := Hzz6.out.cell 3
  have qz4_6 : wz6.cell? ⟨wz4.heap.size, 4, none⟩ = some (.int .u64 0) := Hzz6.out.cell 4
  have lz_6 : wz4.heap.size < wz6.heap.size := Hzz6.out.lt
  have hcz7 := HRR.out wz6
  go_wp2_with fail
  refine hcz7.mono ?_
  rintro e wz7 ⟨rfl, kz7⟩
  clear hcz7 qb0_6 qb1_6 qb2_6 qb3_6 qb4_6 lb_6 qp0_6 qp1_6 qp2_6 qp3_6 qp4_6 lp_6 qz0_6 qz1_6 qz2_6 qz3_6 qz4_6 lz_6
  have HBz7 := Lib.hid (HBz6.out.trans (kz7.mono (Nat.le_trans hbase HBz6.out.size)))
  have Hbz7 := Lib.hid (Hbz6.out.call kz7)
  have Hpz7 := Lib.hid (Hpz6.out.call kz7)
  have Hzz7 := Lib.hid (Hzz6.out.call kz7)
  clear kz7
  have qb0_7 : wz7.cell? ⟨w.heap.size, 0, none⟩ = some (.int .i64 size) := Hbz7.out.cell 0
  have qb1_7 : wz7.cell? ⟨w.heap.size, 1, none⟩ = some (.int .i64 m) := Hbz7.out.cell 1
  have qb2_7 : wz7.cell? ⟨w.heap.size, 2, none⟩ = some (.int .i64 sum) := Hbz7.out.cell 2
  have qb3_7 : wz7.cell? ⟨w.heap.size, 3, none⟩ = some (.int .i64 rng) := Hbz7.out.cell 3
  have qb4_7 : wz7.cell? ⟨w.heap.size, 4, none⟩ = some (.int .i64 last) := Hbz7.out.cell 4
  have lb_7 : w.heap.size < wz7.heap.size := Hbz7.out.lt
  go_wp2
  go_ret
  exact ⟨rfl, HBz7.out⟩
set_option linter.unusedSimpArgs false in
set_option linter.unusedVariables false in
set_option maxHeartbeats 8000000 in
set_option maxRecDepth 100000 in
theorem tells15_1lo1 (size m sum rng last s r pa pb pc pd pe wv : Int) (w : World) (r1 : r < 0) (m2 : m < 2)
    (HPO : Hid (∀ W, Calls Try.prog 15 #[.agg #[.int .i64 size, .int .i64 m, .int .i64 sum, .int .i64 rng, .int .i64 last], .int .i64 s] W fun e w' => e = .returned (.tuple #[.agg #[.int .i64 0, .int .i64 0, .int .i64 0, .int .u64 0, .int .u64 0], .int .i64 12]) ∧ Below W.heap.size W w'))
    (HWI : Hid (∀ W, Calls Try.prog 16 #[.agg #[.int .i64 size, .int .i64 m, .int .i64 sum, .int .i64 rng, .int .i64 last], .int .i64 r] W fun e w' => e = .returned (.tuple #[.int .i64 0, .int .i64 1]) ∧ Below W.heap.size W w'))
    (HAL : Hid (∀ W, Calls Try.prog 12 #[] W fun e w' => e = .returned (.bool true) ∧ Below W.heap.size W w'))
    (HRR : Hid (∀ W, Calls Try.prog 11 #[.agg #[.int .i64 size, .int .i64 m, .int .i64 sum, .int .i64 rng, .int .i64 last]] W fun e w' => e = .returned (.bool true) ∧ Below W.heap.size W w'))
    (HSU : Hid (∀ W, Calls Try.prog 17 #[.agg #[.int .i64 size, .int .i64 m, .int .i64 sum, .int .i64 rng, .int .i64 last], .int .i64 s] W fun e w' => e = .returned (.bool true) ∧ Below W.heap.size W w'))
    : Calls Try.prog 4 #[.agg #[.int .i64 size, .int .i64 m, .int .i64 sum, .int .i64 rng, .int .i64 last], .int .i64 s, .int .i64 r] w fun e w' => e = .returned (.bool true) ∧ Below w.heap.size w w' := by
  obtain ⟨w1, hw1⟩ : ∃ w1, w.alloc (.cells #[.int .i64 size, .int .i64 m, .int .i64 sum, .int .i64 rng, .int .i64 last] 23) = w1 := ⟨_, rfl⟩
  have HX1 := Lib.hid (show Has w1 w.heap.size [.int .i64 size, .int .i64 m, .int .i64 sum, .int .i64 rng, .int .i64 last] 23 by rw [← hw1]; exact Has.new w _ _)
  have HB1 := Lib.hid (show Below w.heap.size w w1 by rw [← hw1]; exact (Below.refl _ _).alloc (Nat.le_refl _) _)
  have HW1 := Lib.hid hw1
  have hbase := Nat.le_refl w.heap.size
  clear hw1
  go_enter Try.func4, Try.ntmps4
  go_upto_region 1 with fail
  rw [HW1.out]
  have qb0_0 : w1.cell? ⟨w.heap.size, 0, none⟩ = some (.int .i64 size) := HX1.out.cell 0
  have qb1_0 : w1.cell? ⟨w.heap.size, 1, none⟩ = some (.int .i64 m) := HX1.out.cell 1
  have qb2_0 : w1.cell? ⟨w.heap.size, 2, none⟩ = some (.int .i64 sum) := HX1.out.cell 2
  have qb3_0 : w1.cell? ⟨w.heap.size, 3, none⟩ = some (.int .i64 rng) := HX1.out.cell 3
  have qb4_0 : w1.cell? ⟨w.heap.size, 4, none⟩ = some (.int .i64 last) := HX1.out.cell 4
  have lb_0 : w.heap.size < w1.heap.size := HX1.out.lt
  have hcz1 := HPO.out w1
  go_wp2_with fail
  refine hcz1.mono ?_
  rintro e wz1 ⟨rfl, kz1⟩
  clear hcz1 qb0_0 qb1_0 qb2_0 qb3_0 qb4_0 lb_0
  have HBz1 := Lib.hid (HB1.out.trans (kz1.mono (Nat.le_trans hbase HB1.out.size)))
  have Hbz1 := Lib.hid (HX1.out.call kz1)
  clear kz1
  obtain ⟨wz2, hwz2⟩ : ∃ wz2, wz1.alloc (.cells #[.int .i64 0, .int .i64 0, .int .i64 0, .int .u64 0, .int .u64 0] 38) = wz2 := ⟨_, rfl⟩
  have kz2 : Below wz1.heap.size wz1 wz2 := by rw [← hwz2]; exact (Below.refl _ _).alloc (Nat.le_refl _) _
  have Hpz2 := Lib.hid (show Has wz2 wz1.heap.size [.int .i64 0, .int .i64 0, .int .i64 0, .int .u64 0, .int .u64 0] 38 by rw [← hwz2]; exact Has.new _ _ _)
  have HWz2 := Lib.hid hwz2
  clear hwz2
  have HBz2 := Lib.hid (HBz1.out.trans (kz2.mono (Nat.le_trans hbase HBz1.out.size)))
  have Hbz2 := Lib.hid (Hbz1.out.call kz2)
  clear kz2
  have qb0_2 : wz1.cell? ⟨w.heap.size, 0, none⟩ = some (.int .i64 size) := Hbz1.out.cell 0
  have qb1_2 : wz1.cell? ⟨w.heap.size, 1, none⟩ = some (.int .i64 m) := Hbz1.out.cell 1
  have qb2_2 : wz1.cell? ⟨w.heap.size, 2, none⟩ = some (.int .i64 sum) := Hbz1.out.cell 2
  have qb3_2 : wz1.cell? ⟨w.heap.size, 3, none⟩ = some (.int .i64 rng) := Hbz1.out.cell 3
  have qb4_2 : wz1.cell? ⟨w.heap.size, 4, none⟩ = some (.int .i64 last) := Hbz1.out.cell 4
  have lb_2 : w.heap.size < wz1.heap.size := Hbz1.out.lt
  have hcz3 := HWI.out wz2
  go_wp2_with fail
  rw [HWz2.out]
  refine hcz3.mono ?_
  rintro e wz3 ⟨rfl, kz3⟩
  clear hcz3 qb0_2 qb1_2 qb2_2 qb3_2 qb4_2 lb_2
  have HBz3 := Lib.hid (HBz2.out.trans (kz3.mono (Nat.le_trans hbase HBz2.out.size)))
  have Hbz3 := Lib.hid (Hbz2.out.call kz3)
  have Hpz3 := Lib.hid (Hpz2.out.call kz3)
  clear kz3
  have hcz4 := HAL.out wz3
  go_wp2_with fail
  refine hcz4.mono ?_
  rintro e wz4 ⟨rfl, kz4⟩
  clear hcz4
  have HBz4 := Lib.hid (HBz3.out.trans (kz4.mono (Nat.le_trans hbase HBz3.out.size)))
  have Hbz4 := Lib.hid (Hbz3.out.call kz4)
  have Hpz4 := Lib.hid (Hpz3.out.call kz4)
  clear kz4
  obtain ⟨wz5, hwz5⟩ : ∃ wz5, wz4.alloc (.cells #[.int .i64 0, .int .i64 0, .int .i64 0, .int .u64 0, .int .u64 0] 38) = wz5 := ⟨_, rfl⟩
  have kz5 : Below wz4.heap.size wz4 wz5 := by rw [← hwz5]; exact (Below.refl _ _).alloc (Nat.le_refl _) _
  have Hzz5 := Lib.hid (show Has wz5 wz4.heap.size [.int .i64 0, .int .i64 0, .int .i64 0, .int .u64 0, .int .u64 0] 38 by rw [← hwz5]; exact Has.new _ _ _)
  have HWz5 := Lib.hid hwz5
  clear hwz5
  have HBz5 := Lib.hid (HBz4.out.trans (kz5.mono (Nat.le_trans hbase HBz4.out.size)))
  have Hbz5 := Lib.hid (Hbz4.out.call kz5)
  have Hpz5 := Lib.hid (Hpz4.out.call kz5)
  clear kz5
  go_upto_region 6 with fail
  rw [HWz5.out]
  have hqp := eqPnt
  have qb0_5 : wz5.cell? ⟨w.heap.size, 0, none⟩ = some (.int .i64 size) := Hbz5.out.cell 0
  have qb1_5 : wz5.cell? ⟨w.heap.size, 1, none⟩ = some (.int .i64 m) := Hbz5.out.cell 1
  have qb2_5 : wz5.cell? ⟨w.heap.size, 2, none⟩ = some (.int .i64 sum) := Hbz5.out.cell 2
  have qb3_5 : wz5.cell? ⟨w.heap.size, 3, none⟩ = some (.int .i64 rng) := Hbz5.out.cell 3
  have qb4_5 : wz5.cell? ⟨w.heap.size, 4, none⟩ = some (.int .i64 last) := Hbz5.out.cell 4
  have lb_5 : w.heap.size < wz5.heap.size := Hbz5.out.lt
  have hcz6 := HRR.out wz5
  go_wp2_with fail
  refine hcz6.mono ?_
  rintro e wz6 ⟨rfl, kz6⟩
  clear hcz6 qb0_5 qb1_5 qb2_5 qb3_5 qb4_5 lb_5
  have HBz6 := Lib.hid (HBz5.out.trans (kz6.mono (Nat.le_trans hbase HBz5.out.size)))
  have Hbz6 := Lib.hid (Hbz5.out.call kz6)
  have Hpz6 := Lib.hid (Hpz5.out.call kz6)
  have Hzz6 := Lib.hid (Hzz5.out.call kz6)
  clear kz6
  have qb0_6 : wz6.cell? ⟨w.heap.size, 0, none⟩ = some (.int .i64 size) := Hbz6.out.cell 0
  have qb1_6 : wz6.cell? ⟨w.heap.size, 1, none⟩ = some (.int .i64 m) := Hbz6.out.cell 1
  have qb2_6 : wz6.cell? ⟨w.heap.size, 2, none⟩ = some (.int .i64 sum) := Hbz6.out.cell 2
  have qb3_6 : wz6.cell? ⟨w.heap.size, 3, none⟩ = some (.int .i64 rng) := Hbz6.out.cell 3
  have qb4_6 : wz6.cell? ⟨w.heap.size, 4, none⟩ = some (.int .i64 last) := Hbz6.out.cell 4
  have lb_6 : w.heap.size < wz6.heap.size := Hbz6.out.lt
  have hcz7 := HSU.out wz6
  go_wp2_with fail
  refine hcz7.mono ?_
  rintro e wz7 ⟨rfl, kz7⟩
  clear hcz7 qb0_6 qb1_6 qb2_6 qb3_6 qb4_6 lb_6
  have HBz7 := Lib.hid (HBz6.out.trans (kz7.mono (Nat.le_trans hbase HBz6.out.size)))
  have Hbz7 := Lib.hid (Hbz6.out.call kz7)
  have Hpz7 := Lib.hid (Hpz6.out.call kz7)
  have Hzz7 := Lib.hid (Hzz6.out.call kz7)
  clear kz7
  have qb0_7 : wz7.cell? ⟨w.heap.size, 0, none⟩ = some (.int .i64 size) := Hbz7.out.cell 0
  have qb1_7 : wz7.cell? ⟨w.heap.size, 1, none⟩ = some (.int .i64 m) := Hbz7.out.cell 1
  have qb2_7 : wz7.cell? ⟨w.heap.size, 2, none⟩ = some (.int .i64 sum) := Hbz7.out.cell 2
  have qb3_7 : wz7.cell? ⟨w.heap.size, 3, none⟩ = some (.int .i64 rng) := Hbz7.out.cell 3
  have qb4_7 : wz7.cell? ⟨w.heap.size, 4, none⟩ = some (.int .i64 last) := Hbz7.out.cell 4
  have lb_7 : w.heap.size < wz7.heap.size := Hbz7.out.lt
  have qp0_7 : wz7.cell? ⟨wz1.heap.size, 0, none⟩ = some (.int .i64 0) := Hpz7.out.cell 0
  have qp1_7 : wz7.cell? ⟨wz1.heap.size, 1, none⟩ = some (.int .i64 0) := Hpz7.out.cell 1
  have qp2_7 : wz7.cell? ⟨wz1.heap.size, 2, none⟩ = some (.int .i64 0) := Hpz7.out.cell 2
  have qp3_7 : wz7.cell? ⟨wz1.heap.size, 3, none⟩ = some (.int .u64 0) := Hpz7.out.cell 3
  have qp4_7 : wz7.cell? ⟨wz1.heap.size, 4, none⟩ = some (.int .u64 0) := Hpz7.out.cell 4
  have lp_7 : wz1.heap.size < wz7.heap.size := Hpz7.out.lt
  have qz0_7 : wz7.cell? ⟨wz4.heap.size, 0, none⟩ = some (.int .i64 0) := Hzz7.out.cell 0
  have qz1_7 : wz7.cell? ⟨wz4.heap.size, 1, none⟩ = some (.int .i64 0) := Hzz7.out.cell 1
  have qz2_7 : wz7.cell? ⟨wz4.heap.size, 2, none⟩ = some (.int .i64 0) := Hzz7.out.cell 2
  have qz3_7 : wz7.cell? ⟨wz4.heap.size, 3, none⟩ = some (.int .u64 0) := Hzz7.out.cell 3
  have qz4_7 : wz7.cell? ⟨wz4.heap.size, 4, none⟩ = some (.int .u64 0) := Hzz7.out.cell 4
  have lz_7 : wz4.heap.size < wz7.heap.size := Hzz7.out.lt
  have hcz8 := HRR.out wz7
  go_wp2_with fail
  refine hcz8.mono ?_
  rintro e wz8 ⟨rfl, kz8⟩
  clear hcz8 qb0_7 qb1_7 qb2_7 qb3_7 qb4_7 lb_7 qp0_7 qp1_7 qp2_7 qp3_7 qp4_7 lp_7 qz0_7 qz1_7 qz2_7 qz3_7 qz4_7 lz_7
  have HBz8 := Lib.hid (HBz7.out.trans (kz8.mono (Nat.le_trans hbase HBz7.out.size)))
  have Hbz8 := Lib.hid (Hbz7.out.call kz8)
  have Hpz8 := Lib.hid (Hpz7.out.call kz8)
  have Hzz8 := Lib.hid (Hzz7.out.call kz8)
  clear kz8
  have qb0_8 : wz8.cell? ⟨w.heap.size, 0, none⟩ = some (.int .i64 size) := Hbz8.out.cell 0
  have qb1_8 : wz8.cell? ⟨w.heap.size, 1, none⟩ = some (.int .i64 m) := Hbz8.out.cell 1
  have qb2_8 : wz8.cell? ⟨w.heap.size, 2, none⟩ = some (.int .i64 sum) := Hbz8.out.cell 2
  have qb3_8 : wz8.cell? ⟨w.heap.size, 3, none⟩ = some (.int .i64 rng) := Hbz8.out.cell 3
  have qb4_8 : wz8.cell? ⟨w.heap.size, 4, none⟩ = some (.int .i64 last) := Hbz8.out.cell 4
  have lb_8 : w.heap.size < wz8.heap.size := Hbz8.out.lt
  go_wp2
  go_ret
  exact ⟨rfl, HBz8.out⟩
set_option linter.unusedSimpArgs false in
set_option linter.unusedVariables false in
set_option maxHeartbeats 8000000 in
set_option maxRecDepth 100000 in
theorem tells15_1lo0 (size m sum rng last s r pa pb pc pd pe wv : Int) (w : World) (r1 : r < 0) (m2 : ¬ m < 2)
    (HPO : Hid (∀ W, Calls Try.prog 15 #[.agg #[.int .i64 size, .int .i64 m, .int .i64 sum, .int .i64 rng, .int .i64 last], .int .i64 s] W fun e w' => e = .returned (.tuple #[.agg #[.int .i64 pa, .int .i64 pb, .int .i64 pc, .int .u64 pd, .int .u64 pe], .int .i64 0]) ∧ Below W.heap.size W w'))
    (HWI : Hid (∀ W, Calls Try.prog 16 #[.agg #[.int .i64 size, .int .i64 m, .int .i64 sum, .int .i64 rng, .int .i64 last], .int .i64 r] W fun e w' => e = .returned (.tuple #[.int .i64 0, .int .i64 1]) ∧ Below W.heap.size W w'))
    (HAL : Hid (∀ W, Calls Try.prog 12 #[] W fun e w' => e = .returned (.bool true) ∧ Below W.heap.size W w'))
    (HRR : Hid (∀ W, Calls Try.prog 11 #[.agg #[.int .i64 size, .int .i64 m, .int .i64 sum, .int .i64 rng, .int .i64 last]] W fun e w' => e = .returned (.bool true) ∧ Below W.heap.size W w'))
    (HSU : Hid (∀ W, Calls Try.prog 17 #[.agg #[.int .i64 size, .int .i64 m, .int .i64 sum, .int .i64 rng, .int .i64 last], .int .i64 s] W fun e w' => e = .returned (.bool true) ∧ Below W.heap.size W w'))
    (HRP : Hid (∀ W, Calls Try.prog 18 #[.agg #[.int .i64 size, .int .i64 m, .int .i64 sum, .int .i64 rng, .int .i64 last], .int .i64 s] W fun e w' => e = .returned (.agg #[.int .i64 pa, .int .i64 pb, .int .i64 pc, .int .u64 pd, .int .u64 pe]) ∧ Below W.heap.size W w'))
    : Calls Try.prog 4 #[.agg #[.int .i64 size, .int .i64 m, .int .i64 sum, .int .i64 rng, .int .i64 last], .int .i64 s, .int .i64 r] w fun e w' => e = .returned (.bool true) ∧ Below w.heap.size w w' := by
  obtain ⟨w1, hw1⟩ : ∃ w1, w.alloc (.cells #[.int .i64 size, .int .i64 m, .int .i64 sum, .int .i64 rng, .int .i64 last] 23) = w1 := ⟨_, rfl⟩
  have HX1 := Lib.hid (show Has w1 w.heap.size [.int .i64 size, .int .i64 m, .int .i64 sum, .int .i64 rng, .int .i64 last] 23 by rw [← hw1]; exact Has.new w _ _)
  have HB1 := Lib.hid (show Below w.heap.size w w1 by rw [← hw1]; exact (Below.refl _ _).alloc (Nat.le_refl _) _)
  have HW1 := Lib.hid hw1
  have hbase := Nat.le_refl w.heap.size
  clear hw1
  go_enter Try.func4, Try.ntmps4
  go_upto_region 1 with fail
  rw [HW1.out]
  have qb0_0 : w1.cell? ⟨w.heap.size, 0, none⟩ = some (.int .i64 size) := HX1.out.cell 0
  have qb1_0 : w1.cell? ⟨w.heap.size, 1, none⟩ = some (.int .i64 m) := HX1.out.cell 1
  have qb2_0 : w1.cell? ⟨w.heap.size, 2, none⟩ = some (.int .i64 sum) := HX1.out.cell 2
  have qb3_0 : w1.cell? ⟨w.heap.size, 3, none⟩ = some (.int .i64 rng) := HX1.out.cell 3
  have qb4_0 : w1.cell? ⟨w.heap.size, 4, none⟩ = some (.int .i64 last) := HX1.out.cell 4
  have lb_0 : w.heap.size < w1.heap.size := HX1.out.lt
  have hcz1 := HPO.out w1
  go_wp2_with fail
  refine hcz1.mono ?_
  rintro e wz1 ⟨rfl, kz1⟩
  clear hcz1 qb0_0 qb1_0 qb2_0 qb3_0 qb4_0 lb_0
  have HBz1 := Lib.hid (HB1.out.trans (kz1.mono (Nat.le_trans hbase HB1.out.size)))
  have Hbz1 := Lib.hid (HX1.out.call kz1)
  clear kz1
  obtain ⟨wz2, hwz2⟩ : ∃ wz2, wz1.alloc (.cells #[.int .i64 pa, .int .i64 pb, .int .i64 pc, .int .u64 pd, .int .u64 pe] 38) = wz2 := ⟨_, rfl⟩
  have kz2 : Below wz1.heap.size wz1 wz2 := by rw [← hwz2]; exact (Below.refl _ _).alloc (Nat.le_refl _) _
  have Hpz2 := Lib.hid (show Has wz2 wz1.heap.size [.int .i64 pa, .int .i64 pb, .int .i64 pc, .int .u64 pd, .int .u64 pe] 38 by rw [← hwz2]; exact Has.new _ _ _)
  have HWz2 := Lib.hid hwz2
  clear hwz2
  have HBz2 := Lib.hid (HBz1.out.trans (kz2.mono (Nat.le_trans hbase HBz1.out.size)))
  have Hbz2 := Lib.hid (Hbz1.out.call kz2)
  clear kz2
  have qb0_2 : wz1.cell? ⟨w.heap.size, 0, none⟩ = some (.int .i64 size) := Hbz1.out.cell 0
  have qb1_2 : wz1.cell? ⟨w.heap.size, 1, none⟩ = some (.int .i64 m) := Hbz1.out.cell 1
  have qb2_2 : wz1.cell? ⟨w.heap.size, 2, none⟩ = some (.int .i64 sum) := Hbz1.out.cell 2
  have qb3_2 : wz1.cell? ⟨w.heap.size, 3, none⟩ = some (.int .i64 rng) := Hbz1.out.cell 3
  have qb4_2 : wz1.cell? ⟨w.heap.size, 4, none⟩ = some (.int .i64 last) := Hbz1.out.cell 4
  have lb_2 : w.heap.size < wz1.heap.size := Hbz1.out.lt
  have hcz3 := HWI.out wz2
  go_wp2_with fail
  rw [HWz2.out]
  refine hcz3.mono ?_
  rintro e wz3 ⟨rfl, kz3⟩
  clear hcz3 qb0_2 qb1_2 qb2_2 qb3_2 qb4_2 lb_2
  have HBz3 := Lib.hid (HBz2.out.trans (kz3.mono (Nat.le_trans hbase HBz2.out.size)))
  have Hbz3 := Lib.hid (Hbz2.out.call kz3)
  have Hpz3 := Lib.hid (Hpz2.out.call kz3)
  clear kz3
  have hcz4 := HAL.out wz3
  go_wp2_with fail
  refine hcz4.mono ?_
  rintro e wz4 ⟨rfl, kz4⟩
  clear hcz4
  have HBz4 := Lib.hid (HBz3.out.trans (kz4.mono (Nat.le_trans hbase HBz3.out.size)))
  have Hbz4 := Lib.hid (Hbz3.out.call kz4)
  have Hpz4 := Lib.hid (Hpz3.out.call kz4)
  clear kz4
  obtain ⟨wz5, hwz5⟩ : ∃ wz5, wz4.alloc (.cells #[.int .i64 0, .int .i64 0, .int .i64 0, .int .u64 0, .int .u64 0] 38) = wz5 := ⟨_, rfl⟩
  have kz5 : Below wz4.heap.size wz4 wz5 := by rw [← hwz5]; exact (Below.refl _ _).alloc (Nat.le_refl _) _
  have Hzz5 := Lib.hid (show Has wz5 wz4.heap.size [.int .i64 0, .int .i64 0, .int .i64 0, .int .u64 0, .int .u64 0] 38 by rw [← hwz5]; exact Has.new _ _ _)
  have HWz5 := Lib.hid hwz5
  clear hwz5
  have HBz5 := Lib.hid (HBz4.out.trans (kz5.mono (Nat.le_trans hbase HBz4.out.size)))
  have Hbz5 := Lib.hid (Hbz4.out.call kz5)
  have Hpz5 := Lib.hid (Hpz4.out.call kz5)
  clear kz5
  go_upto_region 6 with fail
  rw [HWz5.out]
  have hqp := eqPnt
  have qb0_5 : wz5.cell? ⟨w.heap.size, 0, none⟩ = some (.int .i64 size) := Hbz5.out.cell 0
  have qb1_5 : wz5.cell? ⟨w.heap.size, 1, none⟩ = some (.int .i64 m) := Hbz5.out.cell 1
  have qb2_5 : wz5.cell? ⟨w.heap.size, 2, none⟩ = some (.int .i64 sum) := Hbz5.out.cell 2
  have qb3_5 : wz5.cell? ⟨w.heap.size, 3, none⟩ = some (.int .i64 rng) := Hbz5.out.cell 3
  have qb4_5 : wz5.cell? ⟨w.heap.size, 4, none⟩ = some (.int .i64 last) := Hbz5.out.cell 4
  have lb_5 : w.heap.size < wz5.heap.size := Hbz5.out.lt
  have hcz6 := HRR.out wz5
  go_wp2_with fail
  refine hcz6.mono ?_
  rintro e wz6 ⟨rfl, kz6⟩
  clear hcz6 qb0_5 qb1_5 qb2_5 qb3_5 qb4_5 lb_5
  have HBz6 := Lib.hid (HBz5.out.trans (kz6.mono (Nat.le_trans hbase HBz5.out.size)))
  have Hbz6 := Lib.hid (Hbz5.out.call kz6)
  have Hpz6 := Lib.hid (Hpz5.out.call kz6)
  have Hzz6 := Lib.hid (Hzz5.out.call kz6)
  clear kz6
  have qb0_6 : wz6.cell? ⟨w.heap.size, 0, none⟩ = some (.int .i64 size) := Hbz6.out.cell 0
  have qb1_6 : wz6.cell? ⟨w.heap.size, 1, none⟩ = some (.int .i64 m) := Hbz6.out.cell 1
  have qb2_6 : wz6.cell? ⟨w.heap.size, 2, none⟩ = some (.int .i64 sum) := Hbz6.out.cell 2
  have qb3_6 : wz6.cell? ⟨w.heap.size, 3, none⟩ = some (.int .i64 rng) := Hbz6.out.cell 3
  have qb4_6 : wz6.cell? ⟨w.heap.size, 4, none⟩ = some (.int .i64 last) := Hbz6.out.cell 4
  have lb_6 : w.heap.size < wz6.heap.size := Hbz6.out.lt
  have hcz7 := HSU.out wz6
  go_wp2_with fail
  refine hcz7.mono ?_
  rintro e wz7 ⟨rfl, kz7⟩
  clear hcz7 qb0_6 qb1_6 qb2_6 qb3_6 qb4_6 lb_6
  have HBz7 := Lib.hid (HBz6.out.trans (kz7.mono (Nat.le_trans hbase HBz6.out.size)))
  have Hbz7 := Lib.hid (Hbz6.out.call kz7)
  have Hpz7 := Lib.hid (Hpz6.out.call kz7)
  have Hzz7 := Lib.hid (Hzz6.out.call kz7)
  clear kz7
  have qb0_7 : wz7.cell? ⟨w.heap.size, 0, none⟩ = some (.int .i64 size) := Hbz7.out.cell 0
  have qb1_7 : wz7.cell? ⟨w.heap.size, 1, none⟩ = some (.int .i64 m) := Hbz7.out.cell 1
  have qb2_7 : wz7.cell? ⟨w.heap.size, 2, none⟩ = some (.int .i64 sum) := Hbz7.out.cell 2
  have qb3_7 : wz7.cell? ⟨w.heap.size, 3, none⟩ = some (.int .i64 rng) := Hbz7.out.cell 3
  have qb4_7 : wz7.cell? ⟨w.heap.size, 4, none⟩ = some (.int .i64 last) := Hbz7.out.cell 4
  have lb_7 : w.heap.size < wz7.heap.size := Hbz7.out.lt
  have qp0_7 : wz7.cell? ⟨wz1.heap.size, 0, none⟩ = some (.int .i64 pa) := Hpz7.out.cell 0
  have qp1_7 : wz7.cell? ⟨wz1.heap.size, 1, none⟩ = some (.int .i64 pb) := Hpz7.out.cell 1
  have qp2_7 : wz7.cell? ⟨wz1.heap.size, 2, none⟩ = some (.int .i64 pc) := Hpz7.out.cell 2
  have qp3_7 : wz7.cell? ⟨wz1.heap.size, 3, none⟩ = some (.int .u64 pd) := Hpz7.out.cell 3
  have qp4_7 : wz7.cell? ⟨wz1.heap.size, 4, none⟩ = some (.int .u64 pe) := Hpz7.out.cell 4
  have lp_7 : wz1.heap.size < wz7.heap.size := Hpz7.out.lt
  have qz0_7 : wz7.cell? ⟨wz4.heap.size, 0, none⟩ = some (.int .i64 0) := Hzz7.out.cell 0
  have qz1_7 : wz7.cell? ⟨wz4.heap.size, 1, none⟩ = some (.int .i64 0) := Hzz7.out.cell 1
  have qz2_7 : wz7.cell? ⟨wz4.heap.size, 2, none⟩ = some (.int .i64 0) := Hzz7.out.cell 2
  have qz3_7 : wz7.cell? ⟨wz4.heap.size, 3, none⟩ = some (.int .u64 0) := Hzz7.out.cell 3
  have qz4_7 : wz7.cell? ⟨wz4.heap.size, 4, none⟩ = some (.int .u64 0) := Hzz7.out.cell 4
  have lz_7 : wz4.heap.size < wz7.heap.size := Hzz7.out.lt
  go_upto_region 12 with fail
  clear qb0_7 qb1_7 qb2_7 qb3_7 qb4_7 lb_7 qp0_7 qp1_7 qp2_7 qp3_7 qp4_7 lp_7 qz0_7 qz1_7 qz2_7 qz3_7 qz4_7 lz_7
  refine wp_region_held_drew (S := (fun W => W.cell? ⟨w.heap.size, 0, none⟩ = some (.int .i64 size) ∧ W.cell? ⟨w.heap.size, 1, none⟩ = some (.int .i64 m) ∧ W.cell? ⟨w.heap.size, 2, none⟩ = some (.int .i64 sum) ∧ W.cell? ⟨w.heap.size, 3, none⟩ = some (.int .i64 rng) ∧ W.cell? ⟨w.heap.size, 4, none⟩ = some (.int .i64 last) ∧ W.cell? ⟨wz1.heap.size, 0, none⟩ = some (.int .i64 pa) ∧ W.cell? ⟨wz1.heap.size, 1, none⟩ = some (.int .i64 pb) ∧ W.cell? ⟨wz1.heap.size, 2, none⟩ = some (.int .i64 pc) ∧ W.cell? ⟨wz1.heap.size, 3, none⟩ = some (.int .u64 pd) ∧ W.cell? ⟨wz1.heap.size, 4, none⟩ = some (.int .u64 pe))) (by kernel_rfl) ⟨Hbz7.out.cell 0, Hbz7.out.cell 1, Hbz7.out.cell 2, Hbz7.out.cell 3, Hbz7.out.cell 4, Hpz7.out.cell 0, Hpz7.out.cell 1, Hpz7.out.cell 2, Hpz7.out.cell 3, Hpz7.out.cell 4⟩ (fun hHeld => ?_)
  refine regTake 0 (some 56) (v := ?_) rfl rfl (by kernel_rfl) (by kernel_rfl) (by kernel_rfl) (fun _ _ _ h => h) (by rfl) hHeld ?_ ?_
  rotate_left 1
  · (intro w hSw; (try dsimp only at hSw); go_simp; try with_reducible rfl)
  simp only [Act.put, List.setIfInBounds_toArray, List.set_cons_zero, List.set_cons_succ]
  refine regTake 1 (some 57) (v := ?_) rfl rfl (by kernel_rfl) (by kernel_rfl) (by kernel_rfl) (fun _ _ _ h => h) (by rfl) hHeld ?_ ?_
  rotate_left 1
  · (intro w hSw; (try dsimp only at hSw); go_simp; try with_reducible rfl)
  simp only [Act.put, List.setIfInBounds_toArray, List.set_cons_zero, List.set_cons_succ]
  refine regTake 2 (some 58) (v := ?_) rfl rfl (by kernel_rfl) (by kernel_rfl) (by kernel_rfl) (fun _ _ _ h => h) (by rfl) hHeld ?_ ?_
  rotate_left 1
  · (intro w hSw; (try dsimp only at hSw); go_simp; try with_reducible rfl)
  simp only [Act.put, List.setIfInBounds_toArray, List.set_cons_zero, List.set_cons_succ]
  refine regTake 3 (some 59) (v := ?_) rfl rfl (by kernel_rfl) (by kernel_rfl) (by kernel_rfl) (fun _ _ _ h => h) (by rfl) hHeld ?_ ?_
  rotate_left 1
  · (intro w hSw; (try dsimp only at hSw); go_simp; try with_reducible rfl)
  simp only [Act.put, List.setIfInBounds_toArray, List.set_cons_zero, List.set_cons_succ]
  refine regTake 4 (some 60) (v := ?_) rfl rfl (by kernel_rfl) (by kernel_rfl) (by kernel_rfl) (fun _ _ _ h => h) (by rfl) hHeld ?_ ?_
  rotate_left 1
  · (intro w hSw; (try dsimp only at hSw); go_simp; try with_reducible rfl)
  simp only [Act.put, List.setIfInBounds_toArray, List.set_cons_zero, List.set_cons_succ]
  refine regTake 5 (some 61) (v := ?_) rfl rfl (by kernel_rfl) (by kernel_rfl) (by kernel_rfl) (fun _ _ _ h => h) (by rfl) hHeld ?_ ?_
  rotate_left 1
  · (intro w hSw; (try dsimp only at hSw); go_simp; try with_reducible rfl)
  simp only [Act.put, List.setIfInBounds_toArray, List.set_cons_zero, List.set_cons_succ]
  refine regCall 6 (some 62) (f := 18) (args := ?_) rfl rfl (by kernel_rfl) (by rfl) ?_ ?_
  rotate_left 1
  · (go_simp; try with_reducible rfl)
  refine (HRP.out _).mono ?_
  rintro e wx6 ⟨rfl, k6⟩
  refine ⟨_, rfl, ⟨(Hbz7.out.step k6 rfl).cell 0, (Hbz7.out.step k6 rfl).cell 1, (Hbz7.out.step k6 rfl).cell 2, (Hbz7.out.step k6 rfl).cell 3, (Hbz7.out.step k6 rfl).cell 4, (Hpz7.out.step k6 rfl).cell 0, (Hpz7.out.step k6 rfl).cell 1, (Hpz7.out.step k6 rfl).cell 2, (Hpz7.out.step k6 rfl).cell 3, (Hpz7.out.step k6 rfl).cell 4⟩, fun hHeld => ?_⟩
  simp only [Act.put, List.setIfInBounds_toArray, List.set_cons_zero, List.set_cons_succ]
  have HBs := Lib.hid (HBz7.out.drew.trans (k6.mono HBz7.out.drew.size))
  have Hs0 := Lib.hid (Hbz7.out.step k6 rfl)
  have Hs1 := Lib.hid (Hpz7.out.step k6 rfl)
  clear k6
  refine regTake 7 (some 63) (v := ?_) rfl rfl (by kernel_rfl) (by kernel_rfl) (by kernel_rfl) (fun _ _ _ h => h) (by rfl) hHeld ?_ ?_
  rotate_left 1
  · (intro w hSw; (try dsimp only at hSw); go_simp; try with_reducible rfl)
  simp only [Act.put, List.setIfInBounds_toArray, List.set_cons_zero, List.set_cons_succ]
  refine regTake 8 (some 64) (v := ?_) rfl rfl (by kernel_rfl) (by kernel_rfl) (by kernel_rfl) (fun _ _ _ h => h) (by rfl) hHeld ?_ ?_
  rotate_left 1
  · (intro w hSw; (try dsimp only at hSw); go_simp; try with_reducible rfl)
  simp only [Act.put, List.setIfInBounds_toArray, List.set_cons_zero, List.set_cons_succ]
  refine regTake 9 (some 55) (v := ?_) rfl rfl (by kernel_rfl) (by kernel_rfl) (by kernel_rfl) (fun _ _ _ h => h) (by rfl) hHeld ?_ ?_
  rotate_left 1
  · (intro w hSw; (try dsimp only at hSw); go_simp; try with_reducible rfl)
  simp only [Act.put, List.setIfInBounds_toArray, List.set_cons_zero, List.set_cons_succ]
  refine wpAnyH_done (by kernel_rfl) ?_ _
  clear hHeld
  have qb0_8 : wx6.cell? ⟨w.heap.size, 0, none⟩ = some (.int .i64 size) := Hs0.out.cell 0
  have qb1_8 : wx6.cell? ⟨w.heap.size, 1, none⟩ = some (.int .i64 m) := Hs0.out.cell 1
  have qb2_8 : wx6.cell? ⟨w.heap.size, 2, none⟩ = some (.int .i64 sum) := Hs0.out.cell 2
  have qb3_8 : wx6.cell? ⟨w.heap.size, 3, none⟩ = some (.int .i64 rng) := Hs0.out.cell 3
  have qb4_8 : wx6.cell? ⟨w.heap.size, 4, none⟩ = some (.int .i64 last) := Hs0.out.cell 4
  have lb_8 : w.heap.size < wx6.heap.size := Hs0.out.lt
  have hcz9 := HRR.out wx6
  go_wp2_with fail
  refine hcz9.mono ?_
  rintro e wz9 ⟨rfl, kz9⟩
  clear hcz9 qb0_8 qb1_8 qb2_8 qb3_8 qb4_8 lb_8
  have HBz9 := Lib.hid (HBs.out.trans (kz9.mono (Nat.le_trans hbase HBs.out.size)))
  have Hbz9 := Lib.hid (Hs0.out.call kz9)
  clear kz9
  have qb0_9 : wz9.cell? ⟨w.heap.size, 0, none⟩ = some (.int .i64 size) := Hbz9.out.cell 0
  have qb1_9 : wz9.cell? ⟨w.heap.size, 1, none⟩ = some (.int .i64 m) := Hbz9.out.cell 1
  have qb2_9 : wz9.cell? ⟨w.heap.size, 2, none⟩ = some (.int .i64 sum) := Hbz9.out.cell 2
  have qb3_9 : wz9.cell? ⟨w.heap.size, 3, none⟩ = some (.int .i64 rng) := Hbz9.out.cell 3
  have qb4_9 : wz9.cell? ⟨w.heap.size, 4, none⟩ = some (.int .i64 last) := Hbz9.out.cell 4
  have lb_9 : w.heap.size < wz9.heap.size := Hbz9.out.lt
  go_wp2
  go_ret
  exact ⟨rfl, HBz9.out⟩
set_option linter.unusedSimpArgs false in
set_option linter.unusedVariables false in
set_option maxHeartbeats 8000000 in
set_option maxRecDepth 100000 in
theorem tells15_1hi1 (size m sum rng last s r pa pb pc pd pe wv : Int) (w : World) (r1 : ¬ r < 0) (r2 : 2000000 < r) (m2 : m < 2)
    (HPO : Hid (∀ W, Calls Try.prog 15 #[.agg #[.int .i64 size, .int .i64 m, .int .i64 sum, .int .i64 rng, .int .i64 last], .int .i64 s] W fun e w' => e = .returned (.tuple #[.agg #[.int .i64 0, .int .i64 0, .int .i64 0, .int .u64 0, .int .u64 0], .int .i64 12]) ∧ Below W.heap.size W w'))
    (HWI : Hid (∀ W, Calls Try.prog 16 #[.agg #[.int .i64 size, .int .i64 m, .int .i64 sum, .int .i64 rng, .int .i64 last], .int .i64 r] W fun e w' => e = .returned (.tuple #[.int .i64 0, .int .i64 1]) ∧ Below W.heap.size W w'))
    (HAL : Hid (∀ W, Calls Try.prog 12 #[] W fun e w' => e = .returned (.bool true) ∧ Below W.heap.size W w'))
    (HRR : Hid (∀ W, Calls Try.prog 11 #[.agg #[.int .i64 size, .int .i64 m, .int .i64 sum, .int .i64 rng, .int .i64 last]] W fun e w' => e = .returned (.bool true) ∧ Below W.heap.size W w'))
    (HSU : Hid (∀ W, Calls Try.prog 17 #[.agg #[.int .i64 size, .int .i64 m, .int .i64 sum, .int .i64 rng, .int .i64 last], .int .i64 s] W fun e w' => e = .returned (.bool true) ∧ Below W.heap.size W w'))
    : Calls Try.prog 4 #[.agg #[.int .i64 size, .int .i64 m, .int .i64 sum, .int .i64 rng, .int .i64 last], .int .i64 s, .int .i64 r] w fun e w' => e = .returned (.bool true) ∧ Below w.heap.size w w' := by
  obtain ⟨w1, hw1⟩ : ∃ w1, w.alloc (.cells #[.int .i64 size, .int .i64 m, .int .i64 sum, .int .i64 rng, .int .i64 last] 23) = w1 := ⟨_, rfl⟩
  have HX1 := Lib.hid (show Has w1 w.heap.size [.int .i64 size, .int .i64 m, .int .i64 sum, .int .i64 rng, .int .i64 last] 23 by rw [← hw1]; exact Has.new w _ _)
  have HB1 := Lib.hid (show Below w.heap.size w w1 by rw [← hw1]; exact (Below.refl _ _).alloc (Nat.le_refl _) _)
  have HW1 := Lib.hid hw1
  have hbase := Nat.le_refl w.heap.size
  clear hw1
  go_enter Try.func4, Try.ntmps4
  go_upto_region 1 with fail
  rw [HW1.out]
  have qb0_0 : w1.cell? ⟨w.heap.size, 0, none⟩ = some (.int .i64 size) := HX1.out.cell 0
  have qb1_0 : w1.cell? ⟨w.heap.size, 1, none⟩ = some (.int .i64 m) := HX1.out.cell 1
  have qb2_0 : w1.cell? ⟨w.heap.size, 2, none⟩ = some (.int .i64 sum) := HX1.out.cell 2
  have qb3_0 : w1.cell? ⟨w.heap.size, 3, none⟩ = some (.int .i64 rng) := HX1.out.cell 3
  have qb4_0 : w1.cell? ⟨w.heap.size, 4, none⟩ = some (.int .i64 last) := HX1.out.cell 4
  have lb_0 : w.heap.size < w1.heap.size := HX1.out.lt
  have hcz1 := HPO.out w1
  go_wp2_with fail
  refine hcz1.mono ?_
  rintro e wz1 ⟨rfl, kz1⟩
  clear hcz1 qb0_0 qb1_0 qb2_0 qb3_0 qb4_0 lb_0
  have HBz1 := Lib.hid (HB1.out.trans (kz1.mono (Nat.le_trans hbase HB1.out.size)))
  have Hbz1 := Lib.hid (HX1.out.call kz1)
  clear kz1
  obtain ⟨wz2, hwz2⟩ : ∃ wz2, wz1.alloc (.cells #[.int .i64 0, .int .i64 0, .int .i64 0, .int .u64 0, .int .u64 0] 38) = wz2 := ⟨_, rfl⟩
  have kz2 : Below wz1.heap.size wz1 wz2 := by rw [← hwz2]; exact (Below.refl _ _).alloc (Nat.le_refl _) _
  have Hpz2 := Lib.hid (show Has wz2 wz1.heap.size [.int .i64 0, .int .i64 0, .int .i64 0, .int .u64 0, .int .u64 0] 38 by rw [← hwz2]; exact Has.new _ _ _)
  have HWz2 := Lib.hid hwz2
  clear hwz2
  have HBz2 := Lib.hid (HBz1.out.trans (kz2.mono (Nat.le_trans hbase HBz1.out.size)))
  have Hbz2 := Lib.hid (Hbz1.out.call kz2)
  clear kz2
  have qb0_2 : wz1.cell? ⟨w.heap.size, 0, none⟩ = some (.int .i64 size) := Hbz1.out.cell 0
  have qb1_2 : wz1.cell? ⟨w.heap.size, 1, none⟩ = some (.int .i64 m) := Hbz1.out.cell 1
  have qb2_2 : wz1.cell? ⟨w.heap.size, 2, none⟩ = some (.int .i64 sum) := Hbz1.out.cell 2
  have qb3_2 : wz1.cell? ⟨w.heap.size, 3, none⟩ = some (.int .i64 rng) := Hbz1.out.cell 3
  have qb4_2 : wz1.cell? ⟨w.heap.size, 4, none⟩ = some (.int .i64 last) := Hbz1.out.cell 4
  have lb_2 : w.heap.size < wz1.heap.size := Hbz1.out.lt
  have hcz3 := HWI.out wz2
  go_wp2_with fail
  rw [HWz2.out]
  refine hcz3.mono ?_
  rintro e wz3 ⟨rfl, kz3⟩
  clear hcz3 qb0_2 qb1_2 qb2_2 qb3_2 qb4_2 lb_2
  have HBz3 := Lib.hid (HBz2.out.trans (kz3.mono (Nat.le_trans hbase HBz2.out.size)))
  have Hbz3 := Lib.hid (Hbz2.out.call kz3)
  have Hpz3 := Lib.hid (Hpz2.out.call kz3)
  clear kz3
  have hcz4 := HAL.out wz3
  go_wp2_with fail
  refine hcz4.mono ?_
  rintro e wz4 ⟨rfl, kz4⟩
  clear hcz4
  have HBz4 := Lib.hid (HBz3.out.trans (kz4.mono (Nat.le_trans hbase HBz3.out.size)))
  have Hbz4 := Lib.hid (Hbz3.out.call kz4)
  have Hpz4 := Lib.hid (Hpz3.out.call kz4)
  clear kz4
  obtain ⟨wz5, hwz5⟩ : ∃ wz5, wz4.alloc (.cells #[.int .i64 0, .int .i64 0, .int .i64 0, .int .u64 0, .int .u64 0] 38) = wz5 := ⟨_, rfl⟩
  have kz5 : Below wz4.heap.size wz4 wz5 := by rw [← hwz5]; exact (Below.refl _ _).alloc (Nat.le_refl _) _
  have Hzz5 := Lib.hid (show Has wz5 wz4.heap.size [.int .i64 0, .int .i64 0, .int .i64 0, .int .u64 0, .int .u64 0] 38 by rw [← hwz5]; exact Has.new _ _ _)
  have HWz5 := Lib.hid hwz5
  clear hwz5
  have HBz5 := Lib.hid (HBz4.out.trans (kz5.mono (Nat.le_trans hbase HBz4.out.size)))
  have Hbz5 := Lib.hid (Hbz4.out.call kz5)
  have Hpz5 := Lib.hid (Hpz4.out.call kz5)
  clear kz5
  go_upto_region 6 with fail
  rw [HWz5.out]
  have hqp := eqPnt
  have qb0_5 : wz5.cell? ⟨w.heap.size, 0, none⟩ = some (.int .i64 size) := Hbz5.out.cell 0
  have qb1_5 : wz5.cell? ⟨w.heap.size, 1, none⟩ = some (.int .i64 m) := Hbz5.out.cell 1
  have qb2_5 : wz5.cell? ⟨w.heap.size, 2, none⟩ = some (.int .i64 sum) := Hbz5.out.cell 2
  have qb3_5 : wz5.cell? ⟨w.heap.size, 3, none⟩ = some (.int .i64 rng) := Hbz5.out.cell 3
  have qb4_5 : wz5.cell? ⟨w.heap.size, 4, none⟩ = some (.int .i64 last) := Hbz5.out.cell 4
  have lb_5 : w.heap.size < wz5.heap.size := Hbz5.out.lt
  have hcz6 := HRR.out wz5
  go_wp2_with fail
  refine hcz6.mono ?_
  rintro e wz6 ⟨rfl, kz6⟩
  clear hcz6 qb0_5 qb1_5 qb2_5 qb3_5 qb4_5 lb_5
  have HBz6 := Lib.hid (HBz5.out.trans (kz6.mono (Nat.le_trans hbase HBz5.out.size)))
  have Hbz6 := Lib.hid (Hbz5.out.call kz6)
  have Hpz6 := Lib.hid (Hpz5.out.call kz6)
  have Hzz6 := Lib.hid (Hzz5.out.call kz6)
  clear kz6
  have qb0_6 : wz6.cell? ⟨w.heap.size, 0, none⟩ = some (.int .i64 size) := Hbz6.out.cell 0
  have qb1_6 : wz6.cell? ⟨w.heap.size, 1, none⟩ = some (.int .i64 m) := Hbz6.out.cell 1
  have qb2_6 : wz6.cell? ⟨w.heap.size, 2, none⟩ = some (.int .i64 sum) := Hbz6.out.cell 2
  have qb3_6 : wz6.cell? ⟨w.heap.size, 3, none⟩ = some (.int .i64 rng) := Hbz6.out.cell 3
  have qb4_6 : wz6.cell? ⟨w.heap.size, 4, none⟩ = some (.int .i64 last) := Hbz6.out.cell 4
  have lb_6 : w.heap.size < wz6.heap.size := Hbz6.out.lt
  have hcz7 := HSU.out wz6
  go_wp2_with fail
  refine hcz7.mono ?_
  rintro e wz7 ⟨rfl, kz7⟩
  clear hcz7 qb0_6 qb1_6 qb2_6 qb3_6 qb4_6 lb_6
  have HBz7 := Lib.hid (HBz6.out.trans (kz7.mono (Nat.le_trans hbase HBz6.out.size)))
  have Hbz7 := Lib.hid (Hbz6.out.call kz7)
  have Hpz7 := Lib.hid (Hpz6.out.call kz7)
  have Hzz7 := Lib.hid (Hzz6.out.call kz7)
  clear kz7
  have qb0_7 : wz7.cell? ⟨w.heap.size, 0, none⟩ = some (.int .i64 size) := Hbz7.out.cell 0
  have qb1_7 : wz7.cell? ⟨w.heap.size, 1, none⟩ = some (.int .i64 m) := Hbz7.out.cell 1
  have qb2_7 : wz7.cell? ⟨w.heap.size, 2, none⟩ = some (.int .i64 sum) := Hbz7.out.cell 2
  have qb3_7 : wz7.cell? ⟨w.heap.size, 3, none⟩ = some (.int .i64 rng) := Hbz7.out.cell 3
  have qb4_7 : wz7.cell? ⟨w.heap.size, 4, none⟩ = some (.int .i64 last) := Hbz7.out.cell 4
  have lb_7 : w.heap.size < wz7.heap.size := Hbz7.out.lt
  have qp0_7 : wz7.cell? ⟨wz1.heap.size, 0, none⟩ = some (.int .i64 0) := Hpz7.out.cell 0
  have qp1_7 : wz7.cell? ⟨wz1.heap.size, 1, none⟩ = some (.int .i64 0) := Hpz7.out.cell 1
  have qp2_7 : wz7.cell? ⟨wz1.heap.size, 2, none⟩ = some (.int .i64 0) := Hpz7.out.cell 2
  have qp3_7 : wz7.cell? ⟨wz1.heap.size, 3, none⟩ = some (.int .u64 0) := Hpz7.out.cell 3
  have qp4_7 : wz7.cell? ⟨wz1.heap.size, 4, none⟩ = some (.int .u64 0) := Hpz7.out.cell 4
  have lp_7 : wz1.heap.size < wz7.heap.size := Hpz7.out.lt
  have qz0_7 : wz7.cell? ⟨wz4.heap.size, 0, none⟩ = some (.int .i64 0) := Hzz7.out.cell 0
  have qz1_7 : wz7.cell? ⟨wz4.heap.size, 1, none⟩ = some (.int .i64 0) := Hzz7.out.cell 1
  have qz2_7 : wz7.cell? ⟨wz4.heap.size, 2, none⟩ = some (.int .i64 0) := Hzz7.out.cell 2
  have qz3_7 : wz7.cell? ⟨wz4.heap.size, 3, none⟩ = some (.int .u64 0) := Hzz7.out.cell 3
  have qz4_7 : wz7.cell? ⟨wz4.heap.size, 4, none⟩ = some (.int .u64 0) := Hzz7.out.cell 4
  have lz_7 : wz4.heap.size < wz7.heap.size := Hzz7.out.lt
  have hcz8 := HRR.out wz7
  go_wp2_with fail
  refine hcz8.mono ?_
  rintro e wz8 ⟨rfl, kz8⟩
  clear hcz8 qb0_7 qb1_7 qb2_7 qb3_7 qb4_7 lb_7 qp0_7 qp1_7 qp2_7 qp3_7 qp4_7 lp_7 qz0_7 qz1_7 qz2_7 qz3_7 qz4_7 lz_7
  have HBz8 := Lib.hid (HBz7.out.trans (kz8.mono (Nat.le_trans hbase HBz7.out.size)))
  have Hbz8 := Lib.hid (Hbz7.out.call kz8)
  have Hpz8 := Lib.hid (Hpz7.out.call kz8)
  have Hzz8 := Lib.hid (Hzz7.out.call kz8)
  clear kz8
  have qb0_8 : wz8.cell? ⟨w.heap.size, 0, none⟩ = some (.int .i64 size) := Hbz8.out.cell 0
  have qb1_8 : wz8.cell? ⟨w.heap.size, 1, none⟩ = some (.int .i64 m) := Hbz8.out.cell 1
  have qb2_8 : wz8.cell? ⟨w.heap.size, 2, none⟩ = some (.int .i64 sum) := Hbz8.out.cell 2
  have qb3_8 : wz8.cell? ⟨w.heap.size, 3, none⟩ = some (.int .i64 rng) := Hbz8.out.cell 3
  have qb4_8 : wz8.cell? ⟨w.heap.size, 4, none⟩ = some (.int .i64 last) := Hbz8.out.cell 4
  have lb_8 : w.heap.size < wz8.heap.size := Hbz8.out.lt
  go_wp2
  go_ret
  exact ⟨rfl, HBz8.out⟩
set_option linter.unusedSimpArgs false in
set_option linter.unusedVariables false in
set_option maxHeartbeats 8000000 in
set_option maxRecDepth 100000 in
theorem tells15_1hi0 (size m sum rng last s r pa pb pc pd pe wv : Int) (w : World) (r1 : ¬ r < 0) (r2 : 2000000 < r) (m2 : ¬ m < 2)
    (HPO : Hid (∀ W, Calls Try.prog 15 #[.agg #[.int .i64 size, .int .i64 m, .int .i64 sum, .int .i64 rng, .int .i64 last], .int .i64 s] W fun e w' => e = .returned (.tuple #[.agg #[.int .i64 pa, .int .i64 pb, .int .i64 pc, .int .u64 pd, .int .u64 pe], .int .i64 0]) ∧ Below W.heap.size W w'))
    (HWI : Hid (∀ W, Calls Try.prog 16 #[.agg #[.int .i64 size, .int .i64 m, .int .i64 sum, .int .i64 rng, .int .i64 last], .int .i64 r] W fun e w' => e = .returned (.tuple #[.int .i64 0, .int .i64 1]) ∧ Below W.heap.size W w'))
    (HAL : Hid (∀ W, Calls Try.prog 12 #[] W fun e w' => e = .returned (.bool true) ∧ Below W.heap.size W w'))
    (HRR : Hid (∀ W, Calls Try.prog 11 #[.agg #[.int .i64 size, .int .i64 m, .int .i64 sum, .int .i64 rng, .int .i64 last]] W fun e w' => e = .returned (.bool true) ∧ Below W.heap.size W w'))
    (HSU : Hid (∀ W, Calls Try.prog 17 #[.agg #[.int .i64 size, .int .i64 m, .int .i64 sum, .int .i64 rng, .int .i64 last], .int .i64 s] W fun e w' => e = .returned (.bool true) ∧ Below W.heap.size W w'))
    (HRP : Hid (∀ W, Calls Try.prog 18 #[.agg #[.int .i64 size, .int .i64 m, .int .i64 sum, .int .i64 rng, .int .i64 last], .int .i64 s] W fun e w' => e = .returned (.agg #[.int .i64 pa, .int .i64 pb, .int .i64 pc, .int .u64 pd, .int .u64 pe]) ∧ Below W.heap.size W w'))
    : Calls Try.prog 4 #[.agg #[.int .i64 size, .int .i64 m, .int .i64 sum, .int .i64 rng, .int .i64 last], .int .i64 s, .int .i64 r] w fun e w' => e = .returned (.bool true) ∧ Below w.heap.size w w' := by
  obtain ⟨w1, hw1⟩ : ∃ w1, w.alloc (.cells #[.int .i64 size, .int .i64 m, .int .i64 sum, .int .i64 rng, .int .i64 last] 23) = w1 := ⟨_, rfl⟩
  have HX1 := Lib.hid (show Has w1 w.heap.size [.int .i64 size, .int .i64 m, .int .i64 sum, .int .i64 rng, .int .i64 last] 23 by rw [← hw1]; exact Has.new w _ _)
  have HB1 := Lib.hid (show Below w.heap.size w w1 by rw [← hw1]; exact (Below.refl _ _).alloc (Nat.le_refl _) _)
  have HW1 := Lib.hid hw1
  have hbase := Nat.le_refl w.heap.size
  clear hw1
  go_enter Try.func4, Try.ntmps4
  go_upto_region 1 with fail
  rw [HW1.out]
  have qb0_0 : w1.cell? ⟨w.heap.size, 0, none⟩ = some (.int .i64 size) := HX1.out.cell 0
  have qb1_0 : w1.cell? ⟨w.heap.size, 1, none⟩ = some (.int .i64 m) := HX1.out.cell 1
  have qb2_0 : w1.cell? ⟨w.heap.size, 2, none⟩ = some (.int .i64 sum) := HX1.out.cell 2
  have qb3_0 : w1.cell? ⟨w.heap.size, 3, none⟩ = some (.int .i64 rng) := HX1.out.cell 3
  have qb4_0 : w1.cell? ⟨w.heap.size, 4, none⟩ = some (.int .i64 last) := HX1.out.cell 4
  have lb_0 : w.heap.size < w1.heap.size := HX1.out.lt
  have hcz1 := HPO.out w1
  go_wp2_with fail
  refine hcz1.mono ?_
  rintro e wz1 ⟨rfl, kz1⟩
  clear hcz1 qb0_0 qb1_0 qb2_0 qb3_0 qb4_0 lb_0
  have HBz1 := Lib.hid (HB1.out.trans (kz1.mono (Nat.le_trans hbase HB1.out.size)))
  have Hbz1 := Lib.hid (HX1.out.call kz1)
  clear kz1
  obtain ⟨wz2, hwz2⟩ : ∃ wz2, wz1.alloc (.cells #[.int .i64 pa, .int .i64 pb, .int .i64 pc, .int .u64 pd, .int .u64 pe] 38) = wz2 := ⟨_, rfl⟩
  have kz2 : Below wz1.heap.size wz1 wz2 := by rw [← hwz2]; exact (Below.refl _ _).alloc (Nat.le_refl _) _
  have Hpz2 := Lib.hid (show Has wz2 wz1.heap.size [.int .i64 pa, .int .i64 pb, .int .i64 pc, .int .u64 pd, .int .u64 pe] 38 by rw [← hwz2]; exact Has.new _ _ _)
  have HWz2 := Lib.hid hwz2
  clear hwz2
  have HBz2 := Lib.hid (HBz1.out.trans (kz2.mono (Nat.le_trans hbase HBz1.out.size)))
  have Hbz2 := Lib.hid (Hbz1.out.call kz2)
  clear kz2
  have qb0_2 : wz1.cell? ⟨w.heap.size, 0, none⟩ = some (.int .i64 size) := Hbz1.out.cell 0
  have qb1_2 : wz1.cell? ⟨w.heap.size, 1, none⟩ = some (.int .i64 m) := Hbz1.out.cell 1
  have qb2_2 : wz1.cell? ⟨w.heap.size, 2, none⟩ = some (.int .i64 sum) := Hbz1.out.cell 2
  have qb3_2 : wz1.cell? ⟨w.heap.size, 3, none⟩ = some (.int .i64 rng) := Hbz1.out.cell 3
  have qb4_2 : wz1.cell? ⟨w.heap.size, 4, none⟩ = some (.int .i64 last) := Hbz1.out.cell 4
  have lb_2 : w.heap.size < wz1.heap.size := Hbz1.out.lt
  have hcz3 := HWI.out wz2
  go_wp2_with fail
  rw [HWz2.out]
  refine hcz3.mono ?_
  rintro e wz3 ⟨rfl, kz3⟩
  clear hcz3 qb0_2 qb1_2 qb2_2 qb3_2 qb4_2 lb_2
  have HBz3 := Lib.hid (HBz2.out.trans (kz3.mono (Nat.le_trans hbase HBz2.out.size)))
  have Hbz3 := Lib.hid (Hbz2.out.call kz3)
  have Hpz3 := Lib.hid (Hpz2.out.call kz3)
  clear kz3
  have hcz4 := HAL.out wz3
  go_wp2_with fail
  refine hcz4.mono ?_
  rintro e wz4 ⟨rfl, kz4⟩
  clear hcz4
  have HBz4 := Lib.hid (HBz3.out.trans (kz4.mono (Nat.le_trans hbase HBz3.out.size)))
  have Hbz4 := Lib.hid (Hbz3.out.call kz4)
  have Hpz4 := Lib.hid (Hpz3.out.call kz4)
  clear kz4
  obtain ⟨wz5, hwz5⟩ : ∃ wz5, wz4.alloc (.cells #[.int .i64 0, .int .i64 0, .int .i64 0, .int .u64 0, .int .u64 0] 38) = wz5 := ⟨_, rfl⟩
  have kz5 : Below wz4.heap.size wz4 wz5 := by rw [← hwz5]; exact (Below.refl _ _).alloc (Nat.le_refl _) _
  have Hzz5 := Lib.hid (show Has wz5 wz4.heap.size [.int .i64 0, .int .i64 0, .int .i64 0, .int .u64 0, .int .u64 0] 38 by rw [← hwz5]; exact Has.new _ _ _)
  have HWz5 := Lib.hid hwz5
  clear hwz5
  have HBz5 := Lib.hid (HBz4.out.trans (kz5.mono (Nat.le_trans hbase HBz4.out.size)))
  have Hbz5 := Lib.hid (Hbz4.out.call kz5)
  have Hpz5 := Lib.hid (Hpz4.out.call kz5)
  clear kz5
  go_upto_region 6 with fail
  rw [HWz5.out]
  have hqp := eqPnt
  have qb0_5 : wz5.cell? ⟨w.heap.size, 0, none⟩ = some (.int .i64 size) := Hbz5.out.cell 0
  have qb1_5 : wz5.cell? ⟨w.heap.size, 1, none⟩ = some (.int .i64 m) := Hbz5.out.cell 1
  have qb2_5 : wz5.cell? ⟨w.heap.size, 2, none⟩ = some (.int .i64 sum) := Hbz5.out.cell 2
  have qb3_5 : wz5.cell? ⟨w.heap.size, 3, none⟩ = some (.int .i64 rng) := Hbz5.out.cell 3
  have qb4_5 : wz5.cell? ⟨w.heap.size, 4, none⟩ = some (.int .i64 last) := Hbz5.out.cell 4
  have lb_5 : w.heap.size < wz5.heap.size := Hbz5.out.lt
  have hcz6 := HRR.out wz5
  go_wp2_with fail
  refine hcz6.mono ?_
  rintro e wz6 ⟨rfl, kz6⟩
  clear hcz6 qb0_5 qb1_5 qb2_5 qb3_5 qb4_5 lb_5
  have HBz6 := Lib.hid (HBz5.out.trans (kz6.mono (Nat.le_trans hbase HBz5.out.size)))
  have Hbz6 := Lib.hid (Hbz5.out.call kz6)
  have Hpz6 := Lib.hid (Hpz5.out.call kz6)
  have Hzz6 := Lib.hid (Hzz5.out.call kz6)
  clear kz6
  have qb0_6 : wz6.cell? ⟨w.heap.size, 0, none⟩ = some (.int .i64 size) := Hbz6.out.cell 0
  have qb1_6 : wz6.cell? ⟨w.heap.size, 1, none⟩ = some (.int .i64 m) := Hbz6.out.cell 1
  have qb2_6 : wz6.cell? ⟨w.heap.size, 2, none⟩ = some (.int .i64 sum) := Hbz6.out.cell 2
  have qb3_6 : wz6.cell? ⟨w.heap.size, 3, none⟩ = some (.int .i64 rng) := Hbz6.out.cell 3
  have qb4_6 : wz6.cell? ⟨w.heap.size, 4, none⟩ = some (.int .i64 last) := Hbz6.out.cell 4
  have lb_6 : w.heap.size < wz6.heap.size := Hbz6.out.lt
  have hcz7 := HSU.out wz6
  go_wp2_with fail
  refine hcz7.mono ?_
  rintro e wz7 ⟨rfl, kz7⟩
  clear hcz7 qb0_6 qb1_6 qb2_6 qb3_6 qb4_6 lb_6
  have HBz7 := Lib.hid (HBz6.out.trans (kz7.mono (Nat.le_trans hbase HBz6.out.size)))
  have Hbz7 := Lib.hid (Hbz6.out.call kz7)
  have Hpz7 := Lib.hid (Hpz6.out.call kz7)
  have Hzz7 := Lib.hid (Hzz6.out.call kz7)
  clear kz7
  have qb0_7 : wz7.cell? ⟨w.heap.size, 0, none⟩ = some (.int .i64 size) := Hbz7.out.cell 0
  have qb1_7 : wz7.cell? ⟨w.heap.size, 1, none⟩ = some (.int .i64 m) := Hbz7.out.cell 1
  have qb2_7 : wz7.cell? ⟨w.heap.size, 2, none⟩ = some (.int .i64 sum) := Hbz7.out.cell 2
  have qb3_7 : wz7.cell? ⟨w.heap.size, 3, none⟩ = some (.int .i64 rng) := Hbz7.out.cell 3
  have qb4_7 : wz7.cell? ⟨w.heap.size, 4, none⟩ = some (.int .i64 last) := Hbz7.out.cell 4
  have lb_7 : w.heap.size < wz7.heap.size := Hbz7.out.lt
  have qp0_7 : wz7.cell? ⟨wz1.heap.size, 0, none⟩ = some (.int .i64 pa) := Hpz7.out.cell 0
  have qp1_7 : wz7.cell? ⟨wz1.heap.size, 1, none⟩ = some (.int .i64 pb) := Hpz7.out.cell 1
  have qp2_7 : wz7.cell? ⟨wz1.heap.size, 2, none⟩ = some (.int .i64 pc) := Hpz7.out.cell 2
  have qp3_7 : wz7.cell? ⟨wz1.heap.size, 3, none⟩ = some (.int .u64 pd) := Hpz7.out.cell 3
  have qp4_7 : wz7.cell? ⟨wz1.heap.size, 4, none⟩ = some (.int .u64 pe) := Hpz7.out.cell 4
  have lp_7 : wz1.heap.size < wz7.heap.size := Hpz7.out.lt
  have qz0_7 : wz7.cell? ⟨wz4.heap.size, 0, none⟩ = some (.int .i64 0) := Hzz7.out.cell 0
  have qz1_7 : wz7.cell? ⟨wz4.heap.size, 1, none⟩ = some (.int .i64 0) := Hzz7.out.cell 1
  have qz2_7 : wz7.cell? ⟨wz4.heap.size, 2, none⟩ = some (.int .i64 0) := Hzz7.out.cell 2
  have qz3_7 : wz7.cell? ⟨wz4.heap.size, 3, none⟩ = some (.int .u64 0) := Hzz7.out.cell 3
  have qz4_7 : wz7.cell? ⟨wz4.heap.size, 4, none⟩ = some (.int .u64 0) := Hzz7.out.cell 4
  have lz_7 : wz4.heap.size < wz7.heap.size := Hzz7.out.lt
  go_upto_region 12 with fail
  clear qb0_7 qb1_7 qb2_7 qb3_7 qb4_7 lb_7 qp0_7 qp1_7 qp2_7 qp3_7 qp4_7 lp_7 qz0_7 qz1_7 qz2_7 qz3_7 qz4_7 lz_7
  refine wp_region_held_drew (S := (fun W => W.cell? ⟨w.heap.size, 0, none⟩ = some (.int .i64 size) ∧ W.cell? ⟨w.heap.size, 1, none⟩ = some (.int .i64 m) ∧ W.cell? ⟨w.heap.size, 2, none⟩ = some (.int .i64 sum) ∧ W.cell? ⟨w.heap.size, 3, none⟩ = some (.int .i64 rng) ∧ W.cell? ⟨w.heap.size, 4, none⟩ = some (.int .i64 last) ∧ W.cell? ⟨wz1.heap.size, 0, none⟩ = some (.int .i64 pa) ∧ W.cell? ⟨wz1.heap.size, 1, none⟩ = some (.int .i64 pb) ∧ W.cell? ⟨wz1.heap.size, 2, none⟩ = some (.int .i64 pc) ∧ W.cell? ⟨wz1.heap.size, 3, none⟩ = some (.int .u64 pd) ∧ W.cell? ⟨wz1.heap.size, 4, none⟩ = some (.int .u64 pe))) (by kernel_rfl) ⟨Hbz7.out.cell 0, Hbz7.out.cell 1, Hbz7.out.cell 2, Hbz7.out.cell 3, Hbz7.out.cell 4, Hpz7.out.cell 0, Hpz7.out.cell 1, Hpz7.out.cell 2, Hpz7.out.cell 3, Hpz7.out.cell 4⟩ (fun hHeld => ?_)
  refine regTake 0 (some 56) (v := ?_) rfl rfl (by kernel_rfl) (by kernel_rfl) (by kernel_rfl) (fun _ _ _ h => h) (by rfl) hHeld ?_ ?_
  rotate_left 1
  · (intro w hSw; (try dsimp only at hSw); go_simp; try with_reducible rfl)
  simp only [Act.put, List.setIfInBounds_toArray, List.set_cons_zero, List.set_cons_succ]
  refine regTake 1 (some 57) (v := ?_) rfl rfl (by kernel_rfl) (by kernel_rfl) (by kernel_rfl) (fun _ _ _ h => h) (by rfl) hHeld ?_ ?_
  rotate_left 1
  · (intro w hSw; (try dsimp only at hSw); go_simp; try with_reducible rfl)
  simp only [Act.put, List.setIfInBounds_toArray, List.set_cons_zero, List.set_cons_succ]
  refine regTake 2 (some 58) (v := ?_) rfl rfl (by kernel_rfl) (by kernel_rfl) (by kernel_rfl) (fun _ _ _ h => h) (by rfl) hHeld ?_ ?_
  rotate_left 1
  · (intro w hSw; (try dsimp only at hSw); go_simp; try with_reducible rfl)
  simp only [Act.put, List.setIfInBounds_toArray, List.set_cons_zero, List.set_cons_succ]
  refine regTake 3 (some 59) (v := ?_) rfl rfl (by kernel_rfl) (by kernel_rfl) (by kernel_rfl) (fun _ _ _ h => h) (by rfl) hHeld ?_ ?_
  rotate_left 1
  · (intro w hSw; (try dsimp only at hSw); go_simp; try with_reducible rfl)
  simp only [Act.put, List.setIfInBounds_toArray, List.set_cons_zero, List.set_cons_succ]
  refine regTake 4 (some 60) (v := ?_) rfl rfl (by kernel_rfl) (by kernel_rfl) (by kernel_rfl) (fun _ _ _ h => h) (by rfl) hHeld ?_ ?_
  rotate_left 1
  · (intro w hSw; (try dsimp only at hSw); go_simp; try with_reducible rfl)
  simp only [Act.put, List.setIfInBounds_toArray, List.set_cons_zero, List.set_cons_succ]
  refine regTake 5 (some 61) (v := ?_) rfl rfl (by kernel_rfl) (by kernel_rfl) (by kernel_rfl) (fun _ _ _ h => h) (by rfl) hHeld ?_ ?_
  rotate_left 1
  · (intro w hSw; (try dsimp only at hSw); go_simp; try with_reducible rfl)
  simp only [Act.put, List.setIfInBounds_toArray, List.set_cons_zero, List.set_cons_succ]
  refine regCall 6 (some 62) (f := 18) (args := ?_) rfl rfl (by kernel_rfl) (by rfl) ?_ ?_
  rotate_left 1
  · (go_simp; try with_reducible rfl)
  refine (HRP.out _).mono ?_
  rintro e wx6 ⟨rfl, k6⟩
  refine ⟨_, rfl, ⟨(Hbz7.out.step k6 rfl).cell 0, (Hbz7.out.step k6 rfl).cell 1, (Hbz7.out.step k6 rfl).cell 2, (Hbz7.out.step k6 rfl).cell 3, (Hbz7.out.step k6 rfl).cell 4, (Hpz7.out.step k6 rfl).cell 0, (Hpz7.out.step k6 rfl).cell 1, (Hpz7.out.step k6 rfl).cell 2, (Hpz7.out.step k6 rfl).cell 3, (Hpz7.out.step k6 rfl).cell 4⟩, fun hHeld => ?_⟩
  simp only [Act.put, List.setIfInBounds_toArray, List.set_cons_zero, List.set_cons_succ]
  have HBs := Lib.hid (HBz7.out.drew.trans (k6.mono HBz7.out.drew.size))
  have Hs0 := Lib.hid (Hbz7.out.step k6 rfl)
  have Hs1 := Lib.hid (Hpz7.out.step k6 rfl)
  clear k6
  refine regTake 7 (some 63) (v := ?_) rfl rfl (by kernel_rfl) (by kernel_rfl) (by kernel_rfl) (fun _ _ _ h => h) (by rfl) hHeld ?_ ?_
  rotate_left 1
  · (intro w hSw; (try dsimp only at hSw); go_simp; try with_reducible rfl)
  simp only [Act.put, List.setIfInBounds_toArray, List.set_cons_zero, List.set_cons_succ]
  refine regTake 8 (some 64) (v := ?_) rfl rfl (by kernel_rfl) (by kernel_rfl) (by kernel_rfl) (fun _ _ _ h => h) (by rfl) hHeld ?_ ?_
  rotate_left 1
  · (intro w hSw; (try dsimp only at hSw); go_simp; try with_reducible rfl)
  simp only [Act.put, List.setIfInBounds_toArray, List.set_cons_zero, List.set_cons_succ]
  refine regTake 9 (some 55) (v := ?_) rfl rfl (by kernel_rfl) (by kernel_rfl) (by kernel_rfl) (fun _ _ _ h => h) (by rfl) hHeld ?_ ?_
  rotate_left 1
  · (intro w hSw; (try dsimp only at hSw); go_simp; try with_reducible rfl)
  simp only [Act.put, List.setIfInBounds_toArray, List.set_cons_zero, List.set_cons_succ]
  refine wpAnyH_done (by kernel_rfl) ?_ _
  clear hHeld
  have qb0_8 : wx6.cell? ⟨w.heap.size, 0, none⟩ = some (.int .i64 size) := Hs0.out.cell 0
  have qb1_8 : wx6.cell? ⟨w.heap.size, 1, none⟩ = some (.int .i64 m) := Hs0.out.cell 1
  have qb2_8 : wx6.cell? ⟨w.heap.size, 2, none⟩ = some (.int .i64 sum) := Hs0.out.cell 2
  have qb3_8 : wx6.cell? ⟨w.heap.size, 3, none⟩ = some (.int .i64 rng) := Hs0.out.cell 3
  have qb4_8 : wx6.cell? ⟨w.heap.size, 4, none⟩ = some (.int .i64 last) := Hs0.out.cell 4
  have lb_8 : w.heap.size < wx6.heap.size := Hs0.out.lt
  have hcz9 := HRR.out wx6
  go_wp2_with fail
  refine hcz9.mono ?_
  rintro e wz9 ⟨rfl, kz9⟩
  clear hcz9 qb0_8 qb1_8 qb2_8 qb3_8 qb4_8 lb_8
  have HBz9 := Lib.hid (HBs.out.trans (kz9.mono (Nat.le_trans hbase HBs.out.size)))
  have Hbz9 := Lib.hid (Hs0.out.call kz9)
  clear kz9
  have qb0_9 : wz9.cell? ⟨w.heap.size, 0, none⟩ = some (.int .i64 size) := Hbz9.out.cell 0
  have qb1_9 : wz9.cell? ⟨w.heap.size, 1, none⟩ = some (.int .i64 m) := Hbz9.out.cell 1
  have qb2_9 : wz9.cell? ⟨w.heap.size, 2, none⟩ = some (.int .i64 sum) := Hbz9.out.cell 2
  have qb3_9 : wz9.cell? ⟨w.heap.size, 3, none⟩ = some (.int .i64 rng) := Hbz9.out.cell 3
  have qb4_9 : wz9.cell? ⟨w.heap.size, 4, none⟩ = some (.int .i64 last) := Hbz9.out.cell 4
  have lb_9 : w.heap.size < wz9.heap.size := Hbz9.out.lt
  go_wp2
  go_ret
  exact ⟨rfl, HBz9.out⟩
set_option linter.unusedSimpArgs false in
set_option linter.unusedVariables false in
set_option maxHeartbeats 8000000 in
set_option maxRecDepth 100000 in
theorem tells15_1in1 (size m sum rng last s r pa pb pc pd pe wv : Int) (w : World) (r1 : ¬ r < 0) (r2 : ¬ 2000000 < r) (m2 : m < 2)
    (HPO : Hid (∀ W, Calls Try.prog 15 #[.agg #[.int .i64 size, .int .i64 m, .int .i64 sum, .int .i64 rng, .int .i64 last], .int .i64 s] W fun e w' => e = .returned (.tuple #[.agg #[.int .i64 0, .int .i64 0, .int .i64 0, .int .u64 0, .int .u64 0], .int .i64 12]) ∧ Below W.heap.size W w'))
    (HWI : Hid (∀ W, Calls Try.prog 16 #[.agg #[.int .i64 size, .int .i64 m, .int .i64 sum, .int .i64 rng, .int .i64 last], .int .i64 r] W fun e w' => e = .returned (.tuple #[.int .i64 0, .int .i64 12]) ∧ Below W.heap.size W w'))
    (HAL : Hid (∀ W, Calls Try.prog 12 #[] W fun e w' => e = .returned (.bool true) ∧ Below W.heap.size W w'))
    (HRR : Hid (∀ W, Calls Try.prog 11 #[.agg #[.int .i64 size, .int .i64 m, .int .i64 sum, .int .i64 rng, .int .i64 last]] W fun e w' => e = .returned (.bool true) ∧ Below W.heap.size W w'))
    (HSU : Hid (∀ W, Calls Try.prog 17 #[.agg #[.int .i64 size, .int .i64 m, .int .i64 sum, .int .i64 rng, .int .i64 last], .int .i64 s] W fun e w' => e = .returned (.bool true) ∧ Below W.heap.size W w'))
    : Calls Try.prog 4 #[.agg #[.int .i64 size, .int .i64 m, .int .i64 sum, .int .i64 rng, .int .i64 last], .int .i64 s, .int .i64 r] w fun e w' => e = .returned (.bool true) ∧ Below w.heap.size w w' := by
  obtain ⟨w1, hw1⟩ : ∃ w1, w.alloc (.cells #[.int .i64 size, .int .i64 m, .int .i64 sum, .int .i64 rng, .int .i64 last] 23) = w1 := ⟨_, rfl⟩
  have HX1 := Lib.hid (show Has w1 w.heap.size [.int .i64 size, .int .i64 m, .int .i64 sum, .int .i64 rng, .int .i64 last] 23 by rw [← hw1]; exact Has.new w _ _)
  have HB1 := Lib.hid (show Below w.heap.size w w1 by rw [← hw1]; exact (Below.refl _ _).alloc (Nat.le_refl _) _)
  have HW1 := Lib.hid hw1
  have hbase := Nat.le_refl w.heap.size
  clear hw1
  go_enter Try.func4, Try.ntmps4
  go_upto_region 1 with fail
  rw [HW1.out]
  have qb0_0 : w1.cell? ⟨w.heap.size, 0, none⟩ = some (.int .i64 size) := HX1.out.cell 0
  have qb1_0 : w1.cell? ⟨w.heap.size, 1, none⟩ = some (.int .i64 m) := HX1.out.cell 1
  have qb2_0 : w1.cell? ⟨w.heap.size, 2, none⟩ = some (.int .i64 sum) := HX1.out.cell 2
  have qb3_0 : w1.cell? ⟨w.heap.size, 3, none⟩ = some (.int .i64 rng) := HX1.out.cell 3
  have qb4_0 : w1.cell? ⟨w.heap.size, 4, none⟩ = some (.int .i64 last) := HX1.out.cell 4
  have lb_0 : w.heap.size < w1.heap.size := HX1.out.lt
  have hcz1 := HPO.out w1
  go_wp2_with fail
  refine hcz1.mono ?_
  rintro e wz1 ⟨rfl, kz1⟩
  clear hcz1 qb0_0 qb1_0 qb2_0 qb3_0 qb4_0 lb_0
  have HBz1 := Lib.hid (HB1.out.trans (kz1.mono (Nat.le_trans hbase HB1.out.size)))
  have Hbz1 := Lib.hid (HX1.out.call kz1)
  clear kz1
  obtain ⟨wz2, hwz2⟩ : ∃ wz2, wz1.alloc (.cells #[.int .i64 0, .int .i64 0, .int .i64 0, .int .u64 0, .int .u64 0] 38) = wz2 := ⟨_, rfl⟩
  have kz2 : Below wz1.heap.size wz1 wz2 := by rw [← hwz2]; exact (Below.refl _ _).alloc (Nat.le_refl _) _
  have Hpz2 := Lib.hid (show Has wz2 wz1.heap.size [.int .i64 0, .int .i64 0, .int .i64 0, .int .u64 0, .int .u64 0] 38 by rw [← hwz2]; exact Has.new _ _ _)
  have HWz2 := Lib.hid hwz2
  clear hwz2
  have HBz2 := Lib.hid (HBz1.out.trans (kz2.mono (Nat.le_trans hbase HBz1.out.size)))
  have Hbz2 := Lib.hid (Hbz1.out.call kz2)
  clear kz2
  have qb0_2 : wz1.cell? ⟨w.heap.size, 0, none⟩ = some (.int .i64 size) := Hbz1.out.cell 0
  have qb1_2 : wz1.cell? ⟨w.heap.size, 1, none⟩ = some (.int .i64 m) := Hbz1.out.cell 1
  have qb2_2 : wz1.cell? ⟨w.heap.size, 2, none⟩ = some (.int .i64 sum) := Hbz1.out.cell 2
  have qb3_2 : wz1.cell? ⟨w.heap.size, 3, none⟩ = some (.int .i64 rng) := Hbz1.out.cell 3
  have qb4_2 : wz1.cell? ⟨w.heap.size, 4, none⟩ = some (.int .i64 last) := Hbz1.out.cell 4
  have lb_2 : w.heap.size < wz1.heap.size := Hbz1.out.lt
  have hcz3 := HWI.out wz2
  go_wp2_with fail
  rw [HWz2.out]
  refine hcz3.mono ?_
  rintro e wz3 ⟨rfl, kz3⟩
  clear hcz3 qb0_2 qb1_2 qb2_2 qb3_2 qb4_2 lb_2
  have HBz3 := Lib.hid (HBz2.out.trans (kz3.mono (Nat.le_trans hbase HBz2.out.size)))
  have Hbz3 := Lib.hid (Hbz2.out.call kz3)
  have Hpz3 := Lib.hid (Hpz2.out.call kz3)
  clear kz3
  have hcz4 := HAL.out wz3
  go_wp2_with fail
  refine hcz4.mono ?_
  rintro e wz4 ⟨rfl, kz4⟩
  clear hcz4
  have HBz4 := Lib.hid (HBz3.out.trans (kz4.mono (Nat.le_trans hbase HBz3.out.size)))
  have Hbz4 := Lib.hid (Hbz3.out.call kz4)
  have Hpz4 := Lib.hid (Hpz3.out.call kz4)
  clear kz4
  obtain ⟨wz5, hwz5⟩ : ∃ wz5, wz4.alloc (.cells #[.int .i64 0, .int .i64 0, .int .i64 0, .int .u64 0, .int .u64 0] 38) = wz5 := ⟨_, rfl⟩
  have kz5 : Below wz4.heap.size wz4 wz5 := by rw [← hwz5]; exact (Below.refl _ _).alloc (Nat.le_refl _) _
  have Hzz5 := Lib.hid (show Has wz5 wz4.heap.size [.int .i64 0, .int .i64 0, .int .i64 0, .int .u64 0, .int .u64 0] 38 by rw [← hwz5]; exact Has.new _ _ _)
  have HWz5 := Lib.hid hwz5
  clear hwz5
  have HBz5 := Lib.hid (HBz4.out.trans (kz5.mono (Nat.le_trans hbase HBz4.out.size)))
  have Hbz5 := Lib.hid (Hbz4.out.call kz5)
  have Hpz5 := Lib.hid (Hpz4.out.call kz5)
  clear kz5
  go_upto_region 6 with fail
  rw [HWz5.out]
  have hqp := eqPnt
  have qb0_5 : wz5.cell? ⟨w.heap.size, 0, none⟩ = some (.int .i64 size) := Hbz5.out.cell 0
  have qb1_5 : wz5.cell? ⟨w.heap.size, 1, none⟩ = some (.int .i64 m) := Hbz5.out.cell 1
  have qb2_5 : wz5.cell? ⟨w.heap.size, 2, none⟩ = some (.int .i64 sum) := Hbz5.out.cell 2
  have qb3_5 : wz5.cell? ⟨w.heap.size, 3, none⟩ = some (.int .i64 rng) := Hbz5.out.cell 3
  have qb4_5 : wz5.cell? ⟨w.heap.size, 4, none⟩ = some (.int .i64 last) := Hbz5.out.cell 4
  have lb_5 : w.heap.size < wz5.heap.size := Hbz5.out.lt
  have hcz6 := HRR.out wz5
  go_wp2_with fail
  refine hcz6.mono ?_
  rintro e wz6 ⟨rfl, kz6⟩
  clear hcz6 qb0_5 qb1_5 qb2_5 qb3_5 qb4_5 lb_5
  have HBz6 := Lib.hid (HBz5.out.trans (kz6.mono (Nat.le_trans hbase HBz5.out.size)))
  have Hbz6 := Lib.hid (Hbz5.out.call kz6)
  have Hpz6 := Lib.hid (Hpz5.out.call kz6)
  have Hzz6 := Lib.hid (Hzz5.out.call kz6)
  clear kz6
  have qb0_6 : wz6.cell? ⟨w.heap.size, 0, none⟩ = some (.int .i64 size) := Hbz6.out.cell 0
  have qb1_6 : wz6.cell? ⟨w.heap.size, 1, none⟩ = some (.int .i64 m) := Hbz6.out.cell 1
  have qb2_6 : wz6.cell? ⟨w.heap.size, 2, none⟩ = some (.int .i64 sum) := Hbz6.out.cell 2
  have qb3_6 : wz6.cell? ⟨w.heap.size, 3, none⟩ = some (.int .i64 rng) := Hbz6.out.cell 3
  have qb4_6 : wz6.cell? ⟨w.heap.size, 4, none⟩ = some (.int .i64 last) := Hbz6.out.cell 4
  have lb_6 : w.heap.size < wz6.heap.size := Hbz6.out.lt
  have hcz7 := HSU.out wz6
  go_wp2_with fail
  refine hcz7.mono ?_
  rintro e wz7 ⟨rfl, kz7⟩
  clear hcz7 qb0_6 qb1_6 qb2_6 qb3_6 qb4_6 lb_6
  have HBz7 := Lib.hid (HBz6.out.trans (kz7.mono (Nat.le_trans hbase HBz6.out.size)))
  have Hbz7 := Lib.hid (Hbz6.out.call kz7)
  have Hpz7 := Lib.hid (Hpz6.out.call kz7)
  have Hzz7 := Lib.hid (Hzz6.out.call kz7)
  clear kz7
  have qb0_7 : wz7.cell? ⟨w.heap.size, 0, none⟩ = some (.int .i64 size) := Hbz7.out.cell 0
  have qb1_7 : wz7.cell? ⟨w.heap.size, 1, none⟩ = some (.int .i64 m) := Hbz7.out.cell 1
  have qb2_7 : wz7.cell? ⟨w.heap.size, 2, none⟩ = some (.int .i64 sum) := Hbz7.out.cell 2
  have qb3_7 : wz7.cell? ⟨w.heap.size, 3, none⟩ = some (.int .i64 rng) := Hbz7.out.cell 3
  have qb4_7 : wz7.cell? ⟨w.heap.size, 4, none⟩ = some (.int .i64 last) := Hbz7.out.cell 4
  have lb_7 : w.heap.size < wz7.heap.size := Hbz7.out.lt
  have qp0_7 : wz7.cell? ⟨wz1.heap.size, 0, none⟩ = some (.int .i64 0) := Hpz7.out.cell 0
  have qp1_7 : wz7.cell? ⟨wz1.heap.size, 1, none⟩ = some (.int .i64 0) := Hpz7.out.cell 1
  have qp2_7 : wz7.cell? ⟨wz1.heap.size, 2, none⟩ = some (.int .i64 0) := Hpz7.out.cell 2
  have qp3_7 : wz7.cell? ⟨wz1.heap.size, 3, none⟩ = some (.int .u64 0) := Hpz7.out.cell 3
  have qp4_7 : wz7.cell? ⟨wz1.heap.size, 4, none⟩ = some (.int .u64 0) := Hpz7.out.cell 4
  have lp_7 : wz1.heap.size < wz7.heap.size := Hpz7.out.lt
  have qz0_7 : wz7.cell? ⟨wz4.heap.size, 0, none⟩ = some (.int .i64 0) := Hzz7.out.cell 0
  have qz1_7 : wz7.cell? ⟨wz4.heap.size, 1, none⟩ = some (.int .i64 0) := Hzz7.out.cell 1
  have qz2_7 : wz7.cell? ⟨wz4.heap.size, 2, none⟩ = some (.int .i64 0) := Hzz7.out.cell 2
  have qz3_7 : wz7.cell? ⟨wz4.heap.size, 3, none⟩ = some (.int .u64 0) := Hzz7.out.cell 3
  have qz4_7 : wz7.cell? ⟨wz4.heap.size, 4, none⟩ = some (.int .u64 0) := Hzz7.out.cell 4
  have lz_7 : wz4.heap.size < wz7.heap.size := Hzz7.out.lt
  have hcz8 := HRR.out wz7
  go_wp2_with fail
  refine hcz8.mono ?_
  rintro e wz8 ⟨rfl, kz8⟩
  clear hcz8 qb0_7 qb1_7 qb2_7 qb3_7 qb4_7 lb_7 qp0_7 qp1_7 qp2_7 qp3_7 qp4_7 lp_7 qz0_7 qz1_7 qz2_7 qz3_7 qz4_7 lz_7
  have HBz8 := Lib.hid (HBz7.out.trans (kz8.mono (Nat.le_trans hbase HBz7.out.size)))
  have Hbz8 := Lib.hid (Hbz7.out.call kz8)
  have Hpz8 := Lib.hid (Hpz7.out.call kz8)
  have Hzz8 := Lib.hid (Hzz7.out.call kz8)
  clear kz8
  have qb0_8 : wz8.cell? ⟨w.heap.size, 0, none⟩ = some (.int .i64 size) := Hbz8.out.cell 0
  have qb1_8 : wz8.cell? ⟨w.heap.size, 1, none⟩ = some (.int .i64 m) := Hbz8.out.cell 1
  have qb2_8 : wz8.cell? ⟨w.heap.size, 2, none⟩ = some (.int .i64 sum) := Hbz8.out.cell 2
  have qb3_8 : wz8.cell? ⟨w.heap.size, 3, none⟩ = some (.int .i64 rng) := Hbz8.out.cell 3
  have qb4_8 : wz8.cell? ⟨w.heap.size, 4, none⟩ = some (.int .i64 last) := Hbz8.out.cell 4
  have lb_8 : w.heap.size < wz8.heap.size := Hbz8.out.lt
  go_wp2
  go_ret
  exact ⟨rfl, HBz8.out⟩
set_option linter.unusedSimpArgs false in
set_option linter.unusedVariables false in
set_option maxHeartbeats 8000000 in
set_option maxRecDepth 100000 in
theorem tells15_1in0 (size m sum rng last s r pa pb pc pd pe wv : Int) (w : World) (r1 : ¬ r < 0) (r2 : ¬ 2000000 < r) (m2 : ¬ m < 2)
    (HPO : Hid (∀ W, Calls Try.prog 15 #[.agg #[.int .i64 size, .int .i64 m, .int .i64 sum, .int .i64 rng, .int .i64 last], .int .i64 s] W fun e w' => e = .returned (.tuple #[.agg #[.int .i64 pa, .int .i64 pb, .int .i64 pc, .int .u64 pd, .int .u64 pe], .int .i64 0]) ∧ Below W.heap.size W w'))
    (HWI : Hid (∀ W, Calls Try.prog 16 #[.agg #[.int .i64 size, .int .i64 m, .int .i64 sum, .int .i64 rng, .int .i64 last], .int .i64 r] W fun e w' => e = .returned (.tuple #[.int .i64 wv, .int .i64 0]) ∧ Below W.heap.size W w'))
    (HAL : Hid (∀ W, Calls Try.prog 12 #[] W fun e w' => e = .returned (.bool true) ∧ Below W.heap.size W w'))
    (HRR : Hid (∀ W, Calls Try.prog 11 #[.agg #[.int .i64 size, .int .i64 m, .int .i64 sum, .int .i64 rng, .int .i64 last]] W fun e w' => e = .returned (.bool true) ∧ Below W.heap.size W w'))
    (HSU : Hid (∀ W, Calls Try.prog 17 #[.agg #[.int .i64 size, .int .i64 m, .int .i64 sum, .int .i64 rng, .int .i64 last], .int .i64 s] W fun e w' => e = .returned (.bool true) ∧ Below W.heap.size W w'))
    (HRP : Hid (∀ W, Calls Try.prog 18 #[.agg #[.int .i64 size, .int .i64 m, .int .i64 sum, .int .i64 rng, .int .i64 last], .int .i64 s] W fun e w' => e = .returned (.agg #[.int .i64 pa, .int .i64 pb, .int .i64 pc, .int .u64 pd, .int .u64 pe]) ∧ Below W.heap.size W w'))
    (HRW : Hid (∀ W, Calls Try.prog 19 #[.agg #[.int .i64 size, .int .i64 m, .int .i64 sum, .int .i64 rng, .int .i64 last], .int .i64 r] W fun e w' => e = .returned (.int .i64 wv) ∧ Below W.heap.size W w'))
    : Calls Try.prog 4 #[.agg #[.int .i64 size, .int .i64 m, .int .i64 sum, .int .i64 rng, .int .i64 last], .int .i64 s, .int .i64 r] w fun e w' => e = .returned (.bool true) ∧ Below w.heap.size w w' := by
  obtain ⟨w1, hw1⟩ : ∃ w1, w.alloc (.cells #[.int .i64 size, .int .i64 m, .int .i64 sum, .int .i64 rng, .int .i64 last] 23) = w1 := ⟨_, rfl⟩
  have HX1 := Lib.hid (show Has w1 w.heap.size [.int .i64 size, .int .i64 m, .int .i64 sum, .int .i64 rng, .int .i64 last] 23 by rw [← hw1]; exact Has.new w _ _)
  have HB1 := Lib.hid (show Below w.heap.size w w1 by rw [← hw1]; exact (Below.refl _ _).alloc (Nat.le_refl _) _)
  have HW1 := Lib.hid hw1
  have hbase := Nat.le_refl w.heap.size
  clear hw1
  go_enter Try.func4, Try.ntmps4
  go_upto_region 1 with fail
  rw [HW1.out]
  have qb0_0 : w1.cell? ⟨w.heap.size, 0, none⟩ = some (.int .i64 size) := HX1.out.cell 0
  have qb1_0 : w1.cell? ⟨w.heap.size, 1, none⟩ = some (.int .i64 m) := HX1.out.cell 1
  have qb2_0 : w1.cell? ⟨w.heap.size, 2, none⟩ = some (.int .i64 sum) := HX1.out.cell 2
  have qb3_0 : w1.cell? ⟨w.heap.size, 3, none⟩ = some (.int .i64 rng) := HX1.out.cell 3
  have qb4_0 : w1.cell? ⟨w.heap.size, 4, none⟩ = some (.int .i64 last) := HX1.out.cell 4
  have lb_0 : w.heap.size < w1.heap.size := HX1.out.lt
  have hcz1 := HPO.out w1
  go_wp2_with fail
  refine hcz1.mono ?_
  rintro e wz1 ⟨rfl, kz1⟩
  clear hcz1 qb0_0 qb1_0 qb2_0 qb3_0 qb4_0 lb_0
  have HBz1 := Lib.hid (HB1.out.trans (kz1.mono (Nat.le_trans hbase HB1.out.size)))
  have Hbz1 := Lib.hid (HX1.out.call kz1)
  clear kz1
  obtain ⟨wz2, hwz2⟩ : ∃ wz2, wz1.alloc (.cells #[.int .i64 pa, .int .i64 pb, .int .i64 pc, .int .u64 pd, .int .u64 pe] 38) = wz2 := ⟨_, rfl⟩
  have kz2 : Below wz1.heap.size wz1 wz2 := by rw [← hwz2]; exact (Below.refl _ _).alloc (Nat.le_refl _) _
  have Hpz2 := Lib.hid (show Has wz2 wz1.heap.size [.int .i64 pa, .int .i64 pb, .int .i64 pc, .int .u64 pd, .int .u64 pe] 38 by rw [← hwz2]; exact Has.new _ _ _)
  have HWz2 := Lib.hid hwz2
  clear hwz2
  have HBz2 := Lib.hid (HBz1.out.trans (kz2.mono (Nat.le_trans hbase HBz1.out.size)))
  have Hbz2 := Lib.hid (Hbz1.out.call kz2)
  clear kz2
  have qb0_2 : wz1.cell? ⟨w.heap.size, 0, none⟩ = some (.int .i64 size) := Hbz1.out.cell 0
  have qb1_2 : wz1.cell? ⟨w.heap.size, 1, none⟩ = some (.int .i64 m) := Hbz1.out.cell 1
  have qb2_2 : wz1.cell? ⟨w.heap.size, 2, none⟩ = some (.int .i64 sum) := Hbz1.out.cell 2
  have qb3_2 : wz1.cell? ⟨w.heap.size, 3, none⟩ = some (.int .i64 rng) := Hbz1.out.cell 3
  have qb4_2 : wz1.cell? ⟨w.heap.size, 4, none⟩ = some (.int .i64 last) := Hbz1.out.cell 4
  have lb_2 : w.heap.size < wz1.heap.size := Hbz1.out.lt
  have hcz3 := HWI.out wz2
  go_wp2_with fail
  rw [HWz2.out]
  refine hcz3.mono ?_
  rintro e wz3 ⟨rfl, kz3⟩
  clear hcz3 qb0_2 qb1_2 qb2_2 qb3_2 qb4_2 lb_2
  have HBz3 := Lib.hid (HBz2.out.trans (kz3.mono (Nat.le_trans hbase HBz2.out.size)))
  have Hbz3 := Lib.hid (Hbz2.out.call kz3)
  have Hpz3 := Lib.hid (Hpz2.out.call kz3)
  clear kz3
  have hcz4 := HAL.out wz3
  go_wp2_with fail
  refine hcz4.mono ?_
  rintro e wz4 ⟨rfl, kz4⟩
  clear hcz4
  have HBz4 := Lib.hid (HBz3.out.trans (kz4.mono (Nat.le_trans hbase HBz3.out.size)))
  have Hbz4 := Lib.hid (Hbz3.out.call kz4)
  have Hpz4 := Lib.hid (Hpz3.out.call kz4)
  clear kz4
  obtain ⟨wz5, hwz5⟩ : ∃ wz5, wz4.alloc (.cells #[.int .i64 0, .int .i64 0, .int .i64 0, .int .u64 0, .int .u64 0] 38) = wz5 := ⟨_, rfl⟩
  have kz5 : Below wz4.heap.size wz4 wz5 := by rw [← hwz5]; exact (Below.refl _ _).alloc (Nat.le_refl _) _
  have Hzz5 := Lib.hid (show Has wz5 wz4.heap.size [.int .i64 0, .int .i64 0, .int .i64 0, .int .u64 0, .int .u64 0] 38 by rw [← hwz5]; exact Has.new _ _ _)
  have HWz5 := Lib.hid hwz5
  clear hwz5
  have HBz5 := Lib.hid (HBz4.out.trans (kz5.mono (Nat.le_trans hbase HBz4.out.size)))
  have Hbz5 := Lib.hid (Hbz4.out.call kz5)
  have Hpz5 := Lib.hid (Hpz4.out.call kz5)
  clear kz5
  go_upto_region 6 with fail
  rw [HWz5.out]
  have hqp := eqPnt
  have qb0_5 : wz5.cell? ⟨w.heap.size, 0, none⟩ = some (.int .i64 size) := Hbz5.out.cell 0
  have qb1_5 : wz5.cell? ⟨w.heap.size, 1, none⟩ = some (.int .i64 m) := Hbz5.out.cell 1
  have qb2_5 : wz5.cell? ⟨w.heap.size, 2, none⟩ = some (.int .i64 sum) := Hbz5.out.cell 2
  have qb3_5 : wz5.cell? ⟨w.heap.size, 3, none⟩ = some (.int .i64 rng) := Hbz5.out.cell 3
  have qb4_5 : wz5.cell? ⟨w.heap.size, 4, none⟩ = some (.int .i64 last) := Hbz5.out.cell 4
  have lb_5 : w.heap.size < wz5.heap.size := Hbz5.out.lt
  have hcz6 := HRR.out wz5
  go_wp2_with fail
  refine hcz6.mono ?_
  rintro e wz6 ⟨rfl, kz6⟩
  clear hcz6 qb0_5 qb1_5 qb2_5 qb3_5 qb4_5 lb_5
  have HBz6 := Lib.hid (HBz5.out.trans (kz6.mono (Nat.le_trans hbase HBz5.out.size)))
  have Hbz6 := Lib.hid (Hbz5.out.call kz6)
  have Hpz6 := Lib.hid (Hpz5.out.call kz6)
  have Hzz6 := Lib.hid (Hzz5.out.call kz6)
  clear kz6
  have qb0_6 : wz6.cell? ⟨w.heap.size, 0, none⟩ = some (.int .i64 size) := Hbz6.out.cell 0
  have qb1_6 : wz6.cell? ⟨w.heap.size, 1, none⟩ = some (.int .i64 m) := Hbz6.out.cell 1
  have qb2_6 : wz6.cell? ⟨w.heap.size, 2, none⟩ = some (.int .i64 sum) := Hbz6.out.cell 2
  have qb3_6 : wz6.cell? ⟨w.heap.size, 3, none⟩ = some (.int .i64 rng) := Hbz6.out.cell 3
  have qb4_6 : wz6.cell? ⟨w.heap.size, 4, none⟩ = some (.int .i64 last) := Hbz6.out.cell 4
  have lb_6 : w.heap.size < wz6.heap.size := Hbz6.out.lt
  have hcz7 := HSU.out wz6
  go_wp2_with fail
  refine hcz7.mono ?_
  rintro e wz7 ⟨rfl, kz7⟩
  clear hcz7 qb0_6 qb1_6 qb2_6 qb3_6 qb4_6 lb_6
  have HBz7 := Lib.hid (HBz6.out.trans (kz7.mono (Nat.le_trans hbase HBz6.out.size)))
  have Hbz7 := Lib.hid (Hbz6.out.call kz7)
  have Hpz7 := Lib.hid (Hpz6.out.call kz7)
  have Hzz7 := Lib.hid (Hzz6.out.call kz7)
  clear kz7
  have qb0_7 : wz7.cell? ⟨w.heap.size, 0, none⟩ = some (.int .i64 size) := Hbz7.out.cell 0
  have qb1_7 : wz7.cell? ⟨w.heap.size, 1, none⟩ = some (.int .i64 m) := Hbz7.out.cell 1
  have qb2_7 : wz7.cell? ⟨w.heap.size, 2, none⟩ = some (.int .i64 sum) := Hbz7.out.cell 2
  have qb3_7 : wz7.cell? ⟨w.heap.size, 3, none⟩ = some (.int .i64 rng) := Hbz7.out.cell 3
  have qb4_7 : wz7.cell? ⟨w.heap.size, 4, none⟩ = some (.int .i64 last) := Hbz7.out.cell 4
  have lb_7 : w.heap.size < wz7.heap.size := Hbz7.out.lt
  have qp0_7 : wz7.cell? ⟨wz1.heap.size, 0, none⟩ = some (.int .i64 pa) := Hpz7.out.cell 0
  have qp1_7 : wz7.cell? ⟨wz1.heap.size, 1, none⟩ = some (.int .i64 pb) := Hpz7.out.cell 1
  have qp2_7 : wz7.cell? ⟨wz1.heap.size, 2, none⟩ = some (.int .i64 pc) := Hpz7.out.cell 2
  have qp3_7 : wz7.cell? ⟨wz1.heap.size, 3, none⟩ = some (.int .u64 pd) := Hpz7.out.cell 3
  have qp4_7 : wz7.cell? ⟨wz1.heap.size, 4, none⟩ = some (.int .u64 pe) := Hpz7.out.cell 4
  have lp_7 : wz1.heap.size < wz7.heap.size := Hpz7.out.lt
  have qz0_7 : wz7.cell? ⟨wz4.heap.size, 0, none⟩ = some (.int .i64 0) := Hzz7.out.cell 0
  have qz1_7 : wz7.cell? ⟨wz4.heap.size, 1, none⟩ = some (.int .i64 0) := Hzz7.out.cell 1
  have qz2_7 : wz7.cell? ⟨wz4.heap.size, 2, none⟩ = some (.int .i64 0) := Hzz7.out.cell 2
  have qz3_7 : wz7.cell? ⟨wz4.heap.size, 3, none⟩ = some (.int .u64 0) := Hzz7.out.cell 3
  have qz4_7 : wz7.cell? ⟨wz4.heap.size, 4, none⟩ = some (.int .u64 0) := Hzz7.out.cell 4
  have lz_7 : wz4.heap.size < wz7.heap.size := Hzz7.out.lt
  go_upto_region 12 with fail
  clear qb0_7 qb1_7 qb2_7 qb3_7 qb4_7 lb_7 qp0_7 qp1_7 qp2_7 qp3_7 qp4_7 lp_7 qz0_7 qz1_7 qz2_7 qz3_7 qz4_7 lz_7
  refine wp_region_held_drew (S := (fun W => W.cell? ⟨w.heap.size, 0, none⟩ = some (.int .i64 size) ∧ W.cell? ⟨w.heap.size, 1, none⟩ = some (.int .i64 m) ∧ W.cell? ⟨w.heap.size, 2, none⟩ = some (.int .i64 sum) ∧ W.cell? ⟨w.heap.size, 3, none⟩ = some (.int .i64 rng) ∧ W.cell? ⟨w.heap.size, 4, none⟩ = some (.int .i64 last) ∧ W.cell? ⟨wz1.heap.size, 0, none⟩ = some (.int .i64 pa) ∧ W.cell? ⟨wz1.heap.size, 1, none⟩ = some (.int .i64 pb) ∧ W.cell? ⟨wz1.heap.size, 2, none⟩ = some (.int .i64 pc) ∧ W.cell? ⟨wz1.heap.size, 3, none⟩ = some (.int .u64 pd) ∧ W.cell? ⟨wz1.heap.size, 4, none⟩ = some (.int .u64 pe))) (by kernel_rfl) ⟨Hbz7.out.cell 0, Hbz7.out.cell 1, Hbz7.out.cell 2, Hbz7.out.cell 3, Hbz7.out.cell 4, Hpz7.out.cell 0, Hpz7.out.cell 1, Hpz7.out.cell 2, Hpz7.out.cell 3, Hpz7.out.cell 4⟩ (fun hHeld => ?_)
  refine regTake 0 (some 56) (v := ?_) rfl rfl (by kernel_rfl) (by kernel_rfl) (by kernel_rfl) (fun _ _ _ h => h) (by rfl) hHeld ?_ ?_
  rotate_left 1
  · (intro w hSw; (try dsimp only at hSw); go_simp; try with_reducible rfl)
  simp only [Act.put, List.setIfInBounds_toArray, List.set_cons_zero, List.set_cons_succ]
  refine regTake 1 (some 57) (v := ?_) rfl rfl (by kernel_rfl) (by kernel_rfl) (by kernel_rfl) (fun _ _ _ h => h) (by rfl) hHeld ?_ ?_
  rotate_left 1
  · (intro w hSw; (try dsimp only at hSw); go_simp; try with_reducible rfl)
  simp only [Act.put, List.setIfInBounds_toArray, List.set_cons_zero, List.set_cons_succ]
  refine regTake 2 (some 58) (v := ?_) rfl rfl (by kernel_rfl) (by kernel_rfl) (by kernel_rfl) (fun _ _ _ h => h) (by rfl) hHeld ?_ ?_
  rotate_left 1
  · (intro w hSw; (try dsimp only at hSw); go_simp; try with_reducible rfl)
  simp only [Act.put, List.setIfInBounds_toArray, List.set_cons_zero, List.set_cons_succ]
  refine regTake 3 (some 59) (v := ?_) rfl rfl (by kernel_rfl) (by kernel_rfl) (by kernel_rfl) (fun _ _ _ h => h) (by rfl) hHeld ?_ ?_
  rotate_left 1
  · (intro w hSw; (try dsimp only at hSw); go_simp; try with_reducible rfl)
  simp only [Act.put, List.setIfInBounds_toArray, List.set_cons_zero, List.set_cons_succ]
  refine regTake 4 (some 60) (v := ?_) rfl rfl (by kernel_rfl) (by kernel_rfl) (by kernel_rfl) (fun _ _ _ h => h) (by rfl) hHeld ?_ ?_
  rotate_left 1
  · (intro w hSw; (try dsimp only at hSw); go_simp; try with_reducible rfl)
  simp only [Act.put, List.setIfInBounds_toArray, List.set_cons_zero, List.set_cons_succ]
  refine regTake 5 (some 61) (v := ?_) rfl rfl (by kernel_rfl) (by kernel_rfl) (by kernel_rfl) (fun _ _ _ h => h) (by rfl) hHeld ?_ ?_
  rotate_left 1
  · (intro w hSw; (try dsimp only at hSw); go_simp; try with_reducible rfl)
  simp only [Act.put, List.setIfInBounds_toArray, List.set_cons_zero, List.set_cons_succ]
  refine regCall 6 (some 62) (f := 18) (args := ?_) rfl rfl (by kernel_rfl) (by rfl) ?_ ?_
  rotate_left 1
  · (go_simp; try with_reducible rfl)
  refine (HRP.out _).mono ?_
  rintro e wx6 ⟨rfl, k6⟩
  refine ⟨_, rfl, ⟨(Hbz7.out.step k6 rfl).cell 0, (Hbz7.out.step k6 rfl).cell 1, (Hbz7.out.step k6 rfl).cell 2, (Hbz7.out.step k6 rfl).cell 3, (Hbz7.out.step k6 rfl).cell 4, (Hpz7.out.step k6 rfl).cell 0, (Hpz7.out.step k6 rfl).cell 1, (Hpz7.out.step k6 rfl).cell 2, (Hpz7.out.step k6 rfl).cell 3, (Hpz7.out.step k6 rfl).cell 4⟩, fun hHeld => ?_⟩
  simp only [Act.put, List.setIfInBounds_toArray, List.set_cons_zero, List.set_cons_succ]
  have HBs := Lib.hid (HBz7.out.drew.trans (k6.mono HBz7.out.drew.size))
  have Hs0 := Lib.hid (Hbz7.out.step k6 rfl)
  have Hs1 := Lib.hid (Hpz7.out.step k6 rfl)
  clear k6
  refine regTake 7 (some 63) (v := ?_) rfl rfl (by kernel_rfl) (by kernel_rfl) (by kernel_rfl) (fun _ _ _ h => h) (by rfl) hHeld ?_ ?_
  rotate_left 1
  · (intro w hSw; (try dsimp only at hSw); go_simp; try with_reducible rfl)
  simp only [Act.put, List.setIfInBounds_toArray, List.set_cons_zero, List.set_cons_succ]
  refine regTake 8 (some 64) (v := ?_) rfl rfl (by kernel_rfl) (by kernel_rfl) (by kernel_rfl) (fun _ _ _ h => h) (by rfl) hHeld ?_ ?_
  rotate_left 1
  · (intro w hSw; (try dsimp only at hSw); go_simp; try with_reducible rfl)
  simp only [Act.put, List.setIfInBounds_toArray, List.set_cons_zero, List.set_cons_succ]
  refine regTake 9 (some 55) (v := ?_) rfl rfl (by kernel_rfl) (by kernel_rfl) (by kernel_rfl) (fun _ _ _ h => h) (by rfl) hHeld ?_ ?_
  rotate_left 1
  · (intro w hSw; (try dsimp only at hSw); go_simp; try with_reducible rfl)
  simp only [Act.put, List.setIfInBounds_toArray, List.set_cons_zero, List.set_cons_succ]
  refine wpAnyH_done (by kernel_rfl) ?_ _
  clear hHeld
  have qb0_8 : wx6.cell? ⟨w.heap.size, 0, none⟩ = some (.int .i64 size) := Hs0.out.cell 0
  have qb1_8 : wx6.cell? ⟨w.heap.size, 1, none⟩ = some (.int .i64 m) := Hs0.out.cell 1
  have qb2_8 : wx6.cell? ⟨w.heap.size, 2, none⟩ = some (.int .i64 sum) := Hs0.out.cell 2
  have qb3_8 : wx6.cell? ⟨w.heap.size, 3, none⟩ = some (.int .i64 rng) := Hs0.out.cell 3
  have qb4_8 : wx6.cell? ⟨w.heap.size, 4, none⟩ = some (.int .i64 last) := Hs0.out.cell 4
  have lb_8 : w.heap.size < wx6.heap.size := Hs0.out.lt
  have hcz9 := HRR.out wx6
  go_wp2_with fail
  refine hcz9.mono ?_
  rintro e wz9 ⟨rfl, kz9⟩
  clear hcz9 qb0_8 qb1_8 qb2_8 qb3_8 qb4_8 lb_8
  have HBz9 := Lib.hid (HBs.out.trans (kz9.mono (Nat.le_trans hbase HBs.out.size)))
  have Hbz9 := Lib.hid (Hs0.out.call kz9)
  clear kz9
  have qb0_9 : wz9.cell? ⟨w.heap.size, 0, none⟩ = some (.int .i64 size) := Hbz9.out.cell 0
  have qb1_9 : wz9.cell? ⟨w.heap.size, 1, none⟩ = some (.int .i64 m) := Hbz9.out.cell 1
  have qb2_9 : wz9.cell? ⟨w.heap.size, 2, none⟩ = some (.int .i64 sum) := Hbz9.out.cell 2
  have qb3_9 : wz9.cell? ⟨w.heap.size, 3, none⟩ = some (.int .i64 rng) := Hbz9.out.cell 3
  have qb4_9 : wz9.cell? ⟨w.heap.size, 4, none⟩ = some (.int .i64 last) := Hbz9.out.cell 4
  have lb_9 : w.heap.size < wz9.heap.size := Hbz9.out.lt
  have hcz10 := HRW.out wz9
  go_wp2_with fail
  refine hcz10.mono ?_
  rintro e wz10 ⟨rfl, kz10⟩
  clear hcz10 qb0_9 qb1_9 qb2_9 qb3_9 qb4_9 lb_9
  have HBz10 := Lib.hid (HBz9.out.trans (kz10.mono (Nat.le_trans hbase HBz9.out.size)))
  have Hbz10 := Lib.hid (Hbz9.out.call kz10)
  clear kz10
  go_wp2
  go_ret
  exact ⟨rfl, HBz10.out⟩
set_option linter.unusedSimpArgs false in
set_option linter.unusedVariables false in
set_option maxHeartbeats 8000000 in
set_option maxRecDepth 100000 in
theorem tells15_0lo1 (size m sum rng last s r pa pb pc pd pe wv : Int) (w : World) (r1 : r < 0) (m2 : m < 2)
    (HPO : Hid (∀ W, Calls Try.prog 15 #[.agg #[.int .i64 size, .int .i64 m, .int .i64 sum, .int .i64 rng, .int .i64 last], .int .i64 s] W fun e w' => e = .returned (.tuple #[.agg #[.int .i64 0, .int .i64 0, .int .i64 0, .int .u64 0, .int .u64 0], .int .i64 1]) ∧ Below W.heap.size W w'))
    (HWI : Hid (∀ W, Calls Try.prog 16 #[.agg #[.int .i64 size, .int .i64 m, .int .i64 sum, .int .i64 rng, .int .i64 last], .int .i64 r] W fun e w' => e = .returned (.tuple #[.int .i64 0, .int .i64 1]) ∧ Below W.heap.size W w'))
    (HAL : Hid (∀ W, Calls Try.prog 12 #[] W fun e w' => e = .returned (.bool true) ∧ Below W.heap.size W w'))
    (HRR : Hid (∀ W, Calls Try.prog 11 #[.agg #[.int .i64 size, .int .i64 m, .int .i64 sum, .int .i64 rng, .int .i64 last]] W fun e w' => e = .returned (.bool true) ∧ Below W.heap.size W w'))
    (HSU : Hid (∀ W, Calls Try.prog 17 #[.agg #[.int .i64 size, .int .i64 m, .int .i64 sum, .int .i64 rng, .int .i64 last], .int .i64 s] W fun e w' => e = .returned (.bool false) ∧ Below W.heap.size W w'))
    : Calls Try.prog 4 #[.agg #[.int .i64 size, .int .i64 m, .int .i64 sum, .int .i64 rng, .int .i64 last], .int .i64 s, .int .i64 r] w fun e w' => e = .returned (.bool true) ∧ Below w.heap.size w w' := by
  obtain ⟨w1, hw1⟩ : ∃ w1, w.alloc (.cells #[.int .i64 size, .int .i64 m, .int .i64 sum, .int .i64 rng, .int .i64 last] 23) = w1 := ⟨_, rfl⟩
  have HX1 := Lib.hid (show Has w1 w.heap.size [.int .i64 size, .int .i64 m, .int .i64 sum, .int .i64 rng, .int .i64 last] 23 by rw [← hw1]; exact Has.new w _ _)
  have HB1 := Lib.hid (show Below w.heap.size w w1 by rw [← hw1]; exact (Below.refl _ _).alloc (Nat.le_refl _) _)
  have HW1 := Lib.hid hw1
  have hbase := Nat.le_refl w.heap.size
  clear hw1
  go_enter Try.func4, Try.ntmps4
  go_upto_region 1 with fail
  rw [HW1.out]
  have qb0_0 : w1.cell? ⟨w.heap.size, 0, none⟩ = some (.int .i64 size) := HX1.out.cell 0
  have qb1_0 : w1.cell? ⟨w.heap.size, 1, none⟩ = some (.int .i64 m) := HX1.out.cell 1
  have qb2_0 : w1.cell? ⟨w.heap.size, 2, none⟩ = some (.int .i64 sum) := HX1.out.cell 2
  have qb3_0 : w1.cell? ⟨w.heap.size, 3, none⟩ = some (.int .i64 rng) := HX1.out.cell 3
  have qb4_0 : w1.cell? ⟨w.heap.size, 4, none⟩ = some (.int .i64 last) := HX1.out.cell 4
  have lb_0 : w.heap.size < w1.heap.size := HX1.out.lt
  have hcz1 := HPO.out w1
  go_wp2_with fail
  refine hcz1.mono ?_
  rintro e wz1 ⟨rfl, kz1⟩
  clear hcz1 qb0_0 qb1_0 qb2_0 qb3_0 qb4_0 lb_0
  have HBz1 := Lib.hid (HB1.out.trans (kz1.mono (Nat.le_trans hbase HB1.out.size)))
  have Hbz1 := Lib.hid (HX1.out.call kz1)
  clear kz1
  obtain ⟨wz2, hwz2⟩ : ∃ wz2, wz1.alloc (.cells #[.int .i64 0, .int .i64 0, .int .i64 0, .int .u64 0, .int .u64 0] 38) = wz2 := ⟨_, rfl⟩
  have kz2 : Below wz1.heap.size wz1 wz2 := by rw [← hwz2]; exact (Below.refl _ _).alloc (Nat.le_refl _) _
  have Hpz2 := Lib.hid (show Has wz2 wz1.heap.size [.int .i64 0, .int .i64 0, .int .i64 0, .int .u64 0, .int .u64 0] 38 by rw [← hwz2]; exact Has.new _ _ _)
  have HWz2 := Lib.hid hwz2
  clear hwz2
  have HBz2 := Lib.hid (HBz1.out.trans (kz2.mono (Nat.le_trans hbase HBz1.out.size)))
  have Hbz2 := Lib.hid (Hbz1.out.call kz2)
  clear kz2
  have qb0_2 : wz1.cell? ⟨w.heap.size, 0, none⟩ = some (.int .i64 size) := Hbz1.out.cell 0
  have qb1_2 : wz1.cell? ⟨w.heap.size, 1, none⟩ = some (.int .i64 m) := Hbz1.out.cell 1
  have qb2_2 : wz1.cell? ⟨w.heap.size, 2, none⟩ = some (.int .i64 sum) := Hbz1.out.cell 2
  have qb3_2 : wz1.cell? ⟨w.heap.size, 3, none⟩ = some (.int .i64 rng) := Hbz1.out.cell 3
  have qb4_2 : wz1.cell? ⟨w.heap.size, 4, none⟩ = some (.int .i64 last) := Hbz1.out.cell 4
  have lb_2 : w.heap.size < wz1.heap.size := Hbz1.out.lt
  have hcz3 := HWI.out wz2
  go_wp2_with fail
  rw [HWz2.out]
  refine hcz3.mono ?_
  rintro e wz3 ⟨rfl, kz3⟩
  clear hcz3 qb0_2 qb1_2 qb2_2 qb3_2 qb4_2 lb_2
  have HBz3 := Lib.hid (HBz2.out.trans (kz3.mono (Nat.le_trans hbase HBz2.out.size)))
  have Hbz3 := Lib.hid (Hbz2.out.call kz3)
  have Hpz3 := Lib.hid (Hpz2.out.call kz3)
  clear kz3
  have hcz4 := HAL.out wz3
  go_wp2_with fail
  refine hcz4.mono ?_
  rintro e wz4 ⟨rfl, kz4⟩
  clear hcz4
  have HBz4 := Lib.hid (HBz3.out.trans (kz4.mono (Nat.le_trans hbase HBz3.out.size)))
  have Hbz4 := Lib.hid (Hbz3.out.call kz4)
  have Hpz4 := Lib.hid (Hpz3.out.call kz4)
  clear kz4
  obtain ⟨wz5, hwz5⟩ : ∃ wz5, wz4.alloc (.cells #[.int .i64 0, .int .i64 0, .int .i64 0, .int .u64 0, .int .u64 0] 38) = wz5 := ⟨_, rfl⟩
  have kz5 : Below wz4.heap.size wz4 wz5 := by rw [← hwz5]; exact (Below.refl _ _).alloc (Nat.le_refl _) _
  have Hzz5 := Lib.hid (show Has wz5 wz4.heap.size [.int .i64 0, .int .i64 0, .int .i64 0, .int .u64 0, .int .u64 0] 38 by rw [← hwz5]; exact Has.new _ _ _)
  have HWz5 := Lib.hid hwz5
  clear hwz5
  have HBz5 := Lib.hid (HBz4.out.trans (kz5.mono (Nat.le_trans hbase HBz4.out.size)))
  have Hbz5 := Lib.hid (Hbz4.out.call kz5)
  have Hpz5 := Lib.hid (Hpz4.out.call kz5)
  clear kz5
  go_upto_region 6 with fail
  rw [HWz5.out]
  have hqp := eqPnt
  have qb0_5 : wz5.cell? ⟨w.heap.size, 0, none⟩ = some (.int .i64 size) := Hbz5.out.cell 0
  have qb1_5 : wz5.cell? ⟨w.heap.size, 1, none⟩ = some (.int .i64 m) := Hbz5.out.cell 1
  have qb2_5 : wz5.cell? ⟨w.heap.size, 2, none⟩ = some (.int .i64 sum) := Hbz5.out.cell 2
  have qb3_5 : wz5.cell? ⟨w.heap.size, 3, none⟩ = some (.int .i64 rng) := Hbz5.out.cell 3
  have qb4_5 : wz5.cell? ⟨w.heap.size, 4, none⟩ = some (.int .i64 last) := Hbz5.out.cell 4
  have lb_5 : w.heap.size < wz5.heap.size := Hbz5.out.lt
  have hcz6 := HRR.out wz5
  go_wp2_with fail
  refine hcz6.mono ?_
  rintro e wz6 ⟨rfl, kz6⟩
  clear hcz6 qb0_5 qb1_5 qb2_5 qb3_5 qb4_5 lb_5
  have HBz6 := Lib.hid (HBz5.out.trans (kz6.mono (Nat.le_trans hbase HBz5.out.size)))
  have Hbz6 := Lib.hid (Hbz5.out.call kz6)
  have Hpz6 := Lib.hid (Hpz5.out.call kz6)
  have Hzz6 := Lib.hid (Hzz5.out.call kz6)
  clear kz6
  have qb0_6 : wz6.cell? ⟨w.heap.size, 0, none⟩ = some (.int .i64 size) := Hbz6.out.cell 0
  have qb1_6 : wz6.cell? ⟨w.heap.size, 1, none⟩ = some (.int .i64 m) := Hbz6.out.cell 1
  have qb2_6 : wz6.cell? ⟨w.heap.size, 2, none⟩ = some (.int .i64 sum) := Hbz6.out.cell 2
  have qb3_6 : wz6.cell? ⟨w.heap.size, 3, none⟩ = some (.int .i64 rng) := Hbz6.out.cell 3
  have qb4_6 : wz6.cell? ⟨w.heap.size, 4, none⟩ = some (.int .i64 last) := Hbz6.out.cell 4
  have lb_6 : w.heap.size < wz6.heap.size := Hbz6.out.lt
  have hcz7 := HSU.out wz6
  go_wp2_with fail
  refine hcz7.mono ?_
  rintro e wz7 ⟨rfl, kz7⟩
  clear hcz7 qb0_6 qb1_6 qb2_6 qb3_6 qb4_6 lb_6
  have HBz7 := Lib.hid (HBz6.out.trans (kz7.mono (Nat.le_trans hbase HBz6.out.size)))
  have Hbz7 := Lib.hid (Hbz6.out.call kz7)
  have Hpz7 := Lib.hid (Hpz6.out.call kz7)
  have Hzz7 := Lib.hid (Hzz6.out.call kz7)
  clear kz7
  have qb0_7 : wz7.cell? ⟨w.heap.size, 0, none⟩ = some (.int .i64 size) := Hbz7.out.cell 0
  have qb1_7 : wz7.cell? ⟨w.heap.size, 1, none⟩ = some (.int .i64 m) := Hbz7.out.cell 1
  have qb2_7 : wz7.cell? ⟨w.heap.size, 2, none⟩ = some (.int .i64 sum) := Hbz7.out.cell 2
  have qb3_7 : wz7.cell? ⟨w.heap.size, 3, none⟩ = some (.int .i64 rng) := Hbz7.out.cell 3
  have qb4_7 : wz7.cell? ⟨w.heap.size, 4, none⟩ = some (.int .i64 last) := Hbz7.out.cell 4
  have lb_7 : w.heap.size < wz7.heap.size := Hbz7.out.lt
  have qp0_7 : wz7.cell? ⟨wz1.heap.size, 0, none⟩ = some (.int .i64 0) := Hpz7.out.cell 0
  have qp1_7 : wz7.cell? ⟨wz1.heap.size, 1, none⟩ = some (.int .i64 0) := Hpz7.out.cell 1
  have qp2_7 : wz7.cell? ⟨wz1.heap.size, 2, none⟩ = some (.int .i64 0) := Hpz7.out.cell 2
  have qp3_7 : wz7.cell? ⟨wz1.heap.size, 3, none⟩ = some (.int .u64 0) := Hpz7.out.cell 3
  have qp4_7 : wz7.cell? ⟨wz1.heap.size, 4, none⟩ = some (.int .u64 0) := Hpz7.out.cell 4
  have lp_7 : wz1.heap.size < wz7.heap.size := Hpz7.out.lt
  have qz0_7 : wz7.cell? ⟨wz4.heap.size, 0, none⟩ = some (.int .i64 0) := Hzz7.out.cell 0
  have qz1_7 : wz7.cell? ⟨wz4.heap.size, 1, none⟩ = some (.int .i64 0) := Hzz7.out.cell 1
  have qz2_7 : wz7.cell? ⟨wz4.heap.size, 2, none⟩ = some (.int .i64 0) := Hzz7.out.cell 2
  have qz3_7 : wz7.cell? ⟨wz4.heap.size, 3, none⟩ = some (.int .u64 0) := Hzz7.out.cell 3
  have qz4_7 : wz7.cell? ⟨wz4.heap.size, 4, none⟩ = some (.int .u64 0) := Hzz7.out.cell 4
  have lz_7 : wz4.heap.size < wz7.heap.size := Hzz7.out.lt
  have hcz8 := HRR.out wz7
  go_wp2_with fail
  refine hcz8.mono ?_
  rintro e wz8 ⟨rfl, kz8⟩
  clear hcz8 qb0_7 qb1_7 qb2_7 qb3_7 qb4_7 lb_7 qp0_7 qp1_7 qp2_7 qp3_7 qp4_7 lp_7 qz0_7 qz1_7 qz2_7 qz3_7 qz4_7 lz_7
  have HBz8 := Lib.hid (HBz7.out.trans (kz8.mono (Nat.le_trans hbase HBz7.out.size)))
  have Hbz8 := Lib.hid (Hbz7.out.call kz8)
  have Hpz8 := Lib.hid (Hpz7.out.call kz8)
  have Hzz8 := Lib.hid (Hzz7.out.call kz8)
  clear kz8
  have qb0_8 : wz8.cell? ⟨w.heap.size, 0, none⟩ = some (.int .i64 size) := Hbz8.out.cell 0
  have qb1_8 : wz8.cell? ⟨w.heap.size, 1, none⟩ = some (.int .i64 m) := Hbz8.out.cell 1
  have qb2_8 : wz8.cell? ⟨w.heap.size, 2, none⟩ = some (.int .i64 sum) := Hbz8.out.cell 2
  have qb3_8 : wz8.cell? ⟨w.heap.size, 3, none⟩ = some (.int .i64 rng) := Hbz8.out.cell 3
  have qb4_8 : wz8.cell? ⟨w.heap.size, 4, none⟩ = some (.int .i64 last) := Hbz8.out.cell 4
  have lb_8 : w.heap.size < wz8.heap.size := Hbz8.out.lt
  go_wp2
  go_ret
  exact ⟨rfl, HBz8.out⟩
set_option linter.unusedSimpArgs false in
set_option linter.unusedVariables false in
set_option maxHeartbeats 8000000 in
set_option maxRecDepth 100000 in
theorem tells15_0lo0 (size m sum rng last s r pa pb pc pd pe wv : Int) (w : World) (r1 : r < 0) (m2 : ¬ m < 2)
    (HPO : Hid (∀ W, Calls Try.prog 15 #[.agg #[.int .i64 size, .int .i64 m, .int .i64 sum, .int .i64 rng, .int .i64 last], .int .i64 s] W fun e w' => e = .returned (.tuple #[.agg #[.int .i64 0, .int .i64 0, .int .i64 0, .int .u64 0, .int .u64 0], .int .i64 1]) ∧ Below W.heap.size W w'))
    (HWI : Hid (∀ W, Calls Try.prog 16 #[.agg #[.int .i64 size, .int .i64 m, .int .i64 sum, .int .i64 rng, .int .i64 last], .int .i64 r] W fun e w' => e = .returned (.tuple #[.int .i64 0, .int .i64 1]) ∧ Below W.heap.size W w'))
    (HAL : Hid (∀ W, Calls Try.prog 12 #[] W fun e w' => e = .returned (.bool true) ∧ Below W.heap.size W w'))
    (HRR : Hid (∀ W, Calls Try.prog 11 #[.agg #[.int .i64 size, .int .i64 m, .int .i64 sum, .int .i64 rng, .int .i64 last]] W fun e w' => e = .returned (.bool true) ∧ Below W.heap.size W w'))
    (HSU : Hid (∀ W, Calls Try.prog 17 #[.agg #[.int .i64 size, .int .i64 m, .int .i64 sum, .int .i64 rng, .int .i64 last], .int .i64 s] W fun e w' => e = .returned (.bool false) ∧ Below W.heap.size W w'))
    : Calls Try.prog 4 #[.agg #[.int .i64 size, .int .i64 m, .int .i64 sum, .int .i64 rng, .int .i64 last], .int .i64 s, .int .i64 r] w fun e w' => e = .returned (.bool true) ∧ Below w.heap.size w w' := by
  obtain ⟨w1, hw1⟩ : ∃ w1, w.alloc (.cells #[.int .i64 size, .int .i64 m, .int .i64 sum, .int .i64 rng, .int .i64 last] 23) = w1 := ⟨_, rfl⟩
  have HX1 := Lib.hid (show Has w1 w.heap.size [.int .i64 size, .int .i64 m, .int .i64 sum, .int .i64 rng, .int .i64 last] 23 by rw [← hw1]; exact Has.new w _ _)
  have HB1 := Lib.hid (show Below w.heap.size w w1 by rw [← hw1]; exact (Below.refl _ _).alloc (Nat.le_refl _) _)
  have HW1 := Lib.hid hw1
  have hbase := Nat.le_refl w.heap.size
  clear hw1
  go_enter Try.func4, Try.ntmps4
  go_upto_region 1 with fail
  rw [HW1.out]
  have qb0_0 : w1.cell? ⟨w.heap.size, 0, none⟩ = some (.int .i64 size) := HX1.out.cell 0
  have qb1_0 : w1.cell? ⟨w.heap.size, 1, none⟩ = some (.int .i64 m) := HX1.out.cell 1
  have qb2_0 : w1.cell? ⟨w.heap.size, 2, none⟩ = some (.int .i64 sum) := HX1.out.cell 2
  have qb3_0 : w1.cell? ⟨w.heap.size, 3, none⟩ = some (.int .i64 rng) := HX1.out.cell 3
  have qb4_0 : w1.cell? ⟨w.heap.size, 4, none⟩ = some (.int .i64 last) := HX1.out.cell 4
  have lb_0 : w.heap.size < w1.heap.size := HX1.out.lt
  have hcz1 := HPO.out w1
  go_wp2_with fail
  refine hcz1.mono ?_
  rintro e wz1 ⟨rfl, kz1⟩
  clear hcz1 qb0_0 qb1_0 qb2_0 qb3_0 qb4_0 lb_0
  have HBz1 := Lib.hid (HB1.out.trans (kz1.mono (Nat.le_trans hbase HB1.out.size)))
  have Hbz1 := Lib.hid (HX1.out.call kz1)
  clear kz1
  obtain ⟨wz2, hwz2⟩ : ∃ wz2, wz1.alloc (.cells #[.int .i64 0, .int .i64 0, .int .i64 0, .int .u64 0, .int .u64 0] 38) = wz2 := ⟨_, rfl⟩
  have kz2 : Below wz1.heap.size wz1 wz2 := by rw [← hwz2]; exact (Below.refl _ _).alloc (Nat.le_refl _) _
  have Hpz2 := Lib.hid (show Has wz2 wz1.heap.size [.int .i64 0, .int .i64 0, .int .i64 0, .int .u64 0, .int .u64 0] 38 by rw [← hwz2]; exact Has.new _ _ _)
  have HWz2 := Lib.hid hwz2
  clear hwz2
  have HBz2 := Lib.hid (HBz1.out.trans (kz2.mono (Nat.le_trans hbase HBz1.out.size)))
  have Hbz2 := Lib.hid (Hbz1.out.call kz2)
  clear kz2
  have qb0_2 : wz1.cell? ⟨w.heap.size, 0, none⟩ = some (.int .i64 size) := Hbz1.out.cell 0
  have qb1_2 : wz1.cell? ⟨w.heap.size, 1, none⟩ = some (.int .i64 m) := Hbz1.out.cell 1
  have qb2_2 : wz1.cell? ⟨w.heap.size, 2, none⟩ = some (.int .i64 sum) := Hbz1.out.cell 2
  have qb3_2 : wz1.cell? ⟨w.heap.size, 3, none⟩ = some (.int .i64 rng) := Hbz1.out.cell 3
  have qb4_2 : wz1.cell? ⟨w.heap.size, 4, none⟩ = some (.int .i64 last) := Hbz1.out.cell 4
  have lb_2 : w.heap.size < wz1.heap.size := Hbz1.out.lt
  have hcz3 := HWI.out wz2
  go_wp2_with fail
  rw [HWz2.out]
  refine hcz3.mono ?_
  rintro e wz3 ⟨rfl, kz3⟩
  clear hcz3 qb0_2 qb1_2 qb2_2 qb3_2 qb4_2 lb_2
  have HBz3 := Lib.hid (HBz2.out.trans (kz3.mono (Nat.le_trans hbase HBz2.out.size)))
  have Hbz3 := Lib.hid (Hbz2.out.call kz3)
  have Hpz3 := Lib.hid (Hpz2.out.call kz3)
  clear kz3
  have hcz4 := HAL.out wz3
  go_wp2_with fail
  refine hcz4.mono ?_
  rintro e wz4 ⟨rfl, kz4⟩
  clear hcz4
  have HBz4 := Lib.hid (HBz3.out.trans (kz4.mono (Nat.le_trans hbase HBz3.out.size)))
  have Hbz4 := Lib.hid (Hbz3.out.call kz4)
  have Hpz4 := Lib.hid (Hpz3.out.call kz4)
  clear kz4
  obtain ⟨wz5, hwz5⟩ : ∃ wz5, wz4.alloc (.cells #[.int .i64 0, .int .i64 0, .int .i64 0, .int .u64 0, .int .u64 0] 38) = wz5 := ⟨_, rfl⟩
  have kz5 : Below wz4.heap.size wz4 wz5 := by rw [← hwz5]; exact (Below.refl _ _).alloc (Nat.le_refl _) _
  have Hzz5 := Lib.hid (show Has wz5 wz4.heap.size [.int .i64 0, .int .i64 0, .int .i64 0, .int .u64 0, .int .u64 0] 38 by rw [← hwz5]; exact Has.new _ _ _)
  have HWz5 := Lib.hid hwz5
  clear hwz5
  have HBz5 := Lib.hid (HBz4.out.trans (kz5.mono (Nat.le_trans hbase HBz4.out.size)))
  have Hbz5 := Lib.hid (Hbz4.out.call kz5)
  have Hpz5 := Lib.hid (Hpz4.out.call kz5)
  clear kz5
  go_upto_region 6 with fail
  rw [HWz5.out]
  have hqp := eqPnt
  have qb0_5 : wz5.cell? ⟨w.heap.size, 0, none⟩ = some (.int .i64 size) := Hbz5.out.cell 0
  have qb1_5 : wz5.cell? ⟨w.heap.size, 1, none⟩ = some (.int .i64 m) := Hbz5.out.cell 1
  have qb2_5 : wz5.cell? ⟨w.heap.size, 2, none⟩ = some (.int .i64 sum) := Hbz5.out.cell 2
  have qb3_5 : wz5.cell? ⟨w.heap.size, 3, none⟩ = some (.int .i64 rng) := Hbz5.out.cell 3
  have qb4_5 : wz5.cell? ⟨w.heap.size, 4, none⟩ = some (.int .i64 last) := Hbz5.out.cell 4
  have lb_5 : w.heap.size < wz5.heap.size := Hbz5.out.lt
  have hcz6 := HRR.out wz5
  go_wp2_with fail
  refine hcz6.mono ?_
  rintro e wz6 ⟨rfl, kz6⟩
  clear hcz6 qb0_5 qb1_5 qb2_5 qb3_5 qb4_5 lb_5
  have HBz6 := Lib.hid (HBz5.out.trans (kz6.mono (Nat.le_trans hbase HBz5.out.size)))
  have Hbz6 := Lib.hid (Hbz5.out.call kz6)
  have Hpz6 := Lib.hid (Hpz5.out.call kz6)
  have Hzz6 := Lib.hid (Hzz5.out.call kz6)
  clear kz6
  have qb0_6 : wz6.cell? ⟨w.heap.size, 0, none⟩ = some (.int .i64 size) := Hbz6.out.cell 0
  have qb1_6 : wz6.cell? ⟨w.heap.size, 1, none⟩ = some (.int .i64 m) := Hbz6.out.cell 1
  have qb2_6 : wz6.cell? ⟨w.heap.size, 2, none⟩ = some (.int .i64 sum) := Hbz6.out.cell 2
  have qb3_6 : wz6.cell? ⟨w.heap.size, 3, none⟩ = some (.int .i64 rng) := Hbz6.out.cell 3
  have qb4_6 : wz6.cell? ⟨w.heap.size, 4, none⟩ = some (.int .i64 last) := Hbz6.out.cell 4
  have lb_6 : w.heap.size < wz6.heap.size := Hbz6.out.lt
  have hcz7 := HSU.out wz6
  go_wp2_with fail
  refine hcz7.mono ?_
  rintro e wz7 ⟨rfl, kz7⟩
  clear hcz7 qb0_6 qb1_6 qb2_6 qb3_6 qb4_6 lb_6
  have HBz7 := Lib.hid (HBz6.out.trans (kz7.mono (Nat.le_trans hbase HBz6.out.size)))
  have Hbz7 := Lib.hid (Hbz6.out.call kz7)
  have Hpz7 := Lib.hid (Hpz6.out.call kz7)
  have Hzz7 := Lib.hid (Hzz6.out.call kz7)
  clear kz7
  have qb0_7 : wz7.cell? ⟨w.heap.size, 0, none⟩ = some (.int .i64 size) := Hbz7.out.cell 0
  have qb1_7 : wz7.cell? ⟨w.heap.size, 1, none⟩ = some (.int .i64 m) := Hbz7.out.cell 1
  have qb2_7 : wz7.cell? ⟨w.heap.size, 2, none⟩ = some (.int .i64 sum) := Hbz7.out.cell 2
  have qb3_7 : wz7.cell? ⟨w.heap.size, 3, none⟩ = some (.int .i64 rng) := Hbz7.out.cell 3
  have qb4_7 : wz7.cell? ⟨w.heap.size, 4, none⟩ = some (.int .i64 last) := Hbz7.out.cell 4
  have lb_7 : w.heap.size < wz7.heap.size := Hbz7.out.lt
  have qp0_7 : wz7.cell? ⟨wz1.heap.size, 0, none⟩ = some (.int .i64 0) := Hpz7.out.cell 0
  have qp1_7 : wz7.cell? ⟨wz1.heap.size, 1, none⟩ = some (.int .i64 0) := Hpz7.out.cell 1
  have qp2_7 : wz7.cell? ⟨wz1.heap.size, 2, none⟩ = some (.int .i64 0) := Hpz7.out.cell 2
  have qp3_7 : wz7.cell? ⟨wz1.heap.size, 3, none⟩ = some (.int .u64 0) := Hpz7.out.cell 3
  have qp4_7 : wz7.cell? ⟨wz1.heap.size, 4, none⟩ = some (.int .u64 0) := Hpz7.out.cell 4
  have lp_7 : wz1.heap.size < wz7.heap.size := Hpz7.out.lt
  have qz0_7 : wz7.cell? ⟨wz4.heap.size, 0, none⟩ = some (.int .i64 0) := Hzz7.out.cell 0
  have qz1_7 : wz7.cell? ⟨wz4.heap.size, 1, none⟩ = some (.int .i64 0) := Hzz7.out.cell 1
  have qz2_7 : wz7.cell? ⟨wz4.heap.size, 2, none⟩ = some (.int .i64 0) := Hzz7.out.cell 2
  have qz3_7 : wz7.cell? ⟨wz4.heap.size, 3, none⟩ = some (.int .u64 0) := Hzz7.out.cell 3
  have qz4_7 : wz7.cell? ⟨wz4.heap.size, 4, none⟩ = some (.int .u64 0) := Hzz7.out.cell 4
  have lz_7 : wz4.heap.size < wz7.heap.size := Hzz7.out.lt
  have hcz8 := HRR.out wz7
  go_wp2_with fail
  refine hcz8.mono ?_
  rintro e wz8 ⟨rfl, kz8⟩
  clear hcz8 qb0_7 qb1_7 qb2_7 qb3_7 qb4_7 lb_7 qp0_7 qp1_7 qp2_7 qp3_7 qp4_7 lp_7 qz0_7 qz1_7 qz2_7 qz3_7 qz4_7 lz_7
  have HBz8 := Lib.hid (HBz7.out.trans (kz8.mono (Nat.le_trans hbase HBz7.out.size)))
  have Hbz8 := Lib.hid (Hbz7.out.call kz8)
  have Hpz8 := Lib.hid (Hpz7.out.call kz8)
  have Hzz8 := Lib.hid (Hzz7.out.call kz8)
  clear kz8
  have qb0_8 : wz8.cell? ⟨w.heap.size, 0, none⟩ = some (.int .i64 size) := Hbz8.out.cell 0
  have qb1_8 : wz8.cell? ⟨w.heap.size, 1, none⟩ = some (.int .i64 m) := Hbz8.out.cell 1
  have qb2_8 : wz8.cell? ⟨w.heap.size, 2, none⟩ = some (.int .i64 sum) := Hbz8.out.cell 2
  have qb3_8 : wz8.cell? ⟨w.heap.size, 3, none⟩ = some (.int .i64 rng) := Hbz8.out.cell 3
  have qb4_8 : wz8.cell? ⟨w.heap.size, 4, none⟩ = some (.int .i64 last) := Hbz8.out.cell 4
  have lb_8 : w.heap.size < wz8.heap.size := Hbz8.out.lt
  go_wp2
  go_ret
  exact ⟨rfl, HBz8.out⟩
set_option linter.unusedSimpArgs false in
set_option linter.unusedVariables false in
set_option maxHeartbeats 8000000 in
set_option maxRecDepth 100000 in
theorem tells15_0hi1 (size m sum rng last s r pa pb pc pd pe wv : Int) (w : World) (r1 : ¬ r < 0) (r2 : 2000000 < r) (m2 : m < 2)
    (HPO : Hid (∀ W, Calls Try.prog 15 #[.agg #[.int .i64 size, .int .i64 m, .int .i64 sum, .int .i64 rng, .int .i64 last], .int .i64 s] W fun e w' => e = .returned (.tuple #[.agg #[.int .i64 0, .int .i64 0, .int .i64 0, .int .u64 0, .int .u64 0], .int .i64 1]) ∧ Below W.heap.size W w'))
    (HWI : Hid (∀ W, Calls Try.prog 16 #[.agg #[.int .i64 size, .int .i64 m, .int .i64 sum, .int .i64 rng, .int .i64 last], .int .i64 r] W fun e w' => e = .returned (.tuple #[.int .i64 0, .int .i64 1]) ∧ Below W.heap.size W w'))
    (HAL : Hid (∀ W, Calls Try.prog 12 #[] W fun e w' => e = .returned (.bool true) ∧ Below W.heap.size W w'))
    (HRR : Hid (∀ W, Calls Try.prog 11 #[.agg #[.int .i64 size, .int .i64 m, .int .i64 sum, .int .i64 rng, .int .i64 last]] W fun e w' => e = .returned (.bool true) ∧ Below W.heap.size W w'))
    (HSU : Hid (∀ W, Calls Try.prog 17 #[.agg #[.int .i64 size, .int .i64 m, .int .i64 sum, .int .i64 rng, .int .i64 last], .int .i64 s] W fun e w' => e = .returned (.bool false) ∧ Below W.heap.size W w'))
    : Calls Try.prog 4 #[.agg #[.int .i64 size, .int .i64 m, .int .i64 sum, .int .i64 rng, .int .i64 last], .int .i64 s, .int .i64 r] w fun e w' => e = .returned (.bool true) ∧ Below w.heap.size w w' := by
  obtain ⟨w1, hw1⟩ : ∃ w1, w.alloc (.cells #[.int .i64 size, .int .i64 m, .int .i64 sum, .int .i64 rng, .int .i64 last] 23) = w1 := ⟨_, rfl⟩
  have HX1 := Lib.hid (show Has w1 w.heap.size [.int .i64 size, .int .i64 m, .int .i64 sum, .int .i64 rng, .int .i64 last] 23 by rw [← hw1]; exact Has.new w _ _)
  have HB1 := Lib.hid (show Below w.heap.size w w1 by rw [← hw1]; exact (Below.refl _ _).alloc (Nat.le_refl _) _)
  have HW1 := Lib.hid hw1
  have hbase := Nat.le_refl w.heap.size
  clear hw1
  go_enter Try.func4, Try.ntmps4
  go_upto_region 1 with fail
  rw [HW1.out]
  have qb0_0 : w1.cell? ⟨w.heap.size, 0, none⟩ = some (.int .i64 size) := HX1.out.cell 0
  have qb1_0 : w1.cell? ⟨w.heap.size, 1, none⟩ = some (.int .i64 m) := HX1.out.cell 1
  have qb2_0 : w1.cell? ⟨w.heap.size, 2, none⟩ = some (.int .i64 sum) := HX1.out.cell 2
  have qb3_0 : w1.cell? ⟨w.heap.size, 3, none⟩ = some (.int .i64 rng) := HX1.out.cell 3
  have qb4_0 : w1.cell? ⟨w.heap.size, 4, none⟩ = some (.int .i64 last) := HX1.out.cell 4
  have lb_0 : w.heap.size < w1.heap.size := HX1.out.lt
  have hcz1 := HPO.out w1
  go_wp2_with fail
  refine hcz1.mono ?_
  rintro e wz1 ⟨rfl, kz1⟩
  clear hcz1 qb0_0 qb1_0 qb2_0 qb3_0 qb4_0 lb_0
  have HBz1 := Lib.hid (HB1.out.trans (kz1.mono (Nat.le_trans hbase HB1.out.size)))
  have Hbz1 := Lib.hid (HX1.out.call kz1)
  clear kz1
  obtain ⟨wz2, hwz2⟩ : ∃ wz2, wz1.alloc (.cells #[.int .i64 0, .int .i64 0, .int .i64 0, .int .u64 0, .int .u64 0] 38) = wz2 := ⟨_, rfl⟩
  have kz2 : Below wz1.heap.size wz1 wz2 := by rw [← hwz2]; exact (Below.refl _ _).alloc (Nat.le_refl _) _
  have Hpz2 := Lib.hid (show Has wz2 wz1.heap.size [.int .i64 0, .int .i64 0, .int .i64 0, .int .u64 0, .int .u64 0] 38 by rw [← hwz2]; exact Has.new _ _ _)
  have HWz2 := Lib.hid hwz2
  clear hwz2
  have HBz2 := Lib.hid (HBz1.out.trans (kz2.mono (Nat.le_trans hbase HBz1.out.size)))
  have Hbz2 := Lib.hid (Hbz1.out.call kz2)
  clear kz2
  have qb0_2 : wz1.cell? ⟨w.heap.size, 0, none⟩ = some (.int .i64 size) := Hbz1.out.cell 0
  have qb1_2 : wz1.cell? ⟨w.heap.size, 1, none⟩ = some (.int .i64 m) := Hbz1.out.cell 1
  have qb2_2 : wz1.cell? ⟨w.heap.size, 2, none⟩ = some (.int .i64 sum) := Hbz1.out.cell 2
  have qb3_2 : wz1.cell? ⟨w.heap.size, 3, none⟩ = some (.int .i64 rng) := Hbz1.out.cell 3
  have qb4_2 : wz1.cell? ⟨w.heap.size, 4, none⟩ = some (.int .i64 last) := Hbz1.out.cell 4
  have lb_2 : w.heap.size < wz1.heap.size := Hbz1.out.lt
  have hcz3 := HWI.out wz2
  go_wp2_with fail
  rw [HWz2.out]
  refine hcz3.mono ?_
  rintro e wz3 ⟨rfl, kz3⟩
  clear hcz3 qb0_2 qb1_2 qb2_2 qb3_2 qb4_2 lb_2
  have HBz3 := Lib.hid (HBz2.out.trans (kz3.mono (Nat.le_trans hbase HBz2.out.size)))
  have Hbz3 := Lib.hid (Hbz2.out.call kz3)
  have Hpz3 := Lib.hid (Hpz2.out.call kz3)
  clear kz3
  have hcz4 := HAL.out wz3
  go_wp2_with fail
  refine hcz4.mono ?_
  rintro e wz4 ⟨rfl, kz4⟩
  clear hcz4
  have HBz4 := Lib.hid (HBz3.out.trans (kz4.mono (Nat.le_trans hbase HBz3.out.size)))
  have Hbz4 := Lib.hid (Hbz3.out.call kz4)
  have Hpz4 := Lib.hid (Hpz3.out.call kz4)
  clear kz4
  obtain ⟨wz5, hwz5⟩ : ∃ wz5, wz4.alloc (.cells #[.int .i64 0, .int .i64 0, .int .i64 0, .int .u64 0, .int .u64 0] 38) = wz5 := ⟨_, rfl⟩
  have kz5 : Below wz4.heap.size wz4 wz5 := by rw [← hwz5]; exact (Below.refl _ _).alloc (Nat.le_refl _) _
  have Hzz5 := Lib.hid (show Has wz5 wz4.heap.size [.int .i64 0, .int .i64 0, .int .i64 0, .int .u64 0, .int .u64 0] 38 by rw [← hwz5]; exact Has.new _ _ _)
  have HWz5 := Lib.hid hwz5
  clear hwz5
  have HBz5 := Lib.hid (HBz4.out.trans (kz5.mono (Nat.le_trans hbase HBz4.out.size)))
  have Hbz5 := Lib.hid (Hbz4.out.call kz5)
  have Hpz5 := Lib.hid (Hpz4.out.call kz5)
  clear kz5
  go_upto_region 6 with fail
  rw [HWz5.out]
  have hqp := eqPnt
  have qb0_5 : wz5.cell? ⟨w.heap.size, 0, none⟩ = some (.int .i64 size) := Hbz5.out.cell 0
  have qb1_5 : wz5.cell? ⟨w.heap.size, 1, none⟩ = some (.int .i64 m) := Hbz5.out.cell 1
  have qb2_5 : wz5.cell? ⟨w.heap.size, 2, none⟩ = some (.int .i64 sum) := Hbz5.out.cell 2
  have qb3_5 : wz5.cell? ⟨w.heap.size, 3, none⟩ = some (.int .i64 rng) := Hbz5.out.cell 3
  have qb4_5 : wz5.cell? ⟨w.heap.size, 4, none⟩ = some (.int .i64 last) := Hbz5.out.cell 4
  have lb_5 : w.heap.size < wz5.heap.size := Hbz5.out.lt
  have hcz6 := HRR.out wz5
  go_wp2_with fail
  refine hcz6.mono ?_
  rintro e wz6 ⟨rfl, kz6⟩
  clear hcz6 qb0_5 qb1_5 qb2_5 qb3_5 qb4_5 lb_5
  have HBz6 := Lib.hid (HBz5.out.trans (kz6.mono (Nat.le_trans hbase HBz5.out.size)))
  have Hbz6 := Lib.hid (Hbz5.out.call kz6)
  have Hpz6 := Lib.hid (Hpz5.out.call kz6)
  have Hzz6 := Lib.hid (Hzz5.out.call kz6)
  clear kz6
  have qb0_6 : wz6.cell? ⟨w.heap.size, 0, none⟩ = some (.int .i64 size) := Hbz6.out.cell 0
  have qb1_6 : wz6.cell? ⟨w.heap.size, 1, none⟩ = some (.int .i64 m) := Hbz6.out.cell 1
  have qb2_6 : wz6.cell? ⟨w.heap.size, 2, none⟩ = some (.int .i64 sum) := Hbz6.out.cell 2
  have qb3_6 : wz6.cell? ⟨w.heap.size, 3, none⟩ = some (.int .i64 rng) := Hbz6.out.cell 3
  have qb4_6 : wz6.cell? ⟨w.heap.size, 4, none⟩ = some (.int .i64 last) := Hbz6.out.cell 4
  have lb_6 : w.heap.size < wz6.heap.size := Hbz6.out.lt
  have hcz7 := HSU.out wz6
  go_wp2_with fail
  refine hcz7.mono ?_
  rintro e wz7 ⟨rfl, kz7⟩
  clear hcz7 qb0_6 qb1_6 qb2_6 qb3_6 qb4_6 lb_6
  have HBz7 := Lib.hid (HBz6.out.trans (kz7.mono (Nat.le_trans hbase HBz6.out.size)))
  have Hbz7 := Lib.hid (Hbz6.out.call kz7)
  have Hpz7 := Lib.hid (Hpz6.out.call kz7)
  have Hzz7 := Lib.hid (Hzz6.out.call kz7)
  clear kz7
  have qb0_7 : wz7.cell? ⟨w.heap.size, 0, none⟩ = some (.int .i64 size) := Hbz7.out.cell 0
  have qb1_7 : wz7.cell? ⟨w.heap.size, 1, none⟩ = some (.int .i64 m) := Hbz7.out.cell 1
  have qb2_7 : wz7.cell? ⟨w.heap.size, 2, none⟩ = some (.int .i64 sum) := Hbz7.out.cell 2
  have qb3_7 : wz7.cell? ⟨w.heap.size, 3, none⟩ = some (.int .i64 rng) := Hbz7.out.cell 3
  have qb4_7 : wz7.cell? ⟨w.heap.size, 4, none⟩ = some (.int .i64 last) := Hbz7.out.cell 4
  have lb_7 : w.heap.size < wz7.heap.size := Hbz7.out.lt
  have qp0_7 : wz7.cell? ⟨wz1.heap.size, 0, none⟩ = some (.int .i64 0) := Hpz7.out.cell 0
  have qp1_7 : wz7.cell? ⟨wz1.heap.size, 1, none⟩ = some (.int .i64 0) := Hpz7.out.cell 1
  have qp2_7 : wz7.cell? ⟨wz1.heap.size, 2, none⟩ = some (.int .i64 0) := Hpz7.out.cell 2
  have qp3_7 : wz7.cell? ⟨wz1.heap.size, 3, none⟩ = some (.int .u64 0) := Hpz7.out.cell 3
  have qp4_7 : wz7.cell? ⟨wz1.heap.size, 4, none⟩ = some (.int .u64 0) := Hpz7.out.cell 4
  have lp_7 : wz1.heap.size < wz7.heap.size := Hpz7.out.lt
  have qz0_7 : wz7.cell? ⟨wz4.heap.size, 0, none⟩ = some (.int .i64 0) := Hzz7.out.cell 0
  have qz1_7 : wz7.cell? ⟨wz4.heap.size, 1, none⟩ = some (.int .i64 0) := Hzz7.out.cell 1
  have qz2_7 : wz7.cell? ⟨wz4.heap.size, 2, none⟩ = some (.int .i64 0) := Hzz7.out.cell 2
  have qz3_7 : wz7.cell? ⟨wz4.heap.size, 3, none⟩ = some (.int .u64 0) := Hzz7.out.cell 3
  have qz4_7 : wz7.cell? ⟨wz4.heap.size, 4, none⟩ = some (.int .u64 0) := Hzz7.out.cell 4
  have lz_7 : wz4.heap.size < wz7.heap.size := Hzz7.out.lt
  have hcz8 := HRR.out wz7
  go_wp2_with fail
  refine hcz8.mono ?_
  rintro e wz8 ⟨rfl, kz8⟩
  clear hcz8 qb0_7 qb1_7 qb2_7 qb3_7 qb4_7 lb_7 qp0_7 qp1_7 qp2_7 qp3_7 qp4_7 lp_7 qz0_7 qz1_7 qz2_7 qz3_7 qz4_7 lz_7
  have HBz8 := Lib.hid (HBz7.out.trans (kz8.mono (Nat.le_trans hbase HBz7.out.size)))
  have Hbz8 := Lib.hid (Hbz7.out.call kz8)
  have Hpz8 := Lib.hid (Hpz7.out.call kz8)
  have Hzz8 := Lib.hid (Hzz7.out.call kz8)
  clear kz8
  have qb0_8 : wz8.cell? ⟨w.heap.size, 0, none⟩ = some (.int .i64 size) := Hbz8.out.cell 0
  have qb1_8 : wz8.cell? ⟨w.heap.size, 1, none⟩ = some (.int .i64 m) := Hbz8.out.cell 1
  have qb2_8 : wz8.cell? ⟨w.heap.size, 2, none⟩ = some (.int .i64 sum) := Hbz8.out.cell 2
  have qb3_8 : wz8.cell? ⟨w.heap.size, 3, none⟩ = some (.int .i64 rng) := Hbz8.out.cell 3
  have qb4_8 : wz8.cell? ⟨w.heap.size, 4, none⟩ = some (.int .i64 last) := Hbz8.out.cell 4
  have lb_8 : w.heap.size < wz8.heap.size := Hbz8.out.lt
  go_wp2
  go_ret
  exact ⟨rfl, HBz8.out⟩
set_option linter.unusedSimpArgs false in
set_option linter.unusedVariables false in
set_option maxHeartbeats 8000000 in
set_option maxRecDepth 100000 in
theorem tells15_0hi0 (size m sum rng last s r pa pb pc pd pe wv : Int) (w : World) (r1 : ¬ r < 0) (r2 : 2000000 < r) (m2 : ¬ m < 2)
    (HPO : Hid (∀ W, Calls Try.prog 15 #[.agg #[.int .i64 size, .int .i64 m, .int .i64 sum, .int .i64 rng, .int .i64 last], .int .i64 s] W fun e w' => e = .returned (.tuple #[.agg #[.int .i64 0, .int .i64 0, .int .i64 0, .int .u64 0, .int .u64 0], .int .i64 1]) ∧ Below W.heap.size W w'))
    (HWI : Hid (∀ W, Calls Try.prog 16 #[.agg #[.int .i64 size, .int .i64 m, .int .i64 sum, .int .i64 rng, .int .i64 last], .int .i64 r] W fun e w' => e = .returned (.tuple #[.int .i64 0, .int .i64 1]) ∧ Below W.heap.size W w'))
    (HAL : Hid (∀ W, Calls Try.prog 12 #[] W fun e w' => e = .returned (.bool true) ∧ Below W.heap.size W w'))
    (HRR : Hid (∀ W, Calls Try.prog 11 #[.agg #[.int .i64 size, .int .i64 m, .int .i64 sum, .int .i64 rng, .int .i64 last]] W fun e w' => e = .returned (.bool true) ∧ Below W.heap.size W w'))
    (HSU : Hid (∀ W, Calls Try.prog 17 #[.agg #[.int .i64 size, .int .i64 m, .int .i64 sum, .int .i64 rng, .int .i64 last], .int .i64 s] W fun e w' => e = .returned (.bool false) ∧ Below W.heap.size W w'))
    : Calls Try.prog 4 #[.agg #[.int .i64 size, .int .i64 m, .int .i64 sum, .int .i64 rng, .int .i64 last], .int .i64 s, .int .i64 r] w fun e w' => e = .returned (.bool true) ∧ Below w.heap.size w w' := by
  obtain ⟨w1, hw1⟩ : ∃ w1, w.alloc (.cells #[.int .i64 size, .int .i64 m, .int .i64 sum, .int .i64 rng, .int .i64 last] 23) = w1 := ⟨_, rfl⟩
  have HX1 := Lib.hid (show Has w1 w.heap.size [.int .i64 size, .int .i64 m, .int .i64 sum, .int .i64 rng, .int .i64 last] 23 by rw [← hw1]; exact Has.new w _ _)
  have HB1 := Lib.hid (show Below w.heap.size w w1 by rw [← hw1]; exact (Below.refl _ _).alloc (Nat.le_refl _) _)
  have HW1 := Lib.hid hw1
  have hbase := Nat.le_refl w.heap.size
  clear hw1
  go_enter Try.func4, Try.ntmps4
  go_upto_region 1 with fail
  rw [HW1.out]
  have qb0_0 : w1.cell? ⟨w.heap.size, 0, none⟩ = some (.int .i64 size) := HX1.out.cell 0
  have qb1_0 : w1.cell? ⟨w.heap.size, 1, none⟩ = some (.int .i64 m) := HX1.out.cell 1
  have qb2_0 : w1.cell? ⟨w.heap.size, 2, none⟩ = some (.int .i64 sum) := HX1.out.cell 2
  have qb3_0 : w1.cell? ⟨w.heap.size, 3, none⟩ = some (.int .i64 rng) := HX1.out.cell 3
  have qb4_0 : w1.cell? ⟨w.heap.size, 4, none⟩ = some (.int .i64 last) := HX1.out.cell 4
  have lb_0 : w.heap.size < w1.heap.size := HX1.out.lt
  have hcz1 := HPO.out w1
  go_wp2_with fail
  refine hcz1.mono ?_
  rintro e wz1 ⟨rfl, kz1⟩
  clear hcz1 qb0_0 qb1_0 qb2_0 qb3_0 qb4_0 lb_0
  have HBz1 := Lib.hid (HB1.out.trans (kz1.mono (Nat.le_trans hbase HB1.out.size)))
  have Hbz1 := Lib.hid (HX1.out.call kz1)
  clear kz1
  obtain ⟨wz2, hwz2⟩ : ∃ wz2, wz1.alloc (.cells #[.int .i64 0, .int .i64 0, .int .i64 0, .int .u64 0, .int .u64 0] 38) = wz2 := ⟨_, rfl⟩
  have kz2 : Below wz1.heap.size wz1 wz2 := by rw [← hwz2]; exact (Below.refl _ _).alloc (Nat.le_refl _) _
  have Hpz2 := Lib.hid (show Has wz2 wz1.heap.size [.int .i64 0, .int .i64 0, .int .i64 0, .int .u64 0, .int .u64 0] 38 by rw [← hwz2]; exact Has.new _ _ _)
  have HWz2 := Lib.hid hwz2
  clear hwz2
  have HBz2 := Lib.hid (HBz1.out.trans (kz2.mono (Nat.le_trans hbase HBz1.out.size)))
  have Hbz2 := Lib.hid (Hbz1.out.call kz2)
  clear kz2
  have qb0_2 : wz1.cell? ⟨w.heap.size, 0, none⟩ = some (.int .i64 size) := Hbz1.out.cell 0
  have qb1_2 : wz1.cell? ⟨w.heap.size, 1, none⟩ = some (.int .i64 m) := Hbz1.out.cell 1
  have qb2_2 : wz1.cell? ⟨w.heap.size, 2, none⟩ = some (.int .i64 sum) := Hbz1.out.cell 2
  have qb3_2 : wz1.cell? ⟨w.heap.size, 3, none⟩ = some (.int .i64 rng) := Hbz1.out.cell 3
  have qb4_2 : wz1.cell? ⟨w.heap.size, 4, none⟩ = some (.int .i64 last) := Hbz1.out.cell 4
  have lb_2 : w.heap.size < wz1.heap.size := Hbz1.out.lt
  have hcz3 := HWI.out wz2
  go_wp2_with fail
  rw [HWz2.out]
  refine hcz3.mono ?_
  rintro e wz3 ⟨rfl, kz3⟩
  clear hcz3 qb0_2 qb1_2 qb2_2 qb3_2 qb4_2 lb_2
  have HBz3 := Lib.hid (HBz2.out.trans (kz3.mono (Nat.le_trans hbase HBz2.out.size)))
  have Hbz3 := Lib.hid (Hbz2.out.call kz3)
  have Hpz3 := Lib.hid (Hpz2.out.call kz3)
  clear kz3
  have hcz4 := HAL.out wz3
  go_wp2_with fail
  refine hcz4.mono ?_
  rintro e wz4 ⟨rfl, kz4⟩
  clear hcz4
  have HBz4 := Lib.hid (HBz3.out.trans (kz4.mono (Nat.le_trans hbase HBz3.out.size)))
  have Hbz4 := Lib.hid (Hbz3.out.call kz4)
  have Hpz4 := Lib.hid (Hpz3.out.call kz4)
  clear kz4
  obtain ⟨wz5, hwz5⟩ : ∃ wz5, wz4.alloc (.cells #[.int .i64 0, .int .i64 0, .int .i64 0, .int .u64 0, .int .u64 0] 38) = wz5 := ⟨_, rfl⟩
  have kz5 : Below wz4.heap.size wz4 wz5 := by rw [← hwz5]; exact (Below.refl _ _).alloc (Nat.le_refl _) _
  have Hzz5 := Lib.hid (show Has wz5 wz4.heap.size [.int .i64 0, .int .i64 0, .int .i64 0, .int .u64 0, .int .u64 0] 38 by rw [← hwz5]; exact Has.new _ _ _)
  have HWz5 := Lib.hid hwz5
  clear hwz5
  have HBz5 := Lib.hid (HBz4.out.trans (kz5.mono (Nat.le_trans hbase HBz4.out.size)))
  have Hbz5 := Lib.hid (Hbz4.out.call kz5)
  have Hpz5 := Lib.hid (Hpz4.out.call kz5)
  clear kz5
  go_upto_region 6 with fail
  rw [HWz5.out]
  have hqp := eqPnt
  have qb0_5 : wz5.cell? ⟨w.heap.size, 0, none⟩ = some (.int .i64 size) := Hbz5.out.cell 0
  have qb1_5 : wz5.cell? ⟨w.heap.size, 1, none⟩ = some (.int .i64 m) := Hbz5.out.cell 1
  have qb2_5 : wz5.cell? ⟨w.heap.size, 2, none⟩ = some (.int .i64 sum) := Hbz5.out.cell 2
  have qb3_5 : wz5.cell? ⟨w.heap.size, 3, none⟩ = some (.int .i64 rng) := Hbz5.out.cell 3
  have qb4_5 : wz5.cell? ⟨w.heap.size, 4, none⟩ = some (.int .i64 last) := Hbz5.out.cell 4
  have lb_5 : w.heap.size < wz5.heap.size := Hbz5.out.lt
  have hcz6 := HRR.out wz5
  go_wp2_with fail
  refine hcz6.mono ?_
  rintro e wz6 ⟨rfl, kz6⟩
  clear hcz6 qb0_5 qb1_5 qb2_5 qb3_5 qb4_5 lb_5
  have HBz6 := Lib.hid (HBz5.out.trans (kz6.mono (Nat.le_trans hbase HBz5.out.size)))
  have Hbz6 := Lib.hid (Hbz5.out.call kz6)
  have Hpz6 := Lib.hid (Hpz5.out.call kz6)
  have Hzz6 := Lib.hid (Hzz5.out.call kz6)
  clear kz6
  have qb0_6 : wz6.cell? ⟨w.heap.size, 0, none⟩ = some (.int .i64 size) := Hbz6.out.cell 0
  have qb1_6 : wz6.cell? ⟨w.heap.size, 1, none⟩ = some (.int .i64 m) := Hbz6.out.cell 1
  have qb2_6 : wz6.cell? ⟨w.heap.size, 2, none⟩ = some (.int .i64 sum) := Hbz6.out.cell 2
  have qb3_6 : wz6.cell? ⟨w.heap.size, 3, none⟩ = some (.int .i64 rng) := Hbz6.out.cell 3
  have qb4_6 : wz6.cell? ⟨w.heap.size, 4, none⟩ = some (.int .i64 last) := Hbz6.out.cell 4
  have lb_6 : w.heap.size < wz6.heap.size := Hbz6.out.lt
  have hcz7 := HSU.out wz6
  go_wp2_with fail
  refine hcz7.mono ?_
  rintro e wz7 ⟨rfl, kz7⟩
  clear hcz7 qb0_6 qb1_6 qb2_6 qb3_6 qb4_6 lb_6
  have HBz7 := Lib.hid (HBz6.out.trans (kz7.mono (Nat.le_trans hbase HBz6.out.size)))
  have Hbz7 := Lib.hid (Hbz6.out.call kz7)
  have Hpz7 := Lib.hid (Hpz6.out.call kz7)
  have Hzz7 := Lib.hid (Hzz6.out.call kz7)
  clear kz7
  have qb0_7 : wz7.cell? ⟨w.heap.size, 0, none⟩ = some (.int .i64 size) := Hbz7.out.cell 0
  have qb1_7 : wz7.cell? ⟨w.heap.size, 1, none⟩ = some (.int .i64 m) := Hbz7.out.cell 1
  have qb2_7 : wz7.cell? ⟨w.heap.size, 2, none⟩ = some (.int .i64 sum) := Hbz7.out.cell 2
  have qb3_7 : wz7.cell? ⟨w.heap.size, 3, none⟩ = some (.int .i64 rng) := Hbz7.out.cell 3
  have qb4_7 : wz7.cell? ⟨w.heap.size, 4, none⟩ = some (.int .i64 last) := Hbz7.out.cell 4
  have lb_7 : w.heap.size < wz7.heap.size := Hbz7.out.lt
  have qp0_7 : wz7.cell? ⟨wz1.heap.size, 0, none⟩ = some (.int .i64 0) := Hpz7.out.cell 0
  have qp1_7 : wz7.cell? ⟨wz1.heap.size, 1, none⟩ = some (.int .i64 0) := Hpz7.out.cell 1
  have qp2_7 : wz7.cell? ⟨wz1.heap.size, 2, none⟩ = some (.int .i64 0) := Hpz7.out.cell 2
  have qp3_7 : wz7.cell? ⟨wz1.heap.size, 3, none⟩ = some (.int .u64 0) := Hpz7.out.cell 3
  have qp4_7 : wz7.cell? ⟨wz1.heap.size, 4, none⟩ = some (.int .u64 0) := Hpz7.out.cell 4
  have lp_7 : wz1.heap.size < wz7.heap.size := Hpz7.out.lt
  have qz0_7 : wz7.cell? ⟨wz4.heap.size, 0, none⟩ = some (.int .i64 0) := Hzz7.out.cell 0
  have qz1_7 : wz7.cell? ⟨wz4.heap.size, 1, none⟩ = some (.int .i64 0) := Hzz7.out.cell 1
  have qz2_7 : wz7.cell? ⟨wz4.heap.size, 2, none⟩ = some (.int .i64 0) := Hzz7.out.cell 2
  have qz3_7 : wz7.cell? ⟨wz4.heap.size, 3, none⟩ = some (.int .u64 0) := Hzz7.out.cell 3
  have qz4_7 : wz7.cell? ⟨wz4.heap.size, 4, none⟩ = some (.int .u64 0) := Hzz7.out.cell 4
  have lz_7 : wz4.heap.size < wz7.heap.size := Hzz7.out.lt
  have hcz8 := HRR.out wz7
  go_wp2_with fail
  refine hcz8.mono ?_
  rintro e wz8 ⟨rfl, kz8⟩
  clear hcz8 qb0_7 qb1_7 qb2_7 qb3_7 qb4_7 lb_7 qp0_7 qp1_7 qp2_7 qp3_7 qp4_7 lp_7 qz0_7 qz1_7 qz2_7 qz3_7 qz4_7 lz_7
  have HBz8 := Lib.hid (HBz7.out.trans (kz8.mono (Nat.le_trans hbase HBz7.out.size)))
  have Hbz8 := Lib.hid (Hbz7.out.call kz8)
  have Hpz8 := Lib.hid (Hpz7.out.call kz8)
  have Hzz8 := Lib.hid (Hzz7.out.call kz8)
  clear kz8
  have qb0_8 : wz8.cell? ⟨w.heap.size, 0, none⟩ = some (.int .i64 size) := Hbz8.out.cell 0
  have qb1_8 : wz8.cell? ⟨w.heap.size, 1, none⟩ = some (.int .i64 m) := Hbz8.out.cell 1
  have qb2_8 : wz8.cell? ⟨w.heap.size, 2, none⟩ = some (.int .i64 sum) := Hbz8.out.cell 2
  have qb3_8 : wz8.cell? ⟨w.heap.size, 3, none⟩ = some (.int .i64 rng) := Hbz8.out.cell 3
  have qb4_8 : wz8.cell? ⟨w.heap.size, 4, none⟩ = some (.int .i64 last) := Hbz8.out.cell 4
  have lb_8 : w.heap.size < wz8.heap.size := Hbz8.out.lt
  go_wp2
  go_ret
  exact ⟨rfl, HBz8.out⟩
set_option linter.unusedSimpArgs false in
set_option linter.unusedVariables false in
set_option maxHeartbeats 8000000 in
set_option maxRecDepth 100000 in
theorem tells15_0in1 (size m sum rng last s r pa pb pc pd pe wv : Int) (w : World) (r1 : ¬ r < 0) (r2 : ¬ 2000000 < r) (m2 : m < 2)
    (HPO : Hid (∀ W, Calls Try.prog 15 #[.agg #[.int .i64 size, .int .i64 m, .int .i64 sum, .int .i64 rng, .int .i64 last], .int .i64 s] W fun e w' => e = .returned (.tuple #[.agg #[.int .i64 0, .int .i64 0, .int .i64 0, .int .u64 0, .int .u64 0], .int .i64 1]) ∧ Below W.heap.size W w'))
    (HWI : Hid (∀ W, Calls Try.prog 16 #[.agg #[.int .i64 size, .int .i64 m, .int .i64 sum, .int .i64 rng, .int .i64 last], .int .i64 r] W fun e w' => e = .returned (.tuple #[.int .i64 0, .int .i64 12]) ∧ Below W.heap.size W w'))
    (HAL : Hid (∀ W, Calls Try.prog 12 #[] W fun e w' => e = .returned (.bool true) ∧ Below W.heap.size W w'))
    (HRR : Hid (∀ W, Calls Try.prog 11 #[.agg #[.int .i64 size, .int .i64 m, .int .i64 sum, .int .i64 rng, .int .i64 last]] W fun e w' => e = .returned (.bool true) ∧ Below W.heap.size W w'))
    (HSU : Hid (∀ W, Calls Try.prog 17 #[.agg #[.int .i64 size, .int .i64 m, .int .i64 sum, .int .i64 rng, .int .i64 last], .int .i64 s] W fun e w' => e = .returned (.bool false) ∧ Below W.heap.size W w'))
    : Calls Try.prog 4 #[.agg #[.int .i64 size, .int .i64 m, .int .i64 sum, .int .i64 rng, .int .i64 last], .int .i64 s, .int .i64 r] w fun e w' => e = .returned (.bool true) ∧ Below w.heap.size w w' := by
  obtain ⟨w1, hw1⟩ : ∃ w1, w.alloc (.cells #[.int .i64 size, .int .i64 m, .int .i64 sum, .int .i64 rng, .int .i64 last] 23) = w1 := ⟨_, rfl⟩
  have HX1 := Lib.hid (show Has w1 w.heap.size [.int .i64 size, .int .i64 m, .int .i64 sum, .int .i64 rng, .int .i64 last] 23 by rw [← hw1]; exact Has.new w _ _)
  have HB1 := Lib.hid (show Below w.heap.size w w1 by rw [← hw1]; exact (Below.refl _ _).alloc (Nat.le_refl _) _)
  have HW1 := Lib.hid hw1
  have hbase := Nat.le_refl w.heap.size
  clear hw1
  go_enter Try.func4, Try.ntmps4
  go_upto_region 1 with fail
  rw [HW1.out]
  have qb0_0 : w1.cell? ⟨w.heap.size, 0, none⟩ = some (.int .i64 size) := HX1.out.cell 0
  have qb1_0 : w1.cell? ⟨w.heap.size, 1, none⟩ = some (.int .i64 m) := HX1.out.cell 1
  have qb2_0 : w1.cell? ⟨w.heap.size, 2, none⟩ = some (.int .i64 sum) := HX1.out.cell 2
  have qb3_0 : w1.cell? ⟨w.heap.size, 3, none⟩ = some (.int .i64 rng) := HX1.out.cell 3
  have qb4_0 : w1.cell? ⟨w.heap.size, 4, none⟩ = some (.int .i64 last) := HX1.out.cell 4
  have lb_0 : w.heap.size < w1.heap.size := HX1.out.lt
  have hcz1 := HPO.out w1
  go_wp2_with fail
  refine hcz1.mono ?_
  rintro e wz1 ⟨rfl, kz1⟩
  clear hcz1 qb0_0 qb1_0 qb2_0 qb3_0 qb4_0 lb_0
  have HBz1 := Lib.hid (HB1.out.trans (kz1.mono (Nat.le_trans hbase HB1.out.size)))
  have Hbz1 := Lib.hid (HX1.out.call kz1)
  clear kz1
  obtain ⟨wz2, hwz2⟩ : ∃ wz2, wz1.alloc (.cells #[.int .i64 0, .int .i64 0, .int .i64 0, .int .u64 0, .int .u64 0] 38) = wz2 := ⟨_, rfl⟩
  have kz2 : Below wz1.heap.size wz1 wz2 := by rw [← hwz2]; exact (Below.refl _ _).alloc (Nat.le_refl _) _
  have Hpz2 := Lib.hid (show Has wz2 wz1.heap.size [.int .i64 0, .int .i64 0, .int .i64 0, .int .u64 0, .int .u64 0] 38 by rw [← hwz2]; exact Has.new _ _ _)
  have HWz2 := Lib.hid hwz2
  clear hwz2
  have HBz2 := Lib.hid (HBz1.out.trans (kz2.mono (Nat.le_trans hbase HBz1.out.size)))
  have Hbz2 := Lib.hid (Hbz1.out.call kz2)
  clear kz2
  have qb0_2 : wz1.cell? ⟨w.heap.size, 0, none⟩ = some (.int .i64 size) := Hbz1.out.cell 0
  have qb1_2 : wz1.cell? ⟨w.heap.size, 1, none⟩ = some (.int .i64 m) := Hbz1.out.cell 1
  have qb2_2 : wz1.cell? ⟨w.heap.size, 2, none⟩ = some (.int .i64 sum) := Hbz1.out.cell 2
  have qb3_2 : wz1.cell? ⟨w.heap.size, 3, none⟩ = some (.int .i64 rng) := Hbz1.out.cell 3
  have qb4_2 : wz1.cell? ⟨w.heap.size, 4, none⟩ = some (.int .i64 last) := Hbz1.out.cell 4
  have lb_2 : w.heap.size < wz1.heap.size := Hbz1.out.lt
  have hcz3 := HWI.out wz2
  go_wp2_with fail
  rw [HWz2.out]
  refine hcz3.mono ?_
  rintro e wz3 ⟨rfl, kz3⟩
  clear hcz3 qb0_2 qb1_2 qb2_2 qb3_2 qb4_2 lb_2
  have HBz3 := Lib.hid (HBz2.out.trans (kz3.mono (Nat.le_trans hbase HBz2.out.size)))
  have Hbz3 := Lib.hid (Hbz2.out.call kz3)
  have Hpz3 := Lib.hid (Hpz2.out.call kz3)
  clear kz3
  have hcz4 := HAL.out wz3
  go_wp2_with fail
  refine hcz4.mono ?_
  rintro e wz4 ⟨rfl, kz4⟩
  clear hcz4
  have HBz4 := Lib.hid (HBz3.out.trans (kz4.mono (Nat.le_trans hbase HBz3.out.size)))
  have Hbz4 := Lib.hid (Hbz3.out.call kz4)
  have Hpz4 := Lib.hid (Hpz3.out.call kz4)
  clear kz4
  obtain ⟨wz5, hwz5⟩ : ∃ wz5, wz4.alloc (.cells #[.int .i64 0, .int .i64 0, .int .i64 0, .int .u64 0, .int .u64 0] 38) = wz5 := ⟨_, rfl⟩
  have kz5 : Below wz4.heap.size wz4 wz5 := by rw [← hwz5]; exact (Below.refl _ _).alloc (Nat.le_refl _) _
  have Hzz5 := Lib.hid (show Has wz5 wz4.heap.size [.int .i64 0, .int .i64 0, .int .i64 0, .int .u64 0, .int .u64 0] 38 by rw [← hwz5]; exact Has.new _ _ _)
  have HWz5 := Lib.hid hwz5
  clear hwz5
  have HBz5 := Lib.hid (HBz4.out.trans (kz5.mono (Nat.le_trans hbase HBz4.out.size)))
  have Hbz5 := Lib.hid (Hbz4.out.call kz5)
  have Hpz5 := Lib.hid (Hpz4.out.call kz5)
  clear kz5
  go_upto_region 6 with fail
  rw [HWz5.out]
  have hqp := eqPnt
  have qb0_5 : wz5.cell? ⟨w.heap.size, 0, none⟩ = some (.int .i64 size) := Hbz5.out.cell 0
  have qb1_5 : wz5.cell? ⟨w.heap.size, 1, none⟩ = some (.int .i64 m) := Hbz5.out.cell 1
  have qb2_5 : wz5.cell? ⟨w.heap.size, 2, none⟩ = some (.int .i64 sum) := Hbz5.out.cell 2
  have qb3_5 : wz5.cell? ⟨w.heap.size, 3, none⟩ = some (.int .i64 rng) := Hbz5.out.cell 3
  have qb4_5 : wz5.cell? ⟨w.heap.size, 4, none⟩ = some (.int .i64 last) := Hbz5.out.cell 4
  have lb_5 : w.heap.size < wz5.heap.size := Hbz5.out.lt
  have hcz6 := HRR.out wz5
  go_wp2_with fail
  refine hcz6.mono ?_
  rintro e wz6 ⟨rfl, kz6⟩
  clear hcz6 qb0_5 qb1_5 qb2_5 qb3_5 qb4_5 lb_5
  have HBz6 := Lib.hid (HBz5.out.trans (kz6.mono (Nat.le_trans hbase HBz5.out.size)))
  have Hbz6 := Lib.hid (Hbz5.out.call kz6)
  have Hpz6 := Lib.hid (Hpz5.out.call kz6)
  have Hzz6 := Lib.hid (Hzz5.out.call kz6)
  clear kz6
  have qb0_6 : wz6.cell? ⟨w.heap.size, 0, none⟩ = some (.int .i64 size) := Hbz6.out.cell 0
  have qb1_6 : wz6.cell? ⟨w.heap.size, 1, none⟩ = some (.int .i64 m) := Hbz6.out.cell 1
  have qb2_6 : wz6.cell? ⟨w.heap.size, 2, none⟩ = some (.int .i64 sum) := Hbz6.out.cell 2
  have qb3_6 : wz6.cell? ⟨w.heap.size, 3, none⟩ = some (.int .i64 rng) := Hbz6.out.cell 3
  have qb4_6 : wz6.cell? ⟨w.heap.size, 4, none⟩ = some (.int .i64 last) := Hbz6.out.cell 4
  have lb_6 : w.heap.size < wz6.heap.size := Hbz6.out.lt
  have hcz7 := HSU.out wz6
  go_wp2_with fail
  refine hcz7.mono ?_
  rintro e wz7 ⟨rfl, kz7⟩
  clear hcz7 qb0_6 qb1_6 qb2_6 qb3_6 qb4_6 lb_6
  have HBz7 := Lib.hid (HBz6.out.trans (kz7.mono (Nat.le_trans hbase HBz6.out.size)))
  have Hbz7 := Lib.hid (Hbz6.out.call kz7)
  have Hpz7 := Lib.hid (Hpz6.out.call kz7)
  have Hzz7 := Lib.hid (Hzz6.out.call kz7)
  clear kz7
  have qb0_7 : wz7.cell? ⟨w.heap.size, 0, none⟩ = some (.int .i64 size) := Hbz7.out.cell 0
  have qb1_7 : wz7.cell? ⟨w.heap.size, 1, none⟩ = some (.int .i64 m) := Hbz7.out.cell 1
  have qb2_7 : wz7.cell? ⟨w.heap.size, 2, none⟩ = some (.int .i64 sum) := Hbz7.out.cell 2
  have qb3_7 : wz7.cell? ⟨w.heap.size, 3, none⟩ = some (.int .i64 rng) := Hbz7.out.cell 3
  have qb4_7 : wz7.cell? ⟨w.heap.size, 4, none⟩ = some (.int .i64 last) := Hbz7.out.cell 4
  have lb_7 : w.heap.size < wz7.heap.size := Hbz7.out.lt
  have qp0_7 : wz7.cell? ⟨wz1.heap.size, 0, none⟩ = some (.int .i64 0) := Hpz7.out.cell 0
  have qp1_7 : wz7.cell? ⟨wz1.heap.size, 1, none⟩ = some (.int .i64 0) := Hpz7.out.cell 1
  have qp2_7 : wz7.cell? ⟨wz1.heap.size, 2, none⟩ = some (.int .i64 0) := Hpz7.out.cell 2
  have qp3_7 : wz7.cell? ⟨wz1.heap.size, 3, none⟩ = some (.int .u64 0) := Hpz7.out.cell 3
  have qp4_7 : wz7.cell? ⟨wz1.heap.size, 4, none⟩ = some (.int .u64 0) := Hpz7.out.cell 4
  have lp_7 : wz1.heap.size < wz7.heap.size := Hpz7.out.lt
  have qz0_7 : wz7.cell? ⟨wz4.heap.size, 0, none⟩ = some (.int .i64 0) := Hzz7.out.cell 0
  have qz1_7 : wz7.cell? ⟨wz4.heap.size, 1, none⟩ = some (.int .i64 0) := Hzz7.out.cell 1
  have qz2_7 : wz7.cell? ⟨wz4.heap.size, 2, none⟩ = some (.int .i64 0) := Hzz7.out.cell 2
  have qz3_7 : wz7.cell? ⟨wz4.heap.size, 3, none⟩ = some (.int .u64 0) := Hzz7.out.cell 3
  have qz4_7 : wz7.cell? ⟨wz4.heap.size, 4, none⟩ = some (.int .u64 0) := Hzz7.out.cell 4
  have lz_7 : wz4.heap.size < wz7.heap.size := Hzz7.out.lt
  have hcz8 := HRR.out wz7
  go_wp2_with fail
  refine hcz8.mono ?_
  rintro e wz8 ⟨rfl, kz8⟩
  clear hcz8 qb0_7 qb1_7 qb2_7 qb3_7 qb4_7 lb_7 qp0_7 qp1_7 qp2_7 qp3_7 qp4_7 lp_7 qz0_7 qz1_7 qz2_7 qz3_7 qz4_7 lz_7
  have HBz8 := Lib.hid (HBz7.out.trans (kz8.mono (Nat.le_trans hbase HBz7.out.size)))
  have Hbz8 := Lib.hid (Hbz7.out.call kz8)
  have Hpz8 := Lib.hid (Hpz7.out.call kz8)
  have Hzz8 := Lib.hid (Hzz7.out.call kz8)
  clear kz8
  have qb0_8 : wz8.cell? ⟨w.heap.size, 0, none⟩ = some (.int .i64 size) := Hbz8.out.cell 0
  have qb1_8 : wz8.cell? ⟨w.heap.size, 1, none⟩ = some (.int .i64 m) := Hbz8.out.cell 1
  have qb2_8 : wz8.cell? ⟨w.heap.size, 2, none⟩ = some (.int .i64 sum) := Hbz8.out.cell 2
  have qb3_8 : wz8.cell? ⟨w.heap.size, 3, none⟩ = some (.int .i64 rng) := Hbz8.out.cell 3
  have qb4_8 : wz8.cell? ⟨w.heap.size, 4, none⟩ = some (.int .i64 last) := Hbz8.out.cell 4
  have lb_8 : w.heap.size < wz8.heap.size := Hbz8.out.lt
  go_wp2
  go_ret
  exact ⟨rfl, HBz8.out⟩
set_option linter.unusedSimpArgs false in
set_option linter.unusedVariables false in
set_option maxHeartbeats 8000000 in
set_option maxRecDepth 100000 in
theorem tells15_0in0 (size m sum rng last s r pa pb pc pd pe wv : Int) (w : World) (r1 : ¬ r < 0) (r2 : ¬ 2000000 < r) (m2 : ¬ m < 2)
    (HPO : Hid (∀ W, Calls Try.prog 15 #[.agg #[.int .i64 size, .int .i64 m, .int .i64 sum, .int .i64 rng, .int .i64 last], .int .i64 s] W fun e w' => e = .returned (.tuple #[.agg #[.int .i64 0, .int .i64 0, .int .i64 0, .int .u64 0, .int .u64 0], .int .i64 1]) ∧ Below W.heap.size W w'))
    (HWI : Hid (∀ W, Calls Try.prog 16 #[.agg #[.int .i64 size, .int .i64 m, .int .i64 sum, .int .i64 rng, .int .i64 last], .int .i64 r] W fun e w' => e = .returned (.tuple #[.int .i64 wv, .int .i64 0]) ∧ Below W.heap.size W w'))
    (HAL : Hid (∀ W, Calls Try.prog 12 #[] W fun e w' => e = .returned (.bool true) ∧ Below W.heap.size W w'))
    (HRR : Hid (∀ W, Calls Try.prog 11 #[.agg #[.int .i64 size, .int .i64 m, .int .i64 sum, .int .i64 rng, .int .i64 last]] W fun e w' => e = .returned (.bool true) ∧ Below W.heap.size W w'))
    (HSU : Hid (∀ W, Calls Try.prog 17 #[.agg #[.int .i64 size, .int .i64 m, .int .i64 sum, .int .i64 rng, .int .i64 last], .int .i64 s] W fun e w' => e = .returned (.bool false) ∧ Below W.heap.size W w'))
    (HRW : Hid (∀ W, Calls Try.prog 19 #[.agg #[.int .i64 size, .int .i64 m, .int .i64 sum, .int .i64 rng, .int .i64 last], .int .i64 r] W fun e w' => e = .returned (.int .i64 wv) ∧ Below W.heap.size W w'))
    : Calls Try.prog 4 #[.agg #[.int .i64 size, .int .i64 m, .int .i64 sum, .int .i64 rng, .int .i64 last], .int .i64 s, .int .i64 r] w fun e w' => e = .returned (.bool true) ∧ Below w.heap.size w w' := by
  obtain ⟨w1, hw1⟩ : ∃ w1, w.alloc (.cells #[.int .i64 size, .int .i64 m, .int .i64 sum, .int .i64 rng, .int .i64 last] 23) = w1 := ⟨_, rfl⟩
  have HX1 := Lib.hid (show Has w1 w.heap.size [.int .i64 size, .int .i64 m, .int .i64 sum, .int .i64 rng, .int .i64 last] 23 by rw [← hw1]; exact Has.new w _ _)
  have HB1 := Lib.hid (show Below w.heap.size w w1 by rw [← hw1]; exact (Below.refl _ _).alloc (Nat.le_refl _) _)
  have HW1 := Lib.hid hw1
  have hbase := Nat.le_refl w.heap.size
  clear hw1
  go_enter Try.func4, Try.ntmps4
  go_upto_region 1 with fail
  rw [HW1.out]
  have qb0_0 : w1.cell? ⟨w.heap.size, 0, none⟩ = some (.int .i64 size) := HX1.out.cell 0
  have qb1_0 : w1.cell? ⟨w.heap.size, 1, none⟩ = some (.int .i64 m) := HX1.out.cell 1
  have qb2_0 : w1.cell? ⟨w.heap.size, 2, none⟩ = some (.int .i64 sum) := HX1.out.cell 2
  have qb3_0 : w1.cell? ⟨w.heap.size, 3, none⟩ = some (.int .i64 rng) := HX1.out.cell 3
  have qb4_0 : w1.cell? ⟨w.heap.size, 4, none⟩ = some (.int .i64 last) := HX1.out.cell 4
  have lb_0 : w.heap.size < w1.heap.size := HX1.out.lt
  have hcz1 := HPO.out w1
  go_wp2_with fail
  refine hcz1.mono ?_
  rintro e wz1 ⟨rfl, kz1⟩
  clear hcz1 qb0_0 qb1_0 qb2_0 qb3_0 qb4_0 lb_0
  have HBz1 := Lib.hid (HB1.out.trans (kz1.mono (Nat.le_trans hbase HB1.out.size)))
  have Hbz1 := Lib.hid (HX1.out.call kz1)
  clear kz1
  obtain ⟨wz2, hwz2⟩ : ∃ wz2, wz1.alloc (.cells #[.int .i64 0, .int .i64 0, .int .i64 0, .int .u64 0, .int .u64 0] 38) = wz2 := ⟨_, rfl⟩
  have kz2 : Below wz1.heap.size wz1 wz2 := by rw [← hwz2]; exact (Below.refl _ _).alloc (Nat.le_refl _) _
  have Hpz2 := Lib.hid (show Has wz2 wz1.heap.size [.int .i64 0, .int .i64 0, .int .i64 0, .int .u64 0, .int .u64 0] 38 by rw [← hwz2]; exact Has.new _ _ _)
  have HWz2 := Lib.hid hwz2
  clear hwz2
  have HBz2 := Lib.hid (HBz1.out.trans (kz2.mono (Nat.le_trans hbase HBz1.out.size)))
  have Hbz2 := Lib.hid (Hbz1.out.call kz2)
  clear kz2
  have qb0_2 : wz1.cell? ⟨w.heap.size, 0, none⟩ = some (.int .i64 size) := Hbz1.out.cell 0
  have qb1_2 : wz1.cell? ⟨w.heap.size, 1, none⟩ = some (.int .i64 m) := Hbz1.out.cell 1
  have qb2_2 : wz1.cell? ⟨w.heap.size, 2, none⟩ = some (.int .i64 sum) := Hbz1.out.cell 2
  have qb3_2 : wz1.cell? ⟨w.heap.size, 3, none⟩ = some (.int .i64 rng) := Hbz1.out.cell 3
  have qb4_2 : wz1.cell? ⟨w.heap.size, 4, none⟩ = some (.int .i64 last) := Hbz1.out.cell 4
  have lb_2 : w.heap.size < wz1.heap.size := Hbz1.out.lt
  have hcz3 := HWI.out wz2
  go_wp2_with fail
  rw [HWz2.out]
  refine hcz3.mono ?_
  rintro e wz3 ⟨rfl, kz3⟩
  clear hcz3 qb0_2 qb1_2 qb2_2 qb3_2 qb4_2 lb_2
  have HBz3 := Lib.hid (HBz2.out.trans (kz3.mono (Nat.le_trans hbase HBz2.out.size)))
  have Hbz3 := Lib.hid (Hbz2.out.call kz3)
  have Hpz3 := Lib.hid (Hpz2.out.call kz3)
  clear kz3
  have hcz4 := HAL.out wz3
  go_wp2_with fail
  refine hcz4.mono ?_
  rintro e wz4 ⟨rfl, kz4⟩
  clear hcz4
  have HBz4 := Lib.hid (HBz3.out.trans (kz4.mono (Nat.le_trans hbase HBz3.out.size)))
  have Hbz4 := Lib.hid (Hbz3.out.call kz4)
  have Hpz4 := Lib.hid (Hpz3.out.call kz4)
  clear kz4
  obtain ⟨wz5, hwz5⟩ : ∃ wz5, wz4.alloc (.cells #[.int .i64 0, .int .i64 0, .int .i64 0, .int .u64 0, .int .u64 0] 38) = wz5 := ⟨_, rfl⟩
  have kz5 : Below wz4.heap.size wz4 wz5 := by rw [← hwz5]; exact (Below.refl _ _).alloc (Nat.le_refl _) _
  have Hzz5 := Lib.hid (show Has wz5 wz4.heap.size [.int .i64 0, .int .i64 0, .int .i64 0, .int .u64 0, .int .u64 0] 38 by rw [← hwz5]; exact Has.new _ _ _)
  have HWz5 := Lib.hid hwz5
  clear hwz5
  have HBz5 := Lib.hid (HBz4.out.trans (kz5.mono (Nat.le_trans hbase HBz4.out.size)))
  have Hbz5 := Lib.hid (Hbz4.out.call kz5)
  have Hpz5 := Lib.hid (Hpz4.out.call kz5)
  clear kz5
  go_upto_region 6 with fail
  rw [HWz5.out]
  have hqp := eqPnt
  have qb0_5 : wz5.cell? ⟨w.heap.size, 0, none⟩ = some (.int .i64 size) := Hbz5.out.cell 0
  have qb1_5 : wz5.cell? ⟨w.heap.size, 1, none⟩ = some (.int .i64 m) := Hbz5.out.cell 1
  have qb2_5 : wz5.cell? ⟨w.heap.size, 2, none⟩ = some (.int .i64 sum) := Hbz5.out.cell 2
  have qb3_5 : wz5.cell? ⟨w.heap.size, 3, none⟩ = some (.int .i64 rng) := Hbz5.out.cell 3
  have qb4_5 : wz5.cell? ⟨w.heap.size, 4, none⟩ = some (.int .i64 last) := Hbz5.out.cell 4
  have lb_5 : w.heap.size < wz5.heap.size := Hbz5.out.lt
  have hcz6 := HRR.out wz5
  go_wp2_with fail
  refine hcz6.mono ?_
  rintro e wz6 ⟨rfl, kz6⟩
  clear hcz6 qb0_5 qb1_5 qb2_5 qb3_5 qb4_5 lb_5
  have HBz6 := Lib.hid (HBz5.out.trans (kz6.mono (Nat.le_trans hbase HBz5.out.size)))
  have Hbz6 := Lib.hid (Hbz5.out.call kz6)
  have Hpz6 := Lib.hid (Hpz5.out.call kz6)
  have Hzz6 := Lib.hid (Hzz5.out.call kz6)
  clear kz6
  have qb0_6 : wz6.cell? ⟨w.heap.size, 0, none⟩ = some (.int .i64 size) := Hbz6.out.cell 0
  have qb1_6 : wz6.cell? ⟨w.heap.size, 1, none⟩ = some (.int .i64 m) := Hbz6.out.cell 1
  have qb2_6 : wz6.cell? ⟨w.heap.size, 2, none⟩ = some (.int .i64 sum) := Hbz6.out.cell 2
  have qb3_6 : wz6.cell? ⟨w.heap.size, 3, none⟩ = some (.int .i64 rng) := Hbz6.out.cell 3
  have qb4_6 : wz6.cell? ⟨w.heap.size, 4, none⟩ = some (.int .i64 last) := Hbz6.out.cell 4
  have lb_6 : w.heap.size < wz6.heap.size := Hbz6.out.lt
  have hcz7 := HSU.out wz6
  go_wp2_with fail
  refine hcz7.mono ?_
  rintro e wz7 ⟨rfl, kz7⟩
  clear hcz7 qb0_6 qb1_6 qb2_6 qb3_6 qb4_6 lb_6
  have HBz7 := Lib.hid (HBz6.out.trans (kz7.mono (Nat.le_trans hbase HBz6.out.size)))
  have Hbz7 := Lib.hid (Hbz6.out.call kz7)
  have Hpz7 := Lib.hid (Hpz6.out.call kz7)
  have Hzz7 := Lib.hid (Hzz6.out.call kz7)
  clear kz7
  have qb0_7 : wz7.cell? ⟨w.heap.size, 0, none⟩ = some (.int .i64 size) := Hbz7.out.cell 0
  have qb1_7 : wz7.cell? ⟨w.heap.size, 1, none⟩ = some (.int .i64 m) := Hbz7.out.cell 1
  have qb2_7 : wz7.cell? ⟨w.heap.size, 2, none⟩ = some (.int .i64 sum) := Hbz7.out.cell 2
  have qb3_7 : wz7.cell? ⟨w.heap.size, 3, none⟩ = some (.int .i64 rng) := Hbz7.out.cell 3
  have qb4_7 : wz7.cell? ⟨w.heap.size, 4, none⟩ = some (.int .i64 last) := Hbz7.out.cell 4
  have lb_7 : w.heap.size < wz7.heap.size := Hbz7.out.lt
  have qp0_7 : wz7.cell? ⟨wz1.heap.size, 0, none⟩ = some (.int .i64 0) := Hpz7.out.cell 0
  have qp1_7 : wz7.cell? ⟨wz1.heap.size, 1, none⟩ = some (.int .i64 0) := Hpz7.out.cell 1
  have qp2_7 : wz7.cell? ⟨wz1.heap.size, 2, none⟩ = some (.int .i64 0) := Hpz7.out.cell 2
  have qp3_7 : wz7.cell? ⟨wz1.heap.size, 3, none⟩ = some (.int .u64 0) := Hpz7.out.cell 3
  have qp4_7 : wz7.cell? ⟨wz1.heap.size, 4, none⟩ = some (.int .u64 0) := Hpz7.out.cell 4
  have lp_7 : wz1.heap.size < wz7.heap.size := Hpz7.out.lt
  have qz0_7 : wz7.cell? ⟨wz4.heap.size, 0, none⟩ = some (.int .i64 0) := Hzz7.out.cell 0
  have qz1_7 : wz7.cell? ⟨wz4.heap.size, 1, none⟩ = some (.int .i64 0) := Hzz7.out.cell 1
  have qz2_7 : wz7.cell? ⟨wz4.heap.size, 2, none⟩ = some (.int .i64 0) := Hzz7.out.cell 2
  have qz3_7 : wz7.cell? ⟨wz4.heap.size, 3, none⟩ = some (.int .u64 0) := Hzz7.out.cell 3
  have qz4_7 : wz7.cell? ⟨wz4.heap.size, 4, none⟩ = some (.int .u64 0) := Hzz7.out.cell 4
  have lz_7 : wz4.heap.size < wz7.heap.size := Hzz7.out.lt
  have hcz8 := HRR.out wz7
  go_wp2_with fail
  refine hcz8.mono ?_
  rintro e wz8 ⟨rfl, kz8⟩
  clear hcz8 qb0_7 qb1_7 qb2_7 qb3_7 qb4_7 lb_7 qp0_7 qp1_7 qp2_7 qp3_7 qp4_7 lp_7 qz0_7 qz1_7 qz2_7 qz3_7 qz4_7 lz_7
  have HBz8 := Lib.hid (HBz7.out.trans (kz8.mono (Nat.le_trans hbase HBz7.out.size)))
  have Hbz8 := Lib.hid (Hbz7.out.call kz8)
  have Hpz8 := Lib.hid (Hpz7.out.call kz8)
  have Hzz8 := Lib.hid (Hzz7.out.call kz8)
  clear kz8
  have qb0_8 : wz8.cell? ⟨w.heap.size, 0, none⟩ = some (.int .i64 size) := Hbz8.out.cell 0
  have qb1_8 : wz8.cell? ⟨w.heap.size, 1, none⟩ = some (.int .i64 m) := Hbz8.out.cell 1
  have qb2_8 : wz8.cell? ⟨w.heap.size, 2, none⟩ = some (.int .i64 sum) := Hbz8.out.cell 2
  have qb3_8 : wz8.cell? ⟨w.heap.size, 3, none⟩ = some (.int .i64 rng) := Hbz8.out.cell 3
  have qb4_8 : wz8.cell? ⟨w.heap.size, 4, none⟩ = some (.int .i64 last) := Hbz8.out.cell 4
  have lb_8 : w.heap.size < wz8.heap.size := Hbz8.out.lt
  have hcz9 := HRW.out wz8
  go_wp2_with fail
  refine hcz9.mono ?_
  rintro e wz9 ⟨rfl, kz9⟩
  clear hcz9 qb0_8 qb1_8 qb2_8 qb3_8 qb4_8 lb_8
  have HBz9 := Lib.hid (HBz8.out.trans (kz9.mono (Nat.le_trans hbase HBz8.out.size)))
  have Hbz9 := Lib.hid (Hbz8.out.call kz9)
  have Hpz9 := Lib.hid (Hpz8.out.call kz9)
  have Hzz9 := Lib.hid (Hzz8.out.call kz9)
  clear kz9
  go_wp2
  go_ret
  exact ⟨rfl, HBz9.out⟩
theorem tells15_walk (H : BasCode) (b : Bas) (s r : Int) (w : World) (hb : basI b) (hs : IsInt s) (hr : IsInt r) :
    Calls Try.prog 4 #[basV b, .int .i64 s, .int .i64 r] w fun e w' => e = .returned (.bool true) ∧ Below w.heap.size w w' := by
  have HPO := Lib.hid (fun W => H.point b hb s hs W)
  have HWI := Lib.hid (fun W => H.wide b hb r hr W)
  have HAL := Lib.hid (fun W => alive15_any H W)
  have HRR := Lib.hid (fun W => rright15_any b W)
  have pN : poiE b s ≠ 0 → poiA b s = pnt0 := fun h => if_neg h
  have wN : widE b r ≠ 0 → widA b r = 0 := fun h => if_neg h
  by_cases g1 : basB b = true
  · rw [g1] at HRR
    have hbo : basOk b := of_decide_eq_true g1
    have HSU := Lib.hid (fun W => rsum15_any b s ⟨hbo.1.1, hbo.1.2.1⟩ W)
    by_cases g2 : sumB b s = true
    · rw [g2] at HSU
      by_cases r1 : r < 0
      · have g3 : decide (0 ≤ r ∧ r ≤ 2000000) = false := decide_eq_false (by omega)
        by_cases m2 : b.m < 2
        · skip
          have hE : poiE b s = 12 := by unfold poiE; rw [g1, g2]; exact if_pos m2
          have hF : widE b r = 1 := by unfold widE; rw [g1, g3]; rfl
          rw [pN (by omega), hE] at HPO
          rw [wN (by omega), hF] at HWI
          exact tells15_1lo1 _ _ _ _ _ s r 0 0 0 0 0 0 w r1 m2 HPO HWI HAL HRR HSU
        · skip
          have hE : poiE b s = 0 := by unfold poiE; rw [g1, g2]; exact if_neg m2
          have hF : widE b r = 1 := by unfold widE; rw [g1, g3]; rfl
          have hA : poiA b s = pntN b s := if_pos hE
          rw [hA, hE] at HPO
          have HRP := Lib.hid (fun W => rpoint15_any b s hbo (by omega) g2 W)
          rw [wN (by omega), hF] at HWI
          exact tells15_1lo0 _ _ _ _ _ s r _ _ _ _ _ 0 w r1 m2 HPO HWI HAL HRR HSU HRP
      · by_cases r2 : 2000000 < r
        · have g3 : decide (0 ≤ r ∧ r ≤ 2000000) = false := decide_eq_false (by omega)
          by_cases m2 : b.m < 2
          · skip
            have hE : poiE b s = 12 := by unfold poiE; rw [g1, g2]; exact if_pos m2
            have hF : widE b r = 1 := by unfold widE; rw [g1, g3]; rfl
            rw [pN (by omega), hE] at HPO
            rw [wN (by omega), hF] at HWI
            exact tells15_1hi1 _ _ _ _ _ s r 0 0 0 0 0 0 w r1 r2 m2 HPO HWI HAL HRR HSU
          · skip
            have hE : poiE b s = 0 := by unfold poiE; rw [g1, g2]; exact if_neg m2
            have hF : widE b r = 1 := by unfold widE; rw [g1, g3]; rfl
            have hA : poiA b s = pntN b s := if_pos hE
            rw [hA, hE] at HPO
            have HRP := Lib.hid (fun W => rpoint15_any b s hbo (by omega) g2 W)
            rw [wN (by omega), hF] at HWI
            exact tells15_1hi0 _ _ _ _ _ s r _ _ _ _ _ 0 w r1 r2 m2 HPO HWI HAL HRR HSU HRP
        · have g3 : decide (0 ≤ r ∧ r ≤ 2000000) = true := decide_eq_true (by omega)
          by_cases m2 : b.m < 2
          · skip
            have hE : poiE b s = 12 := by unfold poiE; rw [g1, g2]; exact if_pos m2
            have hF : widE b r = 12 := by unfold widE; rw [g1, g3]; exact if_pos m2
            rw [pN (by omega), hE] at HPO
            rw [wN (by omega), hF] at HWI
            exact tells15_1in1 _ _ _ _ _ s r 0 0 0 0 0 0 w r1 r2 m2 HPO HWI HAL HRR HSU
          · skip
            have hE : poiE b s = 0 := by unfold poiE; rw [g1, g2]; exact if_neg m2
            have hF : widE b r = 0 := by unfold widE; rw [g1, g3]; exact if_neg m2
            have hA : poiA b s = pntN b s := if_pos hE
            rw [hA, hE] at HPO
            have HRP := Lib.hid (fun W => rpoint15_any b s hbo (by omega) g2 W)
            have hW : widA b r = wideN b r := if_pos hF
            rw [hW, hF] at HWI
            have HRW := Lib.hid (fun W => rwide15_any b r hbo (by omega) (by omega) W)
            exact tells15_1in0 _ _ _ _ _ s r _ _ _ _ _ _ w r1 r2 m2 HPO HWI HAL HRR HSU HRP HRW
    · have g2' : sumB b s = false := by simpa using g2
      rw [g2'] at HSU
      by_cases r1 : r < 0
      · have g3 : decide (0 ≤ r ∧ r ≤ 2000000) = false := decide_eq_false (by omega)
        by_cases m2 : b.m < 2
        · skip
          have hE : poiE b s = 1 := by unfold poiE; rw [g1, g2']; rfl
          have hF : widE b r = 1 := by unfold widE; rw [g1, g3]; rfl
          rw [pN (by omega), hE] at HPO
          rw [wN (by omega), hF] at HWI
          exact tells15_0lo1 _ _ _ _ _ s r 0 0 0 0 0 0 w r1 m2 HPO HWI HAL HRR HSU
        · skip
          have hE : poiE b s = 1 := by unfold poiE; rw [g1, g2']; rfl
          have hF : widE b r = 1 := by unfold widE; rw [g1, g3]; rfl
          rw [pN (by omega), hE] at HPO
          rw [wN (by omega), hF] at HWI
          exact tells15_0lo0 _ _ _ _ _ s r 0 0 0 0 0 0 w r1 m2 HPO HWI HAL HRR HSU
      · by_cases r2 : 2000000 < r
        · have g3 : decide (0 ≤ r ∧ r ≤ 2000000) = false := decide_eq_false (by omega)
          by_cases m2 : b.m < 2
          · skip
            have hE : poiE b s = 1 := by unfold poiE; rw [g1, g2']; rfl
            have hF : widE b r = 1 := by unfold widE; rw [g1, g3]; rfl
            rw [pN (by omega), hE] at HPO
            rw [wN (by omega), hF] at HWI
            exact tells15_0hi1 _ _ _ _ _ s r 0 0 0 0 0 0 w r1 r2 m2 HPO HWI HAL HRR HSU
          · skip
            have hE : poiE b s = 1 := by unfold poiE; rw [g1, g2']; rfl
            have hF : widE b r = 1 := by unfold widE; rw [g1, g3]; rfl
            rw [pN (by omega), hE] at HPO
            rw [wN (by omega), hF] at HWI
            exact tells15_0hi0 _ _ _ _ _ s r 0 0 0 0 0 0 w r1 r2 m2 HPO HWI HAL HRR HSU
        · have g3 : decide (0 ≤ r ∧ r ≤ 2000000) = true := decide_eq_true (by omega)
          by_cases m2 : b.m < 2
          · skip
            have hE : poiE b s = 1 := by unfold poiE; rw [g1, g2']; rfl
            have hF : widE b r = 12 := by unfold widE; rw [g1, g3]; exact if_pos m2
            rw [pN (by omega), hE] at HPO
            rw [wN (by omega), hF] at HWI
            exact tells15_0in1 _ _ _ _ _ s r 0 0 0 0 0 0 w r1 r2 m2 HPO HWI HAL HRR HSU
          · skip
            have hE : poiE b s = 1 := by unfold poiE; rw [g1, g2']; rfl
            have hF : widE b r = 0 := by unfold widE; rw [g1, g3]; exact if_neg m2
            rw [pN (by omega), hE] at HPO
            have hW : widA b r = wideN b r := if_pos hF
            rw [hW, hF] at HWI
            have HRW := Lib.hid (fun W => rwide15_any b r hbo (by omega) (by omega) W)
            exact tells15_0in0 _ _ _ _ _ s r 0 0 0 0 0 _ w r1 r2 m2 HPO HWI HAL HRR HSU HRW
  · have g1' : basB b = false := by simpa using g1
    rw [g1'] at HRR
    have hE : poiE b s = 1 := by unfold poiE; rw [g1']; rfl
    have hF : widE b r = 1 := by unfold widE; rw [g1']; rfl
    rw [pN (by omega), hE] at HPO
    rw [wN (by omega), hF] at HWI
    exact tells15_bad _ _ _ _ _ s r 0 0 0 0 0 0 w HPO HWI HAL HRR
end Go.Proofs.Ytfafkdbflmennaa
