/- The law of BaseTakes: its walk. -/
import Derived.Test.YtfafkdbflmennaaBasE
import Derived.Lib.MinMax
namespace Go.Proofs.Ytfafkdbflmennaa
open Go.RowKit

theorem ReadsI.stepR {w W w' : World} {v : Value} {xs : List Int} (h : ReadsI w v xs) (k : Below W.heap.size W w') (e : W.heap = w.heap) : ReadsI w' v xs := by
  obtain ⟨ao, cap, h1, h2, h3, h4⟩ := h
  refine ⟨ao, cap, h1, h2, h3, fun i hi => ?_⟩
  obtain ⟨b, off, h5, h6, h7⟩ := h4 i hi
  refine ⟨b, off, h5, by have := k.size; rw [e] at this; omega, ?_⟩
  rw [← h7]
  exact World.cell?_of_block (w := w) ((k.block b (by rw [e]; exact h6)).trans (by rw [e]))
set_option linter.unusedSimpArgs false in
set_option linter.unusedVariables false in
set_option maxHeartbeats 8000000 in
set_option maxRecDepth 100000 in
theorem takes15_1bad (n size m sum rng last ta tb tc td te : Int) (l : List Int) (ao : Option Addr) (k cap n0 : Nat) (w : World) (hk : k = min n0 12) (hcap : n0 ≤ cap) (hr : ReadsI w (.slice ao k cap) l) (s1 : ¬ n < 1) (s2 : ¬ 10 < n)
    (HNEW : Hid (∀ W, Calls Try.prog 8 #[.int .i64 n] W fun e w' => e = .returned (.tuple #[.agg #[.int .i64 n, .int .i64 0, .int .i64 0, .int .i64 0, .int .i64 0], .int .i64 0]) ∧ Below W.heap.size W w'))
    (HTAKE : Hid (∀ W, ReadsI W (.slice ao k cap) l → Calls Try.prog 9 #[.agg #[.int .i64 size, .int .i64 m, .int .i64 sum, .int .i64 rng, .int .i64 last], .slice ao k cap] W fun e w' => e = .returned (.tuple #[.agg #[.int .i64 0, .int .i64 0, .int .i64 0, .int .i64 0, .int .i64 0], .int .i64 1]) ∧ Below W.heap.size W w'))
    (HRI : Hid (∀ W, Calls Try.prog 10 #[.agg #[.int .i64 size, .int .i64 m, .int .i64 sum, .int .i64 rng, .int .i64 last]] W fun e w' => e = .returned (.bool false) ∧ Below W.heap.size W w'))
    (HRR : Hid (∀ W, Calls Try.prog 11 #[.agg #[.int .i64 size, .int .i64 m, .int .i64 sum, .int .i64 rng, .int .i64 last]] W fun e w' => e = .returned (.bool false) ∧ Below W.heap.size W w'))
    (HAL : Hid (∀ W, Calls Try.prog 12 #[] W fun e w' => e = .returned (.bool true) ∧ Below W.heap.size W w'))
    :
    Calls Try.prog 3 #[.int .i64 n, .agg #[.int .i64 size, .int .i64 m, .int .i64 sum, .int .i64 rng, .int .i64 last], .slice ao n0 cap] w fun e w' => e = .returned (.bool true) ∧ Below w.heap.size w w' := by
  have hsl : ∀ W, (Instr.slice 24 (.slice ao n0 cap) none (some (.int .i64 (min (n0 : Int) 12))) none).run Try.prog W = .ok (.slice ao k cap) W := fun W => by
    have := slice_hi ao n0 cap k (by omega) W
    rw [show (k : Int) = min (n0 : Int) 12 by omega] at this
    exact this
  obtain ⟨w1, hw1⟩ : ∃ w1, w.alloc (.cells #[.int .i64 size, .int .i64 m, .int .i64 sum, .int .i64 rng, .int .i64 last] 23) = w1 := ⟨_, rfl⟩
  have HX1 := Lib.hid (show Has w1 w.heap.size [.int .i64 size, .int .i64 m, .int .i64 sum, .int .i64 rng, .int .i64 last] 23 by rw [← hw1]; exact Has.new w _ _)
  have HB1 := Lib.hid (show Below w.heap.size w w1 by rw [← hw1]; exact (Below.refl _ _).alloc (Nat.le_refl _) _)
  have HW1 := Lib.hid hw1
  have HR := Lib.hid hr
  have hbase := Nat.le_refl w.heap.size
  clear hw1 hk hr
  go_enter Try.func3, Try.ntmps3
  go_upto_region 1 with fail
  rw [HW1.out]
  go_upto_region 2 with fail
  clear hsl
  have qb0_0 : w1.cell? ⟨w.heap.size, 0, none⟩ = some (.int .i64 size) := HX1.out.cell 0
  have qb1_0 : w1.cell? ⟨w.heap.size, 1, none⟩ = some (.int .i64 m) := HX1.out.cell 1
  have qb2_0 : w1.cell? ⟨w.heap.size, 2, none⟩ = some (.int .i64 sum) := HX1.out.cell 2
  have qb3_0 : w1.cell? ⟨w.heap.size, 3, none⟩ = some (.int .i64 rng) := HX1.out.cell 3
  have qb4_0 : w1.cell? ⟨w.heap.size, 4, none⟩ = some (.int .i64 last) := HX1.out.cell 4
  have lb_0 : w.heap.size < w1.heap.size := HX1.out.lt
  have hcz1 := HNEW.out w1
  go_wp2_with fail
  refine hcz1.mono ?_
  rintro e wz1 ⟨rfl, kz1⟩
  clear hcz1 qb0_0 qb1_0 qb2_0 qb3_0 qb4_0 lb_0
  have HBz1 := Lib.hid (HB1.out.trans (kz1.mono (Nat.le_trans hbase HB1.out.size)))
  have Hbz1 := Lib.hid (HX1.out.call kz1)
  clear kz1
  obtain ⟨wz2, hwz2⟩ : ∃ wz2, wz1.alloc (.cells #[.int .i64 n, .int .i64 0, .int .i64 0, .int .i64 0, .int .i64 0] 23) = wz2 := ⟨_, rfl⟩
  have kz2 : Below wz1.heap.size wz1 wz2 := by rw [← hwz2]; exact (Below.refl _ _).alloc (Nat.le_refl _) _
  have Hnz2 := Lib.hid (show Has wz2 wz1.heap.size [.int .i64 n, .int .i64 0, .int .i64 0, .int .i64 0, .int .i64 0] 23 by rw [← hwz2]; exact Has.new _ _ _)
  have HWz2 := Lib.hid hwz2
  clear hwz2
  have HBz2 := Lib.hid (HBz1.out.trans (kz2.mono (Nat.le_trans hbase HBz1.out.size)))
  have Hbz2 := Lib.hid (Hbz1.out.call kz2)
  clear kz2
  have qb0_2 : wz1.cell? ⟨w.heap.size, 0, none⟩ = some (.int .i64 size) := Hbz1.out.cell 0
  have qb1_2 : wz1.cell? ⟨w.heap.size, 1, none⟩ = some (.int .i64 m) := Hbz1.out.cell 1
  have qb2_2 : wz1.cell? ⟨w.heap.size, 2, none⟩ = some (.int .i64 sum) := Hbz1.out.cell 2
  have qb3_2 : wz1.cell? ⟨w.heap.size, 3, none⟩ = some (.int .i64 rng) := Hbz1.out.cell 3
  have qb4_2 : wz1.cell? ⟨w.heap.size, 4, none⟩ = some (.int .i64 last) := Hbz1.out.cell 4
  have lb_2 : w.heap.size < wz1.heap.size := Hbz1.out.lt
  have hcz3 := HTAKE.out wz2 (HR.out.below HBz2.out)
  go_wp2_with fail
  rw [HWz2.out]
  refine hcz3.mono ?_
  rintro e wz3 ⟨rfl, kz3⟩
  clear hcz3 qb0_2 qb1_2 qb2_2 qb3_2 qb4_2 lb_2
  have HBz3 := Lib.hid (HBz2.out.trans (kz3.mono (Nat.le_trans hbase HBz2.out.size)))
  have Hbz3 := Lib.hid (Hbz2.out.call kz3)
  have Hnz3 := Lib.hid (Hnz2.out.call kz3)
  clear kz3
  obtain ⟨wz4, hwz4⟩ : ∃ wz4, wz3.alloc (.cells #[.int .i64 0, .int .i64 0, .int .i64 0, .int .i64 0, .int .i64 0] 23) = wz4 := ⟨_, rfl⟩
  have kz4 : Below wz3.heap.size wz3 wz4 := by rw [← hwz4]; exact (Below.refl _ _).alloc (Nat.le_refl _) _
  have Haz4 := Lib.hid (show Has wz4 wz3.heap.size [.int .i64 0, .int .i64 0, .int .i64 0, .int .i64 0, .int .i64 0] 23 by rw [← hwz4]; exact Has.new _ _ _)
  have HWz4 := Lib.hid hwz4
  clear hwz4
  have HBz4 := Lib.hid (HBz3.out.trans (kz4.mono (Nat.le_trans hbase HBz3.out.size)))
  have Hbz4 := Lib.hid (Hbz3.out.call kz4)
  have Hnz4 := Lib.hid (Hnz3.out.call kz4)
  clear kz4
  go_upto_region 4 with fail
  rw [HWz4.out]
  obtain ⟨wz5, hwz5⟩ : ∃ wz5, wz4.alloc (.cells #[.int .i64 0, .int .i64 0, .int .i64 0, .int .i64 0, .int .i64 0] 23) = wz5 := ⟨_, rfl⟩
  have kz5 : Below wz4.heap.size wz4 wz5 := by rw [← hwz5]; exact (Below.refl _ _).alloc (Nat.le_refl _) _
  have Hzz5 := Lib.hid (show Has wz5 wz4.heap.size [.int .i64 0, .int .i64 0, .int .i64 0, .int .i64 0, .int .i64 0] 23 by rw [← hwz5]; exact Has.new _ _ _)
  have HWz5 := Lib.hid hwz5
  clear hwz5
  have HBz5 := Lib.hid (HBz4.out.trans (kz5.mono (Nat.le_trans hbase HBz4.out.size)))
  have Hbz5 := Lib.hid (Hbz4.out.call kz5)
  have Hnz5 := Lib.hid (Hnz4.out.call kz5)
  have Haz5 := Lib.hid (Haz4.out.call kz5)
  clear kz5
  go_upto_region 5 with fail
  rw [HWz5.out]
  have qb0_5 : wz5.cell? ⟨w.heap.size, 0, none⟩ = some (.int .i64 size) := Hbz5.out.cell 0
  have qb1_5 : wz5.cell? ⟨w.heap.size, 1, none⟩ = some (.int .i64 m) := Hbz5.out.cell 1
  have qb2_5 : wz5.cell? ⟨w.heap.size, 2, none⟩ = some (.int .i64 sum) := Hbz5.out.cell 2
  have qb3_5 : wz5.cell? ⟨w.heap.size, 3, none⟩ = some (.int .i64 rng) := Hbz5.out.cell 3
  have qb4_5 : wz5.cell? ⟨w.heap.size, 4, none⟩ = some (.int .i64 last) := Hbz5.out.cell 4
  have lb_5 : w.heap.size < wz5.heap.size := Hbz5.out.lt
  go_region_held3 (fun W => W.cell? ⟨w.heap.size, 0, none⟩ = some (.int .i64 size) ∧ W.cell? ⟨w.heap.size, 1, none⟩ = some (.int .i64 m) ∧ W.cell? ⟨w.heap.size, 2, none⟩ = some (.int .i64 sum) ∧ W.cell? ⟨w.heap.size, 3, none⟩ = some (.int .i64 rng) ∧ W.cell? ⟨w.heap.size, 4, none⟩ = some (.int .i64 last)) (first | exact ⟨y30, y31, y32, y33, y34⟩ | exact ⟨y20, y21, y22, y23, y24⟩ | exact ⟨y10, y11, y12, y13, y14⟩ | exact ⟨qb0_5, qb1_5, qb2_5, qb3_5, qb4_5⟩ | simp [go_sem, *]) (first | (go_at_call 10; refine (HRI.out _).mono ?_; rintro e wr1 ⟨rfl, kr1⟩; (have HBr1 := Lib.hid (show Below w.heap.size w wr1 by first | exact HBz5.out.trans (kr1.mono HBz5.out.size) | exact (Below.drew HBz5.out).trans (kr1.mono HBz5.out.size) | exact (Below.drew (Below.drew HBz5.out)).trans (kr1.mono HBz5.out.size) | exact (Below.drew (Below.drew (Below.drew HBz5.out))).trans (kr1.mono HBz5.out.size))); (have Hbr1 := Lib.hid (show Has wr1 w.heap.size [.int .i64 size, .int .i64 m, .int .i64 sum, .int .i64 rng, .int .i64 last] 23 from Hbz5.out.of (kr1.block _ (by exact Hbz5.out.lt)))); (have y10 : wr1.cell? ⟨w.heap.size, 0, none⟩ = some (.int .i64 size) := Hbr1.out.cell 0); (have y11 : wr1.cell? ⟨w.heap.size, 1, none⟩ = some (.int .i64 m) := Hbr1.out.cell 1); (have y12 : wr1.cell? ⟨w.heap.size, 2, none⟩ = some (.int .i64 sum) := Hbr1.out.cell 2); (have y13 : wr1.cell? ⟨w.heap.size, 3, none⟩ = some (.int .i64 rng) := Hbr1.out.cell 3); (have y14 : wr1.cell? ⟨w.heap.size, 4, none⟩ = some (.int .i64 last) := Hbr1.out.cell 4)) | (go_at_call 11; refine (HRR.out _).mono ?_; rintro e wr2 ⟨rfl, kr2⟩; (have HBr2 := Lib.hid (show Below w.heap.size w wr2 by first | exact HBr1.out.trans (kr2.mono HBr1.out.size) | exact (Below.drew HBr1.out).trans (kr2.mono HBr1.out.size) | exact (Below.drew (Below.drew HBr1.out)).trans (kr2.mono HBr1.out.size) | exact (Below.drew (Below.drew (Below.drew HBr1.out))).trans (kr2.mono HBr1.out.size))); (have Hbr2 := Lib.hid (show Has wr2 w.heap.size [.int .i64 size, .int .i64 m, .int .i64 sum, .int .i64 rng, .int .i64 last] 23 from Hbr1.out.of (kr2.block _ (by exact Hbr1.out.lt)))); (have y20 : wr2.cell? ⟨w.heap.size, 0, none⟩ = some (.int .i64 size) := Hbr2.out.cell 0); (have y21 : wr2.cell? ⟨w.heap.size, 1, none⟩ = some (.int .i64 m) := Hbr2.out.cell 1); (have y22 : wr2.cell? ⟨w.heap.size, 2, none⟩ = some (.int .i64 sum) := Hbr2.out.cell 2); (have y23 : wr2.cell? ⟨w.heap.size, 3, none⟩ = some (.int .i64 rng) := Hbr2.out.cell 3); (have y24 : wr2.cell? ⟨w.heap.size, 4, none⟩ = some (.int .i64 last) := Hbr2.out.cell 4)) | (go_at_call 12; refine (HAL.out _).mono ?_; rintro e wr3 ⟨rfl, kr3⟩; (have HBr3 := Lib.hid (show Below w.heap.size w wr3 by first | exact HBr2.out.trans (kr3.mono HBr2.out.size) | exact (Below.drew HBr2.out).trans (kr3.mono HBr2.out.size) | exact (Below.drew (Below.drew HBr2.out)).trans (kr3.mono HBr2.out.size) | exact (Below.drew (Below.drew (Below.drew HBr2.out))).trans (kr3.mono HBr2.out.size))); (have Hbr3 := Lib.hid (show Has wr3 w.heap.size [.int .i64 size, .int .i64 m, .int .i64 sum, .int .i64 rng, .int .i64 last] 23 from Hbr2.out.of (kr3.block _ (by exact Hbr2.out.lt)))); (have y30 : wr3.cell? ⟨w.heap.size, 0, none⟩ = some (.int .i64 size) := Hbr3.out.cell 0); (have y31 : wr3.cell? ⟨w.heap.size, 1, none⟩ = some (.int .i64 m) := Hbr3.out.cell 1); (have y32 : wr3.cell? ⟨w.heap.size, 2, none⟩ = some (.int .i64 sum) := Hbr3.out.cell 2); (have y33 : wr3.cell? ⟨w.heap.size, 3, none⟩ = some (.int .i64 rng) := Hbr3.out.cell 3); (have y34 : wr3.cell? ⟨w.heap.size, 4, none⟩ = some (.int .i64 last) := Hbr3.out.cell 4)))
  have Hnr1 := Lib.hid (Hnz5.out.step kr1 rfl)
  have Har1 := Lib.hid (Haz5.out.step kr1 rfl)
  have Hzr1 := Lib.hid (Hzz5.out.step kr1 rfl)
  have Hnr2 := Lib.hid (Hnr1.out.step kr2 rfl)
  have Har2 := Lib.hid (Har1.out.step kr2 rfl)
  have Hzr2 := Lib.hid (Hzr1.out.step kr2 rfl)
  have Hnr3 := Lib.hid (Hnr2.out.step kr3 rfl)
  have Har3 := Lib.hid (Har2.out.step kr3 rfl)
  have Hzr3 := Lib.hid (Hzr2.out.step kr3 rfl)
  clear kr1 kr2 kr3 y10 y11 y12 y13 y14 y20 y21 y22 y23 y24 y30 y31 y32 y33 y34 qb0_5 qb1_5 qb2_5 qb3_5 qb4_5 lb_5
  have hqb := eqBas
  have qn0_8 : wr3.cell? ⟨wz1.heap.size, 0, none⟩ = some (.int .i64 n) := Hnr3.out.cell 0
  have qn1_8 : wr3.cell? ⟨wz1.heap.size, 1, none⟩ = some (.int .i64 0) := Hnr3.out.cell 1
  have qn2_8 : wr3.cell? ⟨wz1.heap.size, 2, none⟩ = some (.int .i64 0) := Hnr3.out.cell 2
  have qn3_8 : wr3.cell? ⟨wz1.heap.size, 3, none⟩ = some (.int .i64 0) := Hnr3.out.cell 3
  have qn4_8 : wr3.cell? ⟨wz1.heap.size, 4, none⟩ = some (.int .i64 0) := Hnr3.out.cell 4
  have ln_8 : wz1.heap.size < wr3.heap.size := Hnr3.out.lt
  have qz0_8 : wr3.cell? ⟨wz4.heap.size, 0, none⟩ = some (.int .i64 0) := Hzr3.out.cell 0
  have qz1_8 : wr3.cell? ⟨wz4.heap.size, 1, none⟩ = some (.int .i64 0) := Hzr3.out.cell 1
  have qz2_8 : wr3.cell? ⟨wz4.heap.size, 2, none⟩ = some (.int .i64 0) := Hzr3.out.cell 2
  have qz3_8 : wr3.cell? ⟨wz4.heap.size, 3, none⟩ = some (.int .i64 0) := Hzr3.out.cell 3
  have qz4_8 : wr3.cell? ⟨wz4.heap.size, 4, none⟩ = some (.int .i64 0) := Hzr3.out.cell 4
  have lz_8 : wz4.heap.size < wr3.heap.size := Hzr3.out.lt
  have qb0_8 : wr3.cell? ⟨w.heap.size, 0, none⟩ = some (.int .i64 size) := Hbr3.out.cell 0
  have qb1_8 : wr3.cell? ⟨w.heap.size, 1, none⟩ = some (.int .i64 m) := Hbr3.out.cell 1
  have qb2_8 : wr3.cell? ⟨w.heap.size, 2, none⟩ = some (.int .i64 sum) := Hbr3.out.cell 2
  have qb3_8 : wr3.cell? ⟨w.heap.size, 3, none⟩ = some (.int .i64 rng) := Hbr3.out.cell 3
  have qb4_8 : wr3.cell? ⟨w.heap.size, 4, none⟩ = some (.int .i64 last) := Hbr3.out.cell 4
  have lb_8 : w.heap.size < wr3.heap.size := Hbr3.out.lt
  have hcz9 := HRR.out wr3
  go_wp2_with fail
  refine hcz9.mono ?_
  rintro e wz9 ⟨rfl, kz9⟩
  clear hcz9 qn0_8 qn1_8 qn2_8 qn3_8 qn4_8 ln_8 qz0_8 qz1_8 qz2_8 qz3_8 qz4_8 lz_8 qb0_8 qb1_8 qb2_8 qb3_8 qb4_8 lb_8
  have HBz9 := Lib.hid (HBr3.out.trans (kz9.mono (Nat.le_trans hbase HBr3.out.size)))
  have Hbz9 := Lib.hid (Hbr3.out.call kz9)
  have Hnz9 := Lib.hid (Hnr3.out.call kz9)
  have Haz9 := Lib.hid (Har3.out.call kz9)
  have Hzz9 := Lib.hid (Hzr3.out.call kz9)
  clear kz9
  have qb0_9 : wz9.cell? ⟨w.heap.size, 0, none⟩ = some (.int .i64 size) := Hbz9.out.cell 0
  have qb1_9 : wz9.cell? ⟨w.heap.size, 1, none⟩ = some (.int .i64 m) := Hbz9.out.cell 1
  have qb2_9 : wz9.cell? ⟨w.heap.size, 2, none⟩ = some (.int .i64 sum) := Hbz9.out.cell 2
  have qb3_9 : wz9.cell? ⟨w.heap.size, 3, none⟩ = some (.int .i64 rng) := Hbz9.out.cell 3
  have qb4_9 : wz9.cell? ⟨w.heap.size, 4, none⟩ = some (.int .i64 last) := Hbz9.out.cell 4
  have lb_9 : w.heap.size < wz9.heap.size := Hbz9.out.lt
  have qa0_9 : wz9.cell? ⟨wz3.heap.size, 0, none⟩ = some (.int .i64 0) := Haz9.out.cell 0
  have qa1_9 : wz9.cell? ⟨wz3.heap.size, 1, none⟩ = some (.int .i64 0) := Haz9.out.cell 1
  have qa2_9 : wz9.cell? ⟨wz3.heap.size, 2, none⟩ = some (.int .i64 0) := Haz9.out.cell 2
  have qa3_9 : wz9.cell? ⟨wz3.heap.size, 3, none⟩ = some (.int .i64 0) := Haz9.out.cell 3
  have qa4_9 : wz9.cell? ⟨wz3.heap.size, 4, none⟩ = some (.int .i64 0) := Haz9.out.cell 4
  have la_9 : wz3.heap.size < wz9.heap.size := Haz9.out.lt
  have qz0_9 : wz9.cell? ⟨wz4.heap.size, 0, none⟩ = some (.int .i64 0) := Hzz9.out.cell 0
  have qz1_9 : wz9.cell? ⟨wz4.heap.size, 1, none⟩ = some (.int .i64 0) := Hzz9.out.cell 1
  have qz2_9 : wz9.cell? ⟨wz4.heap.size, 2, none⟩ = some (.int .i64 0) := Hzz9.out.cell 2
  have qz3_9 : wz9.cell? ⟨wz4.heap.size, 3, none⟩ = some (.int .i64 0) := Hzz9.out.cell 3
  have qz4_9 : wz9.cell? ⟨wz4.heap.size, 4, none⟩ = some (.int .i64 0) := Hzz9.out.cell 4
  have lz_9 : wz4.heap.size < wz9.heap.size := Hzz9.out.lt
  go_wp2
  go_ret
  exact ⟨rfl, HBz9.out⟩
set_option linter.unusedSimpArgs false in
set_option linter.unusedVariables false in
set_option maxHeartbeats 8000000 in
set_option maxRecDepth 100000 in
theorem takes15_1norow (n size m sum rng last ta tb tc td te : Int) (l : List Int) (ao : Option Addr) (k cap n0 : Nat) (w : World) (hk : k = min n0 12) (hcap : n0 ≤ cap) (hr : ReadsI w (.slice ao k cap) l) (s1 : ¬ n < 1) (s2 : ¬ 10 < n)
    (HNEW : Hid (∀ W, Calls Try.prog 8 #[.int .i64 n] W fun e w' => e = .returned (.tuple #[.agg #[.int .i64 n, .int .i64 0, .int .i64 0, .int .i64 0, .int .i64 0], .int .i64 0]) ∧ Below W.heap.size W w'))
    (HTAKE : Hid (∀ W, ReadsI W (.slice ao k cap) l → Calls Try.prog 9 #[.agg #[.int .i64 size, .int .i64 m, .int .i64 sum, .int .i64 rng, .int .i64 last], .slice ao k cap] W fun e w' => e = .returned (.tuple #[.agg #[.int .i64 0, .int .i64 0, .int .i64 0, .int .i64 0, .int .i64 0], .int .i64 1]) ∧ Below W.heap.size W w'))
    (HRI : Hid (∀ W, Calls Try.prog 10 #[.agg #[.int .i64 size, .int .i64 m, .int .i64 sum, .int .i64 rng, .int .i64 last]] W fun e w' => e = .returned (.bool true) ∧ Below W.heap.size W w'))
    (HRR : Hid (∀ W, Calls Try.prog 11 #[.agg #[.int .i64 size, .int .i64 m, .int .i64 sum, .int .i64 rng, .int .i64 last]] W fun e w' => e = .returned (.bool true) ∧ Below W.heap.size W w'))
    (HAL : Hid (∀ W, Calls Try.prog 12 #[] W fun e w' => e = .returned (.bool true) ∧ Below W.heap.size W w'))
    (HROW : Hid (∀ W, ReadsI W (.slice ao k cap) l → Calls Try.prog 13 #[.agg #[.int .i64 size, .int .i64 m, .int .i64 sum, .int .i64 rng, .int .i64 last], .slice ao k cap] W fun e w' => e = .returned (.bool false) ∧ Below W.heap.size W w'))
    :
    Calls Try.prog 3 #[.int .i64 n, .agg #[.int .i64 size, .int .i64 m, .int .i64 sum, .int .i64 rng, .int .i64 last], .slice ao n0 cap] w fun e w' => e = .returned (.bool true) ∧ Below w.heap.size w w' := by
  have hsl : ∀ W, (Instr.slice 24 (.slice ao n0 cap) none (some (.int .i64 (min (n0 : Int) 12))) none).run Try.prog W = .ok (.slice ao k cap) W := fun W => by
    have := slice_hi ao n0 cap k (by omega) W
    rw [show (k : Int) = min (n0 : Int) 12 by omega] at this
    exact this
  obtain ⟨w1, hw1⟩ : ∃ w1, w.alloc (.cells #[.int .i64 size, .int .i64 m, .int .i64 sum, .int .i64 rng, .int .i64 last] 23) = w1 := ⟨_, rfl⟩
  have HX1 := Lib.hid (show Has w1 w.heap.size [.int .i64 size, .int .i64 m, .int .i64 sum, .int .i64 rng, .int .i64 last] 23 by rw [← hw1]; exact Has.new w _ _)
  have HB1 := Lib.hid (show Below w.heap.size w w1 by rw [← hw1]; exact (Below.refl _ _).alloc (Nat.le_refl _) _)
  have HW1 := Lib.hid hw1
  have HR := Lib.hid hr
  have hbase := Nat.le_refl w.heap.size
  clear hw1 hk hr
  go_enter Try.func3, Try.ntmps3
  go_upto_region 1 with fail
  rw [HW1.out]
  go_upto_region 2 with fail
  clear hsl
  have qb0_0 : w1.cell? ⟨w.heap.size, 0, none⟩ = some (.int .i64 size) := HX1.out.cell 0
  have qb1_0 : w1.cell? ⟨w.heap.size, 1, none⟩ = some (.int .i64 m) := HX1.out.cell 1
  have qb2_0 : w1.cell? ⟨w.heap.size, 2, none⟩ = some (.int .i64 sum) := HX1.out.cell 2
  have qb3_0 : w1.cell? ⟨w.heap.size, 3, none⟩ = some (.int .i64 rng) := HX1.out.cell 3
  have qb4_0 : w1.cell? ⟨w.heap.size, 4, none⟩ = some (.int .i64 last) := HX1.out.cell 4
  have lb_0 : w.heap.size < w1.heap.size := HX1.out.lt
  have hcz1 := HNEW.out w1
  go_wp2_with fail
  refine hcz1.mono ?_
  rintro e wz1 ⟨rfl, kz1⟩
  clear hcz1 qb0_0 qb1_0 qb2_0 qb3_0 qb4_0 lb_0
  have HBz1 := Lib.hid (HB1.out.trans (kz1.mono (Nat.le_trans hbase HB1.out.size)))
  have Hbz1 := Lib.hid (HX1.out.call kz1)
  clear kz1
  obtain ⟨wz2, hwz2⟩ : ∃ wz2, wz1.alloc (.cells #[.int .i64 n, .int .i64 0, .int .i64 0, .int .i64 0, .int .i64 0] 23) = wz2 := ⟨_, rfl⟩
  have kz2 : Below wz1.heap.size wz1 wz2 := by rw [← hwz2]; exact (Below.refl _ _).alloc (Nat.le_refl _) _
  have Hnz2 := Lib.hid (show Has wz2 wz1.heap.size [.int .i64 n, .int .i64 0, .int .i64 0, .int .i64 0, .int .i64 0] 23 by rw [← hwz2]; exact Has.new _ _ _)
  have HWz2 := Lib.hid hwz2
  clear hwz2
  have HBz2 := Lib.hid (HBz1.out.trans (kz2.mono (Nat.le_trans hbase HBz1.out.size)))
  have Hbz2 := Lib.hid (Hbz1.out.call kz2)
  clear kz2
  have qb0_2 : wz1.cell? ⟨w.heap.size, 0, none⟩ = some (.int .i64 size) := Hbz1.out.cell 0
  have qb1_2 : wz1.cell? ⟨w.heap.size, 1, none⟩ = some (.int .i64 m) := Hbz1.out.cell 1
  have qb2_2 : wz1.cell? ⟨w.heap.size, 2, none⟩ = some (.int .i64 sum) := Hbz1.out.cell 2
  have qb3_2 : wz1.cell? ⟨w.heap.size, 3, none⟩ = some (.int .i64 rng) := Hbz1.out.cell 3
  have qb4_2 : wz1.cell? ⟨w.heap.size, 4, none⟩ = some (.int .i64 last) := Hbz1.out.cell 4
  have lb_2 : w.heap.size < wz1.heap.size := Hbz1.out.lt
  have hcz3 := HTAKE.out wz2 (HR.out.below HBz2.out)
  go_wp2_with fail
  rw [HWz2.out]
  refine hcz3.mono ?_
  rintro e wz3 ⟨rfl, kz3⟩
  clear hcz3 qb0_2 qb1_2 qb2_2 qb3_2 qb4_2 lb_2
  have HBz3 := Lib.hid (HBz2.out.trans (kz3.mono (Nat.le_trans hbase HBz2.out.size)))
  have Hbz3 := Lib.hid (Hbz2.out.call kz3)
  have Hnz3 := Lib.hid (Hnz2.out.call kz3)
  clear kz3
  obtain ⟨wz4, hwz4⟩ : ∃ wz4, wz3.alloc (.cells #[.int .i64 0, .int .i64 0, .int .i64 0, .int .i64 0, .int .i64 0] 23) = wz4 := ⟨_, rfl⟩
  have kz4 : Below wz3.heap.size wz3 wz4 := by rw [← hwz4]; exact (Below.refl _ _).alloc (Nat.le_refl _) _
  have Haz4 := Lib.hid (show Has wz4 wz3.heap.size [.int .i64 0, .int .i64 0, .int .i64 0, .int .i64 0, .int .i64 0] 23 by rw [← hwz4]; exact Has.new _ _ _)
  have HWz4 := Lib.hid hwz4
  clear hwz4
  have HBz4 := Lib.hid (HBz3.out.trans (kz4.mono (Nat.le_trans hbase HBz3.out.size)))
  have Hbz4 := Lib.hid (Hbz3.out.call kz4)
  have Hnz4 := Lib.hid (Hnz3.out.call kz4)
  clear kz4
  go_upto_region 4 with fail
  rw [HWz4.out]
  obtain ⟨wz5, hwz5⟩ : ∃ wz5, wz4.alloc (.cells #[.int .i64 0, .int .i64 0, .int .i64 0, .int .i64 0, .int .i64 0] 23) = wz5 := ⟨_, rfl⟩
  have kz5 : Below wz4.heap.size wz4 wz5 := by rw [← hwz5]; exact (Below.refl _ _).alloc (Nat.le_refl _) _
  have Hzz5 := Lib.hid (show Has wz5 wz4.heap.size [.int .i64 0, .int .i64 0, .int .i64 0, .int .i64 0, .int .i64 0] 23 by rw [← hwz5]; exact Has.new _ _ _)
  have HWz5 := Lib.hid hwz5
  clear hwz5
  have HBz5 := Lib.hid (HBz4.out.trans (kz5.mono (Nat.le_trans hbase HBz4.out.size)))
  have Hbz5 := Lib.hid (Hbz4.out.call kz5)
  have Hnz5 := Lib.hid (Hnz4.out.call kz5)
  have Haz5 := Lib.hid (Haz4.out.call kz5)
  clear kz5
  go_upto_region 5 with fail
  rw [HWz5.out]
  have qb0_5 : wz5.cell? ⟨w.heap.size, 0, none⟩ = some (.int .i64 size) := Hbz5.out.cell 0
  have qb1_5 : wz5.cell? ⟨w.heap.size, 1, none⟩ = some (.int .i64 m) := Hbz5.out.cell 1
  have qb2_5 : wz5.cell? ⟨w.heap.size, 2, none⟩ = some (.int .i64 sum) := Hbz5.out.cell 2
  have qb3_5 : wz5.cell? ⟨w.heap.size, 3, none⟩ = some (.int .i64 rng) := Hbz5.out.cell 3
  have qb4_5 : wz5.cell? ⟨w.heap.size, 4, none⟩ = some (.int .i64 last) := Hbz5.out.cell 4
  have lb_5 : w.heap.size < wz5.heap.size := Hbz5.out.lt
  go_region_held3 (fun W => W.cell? ⟨w.heap.size, 0, none⟩ = some (.int .i64 size) ∧ W.cell? ⟨w.heap.size, 1, none⟩ = some (.int .i64 m) ∧ W.cell? ⟨w.heap.size, 2, none⟩ = some (.int .i64 sum) ∧ W.cell? ⟨w.heap.size, 3, none⟩ = some (.int .i64 rng) ∧ W.cell? ⟨w.heap.size, 4, none⟩ = some (.int .i64 last)) (first | exact ⟨y30, y31, y32, y33, y34⟩ | exact ⟨y20, y21, y22, y23, y24⟩ | exact ⟨y10, y11, y12, y13, y14⟩ | exact ⟨qb0_5, qb1_5, qb2_5, qb3_5, qb4_5⟩ | simp [go_sem, *]) (first | (go_at_call 10; refine (HRI.out _).mono ?_; rintro e wr1 ⟨rfl, kr1⟩; (have HBr1 := Lib.hid (show Below w.heap.size w wr1 by first | exact HBz5.out.trans (kr1.mono HBz5.out.size) | exact (Below.drew HBz5.out).trans (kr1.mono HBz5.out.size) | exact (Below.drew (Below.drew HBz5.out)).trans (kr1.mono HBz5.out.size) | exact (Below.drew (Below.drew (Below.drew HBz5.out))).trans (kr1.mono HBz5.out.size))); (have Hbr1 := Lib.hid (show Has wr1 w.heap.size [.int .i64 size, .int .i64 m, .int .i64 sum, .int .i64 rng, .int .i64 last] 23 from Hbz5.out.of (kr1.block _ (by exact Hbz5.out.lt)))); (have y10 : wr1.cell? ⟨w.heap.size, 0, none⟩ = some (.int .i64 size) := Hbr1.out.cell 0); (have y11 : wr1.cell? ⟨w.heap.size, 1, none⟩ = some (.int .i64 m) := Hbr1.out.cell 1); (have y12 : wr1.cell? ⟨w.heap.size, 2, none⟩ = some (.int .i64 sum) := Hbr1.out.cell 2); (have y13 : wr1.cell? ⟨w.heap.size, 3, none⟩ = some (.int .i64 rng) := Hbr1.out.cell 3); (have y14 : wr1.cell? ⟨w.heap.size, 4, none⟩ = some (.int .i64 last) := Hbr1.out.cell 4)) | (go_at_call 11; refine (HRR.out _).mono ?_; rintro e wr2 ⟨rfl, kr2⟩; (have HBr2 := Lib.hid (show Below w.heap.size w wr2 by first | exact HBr1.out.trans (kr2.mono HBr1.out.size) | exact (Below.drew HBr1.out).trans (kr2.mono HBr1.out.size) | exact (Below.drew (Below.drew HBr1.out)).trans (kr2.mono HBr1.out.size) | exact (Below.drew (Below.drew (Below.drew HBr1.out))).trans (kr2.mono HBr1.out.size))); (have Hbr2 := Lib.hid (show Has wr2 w.heap.size [.int .i64 size, .int .i64 m, .int .i64 sum, .int .i64 rng, .int .i64 last] 23 from Hbr1.out.of (kr2.block _ (by exact Hbr1.out.lt)))); (have y20 : wr2.cell? ⟨w.heap.size, 0, none⟩ = some (.int .i64 size) := Hbr2.out.cell 0); (have y21 : wr2.cell? ⟨w.heap.size, 1, none⟩ = some (.int .i64 m) := Hbr2.out.cell 1); (have y22 : wr2.cell? ⟨w.heap.size, 2, none⟩ = some (.int .i64 sum) := Hbr2.out.cell 2); (have y23 : wr2.cell? ⟨w.heap.size, 3, none⟩ = some (.int .i64 rng) := Hbr2.out.cell 3); (have y24 : wr2.cell? ⟨w.heap.size, 4, none⟩ = some (.int .i64 last) := Hbr2.out.cell 4)) | (go_at_call 12; refine (HAL.out _).mono ?_; rintro e wr3 ⟨rfl, kr3⟩; (have HBr3 := Lib.hid (show Below w.heap.size w wr3 by first | exact HBr2.out.trans (kr3.mono HBr2.out.size) | exact (Below.drew HBr2.out).trans (kr3.mono HBr2.out.size) | exact (Below.drew (Below.drew HBr2.out)).trans (kr3.mono HBr2.out.size) | exact (Below.drew (Below.drew (Below.drew HBr2.out))).trans (kr3.mono HBr2.out.size))); (have Hbr3 := Lib.hid (show Has wr3 w.heap.size [.int .i64 size, .int .i64 m, .int .i64 sum, .int .i64 rng, .int .i64 last] 23 from Hbr2.out.of (kr3.block _ (by exact Hbr2.out.lt)))); (have y30 : wr3.cell? ⟨w.heap.size, 0, none⟩ = some (.int .i64 size) := Hbr3.out.cell 0); (have y31 : wr3.cell? ⟨w.heap.size, 1, none⟩ = some (.int .i64 m) := Hbr3.out.cell 1); (have y32 : wr3.cell? ⟨w.heap.size, 2, none⟩ = some (.int .i64 sum) := Hbr3.out.cell 2); (have y33 : wr3.cell? ⟨w.heap.size, 3, none⟩ = some (.int .i64 rng) := Hbr3.out.cell 3); (have y34 : wr3.cell? ⟨w.heap.size, 4, none⟩ = some (.int .i64 last) := Hbr3.out.cell 4)))
  have Hnr1 := Lib.hid (Hnz5.out.step kr1 rfl)
  have Har1 := Lib.hid (Haz5.out.step kr1 rfl)
  have Hzr1 := Lib.hid (Hzz5.out.step kr1 rfl)
  have Hnr2 := Lib.hid (Hnr1.out.step kr2 rfl)
  have Har2 := Lib.hid (Har1.out.step kr2 rfl)
  have Hzr2 := Lib.hid (Hzr1.out.step kr2 rfl)
  have Hnr3 := Lib.hid (Hnr2.out.step kr3 rfl)
  have Har3 := Lib.hid (Har2.out.step kr3 rfl)
  have Hzr3 := Lib.hid (Hzr2.out.step kr3 rfl)
  clear kr1 kr2 kr3 y10 y11 y12 y13 y14 y20 y21 y22 y23 y24 y30 y31 y32 y33 y34 qb0_5 qb1_5 qb2_5 qb3_5 qb4_5 lb_5
  have hqb := eqBas
  have qn0_8 : wr3.cell? ⟨wz1.heap.size, 0, none⟩ = some (.int .i64 n) := Hnr3.out.cell 0
  have qn1_8 : wr3.cell? ⟨wz1.heap.size, 1, none⟩ = some (.int .i64 0) := Hnr3.out.cell 1
  have qn2_8 : wr3.cell? ⟨wz1.heap.size, 2, none⟩ = some (.int .i64 0) := Hnr3.out.cell 2
  have qn3_8 : wr3.cell? ⟨wz1.heap.size, 3, none⟩ = some (.int .i64 0) := Hnr3.out.cell 3
  have qn4_8 : wr3.cell? ⟨wz1.heap.size, 4, none⟩ = some (.int .i64 0) := Hnr3.out.cell 4
  have ln_8 : wz1.heap.size < wr3.heap.size := Hnr3.out.lt
  have qz0_8 : wr3.cell? ⟨wz4.heap.size, 0, none⟩ = some (.int .i64 0) := Hzr3.out.cell 0
  have qz1_8 : wr3.cell? ⟨wz4.heap.size, 1, none⟩ = some (.int .i64 0) := Hzr3.out.cell 1
  have qz2_8 : wr3.cell? ⟨wz4.heap.size, 2, none⟩ = some (.int .i64 0) := Hzr3.out.cell 2
  have qz3_8 : wr3.cell? ⟨wz4.heap.size, 3, none⟩ = some (.int .i64 0) := Hzr3.out.cell 3
  have qz4_8 : wr3.cell? ⟨wz4.heap.size, 4, none⟩ = some (.int .i64 0) := Hzr3.out.cell 4
  have lz_8 : wz4.heap.size < wr3.heap.size := Hzr3.out.lt
  have qb0_8 : wr3.cell? ⟨w.heap.size, 0, none⟩ = some (.int .i64 size) := Hbr3.out.cell 0
  have qb1_8 : wr3.cell? ⟨w.heap.size, 1, none⟩ = some (.int .i64 m) := Hbr3.out.cell 1
  have qb2_8 : wr3.cell? ⟨w.heap.size, 2, none⟩ = some (.int .i64 sum) := Hbr3.out.cell 2
  have qb3_8 : wr3.cell? ⟨w.heap.size, 3, none⟩ = some (.int .i64 rng) := Hbr3.out.cell 3
  have qb4_8 : wr3.cell? ⟨w.heap.size, 4, none⟩ = some (.int .i64 last) := Hbr3.out.cell 4
  have lb_8 : w.heap.size < wr3.heap.size := Hbr3.out.lt
  have hcz9 := HRR.out wr3
  go_wp2_with fail
  refine hcz9.mono ?_
  rintro e wz9 ⟨rfl, kz9⟩
  clear hcz9 qn0_8 qn1_8 qn2_8 qn3_8 qn4_8 ln_8 qz0_8 qz1_8 qz2_8 qz3_8 qz4_8 lz_8 qb0_8 qb1_8 qb2_8 qb3_8 qb4_8 lb_8
  have HBz9 := Lib.hid (HBr3.out.trans (kz9.mono (Nat.le_trans hbase HBr3.out.size)))
  have Hbz9 := Lib.hid (Hbr3.out.call kz9)
  have Hnz9 := Lib.hid (Hnr3.out.call kz9)
  have Haz9 := Lib.hid (Har3.out.call kz9)
  have Hzz9 := Lib.hid (Hzr3.out.call kz9)
  clear kz9
  have qb0_9 : wz9.cell? ⟨w.heap.size, 0, none⟩ = some (.int .i64 size) := Hbz9.out.cell 0
  have qb1_9 : wz9.cell? ⟨w.heap.size, 1, none⟩ = some (.int .i64 m) := Hbz9.out.cell 1
  have qb2_9 : wz9.cell? ⟨w.heap.size, 2, none⟩ = some (.int .i64 sum) := Hbz9.out.cell 2
  have qb3_9 : wz9.cell? ⟨w.heap.size, 3, none⟩ = some (.int .i64 rng) := Hbz9.out.cell 3
  have qb4_9 : wz9.cell? ⟨w.heap.size, 4, none⟩ = some (.int .i64 last) := Hbz9.out.cell 4
  have lb_9 : w.heap.size < wz9.heap.size := Hbz9.out.lt
  have hcz10 := HROW.out wz9 (HR.out.below HBz9.out)
  go_wp2_with fail
  refine hcz10.mono ?_
  rintro e wz10 ⟨rfl, kz10⟩
  clear hcz10 qb0_9 qb1_9 qb2_9 qb3_9 qb4_9 lb_9
  have HBz10 := Lib.hid (HBz9.out.trans (kz10.mono (Nat.le_trans hbase HBz9.out.size)))
  have Hbz10 := Lib.hid (Hbz9.out.call kz10)
  have Hnz10 := Lib.hid (Hnz9.out.call kz10)
  have Haz10 := Lib.hid (Haz9.out.call kz10)
  have Hzz10 := Lib.hid (Hzz9.out.call kz10)
  clear kz10
  have qb0_10 : wz10.cell? ⟨w.heap.size, 0, none⟩ = some (.int .i64 size) := Hbz10.out.cell 0
  have qb1_10 : wz10.cell? ⟨w.heap.size, 1, none⟩ = some (.int .i64 m) := Hbz10.out.cell 1
  have qb2_10 : wz10.cell? ⟨w.heap.size, 2, none⟩ = some (.int .i64 sum) := Hbz10.out.cell 2
  have qb3_10 : wz10.cell? ⟨w.heap.size, 3, none⟩ = some (.int .i64 rng) := Hbz10.out.cell 3
  have qb4_10 : wz10.cell? ⟨w.heap.size, 4, none⟩ = some (.int .i64 last) := Hbz10.out.cell 4
  have lb_10 : w.heap.size < wz10.heap.size := Hbz10.out.lt
  have qa0_10 : wz10.cell? ⟨wz3.heap.size, 0, none⟩ = some (.int .i64 0) := Haz10.out.cell 0
  have qa1_10 : wz10.cell? ⟨wz3.heap.size, 1, none⟩ = some (.int .i64 0) := Haz10.out.cell 1
  have qa2_10 : wz10.cell? ⟨wz3.heap.size, 2, none⟩ = some (.int .i64 0) := Haz10.out.cell 2
  have qa3_10 : wz10.cell? ⟨wz3.heap.size, 3, none⟩ = some (.int .i64 0) := Haz10.out.cell 3
  have qa4_10 : wz10.cell? ⟨wz3.heap.size, 4, none⟩ = some (.int .i64 0) := Haz10.out.cell 4
  have la_10 : wz3.heap.size < wz10.heap.size := Haz10.out.lt
  have qz0_10 : wz10.cell? ⟨wz4.heap.size, 0, none⟩ = some (.int .i64 0) := Hzz10.out.cell 0
  have qz1_10 : wz10.cell? ⟨wz4.heap.size, 1, none⟩ = some (.int .i64 0) := Hzz10.out.cell 1
  have qz2_10 : wz10.cell? ⟨wz4.heap.size, 2, none⟩ = some (.int .i64 0) := Hzz10.out.cell 2
  have qz3_10 : wz10.cell? ⟨wz4.heap.size, 3, none⟩ = some (.int .i64 0) := Hzz10.out.cell 3
  have qz4_10 : wz10.cell? ⟨wz4.heap.size, 4, none⟩ = some (.int .i64 0) := Hzz10.out.cell 4
  have lz_10 : wz4.heap.size < wz10.heap.size := Hzz10.out.lt
  go_wp2
  go_ret
  exact ⟨rfl, HBz10.out⟩
set_option linter.unusedSimpArgs false in
set_option linter.unusedVariables false in
set_option maxHeartbeats 8000000 in
set_option maxRecDepth 100000 in
theorem takes15_1full (n size m sum rng last ta tb tc td te : Int) (l : List Int) (ao : Option Addr) (k cap n0 : Nat) (w : World) (hk : k = min n0 12) (hcap : n0 ≤ cap) (hr : ReadsI w (.slice ao k cap) l) (s1 : ¬ n < 1) (s2 : ¬ 10 < n) (g5 : (m == 25) = true)
    (HNEW : Hid (∀ W, Calls Try.prog 8 #[.int .i64 n] W fun e w' => e = .returned (.tuple #[.agg #[.int .i64 n, .int .i64 0, .int .i64 0, .int .i64 0, .int .i64 0], .int .i64 0]) ∧ Below W.heap.size W w'))
    (HTAKE : Hid (∀ W, ReadsI W (.slice ao k cap) l → Calls Try.prog 9 #[.agg #[.int .i64 size, .int .i64 m, .int .i64 sum, .int .i64 rng, .int .i64 last], .slice ao k cap] W fun e w' => e = .returned (.tuple #[.agg #[.int .i64 0, .int .i64 0, .int .i64 0, .int .i64 0, .int .i64 0], .int .i64 11]) ∧ Below W.heap.size W w'))
    (HRI : Hid (∀ W, Calls Try.prog 10 #[.agg #[.int .i64 size, .int .i64 m, .int .i64 sum, .int .i64 rng, .int .i64 last]] W fun e w' => e = .returned (.bool true) ∧ Below W.heap.size W w'))
    (HRR : Hid (∀ W, Calls Try.prog 11 #[.agg #[.int .i64 size, .int .i64 m, .int .i64 sum, .int .i64 rng, .int .i64 last]] W fun e w' => e = .returned (.bool true) ∧ Below W.heap.size W w'))
    (HAL : Hid (∀ W, Calls Try.prog 12 #[] W fun e w' => e = .returned (.bool true) ∧ Below W.heap.size W w'))
    (HROW : Hid (∀ W, ReadsI W (.slice ao k cap) l → Calls Try.prog 13 #[.agg #[.int .i64 size, .int .i64 m, .int .i64 sum, .int .i64 rng, .int .i64 last], .slice ao k cap] W fun e w' => e = .returned (.bool true) ∧ Below W.heap.size W w'))
    :
    Calls Try.prog 3 #[.int .i64 n, .agg #[.int .i64 size, .int .i64 m, .int .i64 sum, .int .i64 rng, .int .i64 last], .slice ao n0 cap] w fun e w' => e = .returned (.bool true) ∧ Below w.heap.size w w' := by
  have hsl : ∀ W, (Instr.slice 24 (.slice ao n0 cap) none (some (.int .i64 (min (n0 : Int) 12))) none).run Try.prog W = .ok (.slice ao k cap) W := fun W => by
    have := slice_hi ao n0 cap k (by omega) W
    rw [show (k : Int) = min (n0 : Int) 12 by omega] at this
    exact this
  obtain ⟨w1, hw1⟩ : ∃ w1, w.alloc (.cells #[.int .i64 size, .int .i64 m, .int .i64 sum, .int .i64 rng, .int .i64 last] 23) = w1 := ⟨_, rfl⟩
  have HX1 := Lib.hid (show Has w1 w.heap.size [.int .i64 size, .int .i64 m, .int .i64 sum, .int .i64 rng, .int .i64 last] 23 by rw [← hw1]; exact Has.new w _ _)
  have HB1 := Lib.hid (show Below w.heap.size w w1 by rw [← hw1]; exact (Below.refl _ _).alloc (Nat.le_refl _) _)
  have HW1 := Lib.hid hw1
  have HR := Lib.hid hr
  have hbase := Nat.le_refl w.heap.size
  clear hw1 hk hr
  go_enter Try.func3, Try.ntmps3
  go_upto_region 1 with fail
  rw [HW1.out]
  go_upto_region 2 with fail
  clear hsl
  have qb0_0 : w1.cell? ⟨w.heap.size, 0, none⟩ = some (.int .i64 size) := HX1.out.cell 0
  have qb1_0 : w1.cell? ⟨w.heap.size, 1, none⟩ = some (.int .i64 m) := HX1.out.cell 1
  have qb2_0 : w1.cell? ⟨w.heap.size, 2, none⟩ = some (.int .i64 sum) := HX1.out.cell 2
  have qb3_0 : w1.cell? ⟨w.heap.size, 3, none⟩ = some (.int .i64 rng) := HX1.out.cell 3
  have qb4_0 : w1.cell? ⟨w.heap.size, 4, none⟩ = some (.int .i64 last) := HX1.out.cell 4
  have lb_0 : w.heap.size < w1.heap.size := HX1.out.lt
  have hcz1 := HNEW.out w1
  go_wp2_with fail
  refine hcz1.mono ?_
  rintro e wz1 ⟨rfl, kz1⟩
  clear hcz1 qb0_0 qb1_0 qb2_0 qb3_0 qb4_0 lb_0
  have HBz1 := Lib.hid (HB1.out.trans (kz1.mono (Nat.le_trans hbase HB1.out.size)))
  have Hbz1 := Lib.hid (HX1.out.call kz1)
  clear kz1
  obtain ⟨wz2, hwz2⟩ : ∃ wz2, wz1.alloc (.cells #[.int .i64 n, .int .i64 0, .int .i64 0, .int .i64 0, .int .i64 0] 23) = wz2 := ⟨_, rfl⟩
  have kz2 : Below wz1.heap.size wz1 wz2 := by rw [← hwz2]; exact (Below.refl _ _).alloc (Nat.le_refl _) _
  have Hnz2 := Lib.hid (show Has wz2 wz1.heap.size [.int .i64 n, .int .i64 0, .int .i64 0, .int .i64 0, .int .i64 0] 23 by rw [← hwz2]; exact Has.new _ _ _)
  have HWz2 := Lib.hid hwz2
  clear hwz2
  have HBz2 := Lib.hid (HBz1.out.trans (kz2.mono (Nat.le_trans hbase HBz1.out.size)))
  have Hbz2 := Lib.hid (Hbz1.out.call kz2)
  clear kz2
  have qb0_2 : wz1.cell? ⟨w.heap.size, 0, none⟩ = some (.int .i64 size) := Hbz1.out.cell 0
  have qb1_2 : wz1.cell? ⟨w.heap.size, 1, none⟩ = some (.int .i64 m) := Hbz1.out.cell 1
  have qb2_2 : wz1.cell? ⟨w.heap.size, 2, none⟩ = some (.int .i64 sum) := Hbz1.out.cell 2
  have qb3_2 : wz1.cell? ⟨w.heap.size, 3, none⟩ = some (.int .i64 rng) := Hbz1.out.cell 3
  have qb4_2 : wz1.cell? ⟨w.heap.size, 4, none⟩ = some (.int .i64 last) := Hbz1.out.cell 4
  have lb_2 : w.heap.size < wz1.heap.size := Hbz1.out.lt
  have hcz3 := HTAKE.out wz2 (HR.out.below HBz2.out)
  go_wp2_with fail
  rw [HWz2.out]
  refine hcz3.mono ?_
  rintro e wz3 ⟨rfl, kz3⟩
  clear hcz3 qb0_2 qb1_2 qb2_2 qb3_2 qb4_2 lb_2
  have HBz3 := Lib.hid (HBz2.out.trans (kz3.mono (Nat.le_trans hbase HBz2.out.size)))
  have Hbz3 := Lib.hid (Hbz2.out.call kz3)
  have Hnz3 := Lib.hid (Hnz2.out.call kz3)
  clear kz3
  obtain ⟨wz4, hwz4⟩ : ∃ wz4, wz3.alloc (.cells #[.int .i64 0, .int .i64 0, .int .i64 0, .int .i64 0, .int .i64 0] 23) = wz4 := ⟨_, rfl⟩
  have kz4 : Below wz3.heap.size wz3 wz4 := by rw [← hwz4]; exact (Below.refl _ _).alloc (Nat.le_refl _) _
  have Haz4 := Lib.hid (show Has wz4 wz3.heap.size [.int .i64 0, .int .i64 0, .int .i64 0, .int .i64 0, .int .i64 0] 23 by rw [← hwz4]; exact Has.new _ _ _)
  have HWz4 := Lib.hid hwz4
  clear hwz4
  have HBz4 := Lib.hid (HBz3.out.trans (kz4.mono (Nat.le_trans hbase HBz3.out.size)))
  have Hbz4 := Lib.hid (Hbz3.out.call kz4)
  have Hnz4 := Lib.hid (Hnz3.out.call kz4)
  clear kz4
  go_upto_region 4 with fail
  rw [HWz4.out]
  obtain ⟨wz5, hwz5⟩ : ∃ wz5, wz4.alloc (.cells #[.int .i64 0, .int .i64 0, .int .i64 0, .int .i64 0, .int .i64 0] 23) = wz5 := ⟨_, rfl⟩
  have kz5 : Below wz4.heap.size wz4 wz5 := by rw [← hwz5]; exact (Below.refl _ _).alloc (Nat.le_refl _) _
  have Hzz5 := Lib.hid (show Has wz5 wz4.heap.size [.int .i64 0, .int .i64 0, .int .i64 0, .int .i64 0, .int .i64 0] 23 by rw [← hwz5]; exact Has.new _ _ _)
  have HWz5 := Lib.hid hwz5
  clear hwz5
  have HBz5 := Lib.hid (HBz4.out.trans (kz5.mono (Nat.le_trans hbase HBz4.out.size)))
  have Hbz5 := Lib.hid (Hbz4.out.call kz5)
  have Hnz5 := Lib.hid (Hnz4.out.call kz5)
  have Haz5 := Lib.hid (Haz4.out.call kz5)
  clear kz5
  go_upto_region 5 with fail
  rw [HWz5.out]
  have qb0_5 : wz5.cell? ⟨w.heap.size, 0, none⟩ = some (.int .i64 size) := Hbz5.out.cell 0
  have qb1_5 : wz5.cell? ⟨w.heap.size, 1, none⟩ = some (.int .i64 m) := Hbz5.out.cell 1
  have qb2_5 : wz5.cell? ⟨w.heap.size, 2, none⟩ = some (.int .i64 sum) := Hbz5.out.cell 2
  have qb3_5 : wz5.cell? ⟨w.heap.size, 3, none⟩ = some (.int .i64 rng) := Hbz5.out.cell 3
  have qb4_5 : wz5.cell? ⟨w.heap.size, 4, none⟩ = some (.int .i64 last) := Hbz5.out.cell 4
  have lb_5 : w.heap.size < wz5.heap.size := Hbz5.out.lt
  go_region_held3 (fun W => W.cell? ⟨w.heap.size, 0, none⟩ = some (.int .i64 size) ∧ W.cell? ⟨w.heap.size, 1, none⟩ = some (.int .i64 m) ∧ W.cell? ⟨w.heap.size, 2, none⟩ = some (.int .i64 sum) ∧ W.cell? ⟨w.heap.size, 3, none⟩ = some (.int .i64 rng) ∧ W.cell? ⟨w.heap.size, 4, none⟩ = some (.int .i64 last)) (first | exact ⟨y30, y31, y32, y33, y34⟩ | exact ⟨y20, y21, y22, y23, y24⟩ | exact ⟨y10, y11, y12, y13, y14⟩ | exact ⟨qb0_5, qb1_5, qb2_5, qb3_5, qb4_5⟩ | simp [go_sem, *]) (first | (go_at_call 10; refine (HRI.out _).mono ?_; rintro e wr1 ⟨rfl, kr1⟩; (have HBr1 := Lib.hid (show Below w.heap.size w wr1 by first | exact HBz5.out.trans (kr1.mono HBz5.out.size) | exact (Below.drew HBz5.out).trans (kr1.mono HBz5.out.size) | exact (Below.drew (Below.drew HBz5.out)).trans (kr1.mono HBz5.out.size) | exact (Below.drew (Below.drew (Below.drew HBz5.out))).trans (kr1.mono HBz5.out.size))); (have Hbr1 := Lib.hid (show Has wr1 w.heap.size [.int .i64 size, .int .i64 m, .int .i64 sum, .int .i64 rng, .int .i64 last] 23 from Hbz5.out.of (kr1.block _ (by exact Hbz5.out.lt)))); (have y10 : wr1.cell? ⟨w.heap.size, 0, none⟩ = some (.int .i64 size) := Hbr1.out.cell 0); (have y11 : wr1.cell? ⟨w.heap.size, 1, none⟩ = some (.int .i64 m) := Hbr1.out.cell 1); (have y12 : wr1.cell? ⟨w.heap.size, 2, none⟩ = some (.int .i64 sum) := Hbr1.out.cell 2); (have y13 : wr1.cell? ⟨w.heap.size, 3, none⟩ = some (.int .i64 rng) := Hbr1.out.cell 3); (have y14 : wr1.cell? ⟨w.heap.size, 4, none⟩ = some (.int .i64 last) := Hbr1.out.cell 4)) | (go_at_call 11; refine (HRR.out _).mono ?_; rintro e wr2 ⟨rfl, kr2⟩; (have HBr2 := Lib.hid (show Below w.heap.size w wr2 by first | exact HBr1.out.trans (kr2.mono HBr1.out.size) | exact (Below.drew HBr1.out).trans (kr2.mono HBr1.out.size) | exact (Below.drew (Below.drew HBr1.out)).trans (kr2.mono HBr1.out.size) | exact (Below.drew (Below.drew (Below.drew HBr1.out))).trans (kr2.mono HBr1.out.size))); (have Hbr2 := Lib.hid (show Has wr2 w.heap.size [.int .i64 size, .int .i64 m, .int .i64 sum, .int .i64 rng, .int .i64 last] 23 from Hbr1.out.of (kr2.block _ (by exact Hbr1.out.lt)))); (have y20 : wr2.cell? ⟨w.heap.size, 0, none⟩ = some (.int .i64 size) := Hbr2.out.cell 0); (have y21 : wr2.cell? ⟨w.heap.size, 1, none⟩ = some (.int .i64 m) := Hbr2.out.cell 1); (have y22 : wr2.cell? ⟨w.heap.size, 2, none⟩ = some (.int .i64 sum) := Hbr2.out.cell 2); (have y23 : wr2.cell? ⟨w.heap.size, 3, none⟩ = some (.int .i64 rng) := Hbr2.out.cell 3); (have y24 : wr2.cell? ⟨w.heap.size, 4, none⟩ = some (.int .i64 last) := Hbr2.out.cell 4)) | (go_at_call 12; refine (HAL.out _).mono ?_; rintro e wr3 ⟨rfl, kr3⟩; (have HBr3 := Lib.hid (show Below w.heap.size w wr3 by first | exact HBr2.out.trans (kr3.mono HBr2.out.size) | exact (Below.drew HBr2.out).trans (kr3.mono HBr2.out.size) | exact (Below.drew (Below.drew HBr2.out)).trans (kr3.mono HBr2.out.size) | exact (Below.drew (Below.drew (Below.drew HBr2.out))).trans (kr3.mono HBr2.out.size))); (have Hbr3 := Lib.hid (show Has wr3 w.heap.size [.int .i64 size, .int .i64 m, .int .i64 sum, .int .i64 rng, .int .i64 last] 23 from Hbr2.out.of (kr3.block _ (by exact Hbr2.out.lt)))); (have y30 : wr3.cell? ⟨w.heap.size, 0, none⟩ = some (.int .i64 size) := Hbr3.out.cell 0); (have y31 : wr3.cell? ⟨w.heap.size, 1, none⟩ = some (.int .i64 m) := Hbr3.out.cell 1); (have y32 : wr3.cell? ⟨w.heap.size, 2, none⟩ = some (.int .i64 sum) := Hbr3.out.cell 2); (have y33 : wr3.cell? ⟨w.heap.size, 3, none⟩ = some (.int .i64 rng) := Hbr3.out.cell 3); (have y34 : wr3.cell? ⟨w.heap.size, 4, none⟩ = some (.int .i64 last) := Hbr3.out.cell 4)))
  have Hnr1 := Lib.hid (Hnz5.out.step kr1 rfl)
  have Har1 := Lib.hid (Haz5.out.step kr1 rfl)
  have Hzr1 := Lib.hid (Hzz5.out.step kr1 rfl)
  have Hnr2 := Lib.hid (Hnr1.out.step kr2 rfl)
  have Har2 := Lib.hid (Har1.out.step kr2 rfl)
  have Hzr2 := Lib.hid (Hzr1.out.step kr2 rfl)
  have Hnr3 := Lib.hid (Hnr2.out.step kr3 rfl)
  have Har3 := Lib.hid (Har2.out.step kr3 rfl)
  have Hzr3 := Lib.hid (Hzr2.out.step kr3 rfl)
  clear kr1 kr2 kr3 y10 y11 y12 y13 y14 y20 y21 y22 y23 y24 y30 y31 y32 y33 y34 qb0_5 qb1_5 qb2_5 qb3_5 qb4_5 lb_5
  have hqb := eqBas
  have qn0_8 : wr3.cell? ⟨wz1.heap.size, 0, none⟩ = some (.int .i64 n) := Hnr3.out.cell 0
  have qn1_8 : wr3.cell? ⟨wz1.heap.size, 1, none⟩ = some (.int .i64 0) := Hnr3.out.cell 1
  have qn2_8 : wr3.cell? ⟨wz1.heap.size, 2, none⟩ = some (.int .i64 0) := Hnr3.out.cell 2
  have qn3_8 : wr3.cell? ⟨wz1.heap.size, 3, none⟩ = some (.int .i64 0) := Hnr3.out.cell 3
  have qn4_8 : wr3.cell? ⟨wz1.heap.size, 4, none⟩ = some (.int .i64 0) := Hnr3.out.cell 4
  have ln_8 : wz1.heap.size < wr3.heap.size := Hnr3.out.lt
  have qz0_8 : wr3.cell? ⟨wz4.heap.size, 0, none⟩ = some (.int .i64 0) := Hzr3.out.cell 0
  have qz1_8 : wr3.cell? ⟨wz4.heap.size, 1, none⟩ = some (.int .i64 0) := Hzr3.out.cell 1
  have qz2_8 : wr3.cell? ⟨wz4.heap.size, 2, none⟩ = some (.int .i64 0) := Hzr3.out.cell 2
  have qz3_8 : wr3.cell? ⟨wz4.heap.size, 3, none⟩ = some (.int .i64 0) := Hzr3.out.cell 3
  have qz4_8 : wr3.cell? ⟨wz4.heap.size, 4, none⟩ = some (.int .i64 0) := Hzr3.out.cell 4
  have lz_8 : wz4.heap.size < wr3.heap.size := Hzr3.out.lt
  have qb0_8 : wr3.cell? ⟨w.heap.size, 0, none⟩ = some (.int .i64 size) := Hbr3.out.cell 0
  have qb1_8 : wr3.cell? ⟨w.heap.size, 1, none⟩ = some (.int .i64 m) := Hbr3.out.cell 1
  have qb2_8 : wr3.cell? ⟨w.heap.size, 2, none⟩ = some (.int .i64 sum) := Hbr3.out.cell 2
  have qb3_8 : wr3.cell? ⟨w.heap.size, 3, none⟩ = some (.int .i64 rng) := Hbr3.out.cell 3
  have qb4_8 : wr3.cell? ⟨w.heap.size, 4, none⟩ = some (.int .i64 last) := Hbr3.out.cell 4
  have lb_8 : w.heap.size < wr3.heap.size := Hbr3.out.lt
  have hcz9 := HRR.out wr3
  go_wp2_with fail
  refine hcz9.mono ?_
  rintro e wz9 ⟨rfl, kz9⟩
  clear hcz9 qn0_8 qn1_8 qn2_8 qn3_8 qn4_8 ln_8 qz0_8 qz1_8 qz2_8 qz3_8 qz4_8 lz_8 qb0_8 qb1_8 qb2_8 qb3_8 qb4_8 lb_8
  have HBz9 := Lib.hid (HBr3.out.trans (kz9.mono (Nat.le_trans hbase HBr3.out.size)))
  have Hbz9 := Lib.hid (Hbr3.out.call kz9)
  have Hnz9 := Lib.hid (Hnr3.out.call kz9)
  have Haz9 := Lib.hid (Har3.out.call kz9)
  have Hzz9 := Lib.hid (Hzr3.out.call kz9)
  clear kz9
  have qb0_9 : wz9.cell? ⟨w.heap.size, 0, none⟩ = some (.int .i64 size) := Hbz9.out.cell 0
  have qb1_9 : wz9.cell? ⟨w.heap.size, 1, none⟩ = some (.int .i64 m) := Hbz9.out.cell 1
  have qb2_9 : wz9.cell? ⟨w.heap.size, 2, none⟩ = some (.int .i64 sum) := Hbz9.out.cell 2
  have qb3_9 : wz9.cell? ⟨w.heap.size, 3, none⟩ = some (.int .i64 rng) := Hbz9.out.cell 3
  have qb4_9 : wz9.cell? ⟨w.heap.size, 4, none⟩ = some (.int .i64 last) := Hbz9.out.cell 4
  have lb_9 : w.heap.size < wz9.heap.size := Hbz9.out.lt
  have hcz10 := HROW.out wz9 (HR.out.below HBz9.out)
  go_wp2_with fail
  refine hcz10.mono ?_
  rintro e wz10 ⟨rfl, kz10⟩
  clear hcz10 qb0_9 qb1_9 qb2_9 qb3_9 qb4_9 lb_9
  have HBz10 := Lib.hid (HBz9.out.trans (kz10.mono (Nat.le_trans hbase HBz9.out.size)))
  have Hbz10 := Lib.hid (Hbz9.out.call kz10)
  have Hnz10 := Lib.hid (Hnz9.out.call kz10)
  have Haz10 := Lib.hid (Haz9.out.call kz10)
  have Hzz10 := Lib.hid (Hzz9.out.call kz10)
  clear kz10
  have qb0_10 : wz10.cell? ⟨w.heap.size, 0, none⟩ = some (.int .i64 size) := Hbz10.out.cell 0
  have qb1_10 : wz10.cell? ⟨w.heap.size, 1, none⟩ = some (.int .i64 m) := Hbz10.out.cell 1
  have qb2_10 : wz10.cell? ⟨w.heap.size, 2, none⟩ = some (.int .i64 sum) := Hbz10.out.cell 2
  have qb3_10 : wz10.cell? ⟨w.heap.size, 3, none⟩ = some (.int .i64 rng) := Hbz10.out.cell 3
  have qb4_10 : wz10.cell? ⟨w.heap.size, 4, none⟩ = some (.int .i64 last) := Hbz10.out.cell 4
  have lb_10 : w.heap.size < wz10.heap.size := Hbz10.out.lt
  have qa0_10 : wz10.cell? ⟨wz3.heap.size, 0, none⟩ = some (.int .i64 0) := Haz10.out.cell 0
  have qa1_10 : wz10.cell? ⟨wz3.heap.size, 1, none⟩ = some (.int .i64 0) := Haz10.out.cell 1
  have qa2_10 : wz10.cell? ⟨wz3.heap.size, 2, none⟩ = some (.int .i64 0) := Haz10.out.cell 2
  have qa3_10 : wz10.cell? ⟨wz3.heap.size, 3, none⟩ = some (.int .i64 0) := Haz10.out.cell 3
  have qa4_10 : wz10.cell? ⟨wz3.heap.size, 4, none⟩ = some (.int .i64 0) := Haz10.out.cell 4
  have la_10 : wz3.heap.size < wz10.heap.size := Haz10.out.lt
  have qz0_10 : wz10.cell? ⟨wz4.heap.size, 0, none⟩ = some (.int .i64 0) := Hzz10.out.cell 0
  have qz1_10 : wz10.cell? ⟨wz4.heap.size, 1, none⟩ = some (.int .i64 0) := Hzz10.out.cell 1
  have qz2_10 : wz10.cell? ⟨wz4.heap.size, 2, none⟩ = some (.int .i64 0) := Hzz10.out.cell 2
  have qz3_10 : wz10.cell? ⟨wz4.heap.size, 3, none⟩ = some (.int .i64 0) := Hzz10.out.cell 3
  have qz4_10 : wz10.cell? ⟨wz4.heap.size, 4, none⟩ = some (.int .i64 0) := Hzz10.out.cell 4
  have lz_10 : wz4.heap.size < wz10.heap.size := Hzz10.out.lt
  go_wp2
  go_ret
  exact ⟨rfl, HBz10.out⟩
set_option linter.unusedSimpArgs false in
set_option linter.unusedVariables false in
set_option maxHeartbeats 8000000 in
set_option maxRecDepth 100000 in
theorem takes15_1ok (n size m sum rng last ta tb tc td te : Int) (l : List Int) (ao : Option Addr) (k cap n0 : Nat) (w : World) (hk : k = min n0 12) (hcap : n0 ≤ cap) (hr : ReadsI w (.slice ao k cap) l) (s1 : ¬ n < 1) (s2 : ¬ 10 < n) (g5 : (m == 25) = false)
    (HNEW : Hid (∀ W, Calls Try.prog 8 #[.int .i64 n] W fun e w' => e = .returned (.tuple #[.agg #[.int .i64 n, .int .i64 0, .int .i64 0, .int .i64 0, .int .i64 0], .int .i64 0]) ∧ Below W.heap.size W w'))
    (HTAKE : Hid (∀ W, ReadsI W (.slice ao k cap) l → Calls Try.prog 9 #[.agg #[.int .i64 size, .int .i64 m, .int .i64 sum, .int .i64 rng, .int .i64 last], .slice ao k cap] W fun e w' => e = .returned (.tuple #[.agg #[.int .i64 ta, .int .i64 tb, .int .i64 tc, .int .i64 td, .int .i64 te], .int .i64 0]) ∧ Below W.heap.size W w'))
    (HRI : Hid (∀ W, Calls Try.prog 10 #[.agg #[.int .i64 size, .int .i64 m, .int .i64 sum, .int .i64 rng, .int .i64 last]] W fun e w' => e = .returned (.bool true) ∧ Below W.heap.size W w'))
    (HRR : Hid (∀ W, Calls Try.prog 11 #[.agg #[.int .i64 size, .int .i64 m, .int .i64 sum, .int .i64 rng, .int .i64 last]] W fun e w' => e = .returned (.bool true) ∧ Below W.heap.size W w'))
    (HAL : Hid (∀ W, Calls Try.prog 12 #[] W fun e w' => e = .returned (.bool true) ∧ Below W.heap.size W w'))
    (HROW : Hid (∀ W, ReadsI W (.slice ao k cap) l → Calls Try.prog 13 #[.agg #[.int .i64 size, .int .i64 m, .int .i64 sum, .int .i64 rng, .int .i64 last], .slice ao k cap] W fun e w' => e = .returned (.bool true) ∧ Below W.heap.size W w'))
    (HRT : Hid (∀ W, ReadsI W (.slice ao k cap) l → Calls Try.prog 14 #[.agg #[.int .i64 size, .int .i64 m, .int .i64 sum, .int .i64 rng, .int .i64 last], .slice ao k cap] W fun e w' => e = .returned (.agg #[.int .i64 ta, .int .i64 tb, .int .i64 tc, .int .i64 td, .int .i64 te]) ∧ Below W.heap.size W w'))
    :
    Calls Try.prog 3 #[.int .i64 n, .agg #[.int .i64 size, .int .i64 m, .int .i64 sum, .int .i64 rng, .int .i64 last], .slice ao n0 cap] w fun e w' => e = .returned (.bool true) ∧ Below w.heap.size w w' := by
  have hsl : ∀ W, (Instr.slice 24 (.slice ao n0 cap) none (some (.int .i64 (min (n0 : Int) 12))) none).run Try.prog W = .ok (.slice ao k cap) W := fun W => by
    have := slice_hi ao n0 cap k (by omega) W
    rw [show (k : Int) = min (n0 : Int) 12 by omega] at this
    exact this
  obtain ⟨w1, hw1⟩ : ∃ w1, w.alloc (.cells #[.int .i64 size, .int .i64 m, .int .i64 sum, .int .i64 rng, .int .i64 last] 23) = w1 := ⟨_, rfl⟩
  have HX1 := Lib.hid (show Has w1 w.heap.size [.int .i64 size, .int .i64 m, .int .i64 sum, .int .i64 rng, .int .i64 last] 23 by rw [← hw1]; exact Has.new w _ _)
  have HB1 := Lib.hid (show Below w.heap.size w w1 by rw [← hw1]; exact (Below.refl _ _).alloc (Nat.le_refl _) _)
  have HW1 := Lib.hid hw1
  have HR := Lib.hid hr
  have hbase := Nat.le_refl w.heap.size
  clear hw1 hk hr
  go_enter Try.func3, Try.ntmps3
  go_upto_region 1 with fail
  rw [HW1.out]
  go_upto_region 2 with fail
  clear hsl
  have qb0_0 : w1.cell? ⟨w.heap.size, 0, none⟩ = some (.int .i64 size) := HX1.out.cell 0
  have qb1_0 : w1.cell? ⟨w.heap.size, 1, none⟩ = some (.int .i64 m) := HX1.out.cell 1
  have qb2_0 : w1.cell? ⟨w.heap.size, 2, none⟩ = some (.int .i64 sum) := HX1.out.cell 2
  have qb3_0 : w1.cell? ⟨w.heap.size, 3, none⟩ = some (.int .i64 rng) := HX1.out.cell 3
  have qb4_0 : w1.cell? ⟨w.heap.size, 4, none⟩ = some (.int .i64 last) := HX1.out.cell 4
  have lb_0 : w.heap.size < w1.heap.size := HX1.out.lt
  have hcz1 := HNEW.out w1
  go_wp2_with fail
  refine hcz1.mono ?_
  rintro e wz1 ⟨rfl, kz1⟩
  clear hcz1 qb0_0 qb1_0 qb2_0 qb3_0 qb4_0 lb_0
  have HBz1 := Lib.hid (HB1.out.trans (kz1.mono (Nat.le_trans hbase HB1.out.size)))
  have Hbz1 := Lib.hid (HX1.out.call kz1)
  clear kz1
  obtain ⟨wz2, hwz2⟩ : ∃ wz2, wz1.alloc (.cells #[.int .i64 n, .int .i64 0, .int .i64 0, .int .i64 0, .int .i64 0] 23) = wz2 := ⟨_, rfl⟩
  have kz2 : Below wz1.heap.size wz1 wz2 := by rw [← hwz2]; exact (Below.refl _ _).alloc (Nat.le_refl _) _
  have Hnz2 := Lib.hid (show Has wz2 wz1.heap.size [.int .i64 n, .int .i64 0, .int .i64 0, .int .i64 0, .int .i64 0] 23 by rw [← hwz2]; exact Has.new _ _ _)
  have HWz2 := Lib.hid hwz2
  clear hwz2
  have HBz2 := Lib.hid (HBz1.out.trans (kz2.mono (Nat.le_trans hbase HBz1.out.size)))
  have Hbz2 := Lib.hid (Hbz1.out.call kz2)
  clear kz2
  have qb0_2 : wz1.cell? ⟨w.heap.size, 0, none⟩ = some (.int .i64 size) := Hbz1.out.cell 0
  have qb1_2 : wz1.cell? ⟨w.heap.size, 1, none⟩ = some (.int .i64 m) := Hbz1.out.cell 1
  have qb2_2 : wz1.cell? ⟨w.heap.size, 2, none⟩ = some (.int .i64 sum) := Hbz1.out.cell 2
  have qb3_2 : wz1.cell? ⟨w.heap.size, 3, none⟩ = some (.int .i64 rng) := Hbz1.out.cell 3
  have qb4_2 : wz1.cell? ⟨w.heap.size, 4, none⟩ = some (.int .i64 last) := Hbz1.out.cell 4
  have lb_2 : w.heap.size < wz1.heap.size := Hbz1.out.lt
  have hcz3 := HTAKE.out wz2 (HR.out.below HBz2.out)
  go_wp2_with fail
  rw [HWz2.out]
  refine hcz3.mono ?_
  rintro e wz3 ⟨rfl, kz3⟩
  clear hcz3 qb0_2 qb1_2 qb2_2 qb3_2 qb4_2 lb_2
  have HBz3 := Lib.hid (HBz2.out.trans (kz3.mono (Nat.le_trans hbase HBz2.out.size)))
  have Hbz3 := Lib.hid (Hbz2.out.call kz3)
  have Hnz3 := Lib.hid (Hnz2.out.call kz3)
  clear kz3
  obtain ⟨wz4, hwz4⟩ : ∃ wz4, wz3.alloc (.cells #[.int .i64 ta, .int .i64 tb, .int .i64 tc, .int .i64 td, .int .i64 te] 23) = wz4 := ⟨_, rfl⟩
  have kz4 : Below wz3.heap.size wz3 wz4 := by rw [← hwz4]; exact (Below.refl _ _).alloc (Nat.le_refl _) _
  have Haz4 := Lib.hid (show Has wz4 wz3.heap.size [.int .i64 ta, .int .i64 tb, .int .i64 tc, .int .i64 td, .int .i64 te] 23 by rw [← hwz4]; exact Has.new _ _ _)
  have HWz4 := Lib.hid hwz4
  clear hwz4
  have HBz4 := Lib.hid (HBz3.out.trans (kz4.mono (Nat.le_trans hbase HBz3.out.size)))
  have Hbz4 := Lib.hid (Hbz3.out.call kz4)
  have Hnz4 := Lib.hid (Hnz3.out.call kz4)
  clear kz4
  go_upto_region 4 with fail
  rw [HWz4.out]
  obtain ⟨wz5, hwz5⟩ : ∃ wz5, wz4.alloc (.cells #[.int .i64 0, .int .i64 0, .int .i64 0, .int .i64 0, .int .i64 0] 23) = wz5 := ⟨_, rfl⟩
  have kz5 : Below wz4.heap.size wz4 wz5 := by rw [← hwz5]; exact (Below.refl _ _).alloc (Nat.le_refl _) _
  have Hzz5 := Lib.hid (show Has wz5 wz4.heap.size [.int .i64 0, .int .i64 0, .int .i64 0, .int .i64 0, .int .i64 0] 23 by rw [← hwz5]; exact Has.new _ _ _)
  have HWz5 := Lib.hid hwz5
  clear hwz5
  have HBz5 := Lib.hid (HBz4.out.trans (kz5.mono (Nat.le_trans hbase HBz4.out.size)))
  have Hbz5 := Lib.hid (Hbz4.out.call kz5)
  have Hnz5 := Lib.hid (Hnz4.out.call kz5)
  have Haz5 := Lib.hid (Haz4.out.call kz5)
  clear kz5
  go_upto_region 5 with fail
  rw [HWz5.out]
  have qb0_5 : wz5.cell? ⟨w.heap.size, 0, none⟩ = some (.int .i64 size) := Hbz5.out.cell 0
  have qb1_5 : wz5.cell? ⟨w.heap.size, 1, none⟩ = some (.int .i64 m) := Hbz5.out.cell 1
  have qb2_5 : wz5.cell? ⟨w.heap.size, 2, none⟩ = some (.int .i64 sum) := Hbz5.out.cell 2
  have qb3_5 : wz5.cell? ⟨w.heap.size, 3, none⟩ = some (.int .i64 rng) := Hbz5.out.cell 3
  have qb4_5 : wz5.cell? ⟨w.heap.size, 4, none⟩ = some (.int .i64 last) := Hbz5.out.cell 4
  have lb_5 : w.heap.size < wz5.heap.size := Hbz5.out.lt
  go_region_held3 (fun W => W.cell? ⟨w.heap.size, 0, none⟩ = some (.int .i64 size) ∧ W.cell? ⟨w.heap.size, 1, none⟩ = some (.int .i64 m) ∧ W.cell? ⟨w.heap.size, 2, none⟩ = some (.int .i64 sum) ∧ W.cell? ⟨w.heap.size, 3, none⟩ = some (.int .i64 rng) ∧ W.cell? ⟨w.heap.size, 4, none⟩ = some (.int .i64 last)) (first | exact ⟨y30, y31, y32, y33, y34⟩ | exact ⟨y20, y21, y22, y23, y24⟩ | exact ⟨y10, y11, y12, y13, y14⟩ | exact ⟨qb0_5, qb1_5, qb2_5, qb3_5, qb4_5⟩ | simp [go_sem, *]) (first | (go_at_call 10; refine (HRI.out _).mono ?_; rintro e wr1 ⟨rfl, kr1⟩; (have HBr1 := Lib.hid (show Below w.heap.size w wr1 by first | exact HBz5.out.trans (kr1.mono HBz5.out.size) | exact (Below.drew HBz5.out).trans (kr1.mono HBz5.out.size) | exact (Below.drew (Below.drew HBz5.out)).trans (kr1.mono HBz5.out.size) | exact (Below.drew (Below.drew (Below.drew HBz5.out))).trans (kr1.mono HBz5.out.size))); (have Hbr1 := Lib.hid (show Has wr1 w.heap.size [.int .i64 size, .int .i64 m, .int .i64 sum, .int .i64 rng, .int .i64 last] 23 from Hbz5.out.of (kr1.block _ (by exact Hbz5.out.lt)))); (have y10 : wr1.cell? ⟨w.heap.size, 0, none⟩ = some (.int .i64 size) := Hbr1.out.cell 0); (have y11 : wr1.cell? ⟨w.heap.size, 1, none⟩ = some (.int .i64 m) := Hbr1.out.cell 1); (have y12 : wr1.cell? ⟨w.heap.size, 2, none⟩ = some (.int .i64 sum) := Hbr1.out.cell 2); (have y13 : wr1.cell? ⟨w.heap.size, 3, none⟩ = some (.int .i64 rng) := Hbr1.out.cell 3); (have y14 : wr1.cell? ⟨w.heap.size, 4, none⟩ = some (.int .i64 last) := Hbr1.out.cell 4)) | (go_at_call 11; refine (HRR.out _).mono ?_; rintro e wr2 ⟨rfl, kr2⟩; (have HBr2 := Lib.hid (show Below w.heap.size w wr2 by first | exact HBr1.out.trans (kr2.mono HBr1.out.size) | exact (Below.drew HBr1.out).trans (kr2.mono HBr1.out.size) | exact (Below.drew (Below.drew HBr1.out)).trans (kr2.mono HBr1.out.size) | exact (Below.drew (Below.drew (Below.drew HBr1.out))).trans (kr2.mono HBr1.out.size))); (have Hbr2 := Lib.hid (show Has wr2 w.heap.size [.int .i64 size, .int .i64 m, .int .i64 sum, .int .i64 rng, .int .i64 last] 23 from Hbr1.out.of (kr2.block _ (by exact Hbr1.out.lt)))); (have y20 : wr2.cell? ⟨w.heap.size, 0, none⟩ = some (.int .i64 size) := Hbr2.out.cell 0); (have y21 : wr2.cell? ⟨w.heap.size, 1, none⟩ = some (.int .i64 m) := Hbr2.out.cell 1); (have y22 : wr2.cell? ⟨w.heap.size, 2, none⟩ = some (.int .i64 sum) := Hbr2.out.cell 2); (have y23 : wr2.cell? ⟨w.heap.size, 3, none⟩ = some (.int .i64 rng) := Hbr2.out.cell 3); (have y24 : wr2.cell? ⟨w.heap.size, 4, none⟩ = some (.int .i64 last) := Hbr2.out.cell 4)) | (go_at_call 12; refine (HAL.out _).mono ?_; rintro e wr3 ⟨rfl, kr3⟩; (have HBr3 := Lib.hid (show Below w.heap.size w wr3 by first | exact HBr2.out.trans (kr3.mono HBr2.out.size) | exact (Below.drew HBr2.out).trans (kr3.mono HBr2.out.size) | exact (Below.drew (Below.drew HBr2.out)).trans (kr3.mono HBr2.out.size) | exact (Below.drew (Below.drew (Below.drew HBr2.out))).trans (kr3.mono HBr2.out.size))); (have Hbr3 := Lib.hid (show Has wr3 w.heap.size [.int .i64 size, .int .i64 m, .int .i64 sum, .int .i64 rng, .int .i64 last] 23 from Hbr2.out.of (kr3.block _ (by exact Hbr2.out.lt)))); (have y30 : wr3.cell? ⟨w.heap.size, 0, none⟩ = some (.int .i64 size) := Hbr3.out.cell 0); (have y31 : wr3.cell? ⟨w.heap.size, 1, none⟩ = some (.int .i64 m) := Hbr3.out.cell 1); (have y32 : wr3.cell? ⟨w.heap.size, 2, none⟩ = some (.int .i64 sum) := Hbr3.out.cell 2); (have y33 : wr3.cell? ⟨w.heap.size, 3, none⟩ = some (.int .i64 rng) := Hbr3.out.cell 3); (have y34 : wr3.cell? ⟨w.heap.size, 4, none⟩ = some (.int .i64 last) := Hbr3.out.cell 4)))
  have Hnr1 := Lib.hid (Hnz5.out.step kr1 rfl)
  have Har1 := Lib.hid (Haz5.out.step kr1 rfl)
  have Hzr1 := Lib.hid (Hzz5.out.step kr1 rfl)
  have Hnr2 := Lib.hid (Hnr1.out.step kr2 rfl)
  have Har2 := Lib.hid (Har1.out.step kr2 rfl)
  have Hzr2 := Lib.hid (Hzr1.out.step kr2 rfl)
  have Hnr3 := Lib.hid (Hnr2.out.step kr3 rfl)
  have Har3 := Lib.hid (Har2.out.step kr3 rfl)
  have Hzr3 := Lib.hid (Hzr2.out.step kr3 rfl)
  clear kr1 kr2 kr3 y10 y11 y12 y13 y14 y20 y21 y22 y23 y24 y30 y31 y32 y33 y34 qb0_5 qb1_5 qb2_5 qb3_5 qb4_5 lb_5
  have hqb := eqBas
  have qn0_8 : wr3.cell? ⟨wz1.heap.size, 0, none⟩ = some (.int .i64 n) := Hnr3.out.cell 0
  have qn1_8 : wr3.cell? ⟨wz1.heap.size, 1, none⟩ = some (.int .i64 0) := Hnr3.out.cell 1
  have qn2_8 : wr3.cell? ⟨wz1.heap.size, 2, none⟩ = some (.int .i64 0) := Hnr3.out.cell 2
  have qn3_8 : wr3.cell? ⟨wz1.heap.size, 3, none⟩ = some (.int .i64 0) := Hnr3.out.cell 3
  have qn4_8 : wr3.cell? ⟨wz1.heap.size, 4, none⟩ = some (.int .i64 0) := Hnr3.out.cell 4
  have ln_8 : wz1.heap.size < wr3.heap.size := Hnr3.out.lt
  have qz0_8 : wr3.cell? ⟨wz4.heap.size, 0, none⟩ = some (.int .i64 0) := Hzr3.out.cell 0
  have qz1_8 : wr3.cell? ⟨wz4.heap.size, 1, none⟩ = some (.int .i64 0) := Hzr3.out.cell 1
  have qz2_8 : wr3.cell? ⟨wz4.heap.size, 2, none⟩ = some (.int .i64 0) := Hzr3.out.cell 2
  have qz3_8 : wr3.cell? ⟨wz4.heap.size, 3, none⟩ = some (.int .i64 0) := Hzr3.out.cell 3
  have qz4_8 : wr3.cell? ⟨wz4.heap.size, 4, none⟩ = some (.int .i64 0) := Hzr3.out.cell 4
  have lz_8 : wz4.heap.size < wr3.heap.size := Hzr3.out.lt
  have qb0_8 : wr3.cell? ⟨w.heap.size, 0, none⟩ = some (.int .i64 size) := Hbr3.out.cell 0
  have qb1_8 : wr3.cell? ⟨w.heap.size, 1, none⟩ = some (.int .i64 m) := Hbr3.out.cell 1
  have qb2_8 : wr3.cell? ⟨w.heap.size, 2, none⟩ = some (.int .i64 sum) := Hbr3.out.cell 2
  have qb3_8 : wr3.cell? ⟨w.heap.size, 3, none⟩ = some (.int .i64 rng) := Hbr3.out.cell 3
  have qb4_8 : wr3.cell? ⟨w.heap.size, 4, none⟩ = some (.int .i64 last) := Hbr3.out.cell 4
  have lb_8 : w.heap.size < wr3.heap.size := Hbr3.out.lt
  have hcz9 := HRR.out wr3
  go_wp2_with fail
  refine hcz9.mono ?_
  rintro e wz9 ⟨rfl, kz9⟩
  clear hcz9 qn0_8 qn1_8 qn2_8 qn3_8 qn4_8 ln_8 qz0_8 qz1_8 qz2_8 qz3_8 qz4_8 lz_8 qb0_8 qb1_8 qb2_8 qb3_8 qb4_8 lb_8
  have HBz9 := Lib.hid (HBr3.out.trans (kz9.mono (Nat.le_trans hbase HBr3.out.size)))
  have Hbz9 := Lib.hid (Hbr3.out.call kz9)
  have Hnz9 := Lib.hid (Hnr3.out.call kz9)
  have Haz9 := Lib.hid (Har3.out.call kz9)
  have Hzz9 := Lib.hid (Hzr3.out.call kz9)
  clear kz9
  have qb0_9 : wz9.cell? ⟨w.heap.size, 0, none⟩ = some (.int .i64 size) := Hbz9.out.cell 0
  have qb1_9 : wz9.cell? ⟨w.heap.size, 1, none⟩ = some (.int .i64 m) := Hbz9.out.cell 1
  have qb2_9 : wz9.cell? ⟨w.heap.size, 2, none⟩ = some (.int .i64 sum) := Hbz9.out.cell 2
  have qb3_9 : wz9.cell? ⟨w.heap.size, 3, none⟩ = some (.int .i64 rng) := Hbz9.out.cell 3
  have qb4_9 : wz9.cell? ⟨w.heap.size, 4, none⟩ = some (.int .i64 last) := Hbz9.out.cell 4
  have lb_9 : w.heap.size < wz9.heap.size := Hbz9.out.lt
  have hcz10 := HROW.out wz9 (HR.out.below HBz9.out)
  go_wp2_with fail
  refine hcz10.mono ?_
  rintro e wz10 ⟨rfl, kz10⟩
  clear hcz10 qb0_9 qb1_9 qb2_9 qb3_9 qb4_9 lb_9
  have HBz10 := Lib.hid (HBz9.out.trans (kz10.mono (Nat.le_trans hbase HBz9.out.size)))
  have Hbz10 := Lib.hid (Hbz9.out.call kz10)
  have Hnz10 := Lib.hid (Hnz9.out.call kz10)
  have Haz10 := Lib.hid (Haz9.out.call kz10)
  have Hzz10 := Lib.hid (Hzz9.out.call kz10)
  clear kz10
  have qb0_10 : wz10.cell? ⟨w.heap.size, 0, none⟩ = some (.int .i64 size) := Hbz10.out.cell 0
  have qb1_10 : wz10.cell? ⟨w.heap.size, 1, none⟩ = some (.int .i64 m) := Hbz10.out.cell 1
  have qb2_10 : wz10.cell? ⟨w.heap.size, 2, none⟩ = some (.int .i64 sum) := Hbz10.out.cell 2
  have qb3_10 : wz10.cell? ⟨w.heap.size, 3, none⟩ = some (.int .i64 rng) := Hbz10.out.cell 3
  have qb4_10 : wz10.cell? ⟨w.heap.size, 4, none⟩ = some (.int .i64 last) := Hbz10.out.cell 4
  have lb_10 : w.heap.size < wz10.heap.size := Hbz10.out.lt
  have qa0_10 : wz10.cell? ⟨wz3.heap.size, 0, none⟩ = some (.int .i64 ta) := Haz10.out.cell 0
  have qa1_10 : wz10.cell? ⟨wz3.heap.size, 1, none⟩ = some (.int .i64 tb) := Haz10.out.cell 1
  have qa2_10 : wz10.cell? ⟨wz3.heap.size, 2, none⟩ = some (.int .i64 tc) := Haz10.out.cell 2
  have qa3_10 : wz10.cell? ⟨wz3.heap.size, 3, none⟩ = some (.int .i64 td) := Haz10.out.cell 3
  have qa4_10 : wz10.cell? ⟨wz3.heap.size, 4, none⟩ = some (.int .i64 te) := Haz10.out.cell 4
  have la_10 : wz3.heap.size < wz10.heap.size := Haz10.out.lt
  have qz0_10 : wz10.cell? ⟨wz4.heap.size, 0, none⟩ = some (.int .i64 0) := Hzz10.out.cell 0
  have qz1_10 : wz10.cell? ⟨wz4.heap.size, 1, none⟩ = some (.int .i64 0) := Hzz10.out.cell 1
  have qz2_10 : wz10.cell? ⟨wz4.heap.size, 2, none⟩ = some (.int .i64 0) := Hzz10.out.cell 2
  have qz3_10 : wz10.cell? ⟨wz4.heap.size, 3, none⟩ = some (.int .i64 0) := Hzz10.out.cell 3
  have qz4_10 : wz10.cell? ⟨wz4.heap.size, 4, none⟩ = some (.int .i64 0) := Hzz10.out.cell 4
  have lz_10 : wz4.heap.size < wz10.heap.size := Hzz10.out.lt
  go_upto_region 16 with fail
  clear qb0_10 qb1_10 qb2_10 qb3_10 qb4_10 lb_10 qa0_10 qa1_10 qa2_10 qa3_10 qa4_10 la_10 qz0_10 qz1_10 qz2_10 qz3_10 qz4_10 lz_10
  refine wp_region_held_drew (S := (fun W => W.cell? ⟨w.heap.size, 0, none⟩ = some (.int .i64 size) ∧ W.cell? ⟨w.heap.size, 1, none⟩ = some (.int .i64 m) ∧ W.cell? ⟨w.heap.size, 2, none⟩ = some (.int .i64 sum) ∧ W.cell? ⟨w.heap.size, 3, none⟩ = some (.int .i64 rng) ∧ W.cell? ⟨w.heap.size, 4, none⟩ = some (.int .i64 last) ∧ W.cell? ⟨wz3.heap.size, 0, none⟩ = some (.int .i64 ta) ∧ W.cell? ⟨wz3.heap.size, 1, none⟩ = some (.int .i64 tb) ∧ W.cell? ⟨wz3.heap.size, 2, none⟩ = some (.int .i64 tc) ∧ W.cell? ⟨wz3.heap.size, 3, none⟩ = some (.int .i64 td) ∧ W.cell? ⟨wz3.heap.size, 4, none⟩ = some (.int .i64 te))) (by kernel_rfl) ⟨Hbz10.out.cell 0, Hbz10.out.cell 1, Hbz10.out.cell 2, Hbz10.out.cell 3, Hbz10.out.cell 4, Haz10.out.cell 0, Haz10.out.cell 1, Haz10.out.cell 2, Haz10.out.cell 3, Haz10.out.cell 4⟩ (fun hHeld => ?_)
  refine regTake 0 (some 87) (v := ?_) rfl rfl (by kernel_rfl) (by kernel_rfl) (by kernel_rfl) (fun _ _ _ h => h) (by rfl) hHeld ?_ ?_
  rotate_left 1
  · (intro w hSw; (try dsimp only at hSw); go_simp; try with_reducible rfl)
  simp only [Act.put, List.setIfInBounds_toArray, List.set_cons_zero, List.set_cons_succ]
  refine regTake 1 (some 88) (v := ?_) rfl rfl (by kernel_rfl) (by kernel_rfl) (by kernel_rfl) (fun _ _ _ h => h) (by rfl) hHeld ?_ ?_
  rotate_left 1
  · (intro w hSw; (try dsimp only at hSw); go_simp; try with_reducible rfl)
  simp only [Act.put, List.setIfInBounds_toArray, List.set_cons_zero, List.set_cons_succ]
  refine regTake 2 (some 89) (v := ?_) rfl rfl (by kernel_rfl) (by kernel_rfl) (by kernel_rfl) (fun _ _ _ h => h) (by rfl) hHeld ?_ ?_
  rotate_left 1
  · (intro w hSw; (try dsimp only at hSw); go_simp; try with_reducible rfl)
  simp only [Act.put, List.setIfInBounds_toArray, List.set_cons_zero, List.set_cons_succ]
  refine regTake 3 (some 90) (v := ?_) rfl rfl (by kernel_rfl) (by kernel_rfl) (by kernel_rfl) (fun _ _ _ h => h) (by rfl) hHeld ?_ ?_
  rotate_left 1
  · (intro w hSw; (try dsimp only at hSw); go_simp; try with_reducible rfl)
  simp only [Act.put, List.setIfInBounds_toArray, List.set_cons_zero, List.set_cons_succ]
  refine regTake 4 (some 91) (v := ?_) rfl rfl (by kernel_rfl) (by kernel_rfl) (by kernel_rfl) (fun _ _ _ h => h) (by rfl) hHeld ?_ ?_
  rotate_left 1
  · (intro w hSw; (try dsimp only at hSw); go_simp; try with_reducible rfl)
  simp only [Act.put, List.setIfInBounds_toArray, List.set_cons_zero, List.set_cons_succ]
  refine regTake 5 (some 92) (v := ?_) rfl rfl (by kernel_rfl) (by kernel_rfl) (by kernel_rfl) (fun _ _ _ h => h) (by rfl) hHeld ?_ ?_
  rotate_left 1
  · (intro w hSw; (try dsimp only at hSw); go_simp; try with_reducible rfl)
  simp only [Act.put, List.setIfInBounds_toArray, List.set_cons_zero, List.set_cons_succ]
  refine regCall 6 (some 93) (f := 14) (args := ?_) rfl rfl (by kernel_rfl) (by rfl) ?_ ?_
  rotate_left 1
  · (go_simp; try with_reducible rfl)
  refine (HRT.out _ (HR.out.below HBz10.out.drew)).mono ?_
  rintro e wx6 ⟨rfl, k6⟩
  refine ⟨_, rfl, ⟨(Hbz10.out.step k6 rfl).cell 0, (Hbz10.out.step k6 rfl).cell 1, (Hbz10.out.step k6 rfl).cell 2, (Hbz10.out.step k6 rfl).cell 3, (Hbz10.out.step k6 rfl).cell 4, (Haz10.out.step k6 rfl).cell 0, (Haz10.out.step k6 rfl).cell 1, (Haz10.out.step k6 rfl).cell 2, (Haz10.out.step k6 rfl).cell 3, (Haz10.out.step k6 rfl).cell 4⟩, fun hHeld => ?_⟩
  simp only [Act.put, List.setIfInBounds_toArray, List.set_cons_zero, List.set_cons_succ]
  have HBs := Lib.hid (HBz10.out.drew.trans (k6.mono HBz10.out.drew.size))
  clear k6
  refine regTake 7 (some 94) (v := ?_) rfl rfl (by kernel_rfl) (by kernel_rfl) (by kernel_rfl) (fun _ _ _ h => h) (by rfl) hHeld ?_ ?_
  rotate_left 1
  · (intro w hSw; (try dsimp only at hSw); go_simp; try with_reducible rfl)
  simp only [Act.put, List.setIfInBounds_toArray, List.set_cons_zero, List.set_cons_succ]
  refine regTake 8 (some 95) (v := ?_) rfl rfl (by kernel_rfl) (by kernel_rfl) (by kernel_rfl) (fun _ _ _ h => h) (by rfl) hHeld ?_ ?_
  rotate_left 1
  · (intro w hSw; (try dsimp only at hSw); go_simp; try with_reducible rfl)
  simp only [Act.put, List.setIfInBounds_toArray, List.set_cons_zero, List.set_cons_succ]
  refine regTake 9 (some 6) (v := ?_) rfl rfl (by kernel_rfl) (by kernel_rfl) (by kernel_rfl) (fun _ _ _ h => h) (by rfl) hHeld ?_ ?_
  rotate_left 1
  · (intro w hSw; (try dsimp only at hSw); go_simp; try with_reducible rfl)
  simp only [Act.put, List.setIfInBounds_toArray, List.set_cons_zero, List.set_cons_succ]
  refine wpAnyH_done (by kernel_rfl) ?_ _
  clear hHeld
  go_wp2_with fail
  go_ret
  exact ⟨rfl, HBs.out⟩
set_option linter.unusedSimpArgs false in
set_option linter.unusedVariables false in
set_option maxHeartbeats 8000000 in
set_option maxRecDepth 100000 in
theorem takes15_0bad (n size m sum rng last ta tb tc td te : Int) (l : List Int) (ao : Option Addr) (k cap n0 : Nat) (w : World) (hk : k = min n0 12) (hcap : n0 ≤ cap) (hr : ReadsI w (.slice ao k cap) l) (s12 : n < 1 ∨ 10 < n)
    (HNEW : Hid (∀ W, Calls Try.prog 8 #[.int .i64 n] W fun e w' => e = .returned (.tuple #[.agg #[.int .i64 0, .int .i64 0, .int .i64 0, .int .i64 0, .int .i64 0], .int .i64 1]) ∧ Below W.heap.size W w'))
    (HTAKE : Hid (∀ W, ReadsI W (.slice ao k cap) l → Calls Try.prog 9 #[.agg #[.int .i64 size, .int .i64 m, .int .i64 sum, .int .i64 rng, .int .i64 last], .slice ao k cap] W fun e w' => e = .returned (.tuple #[.agg #[.int .i64 0, .int .i64 0, .int .i64 0, .int .i64 0, .int .i64 0], .int .i64 1]) ∧ Below W.heap.size W w'))
    (HRI : Hid (∀ W, Calls Try.prog 10 #[.agg #[.int .i64 size, .int .i64 m, .int .i64 sum, .int .i64 rng, .int .i64 last]] W fun e w' => e = .returned (.bool false) ∧ Below W.heap.size W w'))
    (HRR : Hid (∀ W, Calls Try.prog 11 #[.agg #[.int .i64 size, .int .i64 m, .int .i64 sum, .int .i64 rng, .int .i64 last]] W fun e w' => e = .returned (.bool false) ∧ Below W.heap.size W w'))
    (HAL : Hid (∀ W, Calls Try.prog 12 #[] W fun e w' => e = .returned (.bool true) ∧ Below W.heap.size W w'))
    :
    Calls Try.prog 3 #[.int .i64 n, .agg #[.int .i64 size, .int .i64 m, .int .i64 sum, .int .i64 rng, .int .i64 last], .slice ao n0 cap] w fun e w' => e = .returned (.bool true) ∧ Below w.heap.size w w' := by
  have hsl : ∀ W, (Instr.slice 24 (.slice ao n0 cap) none (some (.int .i64 (min (n0 : Int) 12))) none).run Try.prog W = .ok (.slice ao k cap) W := fun W => by
    have := slice_hi ao n0 cap k (by omega) W
    rw [show (k : Int) = min (n0 : Int) 12 by omega] at this
    exact this
  obtain ⟨w1, hw1⟩ : ∃ w1, w.alloc (.cells #[.int .i64 size, .int .i64 m, .int .i64 sum, .int .i64 rng, .int .i64 last] 23) = w1 := ⟨_, rfl⟩
  have HX1 := Lib.hid (show Has w1 w.heap.size [.int .i64 size, .int .i64 m, .int .i64 sum, .int .i64 rng, .int .i64 last] 23 by rw [← hw1]; exact Has.new w _ _)
  have HB1 := Lib.hid (show Below w.heap.size w w1 by rw [← hw1]; exact (Below.refl _ _).alloc (Nat.le_refl _) _)
  have HW1 := Lib.hid hw1
  have HR := Lib.hid hr
  have hbase := Nat.le_refl w.heap.size
  clear hw1 hk hr
  rcases s12 with s1 | s2
  · go_enter Try.func3, Try.ntmps3
    go_upto_region 1 with fail
    rw [HW1.out]
    go_upto_region 2 with fail
    clear hsl
    have qb0_0 : w1.cell? ⟨w.heap.size, 0, none⟩ = some (.int .i64 size) := HX1.out.cell 0
    have qb1_0 : w1.cell? ⟨w.heap.size, 1, none⟩ = some (.int .i64 m) := HX1.out.cell 1
    have qb2_0 : w1.cell? ⟨w.heap.size, 2, none⟩ = some (.int .i64 sum) := HX1.out.cell 2
    have qb3_0 : w1.cell? ⟨w.heap.size, 3, none⟩ = some (.int .i64 rng) := HX1.out.cell 3
    have qb4_0 : w1.cell? ⟨w.heap.size, 4, none⟩ = some (.int .i64 last) := HX1.out.cell 4
    have lb_0 : w.heap.size < w1.heap.size := HX1.out.lt
    have hcz1 := HNEW.out w1
    go_wp2_with fail
    refine hcz1.mono ?_
    rintro e wz1 ⟨rfl, kz1⟩
    clear hcz1 qb0_0 qb1_0 qb2_0 qb3_0 qb4_0 lb_0
    have HBz1 := Lib.hid (HB1.out.trans (kz1.mono (Nat.le_trans hbase HB1.out.size)))
    have Hbz1 := Lib.hid (HX1.out.call kz1)
    clear kz1
    obtain ⟨wz2, hwz2⟩ : ∃ wz2, wz1.alloc (.cells #[.int .i64 0, .int .i64 0, .int .i64 0, .int .i64 0, .int .i64 0] 23) = wz2 := ⟨_, rfl⟩
    have kz2 : Below wz1.heap.size wz1 wz2 := by rw [← hwz2]; exact (Below.refl _ _).alloc (Nat.le_refl _) _
    have Hnz2 := Lib.hid (show Has wz2 wz1.heap.size [.int .i64 0, .int .i64 0, .int .i64 0, .int .i64 0, .int .i64 0] 23 by rw [← hwz2]; exact Has.new _ _ _)
    have HWz2 := Lib.hid hwz2
    clear hwz2
    have HBz2 := Lib.hid (HBz1.out.trans (kz2.mono (Nat.le_trans hbase HBz1.out.size)))
    have Hbz2 := Lib.hid (Hbz1.out.call kz2)
    clear kz2
    have qb0_2 : wz1.cell? ⟨w.heap.size, 0, none⟩ = some (.int .i64 size) := Hbz1.out.cell 0
    have qb1_2 : wz1.cell? ⟨w.heap.size, 1, none⟩ = some (.int .i64 m) := Hbz1.out.cell 1
    have qb2_2 : wz1.cell? ⟨w.heap.size, 2, none⟩ = some (.int .i64 sum) := Hbz1.out.cell 2
    have qb3_2 : wz1.cell? ⟨w.heap.size, 3, none⟩ = some (.int .i64 rng) := Hbz1.out.cell 3
    have qb4_2 : wz1.cell? ⟨w.heap.size, 4, none⟩ = some (.int .i64 last) := Hbz1.out.cell 4
    have lb_2 : w.heap.size < wz1.heap.size := Hbz1.out.lt
    have hcz3 := HTAKE.out wz2 (HR.out.below HBz2.out)
    go_wp2_with fail
    rw [HWz2.out]
    refine hcz3.mono ?_
    rintro e wz3 ⟨rfl, kz3⟩
    clear hcz3 qb0_2 qb1_2 qb2_2 qb3_2 qb4_2 lb_2
    have HBz3 := Lib.hid (HBz2.out.trans (kz3.mono (Nat.le_trans hbase HBz2.out.size)))
    have Hbz3 := Lib.hid (Hbz2.out.call kz3)
    have Hnz3 := Lib.hid (Hnz2.out.call kz3)
    clear kz3
    obtain ⟨wz4, hwz4⟩ : ∃ wz4, wz3.alloc (.cells #[.int .i64 0, .int .i64 0, .int .i64 0, .int .i64 0, .int .i64 0] 23) = wz4 := ⟨_, rfl⟩
    have kz4 : Below wz3.heap.size wz3 wz4 := by rw [← hwz4]; exact (Below.refl _ _).alloc (Nat.le_refl _) _
    have Haz4 := Lib.hid (show Has wz4 wz3.heap.size [.int .i64 0, .int .i64 0, .int .i64 0, .int .i64 0, .int .i64 0] 23 by rw [← hwz4]; exact Has.new _ _ _)
    have HWz4 := Lib.hid hwz4
    clear hwz4
    have HBz4 := Lib.hid (HBz3.out.trans (kz4.mono (Nat.le_trans hbase HBz3.out.size)))
    have Hbz4 := Lib.hid (Hbz3.out.call kz4)
    have Hnz4 := Lib.hid (Hnz3.out.call kz4)
    clear kz4
    go_upto_region 4 with fail
    rw [HWz4.out]
    obtain ⟨wz5, hwz5⟩ : ∃ wz5, wz4.alloc (.cells #[.int .i64 0, .int .i64 0, .int .i64 0, .int .i64 0, .int .i64 0] 23) = wz5 := ⟨_, rfl⟩
    have kz5 : Below wz4.heap.size wz4 wz5 := by rw [← hwz5]; exact (Below.refl _ _).alloc (Nat.le_refl _) _
    have Hzz5 := Lib.hid (show Has wz5 wz4.heap.size [.int .i64 0, .int .i64 0, .int .i64 0, .int .i64 0, .int .i64 0] 23 by rw [← hwz5]; exact Has.new _ _ _)
    have HWz5 := Lib.hid hwz5
    clear hwz5
    have HBz5 := Lib.hid (HBz4.out.trans (kz5.mono (Nat.le_trans hbase HBz4.out.size)))
    have Hbz5 := Lib.hid (Hbz4.out.call kz5)
    have Hnz5 := Lib.hid (Hnz4.out.call kz5)
    have Haz5 := Lib.hid (Haz4.out.call kz5)
    clear kz5
    go_upto_region 5 with fail
    rw [HWz5.out]
    have qb0_5 : wz5.cell? ⟨w.heap.size, 0, none⟩ = some (.int .i64 size) := Hbz5.out.cell 0
    have qb1_5 : wz5.cell? ⟨w.heap.size, 1, none⟩ = some (.int .i64 m) := Hbz5.out.cell 1
    have qb2_5 : wz5.cell? ⟨w.heap.size, 2, none⟩ = some (.int .i64 sum) := Hbz5.out.cell 2
    have qb3_5 : wz5.cell? ⟨w.heap.size, 3, none⟩ = some (.int .i64 rng) := Hbz5.out.cell 3
    have qb4_5 : wz5.cell? ⟨w.heap.size, 4, none⟩ = some (.int .i64 last) := Hbz5.out.cell 4
    have lb_5 : w.heap.size < wz5.heap.size := Hbz5.out.lt
    go_region_held3 (fun W => W.cell? ⟨w.heap.size, 0, none⟩ = some (.int .i64 size) ∧ W.cell? ⟨w.heap.size, 1, none⟩ = some (.int .i64 m) ∧ W.cell? ⟨w.heap.size, 2, none⟩ = some (.int .i64 sum) ∧ W.cell? ⟨w.heap.size, 3, none⟩ = some (.int .i64 rng) ∧ W.cell? ⟨w.heap.size, 4, none⟩ = some (.int .i64 last)) (first | exact ⟨y30, y31, y32, y33, y34⟩ | exact ⟨y20, y21, y22, y23, y24⟩ | exact ⟨y10, y11, y12, y13, y14⟩ | exact ⟨qb0_5, qb1_5, qb2_5, qb3_5, qb4_5⟩ | simp [go_sem, *]) (first | (go_at_call 10; refine (HRI.out _).mono ?_; rintro e wr1 ⟨rfl, kr1⟩; (have HBr1 := Lib.hid (show Below w.heap.size w wr1 by first | exact HBz5.out.trans (kr1.mono HBz5.out.size) | exact (Below.drew HBz5.out).trans (kr1.mono HBz5.out.size) | exact (Below.drew (Below.drew HBz5.out)).trans (kr1.mono HBz5.out.size) | exact (Below.drew (Below.drew (Below.drew HBz5.out))).trans (kr1.mono HBz5.out.size))); (have Hbr1 := Lib.hid (show Has wr1 w.heap.size [.int .i64 size, .int .i64 m, .int .i64 sum, .int .i64 rng, .int .i64 last] 23 from Hbz5.out.of (kr1.block _ (by exact Hbz5.out.lt)))); (have y10 : wr1.cell? ⟨w.heap.size, 0, none⟩ = some (.int .i64 size) := Hbr1.out.cell 0); (have y11 : wr1.cell? ⟨w.heap.size, 1, none⟩ = some (.int .i64 m) := Hbr1.out.cell 1); (have y12 : wr1.cell? ⟨w.heap.size, 2, none⟩ = some (.int .i64 sum) := Hbr1.out.cell 2); (have y13 : wr1.cell? ⟨w.heap.size, 3, none⟩ = some (.int .i64 rng) := Hbr1.out.cell 3); (have y14 : wr1.cell? ⟨w.heap.size, 4, none⟩ = some (.int .i64 last) := Hbr1.out.cell 4)) | (go_at_call 11; refine (HRR.out _).mono ?_; rintro e wr2 ⟨rfl, kr2⟩; (have HBr2 := Lib.hid (show Below w.heap.size w wr2 by first | exact HBr1.out.trans (kr2.mono HBr1.out.size) | exact (Below.drew HBr1.out).trans (kr2.mono HBr1.out.size) | exact (Below.drew (Below.drew HBr1.out)).trans (kr2.mono HBr1.out.size) | exact (Below.drew (Below.drew (Below.drew HBr1.out))).trans (kr2.mono HBr1.out.size))); (have Hbr2 := Lib.hid (show Has wr2 w.heap.size [.int .i64 size, .int .i64 m, .int .i64 sum, .int .i64 rng, .int .i64 last] 23 from Hbr1.out.of (kr2.block _ (by exact Hbr1.out.lt)))); (have y20 : wr2.cell? ⟨w.heap.size, 0, none⟩ = some (.int .i64 size) := Hbr2.out.cell 0); (have y21 : wr2.cell? ⟨w.heap.size, 1, none⟩ = some (.int .i64 m) := Hbr2.out.cell 1); (have y22 : wr2.cell? ⟨w.heap.size, 2, none⟩ = some (.int .i64 sum) := Hbr2.out.cell 2); (have y23 : wr2.cell? ⟨w.heap.size, 3, none⟩ = some (.int .i64 rng) := Hbr2.out.cell 3); (have y24 : wr2.cell? ⟨w.heap.size, 4, none⟩ = some (.int .i64 last) := Hbr2.out.cell 4)) | (go_at_call 12; refine (HAL.out _).mono ?_; rintro e wr3 ⟨rfl, kr3⟩; (have HBr3 := Lib.hid (show Below w.heap.size w wr3 by first | exact HBr2.out.trans (kr3.mono HBr2.out.size) | exact (Below.drew HBr2.out).trans (kr3.mono HBr2.out.size) | exact (Below.drew (Below.drew HBr2.out)).trans (kr3.mono HBr2.out.size) | exact (Below.drew (Below.drew (Below.drew HBr2.out))).trans (kr3.mono HBr2.out.size))); (have Hbr3 := Lib.hid (show Has wr3 w.heap.size [.int .i64 size, .int .i64 m, .int .i64 sum, .int .i64 rng, .int .i64 last] 23 from Hbr2.out.of (kr3.block _ (by exact Hbr2.out.lt)))); (have y30 : wr3.cell? ⟨w.heap.size, 0, none⟩ = some (.int .i64 size) := Hbr3.out.cell 0); (have y31 : wr3.cell? ⟨w.heap.size, 1, none⟩ = some (.int .i64 m) := Hbr3.out.cell 1); (have y32 : wr3.cell? ⟨w.heap.size, 2, none⟩ = some (.int .i64 sum) := Hbr3.out.cell 2); (have y33 : wr3.cell? ⟨w.heap.size, 3, none⟩ = some (.int .i64 rng) := Hbr3.out.cell 3); (have y34 : wr3.cell? ⟨w.heap.size, 4, none⟩ = some (.int .i64 last) := Hbr3.out.cell 4)))
    have Hnr1 := Lib.hid (Hnz5.out.step kr1 rfl)
    have Har1 := Lib.hid (Haz5.out.step kr1 rfl)
    have Hzr1 := Lib.hid (Hzz5.out.step kr1 rfl)
    have Hnr2 := Lib.hid (Hnr1.out.step kr2 rfl)
    have Har2 := Lib.hid (Har1.out.step kr2 rfl)
    have Hzr2 := Lib.hid (Hzr1.out.step kr2 rfl)
    have Hnr3 := Lib.hid (Hnr2.out.step kr3 rfl)
    have Har3 := Lib.hid (Har2.out.step kr3 rfl)
    have Hzr3 := Lib.hid (Hzr2.out.step kr3 rfl)
    clear kr1 kr2 kr3 y10 y11 y12 y13 y14 y20 y21 y22 y23 y24 y30 y31 y32 y33 y34 qb0_5 qb1_5 qb2_5 qb3_5 qb4_5 lb_5
    have hqb := eqBas
    have qn0_8 : wr3.cell? ⟨wz1.heap.size, 0, none⟩ = some (.int .i64 0) := Hnr3.out.cell 0
    have qn1_8 : wr3.cell? ⟨wz1.heap.size, 1, none⟩ = some (.int .i64 0) := Hnr3.out.cell 1
    have qn2_8 : wr3.cell? ⟨wz1.heap.size, 2, none⟩ = some (.int .i64 0) := Hnr3.out.cell 2
    have qn3_8 : wr3.cell? ⟨wz1.heap.size, 3, none⟩ = some (.int .i64 0) := Hnr3.out.cell 3
    have qn4_8 : wr3.cell? ⟨wz1.heap.size, 4, none⟩ = some (.int .i64 0) := Hnr3.out.cell 4
    have ln_8 : wz1.heap.size < wr3.heap.size := Hnr3.out.lt
    have qz0_8 : wr3.cell? ⟨wz4.heap.size, 0, none⟩ = some (.int .i64 0) := Hzr3.out.cell 0
    have qz1_8 : wr3.cell? ⟨wz4.heap.size, 1, none⟩ = some (.int .i64 0) := Hzr3.out.cell 1
    have qz2_8 : wr3.cell? ⟨wz4.heap.size, 2, none⟩ = some (.int .i64 0) := Hzr3.out.cell 2
    have qz3_8 : wr3.cell? ⟨wz4.heap.size, 3, none⟩ = some (.int .i64 0) := Hzr3.out.cell 3
    have qz4_8 : wr3.cell? ⟨wz4.heap.size, 4, none⟩ = some (.int .i64 0) := Hzr3.out.cell 4
    have lz_8 : wz4.heap.size < wr3.heap.size := Hzr3.out.lt
    have qb0_8 : wr3.cell? ⟨w.heap.size, 0, none⟩ = some (.int .i64 size) := Hbr3.out.cell 0
    have qb1_8 : wr3.cell? ⟨w.heap.size, 1, none⟩ = some (.int .i64 m) := Hbr3.out.cell 1
    have qb2_8 : wr3.cell? ⟨w.heap.size, 2, none⟩ = some (.int .i64 sum) := Hbr3.out.cell 2
    have qb3_8 : wr3.cell? ⟨w.heap.size, 3, none⟩ = some (.int .i64 rng) := Hbr3.out.cell 3
    have qb4_8 : wr3.cell? ⟨w.heap.size, 4, none⟩ = some (.int .i64 last) := Hbr3.out.cell 4
    have lb_8 : w.heap.size < wr3.heap.size := Hbr3.out.lt
    have hcz9 := HRR.out wr3
    go_wp2_with fail
    refine hcz9.mono ?_
    rintro e wz9 ⟨rfl, kz9⟩
    clear hcz9 qn0_8 qn1_8 qn2_8 qn3_8 qn4_8 ln_8 qz0_8 qz1_8 qz2_8 qz3_8 qz4_8 lz_8 qb0_8 qb1_8 qb2_8 qb3_8 qb4_8 lb_8
    have HBz9 := Lib.hid (HBr3.out.trans (kz9.mono (Nat.le_trans hbase HBr3.out.size)))
    have Hbz9 := Lib.hid (Hbr3.out.call kz9)
    have Hnz9 := Lib.hid (Hnr3.out.call kz9)
    have Haz9 := Lib.hid (Har3.out.call kz9)
    have Hzz9 := Lib.hid (Hzr3.out.call kz9)
    clear kz9
    have qb0_9 : wz9.cell? ⟨w.heap.size, 0, none⟩ = some (.int .i64 size) := Hbz9.out.cell 0
    have qb1_9 : wz9.cell? ⟨w.heap.size, 1, none⟩ = some (.int .i64 m) := Hbz9.out.cell 1
    have qb2_9 : wz9.cell? ⟨w.heap.size, 2, none⟩ = some (.int .i64 sum) := Hbz9.out.cell 2
    have qb3_9 : wz9.cell? ⟨w.heap.size, 3, none⟩ = some (.int .i64 rng) := Hbz9.out.cell 3
    have qb4_9 : wz9.cell? ⟨w.heap.size, 4, none⟩ = some (.int .i64 last) := Hbz9.out.cell 4
    have lb_9 : w.heap.size < wz9.heap.size := Hbz9.out.lt
    have qa0_9 : wz9.cell? ⟨wz3.heap.size, 0, none⟩ = some (.int .i64 0) := Haz9.out.cell 0
    have qa1_9 : wz9.cell? ⟨wz3.heap.size, 1, none⟩ = some (.int .i64 0) := Haz9.out.cell 1
    have qa2_9 : wz9.cell? ⟨wz3.heap.size, 2, none⟩ = some (.int .i64 0) := Haz9.out.cell 2
    have qa3_9 : wz9.cell? ⟨wz3.heap.size, 3, none⟩ = some (.int .i64 0) := Haz9.out.cell 3
    have qa4_9 : wz9.cell? ⟨wz3.heap.size, 4, none⟩ = some (.int .i64 0) := Haz9.out.cell 4
    have la_9 : wz3.heap.size < wz9.heap.size := Haz9.out.lt
    have qz0_9 : wz9.cell? ⟨wz4.heap.size, 0, none⟩ = some (.int .i64 0) := Hzz9.out.cell 0
    have qz1_9 : wz9.cell? ⟨wz4.heap.size, 1, none⟩ = some (.int .i64 0) := Hzz9.out.cell 1
    have qz2_9 : wz9.cell? ⟨wz4.heap.size, 2, none⟩ = some (.int .i64 0) := Hzz9.out.cell 2
    have qz3_9 : wz9.cell? ⟨wz4.heap.size, 3, none⟩ = some (.int .i64 0) := Hzz9.out.cell 3
    have qz4_9 : wz9.cell? ⟨wz4.heap.size, 4, none⟩ = some (.int .i64 0) := Hzz9.out.cell 4
    have lz_9 : wz4.heap.size < wz9.heap.size := Hzz9.out.lt
    go_wp2
    go_ret
    exact ⟨rfl, HBz9.out⟩
  · have s1 : ¬ n < 1 := by omega
    go_enter Try.func3, Try.ntmps3
    go_upto_region 1 with fail
    rw [HW1.out]
    go_upto_region 2 with fail
    clear hsl
    have qb0_0 : w1.cell? ⟨w.heap.size, 0, none⟩ = some (.int .i64 size) := HX1.out.cell 0
    have qb1_0 : w1.cell? ⟨w.heap.size, 1, none⟩ = some (.int .i64 m) := HX1.out.cell 1
    have qb2_0 : w1.cell? ⟨w.heap.size, 2, none⟩ = some (.int .i64 sum) := HX1.out.cell 2
    have qb3_0 : w1.cell? ⟨w.heap.size, 3, none⟩ = some (.int .i64 rng) := HX1.out.cell 3
    have qb4_0 : w1.cell? ⟨w.heap.size, 4, none⟩ = some (.int .i64 last) := HX1.out.cell 4
    have lb_0 : w.heap.size < w1.heap.size := HX1.out.lt
    have hcz1 := HNEW.out w1
    go_wp2_with fail
    refine hcz1.mono ?_
    rintro e wz1 ⟨rfl, kz1⟩
    clear hcz1 qb0_0 qb1_0 qb2_0 qb3_0 qb4_0 lb_0
    have HBz1 := Lib.hid (HB1.out.trans (kz1.mono (Nat.le_trans hbase HB1.out.size)))
    have Hbz1 := Lib.hid (HX1.out.call kz1)
    clear kz1
    obtain ⟨wz2, hwz2⟩ : ∃ wz2, wz1.alloc (.cells #[.int .i64 0, .int .i64 0, .int .i64 0, .int .i64 0, .int .i64 0] 23) = wz2 := ⟨_, rfl⟩
    have kz2 : Below wz1.heap.size wz1 wz2 := by rw [← hwz2]; exact (Below.refl _ _).alloc (Nat.le_refl _) _
    have Hnz2 := Lib.hid (show Has wz2 wz1.heap.size [.int .i64 0, .int .i64 0, .int .i64 0, .int .i64 0, .int .i64 0] 23 by rw [← hwz2]; exact Has.new _ _ _)
    have HWz2 := Lib.hid hwz2
    clear hwz2
    have HBz2 := Lib.hid (HBz1.out.trans (kz2.mono (Nat.le_trans hbase HBz1.out.size)))
    have Hbz2 := Lib.hid (Hbz1.out.call kz2)
    clear kz2
    have qb0_2 : wz1.cell? ⟨w.heap.size, 0, none⟩ = some (.int .i64 size) := Hbz1.out.cell 0
    have qb1_2 : wz1.cell? ⟨w.heap.size, 1, none⟩ = some (.int .i64 m) := Hbz1.out.cell 1
    have qb2_2 : wz1.cell? ⟨w.heap.size, 2, none⟩ = some (.int .i64 sum) := Hbz1.out.cell 2
    have qb3_2 : wz1.cell? ⟨w.heap.size, 3, none⟩ = some (.int .i64 rng) := Hbz1.out.cell 3
    have qb4_2 : wz1.cell? ⟨w.heap.size, 4, none⟩ = some (.int .i64 last) := Hbz1.out.cell 4
    have lb_2 : w.heap.size < wz1.heap.size := Hbz1.out.lt
    have hcz3 := HTAKE.out wz2 (HR.out.below HBz2.out)
    go_wp2_with fail
    rw [HWz2.out]
    refine hcz3.mono ?_
    rintro e wz3 ⟨rfl, kz3⟩
    clear hcz3 qb0_2 qb1_2 qb2_2 qb3_2 qb4_2 lb_2
    have HBz3 := Lib.hid (HBz2.out.trans (kz3.mono (Nat.le_trans hbase HBz2.out.size)))
    have Hbz3 := Lib.hid (Hbz2.out.call kz3)
    have Hnz3 := Lib.hid (Hnz2.out.call kz3)
    clear kz3
    obtain ⟨wz4, hwz4⟩ : ∃ wz4, wz3.alloc (.cells #[.int .i64 0, .int .i64 0, .int .i64 0, .int .i64 0, .int .i64 0] 23) = wz4 := ⟨_, rfl⟩
    have kz4 : Below wz3.heap.size wz3 wz4 := by rw [← hwz4]; exact (Below.refl _ _).alloc (Nat.le_refl _) _
    have Haz4 := Lib.hid (show Has wz4 wz3.heap.size [.int .i64 0, .int .i64 0, .int .i64 0, .int .i64 0, .int .i64 0] 23 by rw [← hwz4]; exact Has.new _ _ _)
    have HWz4 := Lib.hid hwz4
    clear hwz4
    have HBz4 := Lib.hid (HBz3.out.trans (kz4.mono (Nat.le_trans hbase HBz3.out.size)))
    have Hbz4 := Lib.hid (Hbz3.out.call kz4)
    have Hnz4 := Lib.hid (Hnz3.out.call kz4)
    clear kz4
    go_upto_region 4 with fail
    rw [HWz4.out]
    obtain ⟨wz5, hwz5⟩ : ∃ wz5, wz4.alloc (.cells #[.int .i64 0, .int .i64 0, .int .i64 0, .int .i64 0, .int .i64 0] 23) = wz5 := ⟨_, rfl⟩
    have kz5 : Below wz4.heap.size wz4 wz5 := by rw [← hwz5]; exact (Below.refl _ _).alloc (Nat.le_refl _) _
    have Hzz5 := Lib.hid (show Has wz5 wz4.heap.size [.int .i64 0, .int .i64 0, .int .i64 0, .int .i64 0, .int .i64 0] 23 by rw [← hwz5]; exact Has.new _ _ _)
    have HWz5 := Lib.hid hwz5
    clear hwz5
    have HBz5 := Lib.hid (HBz4.out.trans (kz5.mono (Nat.le_trans hbase HBz4.out.size)))
    have Hbz5 := Lib.hid (Hbz4.out.call kz5)
    have Hnz5 := Lib.hid (Hnz4.out.call kz5)
    have Haz5 := Lib.hid (Haz4.out.call kz5)
    clear kz5
    go_upto_region 5 with fail
    rw [HWz5.out]
    have qb0_5 : wz5.cell? ⟨w.heap.size, 0, none⟩ = some (.int .i64 size) := Hbz5.out.cell 0
    have qb1_5 : wz5.cell? ⟨w.heap.size, 1, none⟩ = some (.int .i64 m) := Hbz5.out.cell 1
    have qb2_5 : wz5.cell? ⟨w.heap.size, 2, none⟩ = some (.int .i64 sum) := Hbz5.out.cell 2
    have qb3_5 : wz5.cell? ⟨w.heap.size, 3, none⟩ = some (.int .i64 rng) := Hbz5.out.cell 3
    have qb4_5 : wz5.cell? ⟨w.heap.size, 4, none⟩ = some (.int .i64 last) := Hbz5.out.cell 4
    have lb_5 : w.heap.size < wz5.heap.size := Hbz5.out.lt
    go_region_held3 (fun W => W.cell? ⟨w.heap.size, 0, none⟩ = some (.int .i64 size) ∧ W.cell? ⟨w.heap.size, 1, none⟩ = some (.int .i64 m) ∧ W.cell? ⟨w.heap.size, 2, none⟩ = some (.int .i64 sum) ∧ W.cell? ⟨w.heap.size, 3, none⟩ = some (.int .i64 rng) ∧ W.cell? ⟨w.heap.size, 4, none⟩ = some (.int .i64 last)) (first | exact ⟨y30, y31, y32, y33, y34⟩ | exact ⟨y20, y21, y22, y23, y24⟩ | exact ⟨y10, y11, y12, y13, y14⟩ | exact ⟨qb0_5, qb1_5, qb2_5, qb3_5, qb4_5⟩ | simp [go_sem, *]) (first | (go_at_call 10; refine (HRI.out _).mono ?_; rintro e wr1 ⟨rfl, kr1⟩; (have HBr1 := Lib.hid (show Below w.heap.size w wr1 by first | exact HBz5.out.trans (kr1.mono HBz5.out.size) | exact (Below.drew HBz5.out).trans (kr1.mono HBz5.out.size) | exact (Below.drew (Below.drew HBz5.out)).trans (kr1.mono HBz5.out.size) | exact (Below.drew (Below.drew (Below.drew HBz5.out))).trans (kr1.mono HBz5.out.size))); (have Hbr1 := Lib.hid (show Has wr1 w.heap.size [.int .i64 size, .int .i64 m, .int .i64 sum, .int .i64 rng, .int .i64 last] 23 from Hbz5.out.of (kr1.block _ (by exact Hbz5.out.lt)))); (have y10 : wr1.cell? ⟨w.heap.size, 0, none⟩ = some (.int .i64 size) := Hbr1.out.cell 0); (have y11 : wr1.cell? ⟨w.heap.size, 1, none⟩ = some (.int .i64 m) := Hbr1.out.cell 1); (have y12 : wr1.cell? ⟨w.heap.size, 2, none⟩ = some (.int .i64 sum) := Hbr1.out.cell 2); (have y13 : wr1.cell? ⟨w.heap.size, 3, none⟩ = some (.int .i64 rng) := Hbr1.out.cell 3); (have y14 : wr1.cell? ⟨w.heap.size, 4, none⟩ = some (.int .i64 last) := Hbr1.out.cell 4)) | (go_at_call 11; refine (HRR.out _).mono ?_; rintro e wr2 ⟨rfl, kr2⟩; (have HBr2 := Lib.hid (show Below w.heap.size w wr2 by first | exact HBr1.out.trans (kr2.mono HBr1.out.size) | exact (Below.drew HBr1.out).trans (kr2.mono HBr1.out.size) | exact (Below.drew (Below.drew HBr1.out)).trans (kr2.mono HBr1.out.size) | exact (Below.drew (Below.drew (Below.drew HBr1.out))).trans (kr2.mono HBr1.out.size))); (have Hbr2 := Lib.hid (show Has wr2 w.heap.size [.int .i64 size, .int .i64 m, .int .i64 sum, .int .i64 rng, .int .i64 last] 23 from Hbr1.out.of (kr2.block _ (by exact Hbr1.out.lt)))); (have y20 : wr2.cell? ⟨w.heap.size, 0, none⟩ = some (.int .i64 size) := Hbr2.out.cell 0); (have y21 : wr2.cell? ⟨w.heap.size, 1, none⟩ = some (.int .i64 m) := Hbr2.out.cell 1); (have y22 : wr2.cell? ⟨w.heap.size, 2, none⟩ = some (.int .i64 sum) := Hbr2.out.cell 2); (have y23 : wr2.cell? ⟨w.heap.size, 3, none⟩ = some (.int .i64 rng) := Hbr2.out.cell 3); (have y24 : wr2.cell? ⟨w.heap.size, 4, none⟩ = some (.int .i64 last) := Hbr2.out.cell 4)) | (go_at_call 12; refine (HAL.out _).mono ?_; rintro e wr3 ⟨rfl, kr3⟩; (have HBr3 := Lib.hid (show Below w.heap.size w wr3 by first | exact HBr2.out.trans (kr3.mono HBr2.out.size) | exact (Below.drew HBr2.out).trans (kr3.mono HBr2.out.size) | exact (Below.drew (Below.drew HBr2.out)).trans (kr3.mono HBr2.out.size) | exact (Below.drew (Below.drew (Below.drew HBr2.out))).trans (kr3.mono HBr2.out.size))); (have Hbr3 := Lib.hid (show Has wr3 w.heap.size [.int .i64 size, .int .i64 m, .int .i64 sum, .int .i64 rng, .int .i64 last] 23 from Hbr2.out.of (kr3.block _ (by exact Hbr2.out.lt)))); (have y30 : wr3.cell? ⟨w.heap.size, 0, none⟩ = some (.int .i64 size) := Hbr3.out.cell 0); (have y31 : wr3.cell? ⟨w.heap.size, 1, none⟩ = some (.int .i64 m) := Hbr3.out.cell 1); (have y32 : wr3.cell? ⟨w.heap.size, 2, none⟩ = some (.int .i64 sum) := Hbr3.out.cell 2); (have y33 : wr3.cell? ⟨w.heap.size, 3, none⟩ = some (.int .i64 rng) := Hbr3.out.cell 3); (have y34 : wr3.cell? ⟨w.heap.size, 4, none⟩ = some (.int .i64 last) := Hbr3.out.cell 4)))
    have Hnr1 := Lib.hid (Hnz5.out.step kr1 rfl)
    have Har1 := Lib.hid (Haz5.out.step kr1 rfl)
    have Hzr1 := Lib.hid (Hzz5.out.step kr1 rfl)
    have Hnr2 := Lib.hid (Hnr1.out.step kr2 rfl)
    have Har2 := Lib.hid (Har1.out.step kr2 rfl)
    have Hzr2 := Lib.hid (Hzr1.out.step kr2 rfl)
    have Hnr3 := Lib.hid (Hnr2.out.step kr3 rfl)
    have Har3 := Lib.hid (Har2.out.step kr3 rfl)
    have Hzr3 := Lib.hid (Hzr2.out.step kr3 rfl)
    clear kr1 kr2 kr3 y10 y11 y12 y13 y14 y20 y21 y22 y23 y24 y30 y31 y32 y33 y34 qb0_5 qb1_5 qb2_5 qb3_5 qb4_5 lb_5
    have hqb := eqBas
    have qn0_8 : wr3.cell? ⟨wz1.heap.size, 0, none⟩ = some (.int .i64 0) := Hnr3.out.cell 0
    have qn1_8 : wr3.cell? ⟨wz1.heap.size, 1, none⟩ = some (.int .i64 0) := Hnr3.out.cell 1
    have qn2_8 : wr3.cell? ⟨wz1.heap.size, 2, none⟩ = some (.int .i64 0) := Hnr3.out.cell 2
    have qn3_8 : wr3.cell? ⟨wz1.heap.size, 3, none⟩ = some (.int .i64 0) := Hnr3.out.cell 3
    have qn4_8 : wr3.cell? ⟨wz1.heap.size, 4, none⟩ = some (.int .i64 0) := Hnr3.out.cell 4
    have ln_8 : wz1.heap.size < wr3.heap.size := Hnr3.out.lt
    have qz0_8 : wr3.cell? ⟨wz4.heap.size, 0, none⟩ = some (.int .i64 0) := Hzr3.out.cell 0
    have qz1_8 : wr3.cell? ⟨wz4.heap.size, 1, none⟩ = some (.int .i64 0) := Hzr3.out.cell 1
    have qz2_8 : wr3.cell? ⟨wz4.heap.size, 2, none⟩ = some (.int .i64 0) := Hzr3.out.cell 2
    have qz3_8 : wr3.cell? ⟨wz4.heap.size, 3, none⟩ = some (.int .i64 0) := Hzr3.out.cell 3
    have qz4_8 : wr3.cell? ⟨wz4.heap.size, 4, none⟩ = some (.int .i64 0) := Hzr3.out.cell 4
    have lz_8 : wz4.heap.size < wr3.heap.size := Hzr3.out.lt
    have qb0_8 : wr3.cell? ⟨w.heap.size, 0, none⟩ = some (.int .i64 size) := Hbr3.out.cell 0
    have qb1_8 : wr3.cell? ⟨w.heap.size, 1, none⟩ = some (.int .i64 m) := Hbr3.out.cell 1
    have qb2_8 : wr3.cell? ⟨w.heap.size, 2, none⟩ = some (.int .i64 sum) := Hbr3.out.cell 2
    have qb3_8 : wr3.cell? ⟨w.heap.size, 3, none⟩ = some (.int .i64 rng) := Hbr3.out.cell 3
    have qb4_8 : wr3.cell? ⟨w.heap.size, 4, none⟩ = some (.int .i64 last) := Hbr3.out.cell 4
    have lb_8 : w.heap.size < wr3.heap.size := Hbr3.out.lt
    have hcz9 := HRR.out wr3
    go_wp2_with fail
    refine hcz9.mono ?_
    rintro e wz9 ⟨rfl, kz9⟩
    clear hcz9 qn0_8 qn1_8 qn2_8 qn3_8 qn4_8 ln_8 qz0_8 qz1_8 qz2_8 qz3_8 qz4_8 lz_8 qb0_8 qb1_8 qb2_8 qb3_8 qb4_8 lb_8
    have HBz9 := Lib.hid (HBr3.out.trans (kz9.mono (Nat.le_trans hbase HBr3.out.size)))
    have Hbz9 := Lib.hid (Hbr3.out.call kz9)
    have Hnz9 := Lib.hid (Hnr3.out.call kz9)
    have Haz9 := Lib.hid (Har3.out.call kz9)
    have Hzz9 := Lib.hid (Hzr3.out.call kz9)
    clear kz9
    have qb0_9 : wz9.cell? ⟨w.heap.size, 0, none⟩ = some (.int .i64 size) := Hbz9.out.cell 0
    have qb1_9 : wz9.cell? ⟨w.heap.size, 1, none⟩ = some (.int .i64 m) := Hbz9.out.cell 1
    have qb2_9 : wz9.cell? ⟨w.heap.size, 2, none⟩ = some (.int .i64 sum) := Hbz9.out.cell 2
    have qb3_9 : wz9.cell? ⟨w.heap.size, 3, none⟩ = some (.int .i64 rng) := Hbz9.out.cell 3
    have qb4_9 : wz9.cell? ⟨w.heap.size, 4, none⟩ = some (.int .i64 last) := Hbz9.out.cell 4
    have lb_9 : w.heap.size < wz9.heap.size := Hbz9.out.lt
    have qa0_9 : wz9.cell? ⟨wz3.heap.size, 0, none⟩ = some (.int .i64 0) := Haz9.out.cell 0
    have qa1_9 : wz9.cell? ⟨wz3.heap.size, 1, none⟩ = some (.int .i64 0) := Haz9.out.cell 1
    have qa2_9 : wz9.cell? ⟨wz3.heap.size, 2, none⟩ = some (.int .i64 0) := Haz9.out.cell 2
    have qa3_9 : wz9.cell? ⟨wz3.heap.size, 3, none⟩ = some (.int .i64 0) := Haz9.out.cell 3
    have qa4_9 : wz9.cell? ⟨wz3.heap.size, 4, none⟩ = some (.int .i64 0) := Haz9.out.cell 4
    have la_9 : wz3.heap.size < wz9.heap.size := Haz9.out.lt
    have qz0_9 : wz9.cell? ⟨wz4.heap.size, 0, none⟩ = some (.int .i64 0) := Hzz9.out.cell 0
    have qz1_9 : wz9.cell? ⟨wz4.heap.size, 1, none⟩ = some (.int .i64 0) := Hzz9.out.cell 1
    have qz2_9 : wz9.cell? ⟨wz4.heap.size, 2, none⟩ = some (.int .i64 0) := Hzz9.out.cell 2
    have qz3_9 : wz9.cell? ⟨wz4.heap.size, 3, none⟩ = some (.int .i64 0) := Hzz9.out.cell 3
    have qz4_9 : wz9.cell? ⟨wz4.heap.size, 4, none⟩ = some (.int .i64 0) := Hzz9.out.cell 4
    have lz_9 : wz4.heap.size < wz9.heap.size := Hzz9.out.lt
    go_wp2
    go_ret
    exact ⟨rfl, HBz9.out⟩
set_option linter.unusedSimpArgs false in
set_option linter.unusedVariables false in
set_option maxHeartbeats 8000000 in
set_option maxRecDepth 100000 in
theorem takes15_0norow (n size m sum rng last ta tb tc td te : Int) (l : List Int) (ao : Option Addr) (k cap n0 : Nat) (w : World) (hk : k = min n0 12) (hcap : n0 ≤ cap) (hr : ReadsI w (.slice ao k cap) l) (s12 : n < 1 ∨ 10 < n)
    (HNEW : Hid (∀ W, Calls Try.prog 8 #[.int .i64 n] W fun e w' => e = .returned (.tuple #[.agg #[.int .i64 0, .int .i64 0, .int .i64 0, .int .i64 0, .int .i64 0], .int .i64 1]) ∧ Below W.heap.size W w'))
    (HTAKE : Hid (∀ W, ReadsI W (.slice ao k cap) l → Calls Try.prog 9 #[.agg #[.int .i64 size, .int .i64 m, .int .i64 sum, .int .i64 rng, .int .i64 last], .slice ao k cap] W fun e w' => e = .returned (.tuple #[.agg #[.int .i64 0, .int .i64 0, .int .i64 0, .int .i64 0, .int .i64 0], .int .i64 1]) ∧ Below W.heap.size W w'))
    (HRI : Hid (∀ W, Calls Try.prog 10 #[.agg #[.int .i64 size, .int .i64 m, .int .i64 sum, .int .i64 rng, .int .i64 last]] W fun e w' => e = .returned (.bool true) ∧ Below W.heap.size W w'))
    (HRR : Hid (∀ W, Calls Try.prog 11 #[.agg #[.int .i64 size, .int .i64 m, .int .i64 sum, .int .i64 rng, .int .i64 last]] W fun e w' => e = .returned (.bool true) ∧ Below W.heap.size W w'))
    (HAL : Hid (∀ W, Calls Try.prog 12 #[] W fun e w' => e = .returned (.bool true) ∧ Below W.heap.size W w'))
    (HROW : Hid (∀ W, ReadsI W (.slice ao k cap) l → Calls Try.prog 13 #[.agg #[.int .i64 size, .int .i64 m, .int .i64 sum, .int .i64 rng, .int .i64 last], .slice ao k cap] W fun e w' => e = .returned (.bool false) ∧ Below W.heap.size W w'))
    :
    Calls Try.prog 3 #[.int .i64 n, .agg #[.int .i64 size, .int .i64 m, .int .i64 sum, .int .i64 rng, .int .i64 last], .slice ao n0 cap] w fun e w' => e = .returned (.bool true) ∧ Below w.heap.size w w' := by
  have hsl : ∀ W, (Instr.slice 24 (.slice ao n0 cap) none (some (.int .i64 (min (n0 : Int) 12))) none).run Try.prog W = .ok (.slice ao k cap) W := fun W => by
    have := slice_hi ao n0 cap k (by omega) W
    rw [show (k : Int) = min (n0 : Int) 12 by omega] at this
    exact this
  obtain ⟨w1, hw1⟩ : ∃ w1, w.alloc (.cells #[.int .i64 size, .int .i64 m, .int .i64 sum, .int .i64 rng, .int .i64 last] 23) = w1 := ⟨_, rfl⟩
  have HX1 := Lib.hid (show Has w1 w.heap.size [.int .i64 size, .int .i64 m, .int .i64 sum, .int .i64 rng, .int .i64 last] 23 by rw [← hw1]; exact Has.new w _ _)
  have HB1 := Lib.hid (show Below w.heap.size w w1 by rw [← hw1]; exact (Below.refl _ _).alloc (Nat.le_refl _) _)
  have HW1 := Lib.hid hw1
  have HR := Lib.hid hr
  have hbase := Nat.le_refl w.heap.size
  clear hw1 hk hr
  rcases s12 with s1 | s2
  · go_enter Try.func3, Try.ntmps3
    go_upto_region 1 with fail
    rw [HW1.out]
    go_upto_region 2 with fail
    clear hsl
    have qb0_0 : w1.cell? ⟨w.heap.size, 0, none⟩ = some (.int .i64 size) := HX1.out.cell 0
    have qb1_0 : w1.cell? ⟨w.heap.size, 1, none⟩ = some (.int .i64 m) := HX1.out.cell 1
    have qb2_0 : w1.cell? ⟨w.heap.size, 2, none⟩ = some (.int .i64 sum) := HX1.out.cell 2
    have qb3_0 : w1.cell? ⟨w.heap.size, 3, none⟩ = some (.int .i64 rng) := HX1.out.cell 3
    have qb4_0 : w1.cell? ⟨w.heap.size, 4, none⟩ = some (.int .i64 last) := HX1.out.cell 4
    have lb_0 : w.heap.size < w1.heap.size := HX1.out.lt
    have hcz1 := HNEW.out w1
    go_wp2_with fail
    refine hcz1.mono ?_
    rintro e wz1 ⟨rfl, kz1⟩
    clear hcz1 qb0_0 qb1_0 qb2_0 qb3_0 qb4_0 lb_0
    have HBz1 := Lib.hid (HB1.out.trans (kz1.mono (Nat.le_trans hbase HB1.out.size)))
    have Hbz1 := Lib.hid (HX1.out.call kz1)
    clear kz1
    obtain ⟨wz2, hwz2⟩ : ∃ wz2, wz1.alloc (.cells #[.int .i64 0, .int .i64 0, .int .i64 0, .int .i64 0, .int .i64 0] 23) = wz2 := ⟨_, rfl⟩
    have kz2 : Below wz1.heap.size wz1 wz2 := by rw [← hwz2]; exact (Below.refl _ _).alloc (Nat.le_refl _) _
    have Hnz2 := Lib.hid (show Has wz2 wz1.heap.size [.int .i64 0, .int .i64 0, .int .i64 0, .int .i64 0, .int .i64 0] 23 by rw [← hwz2]; exact Has.new _ _ _)
    have HWz2 := Lib.hid hwz2
    clear hwz2
    have HBz2 := Lib.hid (HBz1.out.trans (kz2.mono (Nat.le_trans hbase HBz1.out.size)))
    have Hbz2 := Lib.hid (Hbz1.out.call kz2)
    clear kz2
    have qb0_2 : wz1.cell? ⟨w.heap.size, 0, none⟩ = some (.int .i64 size) := Hbz1.out.cell 0
    have qb1_2 : wz1.cell? ⟨w.heap.size, 1, none⟩ = some (.int .i64 m) := Hbz1.out.cell 1
    have qb2_2 : wz1.cell? ⟨w.heap.size, 2, none⟩ = some (.int .i64 sum) := Hbz1.out.cell 2
    have qb3_2 : wz1.cell? ⟨w.heap.size, 3, none⟩ = some (.int .i64 rng) := Hbz1.out.cell 3
    have qb4_2 : wz1.cell? ⟨w.heap.size, 4, none⟩ = some (.int .i64 last) := Hbz1.out.cell 4
    have lb_2 : w.heap.size < wz1.heap.size := Hbz1.out.lt
    have hcz3 := HTAKE.out wz2 (HR.out.below HBz2.out)
    go_wp2_with fail
    rw [HWz2.out]
    refine hcz3.mono ?_
    rintro e wz3 ⟨rfl, kz3⟩
    clear hcz3 qb0_2 qb1_2 qb2_2 qb3_2 qb4_2 lb_2
    have HBz3 := Lib.hid (HBz2.out.trans (kz3.mono (Nat.le_trans hbase HBz2.out.size)))
    have Hbz3 := Lib.hid (Hbz2.out.call kz3)
    have Hnz3 := Lib.hid (Hnz2.out.call kz3)
    clear kz3
    obtain ⟨wz4, hwz4⟩ : ∃ wz4, wz3.alloc (.cells #[.int .i64 0, .int .i64 0, .int .i64 0, .int .i64 0, .int .i64 0] 23) = wz4 := ⟨_, rfl⟩
    have kz4 : Below wz3.heap.size wz3 wz4 := by rw [← hwz4]; exact (Below.refl _ _).alloc (Nat.le_refl _) _
    have Haz4 := Lib.hid (show Has wz4 wz3.heap.size [.int .i64 0, .int .i64 0, .int .i64 0, .int .i64 0, .int .i64 0] 23 by rw [← hwz4]; exact Has.new _ _ _)
    have HWz4 := Lib.hid hwz4
    clear hwz4
    have HBz4 := Lib.hid (HBz3.out.trans (kz4.mono (Nat.le_trans hbase HBz3.out.size)))
    have Hbz4 := Lib.hid (Hbz3.out.call kz4)
    have Hnz4 := Lib.hid (Hnz3.out.call kz4)
    clear kz4
    go_upto_region 4 with fail
    rw [HWz4.out]
    obtain ⟨wz5, hwz5⟩ : ∃ wz5, wz4.alloc (.cells #[.int .i64 0, .int .i64 0, .int .i64 0, .int .i64 0, .int .i64 0] 23) = wz5 := ⟨_, rfl⟩
    have kz5 : Below wz4.heap.size wz4 wz5 := by rw [← hwz5]; exact (Below.refl _ _).alloc (Nat.le_refl _) _
    have Hzz5 := Lib.hid (show Has wz5 wz4.heap.size [.int .i64 0, .int .i64 0, .int .i64 0, .int .i64 0, .int .i64 0] 23 by rw [← hwz5]; exact Has.new _ _ _)
    have HWz5 := Lib.hid hwz5
    clear hwz5
    have HBz5 := Lib.hid (HBz4.out.trans (kz5.mono (Nat.le_trans hbase HBz4.out.size)))
    have Hbz5 := Lib.hid (Hbz4.out.call kz5)
    have Hnz5 := Lib.hid (Hnz4.out.call kz5)
    have Haz5 := Lib.hid (Haz4.out.call kz5)
    clear kz5
    go_upto_region 5 with fail
    rw [HWz5.out]
    have qb0_5 : wz5.cell? ⟨w.heap.size, 0, none⟩ = some (.int .i64 size) := Hbz5.out.cell 0
    have qb1_5 : wz5.cell? ⟨w.heap.size, 1, none⟩ = some (.int .i64 m) := Hbz5.out.cell 1
    have qb2_5 : wz5.cell? ⟨w.heap.size, 2, none⟩ = some (.int .i64 sum) := Hbz5.out.cell 2
    have qb3_5 : wz5.cell? ⟨w.heap.size, 3, none⟩ = some (.int .i64 rng) := Hbz5.out.cell 3
    have qb4_5 : wz5.cell? ⟨w.heap.size, 4, none⟩ = some (.int .i64 last) := Hbz5.out.cell 4
    have lb_5 : w.heap.size < wz5.heap.size := Hbz5.out.lt
    go_region_held3 (fun W => W.cell? ⟨w.heap.size, 0, none⟩ = some (.int .i64 size) ∧ W.cell? ⟨w.heap.size, 1, none⟩ = some (.int .i64 m) ∧ W.cell? ⟨w.heap.size, 2, none⟩ = some (.int .i64 sum) ∧ W.cell? ⟨w.heap.size, 3, none⟩ = some (.int .i64 rng) ∧ W.cell? ⟨w.heap.size, 4, none⟩ = some (.int .i64 last)) (first | exact ⟨y30, y31, y32, y33, y34⟩ | exact ⟨y20, y21, y22, y23, y24⟩ | exact ⟨y10, y11, y12, y13, y14⟩ | exact ⟨qb0_5, qb1_5, qb2_5, qb3_5, qb4_5⟩ | simp [go_sem, *]) (first | (go_at_call 10; refine (HRI.out _).mono ?_; rintro e wr1 ⟨rfl, kr1⟩; (have HBr1 := Lib.hid (show Below w.heap.size w wr1 by first | exact HBz5.out.trans (kr1.mono HBz5.out.size) | exact (Below.drew HBz5.out).trans (kr1.mono HBz5.out.size) | exact (Below.drew (Below.drew HBz5.out)).trans (kr1.mono HBz5.out.size) | exact (Below.drew (Below.drew (Below.drew HBz5.out))).trans (kr1.mono HBz5.out.size))); (have Hbr1 := Lib.hid (show Has wr1 w.heap.size [.int .i64 size, .int .i64 m, .int .i64 sum, .int .i64 rng, .int .i64 last] 23 from Hbz5.out.of (kr1.block _ (by exact Hbz5.out.lt)))); (have y10 : wr1.cell? ⟨w.heap.size, 0, none⟩ = some (.int .i64 size) := Hbr1.out.cell 0); (have y11 : wr1.cell? ⟨w.heap.size, 1, none⟩ = some (.int .i64 m) := Hbr1.out.cell 1); (have y12 : wr1.cell? ⟨w.heap.size, 2, none⟩ = some (.int .i64 sum) := Hbr1.out.cell 2); (have y13 : wr1.cell? ⟨w.heap.size, 3, none⟩ = some (.int .i64 rng) := Hbr1.out.cell 3); (have y14 : wr1.cell? ⟨w.heap.size, 4, none⟩ = some (.int .i64 last) := Hbr1.out.cell 4)) | (go_at_call 11; refine (HRR.out _).mono ?_; rintro e wr2 ⟨rfl, kr2⟩; (have HBr2 := Lib.hid (show Below w.heap.size w wr2 by first | exact HBr1.out.trans (kr2.mono HBr1.out.size) | exact (Below.drew HBr1.out).trans (kr2.mono HBr1.out.size) | exact (Below.drew (Below.drew HBr1.out)).trans (kr2.mono HBr1.out.size) | exact (Below.drew (Below.drew (Below.drew HBr1.out))).trans (kr2.mono HBr1.out.size))); (have Hbr2 := Lib.hid (show Has wr2 w.heap.size [.int .i64 size, .int .i64 m, .int .i64 sum, .int .i64 rng, .int .i64 last] 23 from Hbr1.out.of (kr2.block _ (by exact Hbr1.out.lt)))); (have y20 : wr2.cell? ⟨w.heap.size, 0, none⟩ = some (.int .i64 size) := Hbr2.out.cell 0); (have y21 : wr2.cell? ⟨w.heap.size, 1, none⟩ = some (.int .i64 m) := Hbr2.out.cell 1); (have y22 : wr2.cell? ⟨w.heap.size, 2, none⟩ = some (.int .i64 sum) := Hbr2.out.cell 2); (have y23 : wr2.cell? ⟨w.heap.size, 3, none⟩ = some (.int .i64 rng) := Hbr2.out.cell 3); (have y24 : wr2.cell? ⟨w.heap.size, 4, none⟩ = some (.int .i64 last) := Hbr2.out.cell 4)) | (go_at_call 12; refine (HAL.out _).mono ?_; rintro e wr3 ⟨rfl, kr3⟩; (have HBr3 := Lib.hid (show Below w.heap.size w wr3 by first | exact HBr2.out.trans (kr3.mono HBr2.out.size) | exact (Below.drew HBr2.out).trans (kr3.mono HBr2.out.size) | exact (Below.drew (Below.drew HBr2.out)).trans (kr3.mono HBr2.out.size) | exact (Below.drew (Below.drew (Below.drew HBr2.out))).trans (kr3.mono HBr2.out.size))); (have Hbr3 := Lib.hid (show Has wr3 w.heap.size [.int .i64 size, .int .i64 m, .int .i64 sum, .int .i64 rng, .int .i64 last] 23 from Hbr2.out.of (kr3.block _ (by exact Hbr2.out.lt)))); (have y30 : wr3.cell? ⟨w.heap.size, 0, none⟩ = some (.int .i64 size) := Hbr3.out.cell 0); (have y31 : wr3.cell? ⟨w.heap.size, 1, none⟩ = some (.int .i64 m) := Hbr3.out.cell 1); (have y32 : wr3.cell? ⟨w.heap.size, 2, none⟩ = some (.int .i64 sum) := Hbr3.out.cell 2); (have y33 : wr3.cell? ⟨w.heap.size, 3, none⟩ = some (.int .i64 rng) := Hbr3.out.cell 3); (have y34 : wr3.cell? ⟨w.heap.size, 4, none⟩ = some (.int .i64 last) := Hbr3.out.cell 4)))
    have Hnr1 := Lib.hid (Hnz5.out.step kr1 rfl)
    have Har1 := Lib.hid (Haz5.out.step kr1 rfl)
    have Hzr1 := Lib.hid (Hzz5.out.step kr1 rfl)
    have Hnr2 := Lib.hid (Hnr1.out.step kr2 rfl)
    have Har2 := Lib.hid (Har1.out.step kr2 rfl)
    have Hzr2 := Lib.hid (Hzr1.out.step kr2 rfl)
    have Hnr3 := Lib.hid (Hnr2.out.step kr3 rfl)
    have Har3 := Lib.hid (Har2.out.step kr3 rfl)
    have Hzr3 := Lib.hid (Hzr2.out.step kr3 rfl)
    clear kr1 kr2 kr3 y10 y11 y12 y13 y14 y20 y21 y22 y23 y24 y30 y31 y32 y33 y34 qb0_5 qb1_5 qb2_5 qb3_5 qb4_5 lb_5
    have hqb := eqBas
    have qn0_8 : wr3.cell? ⟨wz1.heap.size, 0, none⟩ = some (.int .i64 0) := Hnr3.out.cell 0
    have qn1_8 : wr3.cell? ⟨wz1.heap.size, 1, none⟩ = some (.int .i64 0) := Hnr3.out.cell 1
    have qn2_8 : wr3.cell? ⟨wz1.heap.size, 2, none⟩ = some (.int .i64 0) := Hnr3.out.cell 2
    have qn3_8 : wr3.cell? ⟨wz1.heap.size, 3, none⟩ = some (.int .i64 0) := Hnr3.out.cell 3
    have qn4_8 : wr3.cell? ⟨wz1.heap.size, 4, none⟩ = some (.int .i64 0) := Hnr3.out.cell 4
    have ln_8 : wz1.heap.size < wr3.heap.size := Hnr3.out.lt
    have qz0_8 : wr3.cell? ⟨wz4.heap.size, 0, none⟩ = some (.int .i64 0) := Hzr3.out.cell 0
    have qz1_8 : wr3.cell? ⟨wz4.heap.size, 1, none⟩ = some (.int .i64 0) := Hzr3.out.cell 1
    have qz2_8 : wr3.cell? ⟨wz4.heap.size, 2, none⟩ = some (.int .i64 0) := Hzr3.out.cell 2
    have qz3_8 : wr3.cell? ⟨wz4.heap.size, 3, none⟩ = some (.int .i64 0) := Hzr3.out.cell 3
    have qz4_8 : wr3.cell? ⟨wz4.heap.size, 4, none⟩ = some (.int .i64 0) := Hzr3.out.cell 4
    have lz_8 : wz4.heap.size < wr3.heap.size := Hzr3.out.lt
    have qb0_8 : wr3.cell? ⟨w.heap.size, 0, none⟩ = some (.int .i64 size) := Hbr3.out.cell 0
    have qb1_8 : wr3.cell? ⟨w.heap.size, 1, none⟩ = some (.int .i64 m) := Hbr3.out.cell 1
    have qb2_8 : wr3.cell? ⟨w.heap.size, 2, none⟩ = some (.int .i64 sum) := Hbr3.out.cell 2
    have qb3_8 : wr3.cell? ⟨w.heap.size, 3, none⟩ = some (.int .i64 rng) := Hbr3.out.cell 3
    have qb4_8 : wr3.cell? ⟨w.heap.size, 4, none⟩ = some (.int .i64 last) := Hbr3.out.cell 4
    have lb_8 : w.heap.size < wr3.heap.size := Hbr3.out.lt
    have hcz9 := HRR.out wr3
    go_wp2_with fail
    refine hcz9.mono ?_
    rintro e wz9 ⟨rfl, kz9⟩
    clear hcz9 qn0_8 qn1_8 qn2_8 qn3_8 qn4_8 ln_8 qz0_8 qz1_8 qz2_8 qz3_8 qz4_8 lz_8 qb0_8 qb1_8 qb2_8 qb3_8 qb4_8 lb_8
    have HBz9 := Lib.hid (HBr3.out.trans (kz9.mono (Nat.le_trans hbase HBr3.out.size)))
    have Hbz9 := Lib.hid (Hbr3.out.call kz9)
    have Hnz9 := Lib.hid (Hnr3.out.call kz9)
    have Haz9 := Lib.hid (Har3.out.call kz9)
    have Hzz9 := Lib.hid (Hzr3.out.call kz9)
    clear kz9
    have qb0_9 : wz9.cell? ⟨w.heap.size, 0, none⟩ = some (.int .i64 size) := Hbz9.out.cell 0
    have qb1_9 : wz9.cell? ⟨w.heap.size, 1, none⟩ = some (.int .i64 m) := Hbz9.out.cell 1
    have qb2_9 : wz9.cell? ⟨w.heap.size, 2, none⟩ = some (.int .i64 sum) := Hbz9.out.cell 2
    have qb3_9 : wz9.cell? ⟨w.heap.size, 3, none⟩ = some (.int .i64 rng) := Hbz9.out.cell 3
    have qb4_9 : wz9.cell? ⟨w.heap.size, 4, none⟩ = some (.int .i64 last) := Hbz9.out.cell 4
    have lb_9 : w.heap.size < wz9.heap.size := Hbz9.out.lt
    have hcz10 := HROW.out wz9 (HR.out.below HBz9.out)
    go_wp2_with fail
    refine hcz10.mono ?_
    rintro e wz10 ⟨rfl, kz10⟩
    clear hcz10 qb0_9 qb1_9 qb2_9 qb3_9 qb4_9 lb_9
    have HBz10 := Lib.hid (HBz9.out.trans (kz10.mono (Nat.le_trans hbase HBz9.out.size)))
    have Hbz10 := Lib.hid (Hbz9.out.call kz10)
    have Hnz10 := Lib.hid (Hnz9.out.call kz10)
    have Haz10 := Lib.hid (Haz9.out.call kz10)
    have Hzz10 := Lib.hid (Hzz9.out.call kz10)
    clear kz10
    have qb0_10 : wz10.cell? ⟨w.heap.size, 0, none⟩ = some (.int .i64 size) := Hbz10.out.cell 0
    have qb1_10 : wz10.cell? ⟨w.heap.size, 1, none⟩ = some (.int .i64 m) := Hbz10.out.cell 1
    have qb2_10 : wz10.cell? ⟨w.heap.size, 2, none⟩ = some (.int .i64 sum) := Hbz10.out.cell 2
    have qb3_10 : wz10.cell? ⟨w.heap.size, 3, none⟩ = some (.int .i64 rng) := Hbz10.out.cell 3
    have qb4_10 : wz10.cell? ⟨w.heap.size, 4, none⟩ = some (.int .i64 last) := Hbz10.out.cell 4
    have lb_10 : w.heap.size < wz10.heap.size := Hbz10.out.lt
    have qa0_10 : wz10.cell? ⟨wz3.heap.size, 0, none⟩ = some (.int .i64 0) := Haz10.out.cell 0
    have qa1_10 : wz10.cell? ⟨wz3.heap.size, 1, none⟩ = some (.int .i64 0) := Haz10.out.cell 1
    have qa2_10 : wz10.cell? ⟨wz3.heap.size, 2, none⟩ = some (.int .i64 0) := Haz10.out.cell 2
    have qa3_10 : wz10.cell? ⟨wz3.heap.size, 3, none⟩ = some (.int .i64 0) := Haz10.out.cell 3
    have qa4_10 : wz10.cell? ⟨wz3.heap.size, 4, none⟩ = some (.int .i64 0) := Haz10.out.cell 4
    have la_10 : wz3.heap.size < wz10.heap.size := Haz10.out.lt
    have qz0_10 : wz10.cell? ⟨wz4.heap.size, 0, none⟩ = some (.int .i64 0) := Hzz10.out.cell 0
    have qz1_10 : wz10.cell? ⟨wz4.heap.size, 1, none⟩ = some (.int .i64 0) := Hzz10.out.cell 1
    have qz2_10 : wz10.cell? ⟨wz4.heap.size, 2, none⟩ = some (.int .i64 0) := Hzz10.out.cell 2
    have qz3_10 : wz10.cell? ⟨wz4.heap.size, 3, none⟩ = some (.int .i64 0) := Hzz10.out.cell 3
    have qz4_10 : wz10.cell? ⟨wz4.heap.size, 4, none⟩ = some (.int .i64 0) := Hzz10.out.cell 4
    have lz_10 : wz4.heap.size < wz10.heap.size := Hzz10.out.lt
    go_wp2
    go_ret
    exact ⟨rfl, HBz10.out⟩
  · have s1 : ¬ n < 1 := by omega
    go_enter Try.func3, Try.ntmps3
    go_upto_region 1 with fail
    rw [HW1.out]
    go_upto_region 2 with fail
    clear hsl
    have qb0_0 : w1.cell? ⟨w.heap.size, 0, none⟩ = some (.int .i64 size) := HX1.out.cell 0
    have qb1_0 : w1.cell? ⟨w.heap.size, 1, none⟩ = some (.int .i64 m) := HX1.out.cell 1
    have qb2_0 : w1.cell? ⟨w.heap.size, 2, none⟩ = some (.int .i64 sum) := HX1.out.cell 2
    have qb3_0 : w1.cell? ⟨w.heap.size, 3, none⟩ = some (.int .i64 rng) := HX1.out.cell 3
    have qb4_0 : w1.cell? ⟨w.heap.size, 4, none⟩ = some (.int .i64 last) := HX1.out.cell 4
    have lb_0 : w.heap.size < w1.heap.size := HX1.out.lt
    have hcz1 := HNEW.out w1
    go_wp2_with fail
    refine hcz1.mono ?_
    rintro e wz1 ⟨rfl, kz1⟩
    clear hcz1 qb0_0 qb1_0 qb2_0 qb3_0 qb4_0 lb_0
    have HBz1 := Lib.hid (HB1.out.trans (kz1.mono (Nat.le_trans hbase HB1.out.size)))
    have Hbz1 := Lib.hid (HX1.out.call kz1)
    clear kz1
    obtain ⟨wz2, hwz2⟩ : ∃ wz2, wz1.alloc (.cells #[.int .i64 0, .int .i64 0, .int .i64 0, .int .i64 0, .int .i64 0] 23) = wz2 := ⟨_, rfl⟩
    have kz2 : Below wz1.heap.size wz1 wz2 := by rw [← hwz2]; exact (Below.refl _ _).alloc (Nat.le_refl _) _
    have Hnz2 := Lib.hid (show Has wz2 wz1.heap.size [.int .i64 0, .int .i64 0, .int .i64 0, .int .i64 0, .int .i64 0] 23 by rw [← hwz2]; exact Has.new _ _ _)
    have HWz2 := Lib.hid hwz2
    clear hwz2
    have HBz2 := Lib.hid (HBz1.out.trans (kz2.mono (Nat.le_trans hbase HBz1.out.size)))
    have Hbz2 := Lib.hid (Hbz1.out.call kz2)
    clear kz2
    have qb0_2 : wz1.cell? ⟨w.heap.size, 0, none⟩ = some (.int .i64 size) := Hbz1.out.cell 0
    have qb1_2 : wz1.cell? ⟨w.heap.size, 1, none⟩ = some (.int .i64 m) := Hbz1.out.cell 1
    have qb2_2 : wz1.cell? ⟨w.heap.size, 2, none⟩ = some (.int .i64 sum) := Hbz1.out.cell 2
    have qb3_2 : wz1.cell? ⟨w.heap.size, 3, none⟩ = some (.int .i64 rng) := Hbz1.out.cell 3
    have qb4_2 : wz1.cell? ⟨w.heap.size, 4, none⟩ = some (.int .i64 last) := Hbz1.out.cell 4
    have lb_2 : w.heap.size < wz1.heap.size := Hbz1.out.lt
    have hcz3 := HTAKE.out wz2 (HR.out.below HBz2.out)
    go_wp2_with fail
    rw [HWz2.out]
    refine hcz3.mono ?_
    rintro e wz3 ⟨rfl, kz3⟩
    clear hcz3 qb0_2 qb1_2 qb2_2 qb3_2 qb4_2 lb_2
    have HBz3 := Lib.hid (HBz2.out.trans (kz3.mono (Nat.le_trans hbase HBz2.out.size)))
    have Hbz3 := Lib.hid (Hbz2.out.call kz3)
    have Hnz3 := Lib.hid (Hnz2.out.call kz3)
    clear kz3
    obtain ⟨wz4, hwz4⟩ : ∃ wz4, wz3.alloc (.cells #[.int .i64 0, .int .i64 0, .int .i64 0, .int .i64 0, .int .i64 0] 23) = wz4 := ⟨_, rfl⟩
    have kz4 : Below wz3.heap.size wz3 wz4 := by rw [← hwz4]; exact (Below.refl _ _).alloc (Nat.le_refl _) _
    have Haz4 := Lib.hid (show Has wz4 wz3.heap.size [.int .i64 0, .int .i64 0, .int .i64 0, .int .i64 0, .int .i64 0] 23 by rw [← hwz4]; exact Has.new _ _ _)
    have HWz4 := Lib.hid hwz4
    clear hwz4
    have HBz4 := Lib.hid (HBz3.out.trans (kz4.mono (Nat.le_trans hbase HBz3.out.size)))
    have Hbz4 := Lib.hid (Hbz3.out.call kz4)
    have Hnz4 := Lib.hid (Hnz3.out.call kz4)
    clear kz4
    go_upto_region 4 with fail
    rw [HWz4.out]
    obtain ⟨wz5, hwz5⟩ : ∃ wz5, wz4.alloc (.cells #[.int .i64 0, .int .i64 0, .int .i64 0, .int .i64 0, .int .i64 0] 23) = wz5 := ⟨_, rfl⟩
    have kz5 : Below wz4.heap.size wz4 wz5 := by rw [← hwz5]; exact (Below.refl _ _).alloc (Nat.le_refl _) _
    have Hzz5 := Lib.hid (show Has wz5 wz4.heap.size [.int .i64 0, .int .i64 0, .int .i64 0, .int .i64 0, .int .i64 0] 23 by rw [← hwz5]; exact Has.new _ _ _)
    have HWz5 := Lib.hid hwz5
    clear hwz5
    have HBz5 := Lib.hid (HBz4.out.trans (kz5.mono (Nat.le_trans hbase HBz4.out.size)))
    have Hbz5 := Lib.hid (Hbz4.out.call kz5)
    have Hnz5 := Lib.hid (Hnz4.out.call kz5)
    have Haz5 := Lib.hid (Haz4.out.call kz5)
    clear kz5
    go_upto_region 5 with fail
    rw [HWz5.out]
    have qb0_5 : wz5.cell? ⟨w.heap.size, 0, none⟩ = some (.int .i64 size) := Hbz5.out.cell 0
    have qb1_5 : wz5.cell? ⟨w.heap.size, 1, none⟩ = some (.int .i64 m) := Hbz5.out.cell 1
    have qb2_5 : wz5.cell? ⟨w.heap.size, 2, none⟩ = some (.int .i64 sum) := Hbz5.out.cell 2
    have qb3_5 : wz5.cell? ⟨w.heap.size, 3, none⟩ = some (.int .i64 rng) := Hbz5.out.cell 3
    have qb4_5 : wz5.cell? ⟨w.heap.size, 4, none⟩ = some (.int .i64 last) := Hbz5.out.cell 4
    have lb_5 : w.heap.size < wz5.heap.size := Hbz5.out.lt
    go_region_held3 (fun W => W.cell? ⟨w.heap.size, 0, none⟩ = some (.int .i64 size) ∧ W.cell? ⟨w.heap.size, 1, none⟩ = some (.int .i64 m) ∧ W.cell? ⟨w.heap.size, 2, none⟩ = some (.int .i64 sum) ∧ W.cell? ⟨w.heap.size, 3, none⟩ = some (.int .i64 rng) ∧ W.cell? ⟨w.heap.size, 4, none⟩ = some (.int .i64 last)) (first | exact ⟨y30, y31, y32, y33, y34⟩ | exact ⟨y20, y21, y22, y23, y24⟩ | exact ⟨y10, y11, y12, y13, y14⟩ | exact ⟨qb0_5, qb1_5, qb2_5, qb3_5, qb4_5⟩ | simp [go_sem, *]) (first | (go_at_call 10; refine (HRI.out _).mono ?_; rintro e wr1 ⟨rfl, kr1⟩; (have HBr1 := Lib.hid (show Below w.heap.size w wr1 by first | exact HBz5.out.trans (kr1.mono HBz5.out.size) | exact (Below.drew HBz5.out).trans (kr1.mono HBz5.out.size) | exact (Below.drew (Below.drew HBz5.out)).trans (kr1.mono HBz5.out.size) | exact (Below.drew (Below.drew (Below.drew HBz5.out))).trans (kr1.mono HBz5.out.size))); (have Hbr1 := Lib.hid (show Has wr1 w.heap.size [.int .i64 size, .int .i64 m, .int .i64 sum, .int .i64 rng, .int .i64 last] 23 from Hbz5.out.of (kr1.block _ (by exact Hbz5.out.lt)))); (have y10 : wr1.cell? ⟨w.heap.size, 0, none⟩ = some (.int .i64 size) := Hbr1.out.cell 0); (have y11 : wr1.cell? ⟨w.heap.size, 1, none⟩ = some (.int .i64 m) := Hbr1.out.cell 1); (have y12 : wr1.cell? ⟨w.heap.size, 2, none⟩ = some (.int .i64 sum) := Hbr1.out.cell 2); (have y13 : wr1.cell? ⟨w.heap.size, 3, none⟩ = some (.int .i64 rng) := Hbr1.out.cell 3); (have y14 : wr1.cell? ⟨w.heap.size, 4, none⟩ = some (.int .i64 last) := Hbr1.out.cell 4)) | (go_at_call 11; refine (HRR.out _).mono ?_; rintro e wr2 ⟨rfl, kr2⟩; (have HBr2 := Lib.hid (show Below w.heap.size w wr2 by first | exact HBr1.out.trans (kr2.mono HBr1.out.size) | exact (Below.drew HBr1.out).trans (kr2.mono HBr1.out.size) | exact (Below.drew (Below.drew HBr1.out)).trans (kr2.mono HBr1.out.size) | exact (Below.drew (Below.drew (Below.drew HBr1.out))).trans (kr2.mono HBr1.out.size))); (have Hbr2 := Lib.hid (show Has wr2 w.heap.size [.int .i64 size, .int .i64 m, .int .i64 sum, .int .i64 rng, .int .i64 last] 23 from Hbr1.out.of (kr2.block _ (by exact Hbr1.out.lt)))); (have y20 : wr2.cell? ⟨w.heap.size, 0, none⟩ = some (.int .i64 size) := Hbr2.out.cell 0); (have y21 : wr2.cell? ⟨w.heap.size, 1, none⟩ = some (.int .i64 m) := Hbr2.out.cell 1); (have y22 : wr2.cell? ⟨w.heap.size, 2, none⟩ = some (.int .i64 sum) := Hbr2.out.cell 2); (have y23 : wr2.cell? ⟨w.heap.size, 3, none⟩ = some (.int .i64 rng) := Hbr2.out.cell 3); (have y24 : wr2.cell? ⟨w.heap.size, 4, none⟩ = some (.int .i64 last) := Hbr2.out.cell 4)) | (go_at_call 12; refine (HAL.out _).mono ?_; rintro e wr3 ⟨rfl, kr3⟩; (have HBr3 := Lib.hid (show Below w.heap.size w wr3 by first | exact HBr2.out.trans (kr3.mono HBr2.out.size) | exact (Below.drew HBr2.out).trans (kr3.mono HBr2.out.size) | exact (Below.drew (Below.drew HBr2.out)).trans (kr3.mono HBr2.out.size) | exact (Below.drew (Below.drew (Below.drew HBr2.out))).trans (kr3.mono HBr2.out.size))); (have Hbr3 := Lib.hid (show Has wr3 w.heap.size [.int .i64 size, .int .i64 m, .int .i64 sum, .int .i64 rng, .int .i64 last] 23 from Hbr2.out.of (kr3.block _ (by exact Hbr2.out.lt)))); (have y30 : wr3.cell? ⟨w.heap.size, 0, none⟩ = some (.int .i64 size) := Hbr3.out.cell 0); (have y31 : wr3.cell? ⟨w.heap.size, 1, none⟩ = some (.int .i64 m) := Hbr3.out.cell 1); (have y32 : wr3.cell? ⟨w.heap.size, 2, none⟩ = some (.int .i64 sum) := Hbr3.out.cell 2); (have y33 : wr3.cell? ⟨w.heap.size, 3, none⟩ = some (.int .i64 rng) := Hbr3.out.cell 3); (have y34 : wr3.cell? ⟨w.heap.size, 4, none⟩ = some (.int .i64 last) := Hbr3.out.cell 4)))
    have Hnr1 := Lib.hid (Hnz5.out.step kr1 rfl)
    have Har1 := Lib.hid (Haz5.out.step kr1 rfl)
    have Hzr1 := Lib.hid (Hzz5.out.step kr1 rfl)
    have Hnr2 := Lib.hid (Hnr1.out.step kr2 rfl)
    have Har2 := Lib.hid (Har1.out.step kr2 rfl)
    have Hzr2 := Lib.hid (Hzr1.out.step kr2 rfl)
    have Hnr3 := Lib.hid (Hnr2.out.step kr3 rfl)
    have Har3 := Lib.hid (Har2.out.step kr3 rfl)
    have Hzr3 := Lib.hid (Hzr2.out.step kr3 rfl)
    clear kr1 kr2 kr3 y10 y11 y12 y13 y14 y20 y21 y22 y23 y24 y30 y31 y32 y33 y34 qb0_5 qb1_5 qb2_5 qb3_5 qb4_5 lb_5
    have hqb := eqBas
    have qn0_8 : wr3.cell? ⟨wz1.heap.size, 0, none⟩ = some (.int .i64 0) := Hnr3.out.cell 0
    have qn1_8 : wr3.cell? ⟨wz1.heap.size, 1, none⟩ = some (.int .i64 0) := Hnr3.out.cell 1
    have qn2_8 : wr3.cell? ⟨wz1.heap.size, 2, none⟩ = some (.int .i64 0) := Hnr3.out.cell 2
    have qn3_8 : wr3.cell? ⟨wz1.heap.size, 3, none⟩ = some (.int .i64 0) := Hnr3.out.cell 3
    have qn4_8 : wr3.cell? ⟨wz1.heap.size, 4, none⟩ = some (.int .i64 0) := Hnr3.out.cell 4
    have ln_8 : wz1.heap.size < wr3.heap.size := Hnr3.out.lt
    have qz0_8 : wr3.cell? ⟨wz4.heap.size, 0, none⟩ = some (.int .i64 0) := Hzr3.out.cell 0
    have qz1_8 : wr3.cell? ⟨wz4.heap.size, 1, none⟩ = some (.int .i64 0) := Hzr3.out.cell 1
    have qz2_8 : wr3.cell? ⟨wz4.heap.size, 2, none⟩ = some (.int .i64 0) := Hzr3.out.cell 2
    have qz3_8 : wr3.cell? ⟨wz4.heap.size, 3, none⟩ = some (.int .i64 0) := Hzr3.out.cell 3
    have qz4_8 : wr3.cell? ⟨wz4.heap.size, 4, none⟩ = some (.int .i64 0) := Hzr3.out.cell 4
    have lz_8 : wz4.heap.size < wr3.heap.size := Hzr3.out.lt
    have qb0_8 : wr3.cell? ⟨w.heap.size, 0, none⟩ = some (.int .i64 size) := Hbr3.out.cell 0
    have qb1_8 : wr3.cell? ⟨w.heap.size, 1, none⟩ = some (.int .i64 m) := Hbr3.out.cell 1
    have qb2_8 : wr3.cell? ⟨w.heap.size, 2, none⟩ = some (.int .i64 sum) := Hbr3.out.cell 2
    have qb3_8 : wr3.cell? ⟨w.heap.size, 3, none⟩ = some (.int .i64 rng) := Hbr3.out.cell 3
    have qb4_8 : wr3.cell? ⟨w.heap.size, 4, none⟩ = some (.int .i64 last) := Hbr3.out.cell 4
    have lb_8 : w.heap.size < wr3.heap.size := Hbr3.out.lt
    have hcz9 := HRR.out wr3
    go_wp2_with fail
    refine hcz9.mono ?_
    rintro e wz9 ⟨rfl, kz9⟩
    clear hcz9 qn0_8 qn1_8 qn2_8 qn3_8 qn4_8 ln_8 qz0_8 qz1_8 qz2_8 qz3_8 qz4_8 lz_8 qb0_8 qb1_8 qb2_8 qb3_8 qb4_8 lb_8
    have HBz9 := Lib.hid (HBr3.out.trans (kz9.mono (Nat.le_trans hbase HBr3.out.size)))
    have Hbz9 := Lib.hid (Hbr3.out.call kz9)
    have Hnz9 := Lib.hid (Hnr3.out.call kz9)
    have Haz9 := Lib.hid (Har3.out.call kz9)
    have Hzz9 := Lib.hid (Hzr3.out.call kz9)
    clear kz9
    have qb0_9 : wz9.cell? ⟨w.heap.size, 0, none⟩ = some (.int .i64 size) := Hbz9.out.cell 0
    have qb1_9 : wz9.cell? ⟨w.heap.size, 1, none⟩ = some (.int .i64 m) := Hbz9.out.cell 1
    have qb2_9 : wz9.cell? ⟨w.heap.size, 2, none⟩ = some (.int .i64 sum) := Hbz9.out.cell 2
    have qb3_9 : wz9.cell? ⟨w.heap.size, 3, none⟩ = some (.int .i64 rng) := Hbz9.out.cell 3
    have qb4_9 : wz9.cell? ⟨w.heap.size, 4, none⟩ = some (.int .i64 last) := Hbz9.out.cell 4
    have lb_9 : w.heap.size < wz9.heap.size := Hbz9.out.lt
    have hcz10 := HROW.out wz9 (HR.out.below HBz9.out)
    go_wp2_with fail
    refine hcz10.mono ?_
    rintro e wz10 ⟨rfl, kz10⟩
    clear hcz10 qb0_9 qb1_9 qb2_9 qb3_9 qb4_9 lb_9
    have HBz10 := Lib.hid (HBz9.out.trans (kz10.mono (Nat.le_trans hbase HBz9.out.size)))
    have Hbz10 := Lib.hid (Hbz9.out.call kz10)
    have Hnz10 := Lib.hid (Hnz9.out.call kz10)
    have Haz10 := Lib.hid (Haz9.out.call kz10)
    have Hzz10 := Lib.hid (Hzz9.out.call kz10)
    clear kz10
    have qb0_10 : wz10.cell? ⟨w.heap.size, 0, none⟩ = some (.int .i64 size) := Hbz10.out.cell 0
    have qb1_10 : wz10.cell? ⟨w.heap.size, 1, none⟩ = some (.int .i64 m) := Hbz10.out.cell 1
    have qb2_10 : wz10.cell? ⟨w.heap.size, 2, none⟩ = some (.int .i64 sum) := Hbz10.out.cell 2
    have qb3_10 : wz10.cell? ⟨w.heap.size, 3, none⟩ = some (.int .i64 rng) := Hbz10.out.cell 3
    have qb4_10 : wz10.cell? ⟨w.heap.size, 4, none⟩ = some (.int .i64 last) := Hbz10.out.cell 4
    have lb_10 : w.heap.size < wz10.heap.size := Hbz10.out.lt
    have qa0_10 : wz10.cell? ⟨wz3.heap.size, 0, none⟩ = some (.int .i64 0) := Haz10.out.cell 0
    have qa1_10 : wz10.cell? ⟨wz3.heap.size, 1, none⟩ = some (.int .i64 0) := Haz10.out.cell 1
    have qa2_10 : wz10.cell? ⟨wz3.heap.size, 2, none⟩ = some (.int .i64 0) := Haz10.out.cell 2
    have qa3_10 : wz10.cell? ⟨wz3.heap.size, 3, none⟩ = some (.int .i64 0) := Haz10.out.cell 3
    have qa4_10 : wz10.cell? ⟨wz3.heap.size, 4, none⟩ = some (.int .i64 0) := Haz10.out.cell 4
    have la_10 : wz3.heap.size < wz10.heap.size := Haz10.out.lt
    have qz0_10 : wz10.cell? ⟨wz4.heap.size, 0, none⟩ = some (.int .i64 0) := Hzz10.out.cell 0
    have qz1_10 : wz10.cell? ⟨wz4.heap.size, 1, none⟩ = some (.int .i64 0) := Hzz10.out.cell 1
    have qz2_10 : wz10.cell? ⟨wz4.heap.size, 2, none⟩ = some (.int .i64 0) := Hzz10.out.cell 2
    have qz3_10 : wz10.cell? ⟨wz4.heap.size, 3, none⟩ = some (.int .i64 0) := Hzz10.out.cell 3
    have qz4_10 : wz10.cell? ⟨wz4.heap.size, 4, none⟩ = some (.int .i64 0) := Hzz10.out.cell 4
    have lz_10 : wz4.heap.size < wz10.heap.size := Hzz10.out.lt
    go_wp2
    go_ret
    exact ⟨rfl, HBz10.out⟩
set_option linter.unusedSimpArgs false in
set_option linter.unusedVariables false in
set_option maxHeartbeats 8000000 in
set_option maxRecDepth 100000 in
theorem takes15_0full (n size m sum rng last ta tb tc td te : Int) (l : List Int) (ao : Option Addr) (k cap n0 : Nat) (w : World) (hk : k = min n0 12) (hcap : n0 ≤ cap) (hr : ReadsI w (.slice ao k cap) l) (s12 : n < 1 ∨ 10 < n) (g5 : (m == 25) = true)
    (HNEW : Hid (∀ W, Calls Try.prog 8 #[.int .i64 n] W fun e w' => e = .returned (.tuple #[.agg #[.int .i64 0, .int .i64 0, .int .i64 0, .int .i64 0, .int .i64 0], .int .i64 1]) ∧ Below W.heap.size W w'))
    (HTAKE : Hid (∀ W, ReadsI W (.slice ao k cap) l → Calls Try.prog 9 #[.agg #[.int .i64 size, .int .i64 m, .int .i64 sum, .int .i64 rng, .int .i64 last], .slice ao k cap] W fun e w' => e = .returned (.tuple #[.agg #[.int .i64 0, .int .i64 0, .int .i64 0, .int .i64 0, .int .i64 0], .int .i64 11]) ∧ Below W.heap.size W w'))
    (HRI : Hid (∀ W, Calls Try.prog 10 #[.agg #[.int .i64 size, .int .i64 m, .int .i64 sum, .int .i64 rng, .int .i64 last]] W fun e w' => e = .returned (.bool true) ∧ Below W.heap.size W w'))
    (HRR : Hid (∀ W, Calls Try.prog 11 #[.agg #[.int .i64 size, .int .i64 m, .int .i64 sum, .int .i64 rng, .int .i64 last]] W fun e w' => e = .returned (.bool true) ∧ Below W.heap.size W w'))
    (HAL : Hid (∀ W, Calls Try.prog 12 #[] W fun e w' => e = .returned (.bool true) ∧ Below W.heap.size W w'))
    (HROW : Hid (∀ W, ReadsI W (.slice ao k cap) l → Calls Try.prog 13 #[.agg #[.int .i64 size, .int .i64 m, .int .i64 sum, .int .i64 rng, .int .i64 last], .slice ao k cap] W fun e w' => e = .returned (.bool true) ∧ Below W.heap.size W w'))
    :
    Calls Try.prog 3 #[.int .i64 n, .agg #[.int .i64 size, .int .i64 m, .int .i64 sum, .int .i64 rng, .int .i64 last], .slice ao n0 cap] w fun e w' => e = .returned (.bool true) ∧ Below w.heap.size w w' := by
  have hsl : ∀ W, (Instr.slice 24 (.slice ao n0 cap) none (some (.int .i64 (min (n0 : Int) 12))) none).run Try.prog W = .ok (.slice ao k cap) W := fun W => by
    have := slice_hi ao n0 cap k (by omega) W
    rw [show (k : Int) = min (n0 : Int) 12 by omega] at this
    exact this
  obtain ⟨w1, hw1⟩ : ∃ w1, w.alloc (.cells #[.int .i64 size, .int .i64 m, .int .i64 sum, .int .i64 rng, .int .i64 last] 23) = w1 := ⟨_, rfl⟩
  have HX1 := Lib.hid (show Has w1 w.heap.size [.int .i64 size, .int .i64 m, .int .i64 sum, .int .i64 rng, .int .i64 last] 23 by rw [← hw1]; exact Has.new w _ _)
  have HB1 := Lib.hid (show Below w.heap.size w w1 by rw [← hw1]; exact (Below.refl _ _).alloc (Nat.le_refl _) _)
  have HW1 := Lib.hid hw1
  have HR := Lib.hid hr
  have hbase := Nat.le_refl w.heap.size
  clear hw1 hk hr
  rcases s12 with s1 | s2
  · go_enter Try.func3, Try.ntmps3
    go_upto_region 1 with fail
    rw [HW1.out]
    go_upto_region 2 with fail
    clear hsl
    have qb0_0 : w1.cell? ⟨w.heap.size, 0, none⟩ = some (.int .i64 size) := HX1.out.cell 0
    have qb1_0 : w1.cell? ⟨w.heap.size, 1, none⟩ = some (.int .i64 m) := HX1.out.cell 1
    have qb2_0 : w1.cell? ⟨w.heap.size, 2, none⟩ = some (.int .i64 sum) := HX1.out.cell 2
    have qb3_0 : w1.cell? ⟨w.heap.size, 3, none⟩ = some (.int .i64 rng) := HX1.out.cell 3
    have qb4_0 : w1.cell? ⟨w.heap.size, 4, none⟩ = some (.int .i64 last) := HX1.out.cell 4
    have lb_0 : w.heap.size < w1.heap.size := HX1.out.lt
    have hcz1 := HNEW.out w1
    go_wp2_with fail
    refine hcz1.mono ?_
    rintro e wz1 ⟨rfl, kz1⟩
    clear hcz1 qb0_0 qb1_0 qb2_0 qb3_0 qb4_0 lb_0
    have HBz1 := Lib.hid (HB1.out.trans (kz1.mono (Nat.le_trans hbase HB1.out.size)))
    have Hbz1 := Lib.hid (HX1.out.call kz1)
    clear kz1
    obtain ⟨wz2, hwz2⟩ : ∃ wz2, wz1.alloc (.cells #[.int .i64 0, .int .i64 0, .int .i64 0, .int .i64 0, .int .i64 0] 23) = wz2 := ⟨_, rfl⟩
    have kz2 : Below wz1.heap.size wz1 wz2 := by rw [← hwz2]; exact (Below.refl _ _).alloc (Nat.le_refl _) _
    have Hnz2 := Lib.hid (show Has wz2 wz1.heap.size [.int .i64 0, .int .i64 0, .int .i64 0, .int .i64 0, .int .i64 0] 23 by rw [← hwz2]; exact Has.new _ _ _)
    have HWz2 := Lib.hid hwz2
    clear hwz2
    have HBz2 := Lib.hid (HBz1.out.trans (kz2.mono (Nat.le_trans hbase HBz1.out.size)))
    have Hbz2 := Lib.hid (Hbz1.out.call kz2)
    clear kz2
    have qb0_2 : wz1.cell? ⟨w.heap.size, 0, none⟩ = some (.int .i64 size) := Hbz1.out.cell 0
    have qb1_2 : wz1.cell? ⟨w.heap.size, 1, none⟩ = some (.int .i64 m) := Hbz1.out.cell 1
    have qb2_2 : wz1.cell? ⟨w.heap.size, 2, none⟩ = some (.int .i64 sum) := Hbz1.out.cell 2
    have qb3_2 : wz1.cell? ⟨w.heap.size, 3, none⟩ = some (.int .i64 rng) := Hbz1.out.cell 3
    have qb4_2 : wz1.cell? ⟨w.heap.size, 4, none⟩ = some (.int .i64 last) := Hbz1.out.cell 4
    have lb_2 : w.heap.size < wz1.heap.size := Hbz1.out.lt
    have hcz3 := HTAKE.out wz2 (HR.out.below HBz2.out)
    go_wp2_with fail
    rw [HWz2.out]
    refine hcz3.mono ?_
    rintro e wz3 ⟨rfl, kz3⟩
    clear hcz3 qb0_2 qb1_2 qb2_2 qb3_2 qb4_2 lb_2
    have HBz3 := Lib.hid (HBz2.out.trans (kz3.mono (Nat.le_trans hbase HBz2.out.size)))
    have Hbz3 := Lib.hid (Hbz2.out.call kz3)
    have Hnz3 := Lib.hid (Hnz2.out.call kz3)
    clear kz3
    obtain ⟨wz4, hwz4⟩ : ∃ wz4, wz3.alloc (.cells #[.int .i64 0, .int .i64 0, .int .i64 0, .int .i64 0, .int .i64 0] 23) = wz4 := ⟨_, rfl⟩
    have kz4 : Below wz3.heap.size wz3 wz4 := by rw [← hwz4]; exact (Below.refl _ _).alloc (Nat.le_refl _) _
    have Haz4 := Lib.hid (show Has wz4 wz3.heap.size [.int .i64 0, .int .i64 0, .int .i64 0, .int .i64 0, .int .i64 0] 23 by rw [← hwz4]; exact Has.new _ _ _)
    have HWz4 := Lib.hid hwz4
    clear hwz4
    have HBz4 := Lib.hid (HBz3.out.trans (kz4.mono (Nat.le_trans hbase HBz3.out.size)))
    have Hbz4 := Lib.hid (Hbz3.out.call kz4)
    have Hnz4 := Lib.hid (Hnz3.out.call kz4)
    clear kz4
    go_upto_region 4 with fail
    rw [HWz4.out]
    obtain ⟨wz5, hwz5⟩ : ∃ wz5, wz4.alloc (.cells #[.int .i64 0, .int .i64 0, .int .i64 0, .int .i64 0, .int .i64 0] 23) = wz5 := ⟨_, rfl⟩
    have kz5 : Below wz4.heap.size wz4 wz5 := by rw [← hwz5]; exact (Below.refl _ _).alloc (Nat.le_refl _) _
    have Hzz5 := Lib.hid (show Has wz5 wz4.heap.size [.int .i64 0, .int .i64 0, .int .i64 0, .int .i64 0, .int .i64 0] 23 by rw [← hwz5]; exact Has.new _ _ _)
    have HWz5 := Lib.hid hwz5
    clear hwz5
    have HBz5 := Lib.hid (HBz4.out.trans (kz5.mono (Nat.le_trans hbase HBz4.out.size)))
    have Hbz5 := Lib.hid (Hbz4.out.call kz5)
    have Hnz5 := Lib.hid (Hnz4.out.call kz5)
    have Haz5 := Lib.hid (Haz4.out.call kz5)
    clear kz5
    go_upto_region 5 with fail
    rw [HWz5.out]
    have qb0_5 : wz5.cell? ⟨w.heap.size, 0, none⟩ = some (.int .i64 size) := Hbz5.out.cell 0
    have qb1_5 : wz5.cell? ⟨w.heap.size, 1, none⟩ = some (.int .i64 m) := Hbz5.out.cell 1
    have qb2_5 : wz5.cell? ⟨w.heap.size, 2, none⟩ = some (.int .i64 sum) := Hbz5.out.cell 2
    have qb3_5 : wz5.cell? ⟨w.heap.size, 3, none⟩ = some (.int .i64 rng) := Hbz5.out.cell 3
    have qb4_5 : wz5.cell? ⟨w.heap.size, 4, none⟩ = some (.int .i64 last) := Hbz5.out.cell 4
    have lb_5 : w.heap.size < wz5.heap.size := Hbz5.out.lt
    go_region_held3 (fun W => W.cell? ⟨w.heap.size, 0, none⟩ = some (.int .i64 size) ∧ W.cell? ⟨w.heap.size, 1, none⟩ = some (.int .i64 m) ∧ W.cell? ⟨w.heap.size, 2, none⟩ = some (.int .i64 sum) ∧ W.cell? ⟨w.heap.size, 3, none⟩ = some (.int .i64 rng) ∧ W.cell? ⟨w.heap.size, 4, none⟩ = some (.int .i64 last)) (first | exact ⟨y30, y31, y32, y33, y34⟩ | exact ⟨y20, y21, y22, y23, y24⟩ | exact ⟨y10, y11, y12, y13, y14⟩ | exact ⟨qb0_5, qb1_5, qb2_5, qb3_5, qb4_5⟩ | simp [go_sem, *]) (first | (go_at_call 10; refine (HRI.out _).mono ?_; rintro e wr1 ⟨rfl, kr1⟩; (have HBr1 := Lib.hid (show Below w.heap.size w wr1 by first | exact HBz5.out.trans (kr1.mono HBz5.out.size) | exact (Below.drew HBz5.out).trans (kr1.mono HBz5.out.size) | exact (Below.drew (Below.drew HBz5.out)).trans (kr1.mono HBz5.out.size) | exact (Below.drew (Below.drew (Below.drew HBz5.out))).trans (kr1.mono HBz5.out.size))); (have Hbr1 := Lib.hid (show Has wr1 w.heap.size [.int .i64 size, .int .i64 m, .int .i64 sum, .int .i64 rng, .int .i64 last] 23 from Hbz5.out.of (kr1.block _ (by exact Hbz5.out.lt)))); (have y10 : wr1.cell? ⟨w.heap.size, 0, none⟩ = some (.int .i64 size) := Hbr1.out.cell 0); (have y11 : wr1.cell? ⟨w.heap.size, 1, none⟩ = some (.int .i64 m) := Hbr1.out.cell 1); (have y12 : wr1.cell? ⟨w.heap.size, 2, none⟩ = some (.int .i64 sum) := Hbr1.out.cell 2); (have y13 : wr1.cell? ⟨w.heap.size, 3, none⟩ = some (.int .i64 rng) := Hbr1.out.cell 3); (have y14 : wr1.cell? ⟨w.heap.size, 4, none⟩ = some (.int .i64 last) := Hbr1.out.cell 4)) | (go_at_call 11; refine (HRR.out _).mono ?_; rintro e wr2 ⟨rfl, kr2⟩; (have HBr2 := Lib.hid (show Below w.heap.size w wr2 by first | exact HBr1.out.trans (kr2.mono HBr1.out.size) | exact (Below.drew HBr1.out).trans (kr2.mono HBr1.out.size) | exact (Below.drew (Below.drew HBr1.out)).trans (kr2.mono HBr1.out.size) | exact (Below.drew (Below.drew (Below.drew HBr1.out))).trans (kr2.mono HBr1.out.size))); (have Hbr2 := Lib.hid (show Has wr2 w.heap.size [.int .i64 size, .int .i64 m, .int .i64 sum, .int .i64 rng, .int .i64 last] 23 from Hbr1.out.of (kr2.block _ (by exact Hbr1.out.lt)))); (have y20 : wr2.cell? ⟨w.heap.size, 0, none⟩ = some (.int .i64 size) := Hbr2.out.cell 0); (have y21 : wr2.cell? ⟨w.heap.size, 1, none⟩ = some (.int .i64 m) := Hbr2.out.cell 1); (have y22 : wr2.cell? ⟨w.heap.size, 2, none⟩ = some (.int .i64 sum) := Hbr2.out.cell 2); (have y23 : wr2.cell? ⟨w.heap.size, 3, none⟩ = some (.int .i64 rng) := Hbr2.out.cell 3); (have y24 : wr2.cell? ⟨w.heap.size, 4, none⟩ = some (.int .i64 last) := Hbr2.out.cell 4)) | (go_at_call 12; refine (HAL.out _).mono ?_; rintro e wr3 ⟨rfl, kr3⟩; (have HBr3 := Lib.hid (show Below w.heap.size w wr3 by first | exact HBr2.out.trans (kr3.mono HBr2.out.size) | exact (Below.drew HBr2.out).trans (kr3.mono HBr2.out.size) | exact (Below.drew (Below.drew HBr2.out)).trans (kr3.mono HBr2.out.size) | exact (Below.drew (Below.drew (Below.drew HBr2.out))).trans (kr3.mono HBr2.out.size))); (have Hbr3 := Lib.hid (show Has wr3 w.heap.size [.int .i64 size, .int .i64 m, .int .i64 sum, .int .i64 rng, .int .i64 last] 23 from Hbr2.out.of (kr3.block _ (by exact Hbr2.out.lt)))); (have y30 : wr3.cell? ⟨w.heap.size, 0, none⟩ = some (.int .i64 size) := Hbr3.out.cell 0); (have y31 : wr3.cell? ⟨w.heap.size, 1, none⟩ = some (.int .i64 m) := Hbr3.out.cell 1); (have y32 : wr3.cell? ⟨w.heap.size, 2, none⟩ = some (.int .i64 sum) := Hbr3.out.cell 2); (have y33 : wr3.cell? ⟨w.heap.size, 3, none⟩ = some (.int .i64 rng) := Hbr3.out.cell 3); (have y34 : wr3.cell? ⟨w.heap.size, 4, none⟩ = some (.int .i64 last) := Hbr3.out.cell 4)))
    have Hnr1 := Lib.hid (Hnz5.out.step kr1 rfl)
    have Har1 := Lib.hid (Haz5.out.step kr1 rfl)
    have Hzr1 := Lib.hid (Hzz5.out.step kr1 rfl)
    have Hnr2 := Lib.hid (Hnr1.out.step kr2 rfl)
    have Har2 := Lib.hid (Har1.out.step kr2 rfl)
    have Hzr2 := Lib.hid (Hzr1.out.step kr2 rfl)
    have Hnr3 := Lib.hid (Hnr2.out.step kr3 rfl)
    have Har3 := Lib.hid (Har2.out.step kr3 rfl)
    have Hzr3 := Lib.hid (Hzr2.out.step kr3 rfl)
    clear kr1 kr2 kr3 y10 y11 y12 y13 y14 y20 y21 y22 y23 y24 y30 y31 y32 y33 y34 qb0_5 qb1_5 qb2_5 qb3_5 qb4_5 lb_5
    have hqb := eqBas
    have qn0_8 : wr3.cell? ⟨wz1.heap.size, 0, none⟩ = some (.int .i64 0) := Hnr3.out.cell 0
    have qn1_8 : wr3.cell? ⟨wz1.heap.size, 1, none⟩ = some (.int .i64 0) := Hnr3.out.cell 1
    have qn2_8 : wr3.cell? ⟨wz1.heap.size, 2, none⟩ = some (.int .i64 0) := Hnr3.out.cell 2
    have qn3_8 : wr3.cell? ⟨wz1.heap.size, 3, none⟩ = some (.int .i64 0) := Hnr3.out.cell 3
    have qn4_8 : wr3.cell? ⟨wz1.heap.size, 4, none⟩ = some (.int .i64 0) := Hnr3.out.cell 4
    have ln_8 : wz1.heap.size < wr3.heap.size := Hnr3.out.lt
    have qz0_8 : wr3.cell? ⟨wz4.heap.size, 0, none⟩ = some (.int .i64 0) := Hzr3.out.cell 0
    have qz1_8 : wr3.cell? ⟨wz4.heap.size, 1, none⟩ = some (.int .i64 0) := Hzr3.out.cell 1
    have qz2_8 : wr3.cell? ⟨wz4.heap.size, 2, none⟩ = some (.int .i64 0) := Hzr3.out.cell 2
    have qz3_8 : wr3.cell? ⟨wz4.heap.size, 3, none⟩ = some (.int .i64 0) := Hzr3.out.cell 3
    have qz4_8 : wr3.cell? ⟨wz4.heap.size, 4, none⟩ = some (.int .i64 0) := Hzr3.out.cell 4
    have lz_8 : wz4.heap.size < wr3.heap.size := Hzr3.out.lt
    have qb0_8 : wr3.cell? ⟨w.heap.size, 0, none⟩ = some (.int .i64 size) := Hbr3.out.cell 0
    have qb1_8 : wr3.cell? ⟨w.heap.size, 1, none⟩ = some (.int .i64 m) := Hbr3.out.cell 1
    have qb2_8 : wr3.cell? ⟨w.heap.size, 2, none⟩ = some (.int .i64 sum) := Hbr3.out.cell 2
    have qb3_8 : wr3.cell? ⟨w.heap.size, 3, none⟩ = some (.int .i64 rng) := Hbr3.out.cell 3
    have qb4_8 : wr3.cell? ⟨w.heap.size, 4, none⟩ = some (.int .i64 last) := Hbr3.out.cell 4
    have lb_8 : w.heap.size < wr3.heap.size := Hbr3.out.lt
    have hcz9 := HRR.out wr3
    go_wp2_with fail
    refine hcz9.mono ?_
    rintro e wz9 ⟨rfl, kz9⟩
    clear hcz9 qn0_8 qn1_8 qn2_8 qn3_8 qn4_8 ln_8 qz0_8 qz1_8 qz2_8 qz3_8 qz4_8 lz_8 qb0_8 qb1_8 qb2_8 qb3_8 qb4_8 lb_8
    have HBz9 := Lib.hid (HBr3.out.trans (kz9.mono (Nat.le_trans hbase HBr3.out.size)))
    have Hbz9 := Lib.hid (Hbr3.out.call kz9)
    have Hnz9 := Lib.hid (Hnr3.out.call kz9)
    have Haz9 := Lib.hid (Har3.out.call kz9)
    have Hzz9 := Lib.hid (Hzr3.out.call kz9)
    clear kz9
    have qb0_9 : wz9.cell? ⟨w.heap.size, 0, none⟩ = some (.int .i64 size) := Hbz9.out.cell 0
    have qb1_9 : wz9.cell? ⟨w.heap.size, 1, none⟩ = some (.int .i64 m) := Hbz9.out.cell 1
    have qb2_9 : wz9.cell? ⟨w.heap.size, 2, none⟩ = some (.int .i64 sum) := Hbz9.out.cell 2
    have qb3_9 : wz9.cell? ⟨w.heap.size, 3, none⟩ = some (.int .i64 rng) := Hbz9.out.cell 3
    have qb4_9 : wz9.cell? ⟨w.heap.size, 4, none⟩ = some (.int .i64 last) := Hbz9.out.cell 4
    have lb_9 : w.heap.size < wz9.heap.size := Hbz9.out.lt
    have hcz10 := HROW.out wz9 (HR.out.below HBz9.out)
    go_wp2_with fail
    refine hcz10.mono ?_
    rintro e wz10 ⟨rfl, kz10⟩
    clear hcz10 qb0_9 qb1_9 qb2_9 qb3_9 qb4_9 lb_9
    have HBz10 := Lib.hid (HBz9.out.trans (kz10.mono (Nat.le_trans hbase HBz9.out.size)))
    have Hbz10 := Lib.hid (Hbz9.out.call kz10)
    have Hnz10 := Lib.hid (Hnz9.out.call kz10)
    have Haz10 := Lib.hid (Haz9.out.call kz10)
    have Hzz10 := Lib.hid (Hzz9.out.call kz10)
    clear kz10
    have qb0_10 : wz10.cell? ⟨w.heap.size, 0, none⟩ = some (.int .i64 size) := Hbz10.out.cell 0
    have qb1_10 : wz10.cell? ⟨w.heap.size, 1, none⟩ = some (.int .i64 m) := Hbz10.out.cell 1
    have qb2_10 : wz10.cell? ⟨w.heap.size, 2, none⟩ = some (.int .i64 sum) := Hbz10.out.cell 2
    have qb3_10 : wz10.cell? ⟨w.heap.size, 3, none⟩ = some (.int .i64 rng) := Hbz10.out.cell 3
    have qb4_10 : wz10.cell? ⟨w.heap.size, 4, none⟩ = some (.int .i64 last) := Hbz10.out.cell 4
    have lb_10 : w.heap.size < wz10.heap.size := Hbz10.out.lt
    have qa0_10 : wz10.cell? ⟨wz3.heap.size, 0, none⟩ = some (.int .i64 0) := Haz10.out.cell 0
    have qa1_10 : wz10.cell? ⟨wz3.heap.size, 1, none⟩ = some (.int .i64 0) := Haz10.out.cell 1
    have qa2_10 : wz10.cell? ⟨wz3.heap.size, 2, none⟩ = some (.int .i64 0) := Haz10.out.cell 2
    have qa3_10 : wz10.cell? ⟨wz3.heap.size, 3, none⟩ = some (.int .i64 0) := Haz10.out.cell 3
    have qa4_10 : wz10.cell? ⟨wz3.heap.size, 4, none⟩ = some (.int .i64 0) := Haz10.out.cell 4
    have la_10 : wz3.heap.size < wz10.heap.size := Haz10.out.lt
    have qz0_10 : wz10.cell? ⟨wz4.heap.size, 0, none⟩ = some (.int .i64 0) := Hzz10.out.cell 0
    have qz1_10 : wz10.cell? ⟨wz4.heap.size, 1, none⟩ = some (.int .i64 0) := Hzz10.out.cell 1
    have qz2_10 : wz10.cell? ⟨wz4.heap.size, 2, none⟩ = some (.int .i64 0) := Hzz10.out.cell 2
    have qz3_10 : wz10.cell? ⟨wz4.heap.size, 3, none⟩ = some (.int .i64 0) := Hzz10.out.cell 3
    have qz4_10 : wz10.cell? ⟨wz4.heap.size, 4, none⟩ = some (.int .i64 0) := Hzz10.out.cell 4
    have lz_10 : wz4.heap.size < wz10.heap.size := Hzz10.out.lt
    go_wp2
    go_ret
    exact ⟨rfl, HBz10.out⟩
  · have s1 : ¬ n < 1 := by omega
    go_enter Try.func3, Try.ntmps3
    go_upto_region 1 with fail
    rw [HW1.out]
    go_upto_region 2 with fail
    clear hsl
    have qb0_0 : w1.cell? ⟨w.heap.size, 0, none⟩ = some (.int .i64 size) := HX1.out.cell 0
    have qb1_0 : w1.cell? ⟨w.heap.size, 1, none⟩ = some (.int .i64 m) := HX1.out.cell 1
    have qb2_0 : w1.cell? ⟨w.heap.size, 2, none⟩ = some (.int .i64 sum) := HX1.out.cell 2
    have qb3_0 : w1.cell? ⟨w.heap.size, 3, none⟩ = some (.int .i64 rng) := HX1.out.cell 3
    have qb4_0 : w1.cell? ⟨w.heap.size, 4, none⟩ = some (.int .i64 last) := HX1.out.cell 4
    have lb_0 : w.heap.size < w1.heap.size := HX1.out.lt
    have hcz1 := HNEW.out w1
    go_wp2_with fail
    refine hcz1.mono ?_
    rintro e wz1 ⟨rfl, kz1⟩
    clear hcz1 qb0_0 qb1_0 qb2_0 qb3_0 qb4_0 lb_0
    have HBz1 := Lib.hid (HB1.out.trans (kz1.mono (Nat.le_trans hbase HB1.out.size)))
    have Hbz1 := Lib.hid (HX1.out.call kz1)
    clear kz1
    obtain ⟨wz2, hwz2⟩ : ∃ wz2, wz1.alloc (.cells #[.int .i64 0, .int .i64 0, .int .i64 0, .int .i64 0, .int .i64 0] 23) = wz2 := ⟨_, rfl⟩
    have kz2 : Below wz1.heap.size wz1 wz2 := by rw [← hwz2]; exact (Below.refl _ _).alloc (Nat.le_refl _) _
    have Hnz2 := Lib.hid (show Has wz2 wz1.heap.size [.int .i64 0, .int .i64 0, .int .i64 0, .int .i64 0, .int .i64 0] 23 by rw [← hwz2]; exact Has.new _ _ _)
    have HWz2 := Lib.hid hwz2
    clear hwz2
    have HBz2 := Lib.hid (HBz1.out.trans (kz2.mono (Nat.le_trans hbase HBz1.out.size)))
    have Hbz2 := Lib.hid (Hbz1.out.call kz2)
    clear kz2
    have qb0_2 : wz1.cell? ⟨w.heap.size, 0, none⟩ = some (.int .i64 size) := Hbz1.out.cell 0
    have qb1_2 : wz1.cell? ⟨w.heap.size, 1, none⟩ = some (.int .i64 m) := Hbz1.out.cell 1
    have qb2_2 : wz1.cell? ⟨w.heap.size, 2, none⟩ = some (.int .i64 sum) := Hbz1.out.cell 2
    have qb3_2 : wz1.cell? ⟨w.heap.size, 3, none⟩ = some (.int .i64 rng) := Hbz1.out.cell 3
    have qb4_2 : wz1.cell? ⟨w.heap.size, 4, none⟩ = some (.int .i64 last) := Hbz1.out.cell 4
    have lb_2 : w.heap.size < wz1.heap.size := Hbz1.out.lt
    have hcz3 := HTAKE.out wz2 (HR.out.below HBz2.out)
    go_wp2_with fail
    rw [HWz2.out]
    refine hcz3.mono ?_
    rintro e wz3 ⟨rfl, kz3⟩
    clear hcz3 qb0_2 qb1_2 qb2_2 qb3_2 qb4_2 lb_2
    have HBz3 := Lib.hid (HBz2.out.trans (kz3.mono (Nat.le_trans hbase HBz2.out.size)))
    have Hbz3 := Lib.hid (Hbz2.out.call kz3)
    have Hnz3 := Lib.hid (Hnz2.out.call kz3)
    clear kz3
    obtain ⟨wz4, hwz4⟩ : ∃ wz4, wz3.alloc (.cells #[.int .i64 0, .int .i64 0, .int .i64 0, .int .i64 0, .int .i64 0] 23) = wz4 := ⟨_, rfl⟩
    have kz4 : Below wz3.heap.size wz3 wz4 := by rw [← hwz4]; exact (Below.refl _ _).alloc (Nat.le_refl _) _
    have Haz4 := Lib.hid (show Has wz4 wz3.heap.size [.int .i64 0, .int .i64 0, .int .i64 0, .int .i64 0, .int .i64 0] 23 by rw [← hwz4]; exact Has.new _ _ _)
    have HWz4 := Lib.hid hwz4
    clear hwz4
    have HBz4 := Lib.hid (HBz3.out.trans (kz4.mono (Nat.le_trans hbase HBz3.out.size)))
    have Hbz4 := Lib.hid (Hbz3.out.call kz4)
    have Hnz4 := Lib.hid (Hnz3.out.call kz4)
    clear kz4
    go_upto_region 4 with fail
    rw [HWz4.out]
    obtain ⟨wz5, hwz5⟩ : ∃ wz5, wz4.alloc (.cells #[.int .i64 0, .int .i64 0, .int .i64 0, .int .i64 0, .int .i64 0] 23) = wz5 := ⟨_, rfl⟩
    have kz5 : Below wz4.heap.size wz4 wz5 := by rw [← hwz5]; exact (Below.refl _ _).alloc (Nat.le_refl _) _
    have Hzz5 := Lib.hid (show Has wz5 wz4.heap.size [.int .i64 0, .int .i64 0, .int .i64 0, .int .i64 0, .int .i64 0] 23 by rw [← hwz5]; exact Has.new _ _ _)
    have HWz5 := Lib.hid hwz5
    clear hwz5
    have HBz5 := Lib.hid (HBz4.out.trans (kz5.mono (Nat.le_trans hbase HBz4.out.size)))
    have Hbz5 := Lib.hid (Hbz4.out.call kz5)
    have Hnz5 := Lib.hid (Hnz4.out.call kz5)
    have Haz5 := Lib.hid (Haz4.out.call kz5)
    clear kz5
    go_upto_region 5 with fail
    rw [HWz5.out]
    have qb0_5 : wz5.cell? ⟨w.heap.size, 0, none⟩ = some (.int .i64 size) := Hbz5.out.cell 0
    have qb1_5 : wz5.cell? ⟨w.heap.size, 1, none⟩ = some (.int .i64 m) := Hbz5.out.cell 1
    have qb2_5 : wz5.cell? ⟨w.heap.size, 2, none⟩ = some (.int .i64 sum) := Hbz5.out.cell 2
    have qb3_5 : wz5.cell? ⟨w.heap.size, 3, none⟩ = some (.int .i64 rng) := Hbz5.out.cell 3
    have qb4_5 : wz5.cell? ⟨w.heap.size, 4, none⟩ = some (.int .i64 last) := Hbz5.out.cell 4
    have lb_5 : w.heap.size < wz5.heap.size := Hbz5.out.lt
    go_region_held3 (fun W => W.cell? ⟨w.heap.size, 0, none⟩ = some (.int .i64 size) ∧ W.cell? ⟨w.heap.size, 1, none⟩ = some (.int .i64 m) ∧ W.cell? ⟨w.heap.size, 2, none⟩ = some (.int .i64 sum) ∧ W.cell? ⟨w.heap.size, 3, none⟩ = some (.int .i64 rng) ∧ W.cell? ⟨w.heap.size, 4, none⟩ = some (.int .i64 last)) (first | exact ⟨y30, y31, y32, y33, y34⟩ | exact ⟨y20, y21, y22, y23, y24⟩ | exact ⟨y10, y11, y12, y13, y14⟩ | exact ⟨qb0_5, qb1_5, qb2_5, qb3_5, qb4_5⟩ | simp [go_sem, *]) (first | (go_at_call 10; refine (HRI.out _).mono ?_; rintro e wr1 ⟨rfl, kr1⟩; (have HBr1 := Lib.hid (show Below w.heap.size w wr1 by first | exact HBz5.out.trans (kr1.mono HBz5.out.size) | exact (Below.drew HBz5.out).trans (kr1.mono HBz5.out.size) | exact (Below.drew (Below.drew HBz5.out)).trans (kr1.mono HBz5.out.size) | exact (Below.drew (Below.drew (Below.drew HBz5.out))).trans (kr1.mono HBz5.out.size))); (have Hbr1 := Lib.hid (show Has wr1 w.heap.size [.int .i64 size, .int .i64 m, .int .i64 sum, .int .i64 rng, .int .i64 last] 23 from Hbz5.out.of (kr1.block _ (by exact Hbz5.out.lt)))); (have y10 : wr1.cell? ⟨w.heap.size, 0, none⟩ = some (.int .i64 size) := Hbr1.out.cell 0); (have y11 : wr1.cell? ⟨w.heap.size, 1, none⟩ = some (.int .i64 m) := Hbr1.out.cell 1); (have y12 : wr1.cell? ⟨w.heap.size, 2, none⟩ = some (.int .i64 sum) := Hbr1.out.cell 2); (have y13 : wr1.cell? ⟨w.heap.size, 3, none⟩ = some (.int .i64 rng) := Hbr1.out.cell 3); (have y14 : wr1.cell? ⟨w.heap.size, 4, none⟩ = some (.int .i64 last) := Hbr1.out.cell 4)) | (go_at_call 11; refine (HRR.out _).mono ?_; rintro e wr2 ⟨rfl, kr2⟩; (have HBr2 := Lib.hid (show Below w.heap.size w wr2 by first | exact HBr1.out.trans (kr2.mono HBr1.out.size) | exact (Below.drew HBr1.out).trans (kr2.mono HBr1.out.size) | exact (Below.drew (Below.drew HBr1.out)).trans (kr2.mono HBr1.out.size) | exact (Below.drew (Below.drew (Below.drew HBr1.out))).trans (kr2.mono HBr1.out.size))); (have Hbr2 := Lib.hid (show Has wr2 w.heap.size [.int .i64 size, .int .i64 m, .int .i64 sum, .int .i64 rng, .int .i64 last] 23 from Hbr1.out.of (kr2.block _ (by exact Hbr1.out.lt)))); (have y20 : wr2.cell? ⟨w.heap.size, 0, none⟩ = some (.int .i64 size) := Hbr2.out.cell 0); (have y21 : wr2.cell? ⟨w.heap.size, 1, none⟩ = some (.int .i64 m) := Hbr2.out.cell 1); (have y22 : wr2.cell? ⟨w.heap.size, 2, none⟩ = some (.int .i64 sum) := Hbr2.out.cell 2); (have y23 : wr2.cell? ⟨w.heap.size, 3, none⟩ = some (.int .i64 rng) := Hbr2.out.cell 3); (have y24 : wr2.cell? ⟨w.heap.size, 4, none⟩ = some (.int .i64 last) := Hbr2.out.cell 4)) | (go_at_call 12; refine (HAL.out _).mono ?_; rintro e wr3 ⟨rfl, kr3⟩; (have HBr3 := Lib.hid (show Below w.heap.size w wr3 by first | exact HBr2.out.trans (kr3.mono HBr2.out.size) | exact (Below.drew HBr2.out).trans (kr3.mono HBr2.out.size) | exact (Below.drew (Below.drew HBr2.out)).trans (kr3.mono HBr2.out.size) | exact (Below.drew (Below.drew (Below.drew HBr2.out))).trans (kr3.mono HBr2.out.size))); (have Hbr3 := Lib.hid (show Has wr3 w.heap.size [.int .i64 size, .int .i64 m, .int .i64 sum, .int .i64 rng, .int .i64 last] 23 from Hbr2.out.of (kr3.block _ (by exact Hbr2.out.lt)))); (have y30 : wr3.cell? ⟨w.heap.size, 0, none⟩ = some (.int .i64 size) := Hbr3.out.cell 0); (have y31 : wr3.cell? ⟨w.heap.size, 1, none⟩ = some (.int .i64 m) := Hbr3.out.cell 1); (have y32 : wr3.cell? ⟨w.heap.size, 2, none⟩ = some (.int .i64 sum) := Hbr3.out.cell 2); (have y33 : wr3.cell? ⟨w.heap.size, 3, none⟩ = some (.int .i64 rng) := Hbr3.out.cell 3); (have y34 : wr3.cell? ⟨w.heap.size, 4, none⟩ = some (.int .i64 last) := Hbr3.out.cell 4)))
    have Hnr1 := Lib.hid (Hnz5.out.step kr1 rfl)
    have Har1 := Lib.hid (Haz5.out.step kr1 rfl)
    have Hzr1 := Lib.hid (Hzz5.out.step kr1 rfl)
    have Hnr2 := Lib.hid (Hnr1.out.step kr2 rfl)
    have Har2 := Lib.hid (Har1.out.step kr2 rfl)
    have Hzr2 := Lib.hid (Hzr1.out.step kr2 rfl)
    have Hnr3 := Lib.hid (Hnr2.out.step kr3 rfl)
    have Har3 := Lib.hid (Har2.out.step kr3 rfl)
    have Hzr3 := Lib.hid (Hzr2.out.step kr3 rfl)
    clear kr1 kr2 kr3 y10 y11 y12 y13 y14 y20 y21 y22 y23 y24 y30 y31 y32 y33 y34 qb0_5 qb1_5 qb2_5 qb3_5 qb4_5 lb_5
    have hqb := eqBas
    have qn0_8 : wr3.cell? ⟨wz1.heap.size, 0, none⟩ = some (.int .i64 0) := Hnr3.out.cell 0
    have qn1_8 : wr3.cell? ⟨wz1.heap.size, 1, none⟩ = some (.int .i64 0) := Hnr3.out.cell 1
    have qn2_8 : wr3.cell? ⟨wz1.heap.size, 2, none⟩ = some (.int .i64 0) := Hnr3.out.cell 2
    have qn3_8 : wr3.cell? ⟨wz1.heap.size, 3, none⟩ = some (.int .i64 0) := Hnr3.out.cell 3
    have qn4_8 : wr3.cell? ⟨wz1.heap.size, 4, none⟩ = some (.int .i64 0) := Hnr3.out.cell 4
    have ln_8 : wz1.heap.size < wr3.heap.size := Hnr3.out.lt
    have qz0_8 : wr3.cell? ⟨wz4.heap.size, 0, none⟩ = some (.int .i64 0) := Hzr3.out.cell 0
    have qz1_8 : wr3.cell? ⟨wz4.heap.size, 1, none⟩ = some (.int .i64 0) := Hzr3.out.cell 1
    have qz2_8 : wr3.cell? ⟨wz4.heap.size, 2, none⟩ = some (.int .i64 0) := Hzr3.out.cell 2
    have qz3_8 : wr3.cell? ⟨wz4.heap.size, 3, none⟩ = some (.int .i64 0) := Hzr3.out.cell 3
    have qz4_8 : wr3.cell? ⟨wz4.heap.size, 4, none⟩ = some (.int .i64 0) := Hzr3.out.cell 4
    have lz_8 : wz4.heap.size < wr3.heap.size := Hzr3.out.lt
    have qb0_8 : wr3.cell? ⟨w.heap.size, 0, none⟩ = some (.int .i64 size) := Hbr3.out.cell 0
    have qb1_8 : wr3.cell? ⟨w.heap.size, 1, none⟩ = some (.int .i64 m) := Hbr3.out.cell 1
    have qb2_8 : wr3.cell? ⟨w.heap.size, 2, none⟩ = some (.int .i64 sum) := Hbr3.out.cell 2
    have qb3_8 : wr3.cell? ⟨w.heap.size, 3, none⟩ = some (.int .i64 rng) := Hbr3.out.cell 3
    have qb4_8 : wr3.cell? ⟨w.heap.size, 4, none⟩ = some (.int .i64 last) := Hbr3.out.cell 4
    have lb_8 : w.heap.size < wr3.heap.size := Hbr3.out.lt
    have hcz9 := HRR.out wr3
    go_wp2_with fail
    refine hcz9.mono ?_
    rintro e wz9 ⟨rfl, kz9⟩
    clear hcz9 qn0_8 qn1_8 qn2_8 qn3_8 qn4_8 ln_8 qz0_8 qz1_8 qz2_8 qz3_8 qz4_8 lz_8 qb0_8 qb1_8 qb2_8 qb3_8 qb4_8 lb_8
    have HBz9 := Lib.hid (HBr3.out.trans (kz9.mono (Nat.le_trans hbase HBr3.out.size)))
    have Hbz9 := Lib.hid (Hbr3.out.call kz9)
    have Hnz9 := Lib.hid (Hnr3.out.call kz9)
    have Haz9 := Lib.hid (Har3.out.call kz9)
    have Hzz9 := Lib.hid (Hzr3.out.call kz9)
    clear kz9
    have qb0_9 : wz9.cell? ⟨w.heap.size, 0, none⟩ = some (.int .i64 size) := Hbz9.out.cell 0
    have qb1_9 : wz9.cell? ⟨w.heap.size, 1, none⟩ = some (.int .i64 m) := Hbz9.out.cell 1
    have qb2_9 : wz9.cell? ⟨w.heap.size, 2, none⟩ = some (.int .i64 sum) := Hbz9.out.cell 2
    have qb3_9 : wz9.cell? ⟨w.heap.size, 3, none⟩ = some (.int .i64 rng) := Hbz9.out.cell 3
    have qb4_9 : wz9.cell? ⟨w.heap.size, 4, none⟩ = some (.int .i64 last) := Hbz9.out.cell 4
    have lb_9 : w.heap.size < wz9.heap.size := Hbz9.out.lt
    have hcz10 := HROW.out wz9 (HR.out.below HBz9.out)
    go_wp2_with fail
    refine hcz10.mono ?_
    rintro e wz10 ⟨rfl, kz10⟩
    clear hcz10 qb0_9 qb1_9 qb2_9 qb3_9 qb4_9 lb_9
    have HBz10 := Lib.hid (HBz9.out.trans (kz10.mono (Nat.le_trans hbase HBz9.out.size)))
    have Hbz10 := Lib.hid (Hbz9.out.call kz10)
    have Hnz10 := Lib.hid (Hnz9.out.call kz10)
    have Haz10 := Lib.hid (Haz9.out.call kz10)
    have Hzz10 := Lib.hid (Hzz9.out.call kz10)
    clear kz10
    have qb0_10 : wz10.cell? ⟨w.heap.size, 0, none⟩ = some (.int .i64 size) := Hbz10.out.cell 0
    have qb1_10 : wz10.cell? ⟨w.heap.size, 1, none⟩ = some (.int .i64 m) := Hbz10.out.cell 1
    have qb2_10 : wz10.cell? ⟨w.heap.size, 2, none⟩ = some (.int .i64 sum) := Hbz10.out.cell 2
    have qb3_10 : wz10.cell? ⟨w.heap.size, 3, none⟩ = some (.int .i64 rng) := Hbz10.out.cell 3
    have qb4_10 : wz10.cell? ⟨w.heap.size, 4, none⟩ = some (.int .i64 last) := Hbz10.out.cell 4
    have lb_10 : w.heap.size < wz10.heap.size := Hbz10.out.lt
    have qa0_10 : wz10.cell? ⟨wz3.heap.size, 0, none⟩ = some (.int .i64 0) := Haz10.out.cell 0
    have qa1_10 : wz10.cell? ⟨wz3.heap.size, 1, none⟩ = some (.int .i64 0) := Haz10.out.cell 1
    have qa2_10 : wz10.cell? ⟨wz3.heap.size, 2, none⟩ = some (.int .i64 0) := Haz10.out.cell 2
    have qa3_10 : wz10.cell? ⟨wz3.heap.size, 3, none⟩ = some (.int .i64 0) := Haz10.out.cell 3
    have qa4_10 : wz10.cell? ⟨wz3.heap.size, 4, none⟩ = some (.int .i64 0) := Haz10.out.cell 4
    have la_10 : wz3.heap.size < wz10.heap.size := Haz10.out.lt
    have qz0_10 : wz10.cell? ⟨wz4.heap.size, 0, none⟩ = some (.int .i64 0) := Hzz10.out.cell 0
    have qz1_10 : wz10.cell? ⟨wz4.heap.size, 1, none⟩ = some (.int .i64 0) := Hzz10.out.cell 1
    have qz2_10 : wz10.cell? ⟨wz4.heap.size, 2, none⟩ = some (.int .i64 0) := Hzz10.out.cell 2
    have qz3_10 : wz10.cell? ⟨wz4.heap.size, 3, none⟩ = some (.int .i64 0) := Hzz10.out.cell 3
    have qz4_10 : wz10.cell? ⟨wz4.heap.size, 4, none⟩ = some (.int .i64 0) := Hzz10.out.cell 4
    have lz_10 : wz4.heap.size < wz10.heap.size := Hzz10.out.lt
    go_wp2
    go_ret
    exact ⟨rfl, HBz10.out⟩
set_option linter.unusedSimpArgs false in
set_option linter.unusedVariables false in
set_option maxHeartbeats 8000000 in
set_option maxRecDepth 100000 in
theorem takes15_0ok (n size m sum rng last ta tb tc td te : Int) (l : List Int) (ao : Option Addr) (k cap n0 : Nat) (w : World) (hk : k = min n0 12) (hcap : n0 ≤ cap) (hr : ReadsI w (.slice ao k cap) l) (s12 : n < 1 ∨ 10 < n) (g5 : (m == 25) = false)
    (HNEW : Hid (∀ W, Calls Try.prog 8 #[.int .i64 n] W fun e w' => e = .returned (.tuple #[.agg #[.int .i64 0, .int .i64 0, .int .i64 0, .int .i64 0, .int .i64 0], .int .i64 1]) ∧ Below W.heap.size W w'))
    (HTAKE : Hid (∀ W, ReadsI W (.slice ao k cap) l → Calls Try.prog 9 #[.agg #[.int .i64 size, .int .i64 m, .int .i64 sum, .int .i64 rng, .int .i64 last], .slice ao k cap] W fun e w' => e = .returned (.tuple #[.agg #[.int .i64 ta, .int .i64 tb, .int .i64 tc, .int .i64 td, .int .i64 te], .int .i64 0]) ∧ Below W.heap.size W w'))
    (HRI : Hid (∀ W, Calls Try.prog 10 #[.agg #[.int .i64 size, .int .i64 m, .int .i64 sum, .int .i64 rng, .int .i64 last]] W fun e w' => e = .returned (.bool true) ∧ Below W.heap.size W w'))
    (HRR : Hid (∀ W, Calls Try.prog 11 #[.agg #[.int .i64 size, .int .i64 m, .int .i64 sum, .int .i64 rng, .int .i64 last]] W fun e w' => e = .returned (.bool true) ∧ Below W.heap.size W w'))
    (HAL : Hid (∀ W, Calls Try.prog 12 #[] W fun e w' => e = .returned (.bool true) ∧ Below W.heap.size W w'))
    (HROW : Hid (∀ W, ReadsI W (.slice ao k cap) l → Calls Try.prog 13 #[.agg #[.int .i64 size, .int .i64 m, .int .i64 sum, .int .i64 rng, .int .i64 last], .slice ao k cap] W fun e w' => e = .returned (.bool true) ∧ Below W.heap.size W w'))
    (HRT : Hid (∀ W, ReadsI W (.slice ao k cap) l → Calls Try.prog 14 #[.agg #[.int .i64 size, .int .i64 m, .int .i64 sum, .int .i64 rng, .int .i64 last], .slice ao k cap] W fun e w' => e = .returned (.agg #[.int .i64 ta, .int .i64 tb, .int .i64 tc, .int .i64 td, .int .i64 te]) ∧ Below W.heap.size W w'))
    :
    Calls Try.prog 3 #[.int .i64 n, .agg #[.int .i64 size, .int .i64 m, .int .i64 sum, .int .i64 rng, .int .i64 last], .slice ao n0 cap] w fun e w' => e = .returned (.bool true) ∧ Below w.heap.size w w' := by
  have hsl : ∀ W, (Instr.slice 24 (.slice ao n0 cap) none (some (.int .i64 (min (n0 : Int) 12))) none).run Try.prog W = .ok (.slice ao k cap) W := fun W => by
    have := slice_hi ao n0 cap k (by omega) W
    rw [show (k : Int) = min (n0 : Int) 12 by omega] at this
    exact this
  obtain ⟨w1, hw1⟩ : ∃ w1, w.alloc (.cells #[.int .i64 size, .int .i64 m, .int .i64 sum, .int .i64 rng, .int .i64 last] 23) = w1 := ⟨_, rfl⟩
  have HX1 := Lib.hid (show Has w1 w.heap.size [.int .i64 size, .int .i64 m, .int .i64 sum, .int .i64 rng, .int .i64 last] 23 by rw [← hw1]; exact Has.new w _ _)
  have HB1 := Lib.hid (show Below w.heap.size w w1 by rw [← hw1]; exact (Below.refl _ _).alloc (Nat.le_refl _) _)
  have HW1 := Lib.hid hw1
  have HR := Lib.hid hr
  have hbase := Nat.le_refl w.heap.size
  clear hw1 hk hr
  rcases s12 with s1 | s2
  · go_enter Try.func3, Try.ntmps3
    go_upto_region 1 with fail
    rw [HW1.out]
    go_upto_region 2 with fail
    clear hsl
    have qb0_0 : w1.cell? ⟨w.heap.size, 0, none⟩ = some (.int .i64 size) := HX1.out.cell 0
    have qb1_0 : w1.cell? ⟨w.heap.size, 1, none⟩ = some (.int .i64 m) := HX1.out.cell 1
    have qb2_0 : w1.cell? ⟨w.heap.size, 2, none⟩ = some (.int .i64 sum) := HX1.out.cell 2
    have qb3_0 : w1.cell? ⟨w.heap.size, 3, none⟩ = some (.int .i64 rng) := HX1.out.cell 3
    have qb4_0 : w1.cell? ⟨w.heap.size, 4, none⟩ = some (.int .i64 last) := HX1.out.cell 4
    have lb_0 : w.heap.size < w1.heap.size := HX1.out.lt
    have hcz1 := HNEW.out w1
    go_wp2_with fail
    refine hcz1.mono ?_
    rintro e wz1 ⟨rfl, kz1⟩
    clear hcz1 qb0_0 qb1_0 qb2_0 qb3_0 qb4_0 lb_0
    have HBz1 := Lib.hid (HB1.out.trans (kz1.mono (Nat.le_trans hbase HB1.out.size)))
    have Hbz1 := Lib.hid (HX1.out.call kz1)
    clear kz1
    obtain ⟨wz2, hwz2⟩ : ∃ wz2, wz1.alloc (.cells #[.int .i64 0, .int .i64 0, .int .i64 0, .int .i64 0, .int .i64 0] 23) = wz2 := ⟨_, rfl⟩
    have kz2 : Below wz1.heap.size wz1 wz2 := by rw [← hwz2]; exact (Below.refl _ _).alloc (Nat.le_refl _) _
    have Hnz2 := Lib.hid (show Has wz2 wz1.heap.size [.int .i64 0, .int .i64 0, .int .i64 0, .int .i64 0, .int .i64 0] 23 by rw [← hwz2]; exact Has.new _ _ _)
    have HWz2 := Lib.hid hwz2
    clear hwz2
    have HBz2 := Lib.hid (HBz1.out.trans (kz2.mono (Nat.le_trans hbase HBz1.out.size)))
    have Hbz2 := Lib.hid (Hbz1.out.call kz2)
    clear kz2
    have qb0_2 : wz1.cell? ⟨w.heap.size, 0, none⟩ = some (.int .i64 size) := Hbz1.out.cell 0
    have qb1_2 : wz1.cell? ⟨w.heap.size, 1, none⟩ = some (.int .i64 m) := Hbz1.out.cell 1
    have qb2_2 : wz1.cell? ⟨w.heap.size, 2, none⟩ = some (.int .i64 sum) := Hbz1.out.cell 2
    have qb3_2 : wz1.cell? ⟨w.heap.size, 3, none⟩ = some (.int .i64 rng) := Hbz1.out.cell 3
    have qb4_2 : wz1.cell? ⟨w.heap.size, 4, none⟩ = some (.int .i64 last) := Hbz1.out.cell 4
    have lb_2 : w.heap.size < wz1.heap.size := Hbz1.out.lt
    have hcz3 := HTAKE.out wz2 (HR.out.below HBz2.out)
    go_wp2_with fail
    rw [HWz2.out]
    refine hcz3.mono ?_
    rintro e wz3 ⟨rfl, kz3⟩
    clear hcz3 qb0_2 qb1_2 qb2_2 qb3_2 qb4_2 lb_2
    have HBz3 := Lib.hid (HBz2.out.trans (kz3.mono (Nat.le_trans hbase HBz2.out.size)))
    have Hbz3 := Lib.hid (Hbz2.out.call kz3)
    have Hnz3 := Lib.hid (Hnz2.out.call kz3)
    clear kz3
    obtain ⟨wz4, hwz4⟩ : ∃ wz4, wz3.alloc (.cells #[.int .i64 ta, .int .i64 tb, .int .i64 tc, .int .i64 td, .int .i64 te] 23) = wz4 := ⟨_, rfl⟩
    have kz4 : Below wz3.heap.size wz3 wz4 := by rw [← hwz4]; exact (Below.refl _ _).alloc (Nat.le_refl _) _
    have Haz4 := Lib.hid (show Has wz4 wz3.heap.size [.int .i64 ta, .int .i64 tb, .int .i64 tc, .int .i64 td, .int .i64 te] 23 by rw [← hwz4]; exact Has.new _ _ _)
    have HWz4 := Lib.hid hwz4
    clear hwz4
    have HBz4 := Lib.hid (HBz3.out.trans (kz4.mono (Nat.le_trans hbase HBz3.out.size)))
    have Hbz4 := Lib.hid (Hbz3.out.call kz4)
    have Hnz4 := Lib.hid (Hnz3.out.call kz4)
    clear kz4
    go_upto_region 4 with fail
    rw [HWz4.out]
    obtain ⟨wz5, hwz5⟩ : ∃ wz5, wz4.alloc (.cells #[.int .i64 0, .int .i64 0, .int .i64 0, .int .i64 0, .int .i64 0] 23) = wz5 := ⟨_, rfl⟩
    have kz5 : Below wz4.heap.size wz4 wz5 := by rw [← hwz5]; exact (Below.refl _ _).alloc (Nat.le_refl _) _
    have Hzz5 := Lib.hid (show Has wz5 wz4.heap.size [.int .i64 0, .int .i64 0, .int .i64 0, .int .i64 0, .int .i64 0] 23 by rw [← hwz5]; exact Has.new _ _ _)
    have HWz5 := Lib.hid hwz5
    clear hwz5
    have HBz5 := Lib.hid (HBz4.out.trans (kz5.mono (Nat.le_trans hbase HBz4.out.size)))
    have Hbz5 := Lib.hid (Hbz4.out.call kz5)
    have Hnz5 := Lib.hid (Hnz4.out.call kz5)
    have Haz5 := Lib.hid (Haz4.out.call kz5)
    clear kz5
    go_upto_region 5 with fail
    rw [HWz5.out]
    have qb0_5 : wz5.cell? ⟨w.heap.size, 0, none⟩ = some (.int .i64 size) := Hbz5.out.cell 0
    have qb1_5 : wz5.cell? ⟨w.heap.size, 1, none⟩ = some (.int .i64 m) := Hbz5.out.cell 1
    have qb2_5 : wz5.cell? ⟨w.heap.size, 2, none⟩ = some (.int .i64 sum) := Hbz5.out.cell 2
    have qb3_5 : wz5.cell? ⟨w.heap.size, 3, none⟩ = some (.int .i64 rng) := Hbz5.out.cell 3
    have qb4_5 : wz5.cell? ⟨w.heap.size, 4, none⟩ = some (.int .i64 last) := Hbz5.out.cell 4
    have lb_5 : w.heap.size < wz5.heap.size := Hbz5.out.lt
    go_region_held3 (fun W => W.cell? ⟨w.heap.size, 0, none⟩ = some (.int .i64 size) ∧ W.cell? ⟨w.heap.size, 1, none⟩ = some (.int .i64 m) ∧ W.cell? ⟨w.heap.size, 2, none⟩ = some (.int .i64 sum) ∧ W.cell? ⟨w.heap.size, 3, none⟩ = some (.int .i64 rng) ∧ W.cell? ⟨w.heap.size, 4, none⟩ = some (.int .i64 last)) (first | exact ⟨y30, y31, y32, y33, y34⟩ | exact ⟨y20, y21, y22, y23, y24⟩ | exact ⟨y10, y11, y12, y13, y14⟩ | exact ⟨qb0_5, qb1_5, qb2_5, qb3_5, qb4_5⟩ | simp [go_sem, *]) (first | (go_at_call 10; refine (HRI.out _).mono ?_; rintro e wr1 ⟨rfl, kr1⟩; (have HBr1 := Lib.hid (show Below w.heap.size w wr1 by first | exact HBz5.out.trans (kr1.mono HBz5.out.size) | exact (Below.drew HBz5.out).trans (kr1.mono HBz5.out.size) | exact (Below.drew (Below.drew HBz5.out)).trans (kr1.mono HBz5.out.size) | exact (Below.drew (Below.drew (Below.drew HBz5.out))).trans (kr1.mono HBz5.out.size))); (have Hbr1 := Lib.hid (show Has wr1 w.heap.size [.int .i64 size, .int .i64 m, .int .i64 sum, .int .i64 rng, .int .i64 last] 23 from Hbz5.out.of (kr1.block _ (by exact Hbz5.out.lt)))); (have y10 : wr1.cell? ⟨w.heap.size, 0, none⟩ = some (.int .i64 size) := Hbr1.out.cell 0); (have y11 : wr1.cell? ⟨w.heap.size, 1, none⟩ = some (.int .i64 m) := Hbr1.out.cell 1); (have y12 : wr1.cell? ⟨w.heap.size, 2, none⟩ = some (.int .i64 sum) := Hbr1.out.cell 2); (have y13 : wr1.cell? ⟨w.heap.size, 3, none⟩ = some (.int .i64 rng) := Hbr1.out.cell 3); (have y14 : wr1.cell? ⟨w.heap.size, 4, none⟩ = some (.int .i64 last) := Hbr1.out.cell 4)) | (go_at_call 11; refine (HRR.out _).mono ?_; rintro e wr2 ⟨rfl, kr2⟩; (have HBr2 := Lib.hid (show Below w.heap.size w wr2 by first | exact HBr1.out.trans (kr2.mono HBr1.out.size) | exact (Below.drew HBr1.out).trans (kr2.mono HBr1.out.size) | exact (Below.drew (Below.drew HBr1.out)).trans (kr2.mono HBr1.out.size) | exact (Below.drew (Below.drew (Below.drew HBr1.out))).trans (kr2.mono HBr1.out.size))); (have Hbr2 := Lib.hid (show Has wr2 w.heap.size [.int .i64 size, .int .i64 m, .int .i64 sum, .int .i64 rng, .int .i64 last] 23 from Hbr1.out.of (kr2.block _ (by exact Hbr1.out.lt)))); (have y20 : wr2.cell? ⟨w.heap.size, 0, none⟩ = some (.int .i64 size) := Hbr2.out.cell 0); (have y21 : wr2.cell? ⟨w.heap.size, 1, none⟩ = some (.int .i64 m) := Hbr2.out.cell 1); (have y22 : wr2.cell? ⟨w.heap.size, 2, none⟩ = some (.int .i64 sum) := Hbr2.out.cell 2); (have y23 : wr2.cell? ⟨w.heap.size, 3, none⟩ = some (.int .i64 rng) := Hbr2.out.cell 3); (have y24 : wr2.cell? ⟨w.heap.size, 4, none⟩ = some (.int .i64 last) := Hbr2.out.cell 4)) | (go_at_call 12; refine (HAL.out _).mono ?_; rintro e wr3 ⟨rfl, kr3⟩; (have HBr3 := Lib.hid (show Below w.heap.size w wr3 by first | exact HBr2.out.trans (kr3.mono HBr2.out.size) | exact (Below.drew HBr2.out).trans (kr3.mono HBr2.out.size) | exact (Below.drew (Below.drew HBr2.out)).trans (kr3.mono HBr2.out.size) | exact (Below.drew (Below.drew (Below.drew HBr2.out))).trans (kr3.mono HBr2.out.size))); (have Hbr3 := Lib.hid (show Has wr3 w.heap.size [.int .i64 size, .int .i64 m, .int .i64 sum, .int .i64 rng, .int .i64 last] 23 from Hbr2.out.of (kr3.block _ (by exact Hbr2.out.lt)))); (have y30 : wr3.cell? ⟨w.heap.size, 0, none⟩ = some (.int .i64 size) := Hbr3.out.cell 0); (have y31 : wr3.cell? ⟨w.heap.size, 1, none⟩ = some (.int .i64 m) := Hbr3.out.cell 1); (have y32 : wr3.cell? ⟨w.heap.size, 2, none⟩ = some (.int .i64 sum) := Hbr3.out.cell 2); (have y33 : wr3.cell? ⟨w.heap.size, 3, none⟩ = some (.int .i64 rng) := Hbr3.out.cell 3); (have y34 : wr3.cell? ⟨w.heap.size, 4, none⟩ = some (.int .i64 last) := Hbr3.out.cell 4)))
    have Hnr1 := Lib.hid (Hnz5.out.step kr1 rfl)
    have Har1 := Lib.hid (Haz5.out.step kr1 rfl)
    have Hzr1 := Lib.hid (Hzz5.out.step kr1 rfl)
    have Hnr2 := Lib.hid (Hnr1.out.step kr2 rfl)
    have Har2 := Lib.hid (Har1.out.step kr2 rfl)
    have Hzr2 := Lib.hid (Hzr1.out.step kr2 rfl)
    have Hnr3 := Lib.hid (Hnr2.out.step kr3 rfl)
    have Har3 := Lib.hid (Har2.out.step kr3 rfl)
    have Hzr3 := Lib.hid (Hzr2.out.step kr3 rfl)
    clear kr1 kr2 kr3 y10 y11 y12 y13 y14 y20 y21 y22 y23 y24 y30 y31 y32 y33 y34 qb0_5 qb1_5 qb2_5 qb3_5 qb4_5 lb_5
    have hqb := eqBas
    have qn0_8 : wr3.cell? ⟨wz1.heap.size, 0, none⟩ = some (.int .i64 0) := Hnr3.out.cell 0
    have qn1_8 : wr3.cell? ⟨wz1.heap.size, 1, none⟩ = some (.int .i64 0) := Hnr3.out.cell 1
    have qn2_8 : wr3.cell? ⟨wz1.heap.size, 2, none⟩ = some (.int .i64 0) := Hnr3.out.cell 2
    have qn3_8 : wr3.cell? ⟨wz1.heap.size, 3, none⟩ = some (.int .i64 0) := Hnr3.out.cell 3
    have qn4_8 : wr3.cell? ⟨wz1.heap.size, 4, none⟩ = some (.int .i64 0) := Hnr3.out.cell 4
    have ln_8 : wz1.heap.size < wr3.heap.size := Hnr3.out.lt
    have qz0_8 : wr3.cell? ⟨wz4.heap.size, 0, none⟩ = some (.int .i64 0) := Hzr3.out.cell 0
    have qz1_8 : wr3.cell? ⟨wz4.heap.size, 1, none⟩ = some (.int .i64 0) := Hzr3.out.cell 1
    have qz2_8 : wr3.cell? ⟨wz4.heap.size, 2, none⟩ = some (.int .i64 0) := Hzr3.out.cell 2
    have qz3_8 : wr3.cell? ⟨wz4.heap.size, 3, none⟩ = some (.int .i64 0) := Hzr3.out.cell 3
    have qz4_8 : wr3.cell? ⟨wz4.heap.size, 4, none⟩ = some (.int .i64 0) := Hzr3.out.cell 4
    have lz_8 : wz4.heap.size < wr3.heap.size := Hzr3.out.lt
    have qb0_8 : wr3.cell? ⟨w.heap.size, 0, none⟩ = some (.int .i64 size) := Hbr3.out.cell 0
    have qb1_8 : wr3.cell? ⟨w.heap.size, 1, none⟩ = some (.int .i64 m) := Hbr3.out.cell 1
    have qb2_8 : wr3.cell? ⟨w.heap.size, 2, none⟩ = some (.int .i64 sum) := Hbr3.out.cell 2
    have qb3_8 : wr3.cell? ⟨w.heap.size, 3, none⟩ = some (.int .i64 rng) := Hbr3.out.cell 3
    have qb4_8 : wr3.cell? ⟨w.heap.size, 4, none⟩ = some (.int .i64 last) := Hbr3.out.cell 4
    have lb_8 : w.heap.size < wr3.heap.size := Hbr3.out.lt
    have hcz9 := HRR.out wr3
    go_wp2_with fail
    refine hcz9.mono ?_
    rintro e wz9 ⟨rfl, kz9⟩
    clear hcz9 qn0_8 qn1_8 qn2_8 qn3_8 qn4_8 ln_8 qz0_8 qz1_8 qz2_8 qz3_8 qz4_8 lz_8 qb0_8 qb1_8 qb2_8 qb3_8 qb4_8 lb_8
    have HBz9 := Lib.hid (HBr3.out.trans (kz9.mono (Nat.le_trans hbase HBr3.out.size)))
    have Hbz9 := Lib.hid (Hbr3.out.call kz9)
    have Hnz9 := Lib.hid (Hnr3.out.call kz9)
    have Haz9 := Lib.hid (Har3.out.call kz9)
    have Hzz9 := Lib.hid (Hzr3.out.call kz9)
    clear kz9
    have qb0_9 : wz9.cell? ⟨w.heap.size, 0, none⟩ = some (.int .i64 size) := Hbz9.out.cell 0
    have qb1_9 : wz9.cell? ⟨w.heap.size, 1, none⟩ = some (.int .i64 m) := Hbz9.out.cell 1
    have qb2_9 : wz9.cell? ⟨w.heap.size, 2, none⟩ = some (.int .i64 sum) := Hbz9.out.cell 2
    have qb3_9 : wz9.cell? ⟨w.heap.size, 3, none⟩ = some (.int .i64 rng) := Hbz9.out.cell 3
    have qb4_9 : wz9.cell? ⟨w.heap.size, 4, none⟩ = some (.int .i64 last) := Hbz9.out.cell 4
    have lb_9 : w.heap.size < wz9.heap.size := Hbz9.out.lt
    have hcz10 := HROW.out wz9 (HR.out.below HBz9.out)
    go_wp2_with fail
    refine hcz10.mono ?_
    rintro e wz10 ⟨rfl, kz10⟩
    clear hcz10 qb0_9 qb1_9 qb2_9 qb3_9 qb4_9 lb_9
    have HBz10 := Lib.hid (HBz9.out.trans (kz10.mono (Nat.le_trans hbase HBz9.out.size)))
    have Hbz10 := Lib.hid (Hbz9.out.call kz10)
    have Hnz10 := Lib.hid (Hnz9.out.call kz10)
    have Haz10 := Lib.hid (Haz9.out.call kz10)
    have Hzz10 := Lib.hid (Hzz9.out.call kz10)
    clear kz10
    have qb0_10 : wz10.cell? ⟨w.heap.size, 0, none⟩ = some (.int .i64 size) := Hbz10.out.cell 0
    have qb1_10 : wz10.cell? ⟨w.heap.size, 1, none⟩ = some (.int .i64 m) := Hbz10.out.cell 1
    have qb2_10 : wz10.cell? ⟨w.heap.size, 2, none⟩ = some (.int .i64 sum) := Hbz10.out.cell 2
    have qb3_10 : wz10.cell? ⟨w.heap.size, 3, none⟩ = some (.int .i64 rng) := Hbz10.out.cell 3
    have qb4_10 : wz10.cell? ⟨w.heap.size, 4, none⟩ = some (.int .i64 last) := Hbz10.out.cell 4
    have lb_10 : w.heap.size < wz10.heap.size := Hbz10.out.lt
    have qa0_10 : wz10.cell? ⟨wz3.heap.size, 0, none⟩ = some (.int .i64 ta) := Haz10.out.cell 0
    have qa1_10 : wz10.cell? ⟨wz3.heap.size, 1, none⟩ = some (.int .i64 tb) := Haz10.out.cell 1
    have qa2_10 : wz10.cell? ⟨wz3.heap.size, 2, none⟩ = some (.int .i64 tc) := Haz10.out.cell 2
    have qa3_10 : wz10.cell? ⟨wz3.heap.size, 3, none⟩ = some (.int .i64 td) := Haz10.out.cell 3
    have qa4_10 : wz10.cell? ⟨wz3.heap.size, 4, none⟩ = some (.int .i64 te) := Haz10.out.cell 4
    have la_10 : wz3.heap.size < wz10.heap.size := Haz10.out.lt
    have qz0_10 : wz10.cell? ⟨wz4.heap.size, 0, none⟩ = some (.int .i64 0) := Hzz10.out.cell 0
    have qz1_10 : wz10.cell? ⟨wz4.heap.size, 1, none⟩ = some (.int .i64 0) := Hzz10.out.cell 1
    have qz2_10 : wz10.cell? ⟨wz4.heap.size, 2, none⟩ = some (.int .i64 0) := Hzz10.out.cell 2
    have qz3_10 : wz10.cell? ⟨wz4.heap.size, 3, none⟩ = some (.int .i64 0) := Hzz10.out.cell 3
    have qz4_10 : wz10.cell? ⟨wz4.heap.size, 4, none⟩ = some (.int .i64 0) := Hzz10.out.cell 4
    have lz_10 : wz4.heap.size < wz10.heap.size := Hzz10.out.lt
    go_upto_region 16 with fail
    clear qb0_10 qb1_10 qb2_10 qb3_10 qb4_10 lb_10 qa0_10 qa1_10 qa2_10 qa3_10 qa4_10 la_10 qz0_10 qz1_10 qz2_10 qz3_10 qz4_10 lz_10
    refine wp_region_held_drew (S := (fun W => W.cell? ⟨w.heap.size, 0, none⟩ = some (.int .i64 size) ∧ W.cell? ⟨w.heap.size, 1, none⟩ = some (.int .i64 m) ∧ W.cell? ⟨w.heap.size, 2, none⟩ = some (.int .i64 sum) ∧ W.cell? ⟨w.heap.size, 3, none⟩ = some (.int .i64 rng) ∧ W.cell? ⟨w.heap.size, 4, none⟩ = some (.int .i64 last) ∧ W.cell? ⟨wz3.heap.size, 0, none⟩ = some (.int .i64 ta) ∧ W.cell? ⟨wz3.heap.size, 1, none⟩ = some (.int .i64 tb) ∧ W.cell? ⟨wz3.heap.size, 2, none⟩ = some (.int .i64 tc) ∧ W.cell? ⟨wz3.heap.size, 3, none⟩ = some (.int .i64 td) ∧ W.cell? ⟨wz3.heap.size, 4, none⟩ = some (.int .i64 te))) (by kernel_rfl) ⟨Hbz10.out.cell 0, Hbz10.out.cell 1, Hbz10.out.cell 2, Hbz10.out.cell 3, Hbz10.out.cell 4, Haz10.out.cell 0, Haz10.out.cell 1, Haz10.out.cell 2, Haz10.out.cell 3, Haz10.out.cell 4⟩ (fun hHeld => ?_)
    refine regTake 0 (some 87) (v := ?_) rfl rfl (by kernel_rfl) (by kernel_rfl) (by kernel_rfl) (fun _ _ _ h => h) (by rfl) hHeld ?_ ?_
    rotate_left 1
    · (intro w hSw; (try dsimp only at hSw); go_simp; try with_reducible rfl)
    simp only [Act.put, List.setIfInBounds_toArray, List.set_cons_zero, List.set_cons_succ]
    refine regTake 1 (some 88) (v := ?_) rfl rfl (by kernel_rfl) (by kernel_rfl) (by kernel_rfl) (fun _ _ _ h => h) (by rfl) hHeld ?_ ?_
    rotate_left 1
    · (intro w hSw; (try dsimp only at hSw); go_simp; try with_reducible rfl)
    simp only [Act.put, List.setIfInBounds_toArray, List.set_cons_zero, List.set_cons_succ]
    refine regTake 2 (some 89) (v := ?_) rfl rfl (by kernel_rfl) (by kernel_rfl) (by kernel_rfl) (fun _ _ _ h => h) (by rfl) hHeld ?_ ?_
    rotate_left 1
    · (intro w hSw; (try dsimp only at hSw); go_simp; try with_reducible rfl)
    simp only [Act.put, List.setIfInBounds_toArray, List.set_cons_zero, List.set_cons_succ]
    refine regTake 3 (some 90) (v := ?_) rfl rfl (by kernel_rfl) (by kernel_rfl) (by kernel_rfl) (fun _ _ _ h => h) (by rfl) hHeld ?_ ?_
    rotate_left 1
    · (intro w hSw; (try dsimp only at hSw); go_simp; try with_reducible rfl)
    simp only [Act.put, List.setIfInBounds_toArray, List.set_cons_zero, List.set_cons_succ]
    refine regTake 4 (some 91) (v := ?_) rfl rfl (by kernel_rfl) (by kernel_rfl) (by kernel_rfl) (fun _ _ _ h => h) (by rfl) hHeld ?_ ?_
    rotate_left 1
    · (intro w hSw; (try dsimp only at hSw); go_simp; try with_reducible rfl)
    simp only [Act.put, List.setIfInBounds_toArray, List.set_cons_zero, List.set_cons_succ]
    refine regTake 5 (some 92) (v := ?_) rfl rfl (by kernel_rfl) (by kernel_rfl) (by kernel_rfl) (fun _ _ _ h => h) (by rfl) hHeld ?_ ?_
    rotate_left 1
    · (intro w hSw; (try dsimp only at hSw); go_simp; try with_reducible rfl)
    simp only [Act.put, List.setIfInBounds_toArray, List.set_cons_zero, List.set_cons_succ]
    refine regCall 6 (some 93) (f := 14) (args := ?_) rfl rfl (by kernel_rfl) (by rfl) ?_ ?_
    rotate_left 1
    · (go_simp; try with_reducible rfl)
    refine (HRT.out _ (HR.out.below HBz10.out.drew)).mono ?_
    rintro e wx6 ⟨rfl, k6⟩
    refine ⟨_, rfl, ⟨(Hbz10.out.step k6 rfl).cell 0, (Hbz10.out.step k6 rfl).cell 1, (Hbz10.out.step k6 rfl).cell 2, (Hbz10.out.step k6 rfl).cell 3, (Hbz10.out.step k6 rfl).cell 4, (Haz10.out.step k6 rfl).cell 0, (Haz10.out.step k6 rfl).cell 1, (Haz10.out.step k6 rfl).cell 2, (Haz10.out.step k6 rfl).cell 3, (Haz10.out.step k6 rfl).cell 4⟩, fun hHeld => ?_⟩
    simp only [Act.put, List.setIfInBounds_toArray, List.set_cons_zero, List.set_cons_succ]
    have HBs := Lib.hid (HBz10.out.drew.trans (k6.mono HBz10.out.drew.size))
    clear k6
    refine regTake 7 (some 94) (v := ?_) rfl rfl (by kernel_rfl) (by kernel_rfl) (by kernel_rfl) (fun _ _ _ h => h) (by rfl) hHeld ?_ ?_
    rotate_left 1
    · (intro w hSw; (try dsimp only at hSw); go_simp; try with_reducible rfl)
    simp only [Act.put, List.setIfInBounds_toArray, List.set_cons_zero, List.set_cons_succ]
    refine regTake 8 (some 95) (v := ?_) rfl rfl (by kernel_rfl) (by kernel_rfl) (by kernel_rfl) (fun _ _ _ h => h) (by rfl) hHeld ?_ ?_
    rotate_left 1
    · (intro w hSw; (try dsimp only at hSw); go_simp; try with_reducible rfl)
    simp only [Act.put, List.setIfInBounds_toArray, List.set_cons_zero, List.set_cons_succ]
    refine regTake 9 (some 6) (v := ?_) rfl rfl (by kernel_rfl) (by kernel_rfl) (by kernel_rfl) (fun _ _ _ h => h) (by rfl) hHeld ?_ ?_
    rotate_left 1
    · (intro w hSw; (try dsimp only at hSw); go_simp; try with_reducible rfl)
    simp only [Act.put, List.setIfInBounds_toArray, List.set_cons_zero, List.set_cons_succ]
    refine wpAnyH_done (by kernel_rfl) ?_ _
    clear hHeld
    go_wp2_with fail
    go_ret
    exact ⟨rfl, HBs.out⟩
  · have s1 : ¬ n < 1 := by omega
    go_enter Try.func3, Try.ntmps3
    go_upto_region 1 with fail
    rw [HW1.out]
    go_upto_region 2 with fail
    clear hsl
    have qb0_0 : w1.cell? ⟨w.heap.size, 0, none⟩ = some (.int .i64 size) := HX1.out.cell 0
    have qb1_0 : w1.cell? ⟨w.heap.size, 1, none⟩ = some (.int .i64 m) := HX1.out.cell 1
    have qb2_0 : w1.cell? ⟨w.heap.size, 2, none⟩ = some (.int .i64 sum) := HX1.out.cell 2
    have qb3_0 : w1.cell? ⟨w.heap.size, 3, none⟩ = some (.int .i64 rng) := HX1.out.cell 3
    have qb4_0 : w1.cell? ⟨w.heap.size, 4, none⟩ = some (.int .i64 last) := HX1.out.cell 4
    have lb_0 : w.heap.size < w1.heap.size := HX1.out.lt
    have hcz1 := HNEW.out w1
    go_wp2_with fail
    refine hcz1.mono ?_
    rintro e wz1 ⟨rfl, kz1⟩
    clear hcz1 qb0_0 qb1_0 qb2_0 qb3_0 qb4_0 lb_0
    have HBz1 := Lib.hid (HB1.out.trans (kz1.mono (Nat.le_trans hbase HB1.out.size)))
    have Hbz1 := Lib.hid (HX1.out.call kz1)
    clear kz1
    obtain ⟨wz2, hwz2⟩ : ∃ wz2, wz1.alloc (.cells #[.int .i64 0, .int .i64 0, .int .i64 0, .int .i64 0, .int .i64 0] 23) = wz2 := ⟨_, rfl⟩
    have kz2 : Below wz1.heap.size wz1 wz2 := by rw [← hwz2]; exact (Below.refl _ _).alloc (Nat.le_refl _) _
    have Hnz2 := Lib.hid (show Has wz2 wz1.heap.size [.int .i64 0, .int .i64 0, .int .i64 0, .int .i64 0, .int .i64 0] 23 by rw [← hwz2]; exact Has.new _ _ _)
    have HWz2 := Lib.hid hwz2
    clear hwz2
    have HBz2 := Lib.hid (HBz1.out.trans (kz2.mono (Nat.le_trans hbase HBz1.out.size)))
    have Hbz2 := Lib.hid (Hbz1.out.call kz2)
    clear kz2
    have qb0_2 : wz1.cell? ⟨w.heap.size, 0, none⟩ = some (.int .i64 size) := Hbz1.out.cell 0
    have qb1_2 : wz1.cell? ⟨w.heap.size, 1, none⟩ = some (.int .i64 m) := Hbz1.out.cell 1
    have qb2_2 : wz1.cell? ⟨w.heap.size, 2, none⟩ = some (.int .i64 sum) := Hbz1.out.cell 2
    have qb3_2 : wz1.cell? ⟨w.heap.size, 3, none⟩ = some (.int .i64 rng) := Hbz1.out.cell 3
    have qb4_2 : wz1.cell? ⟨w.heap.size, 4, none⟩ = some (.int .i64 last) := Hbz1.out.cell 4
    have lb_2 : w.heap.size < wz1.heap.size := Hbz1.out.lt
    have hcz3 := HTAKE.out wz2 (HR.out.below HBz2.out)
    go_wp2_with fail
    rw [HWz2.out]
    refine hcz3.mono ?_
    rintro e wz3 ⟨rfl, kz3⟩
    clear hcz3 qb0_2 qb1_2 qb2_2 qb3_2 qb4_2 lb_2
    have HBz3 := Lib.hid (HBz2.out.trans (kz3.mono (Nat.le_trans hbase HBz2.out.size)))
    have Hbz3 := Lib.hid (Hbz2.out.call kz3)
    have Hnz3 := Lib.hid (Hnz2.out.call kz3)
    clear kz3
    obtain ⟨wz4, hwz4⟩ : ∃ wz4, wz3.alloc (.cells #[.int .i64 ta, .int .i64 tb, .int .i64 tc, .int .i64 td, .int .i64 te] 23) = wz4 := ⟨_, rfl⟩
    have kz4 : Below wz3.heap.size wz3 wz4 := by rw [← hwz4]; exact (Below.refl _ _).alloc (Nat.le_refl _) _
    have Haz4 := Lib.hid (show Has wz4 wz3.heap.size [.int .i64 ta, .int .i64 tb, .int .i64 tc, .int .i64 td, .int .i64 te] 23 by rw [← hwz4]; exact Has.new _ _ _)
    have HWz4 := Lib.hid hwz4
    clear hwz4
    have HBz4 := Lib.hid (HBz3.out.trans (kz4.mono (Nat.le_trans hbase HBz3.out.size)))
    have Hbz4 := Lib.hid (Hbz3.out.call kz4)
    have Hnz4 := Lib.hid (Hnz3.out.call kz4)
    clear kz4
    go_upto_region 4 with fail
    rw [HWz4.out]
    obtain ⟨wz5, hwz5⟩ : ∃ wz5, wz4.alloc (.cells #[.int .i64 0, .int .i64 0, .int .i64 0, .int .i64 0, .int .i64 0] 23) = wz5 := ⟨_, rfl⟩
    have kz5 : Below wz4.heap.size wz4 wz5 := by rw [← hwz5]; exact (Below.refl _ _).alloc (Nat.le_refl _) _
    have Hzz5 := Lib.hid (show Has wz5 wz4.heap.size [.int .i64 0, .int .i64 0, .int .i64 0, .int .i64 0, .int .i64 0] 23 by rw [← hwz5]; exact Has.new _ _ _)
    have HWz5 := Lib.hid hwz5
    clear hwz5
    have HBz5 := Lib.hid (HBz4.out.trans (kz5.mono (Nat.le_trans hbase HBz4.out.size)))
    have Hbz5 := Lib.hid (Hbz4.out.call kz5)
    have Hnz5 := Lib.hid (Hnz4.out.call kz5)
    have Haz5 := Lib.hid (Haz4.out.call kz5)
    clear kz5
    go_upto_region 5 with fail
    rw [HWz5.out]
    have qb0_5 : wz5.cell? ⟨w.heap.size, 0, none⟩ = some (.int .i64 size) := Hbz5.out.cell 0
    have qb1_5 : wz5.cell? ⟨w.heap.size, 1, none⟩ = some (.int .i64 m) := Hbz5.out.cell 1
    have qb2_5 : wz5.cell? ⟨w.heap.size, 2, none⟩ = some (.int .i64 sum) := Hbz5.out.cell 2
    have qb3_5 : wz5.cell? ⟨w.heap.size, 3, none⟩ = some (.int .i64 rng) := Hbz5.out.cell 3
    have qb4_5 : wz5.cell? ⟨w.heap.size, 4, none⟩ = some (.int .i64 last) := Hbz5.out.cell 4
    have lb_5 : w.heap.size < wz5.heap.size := Hbz5.out.lt
    go_region_held3 (fun W => W.cell? ⟨w.heap.size, 0, none⟩ = some (.int .i64 size) ∧ W.cell? ⟨w.heap.size, 1, none⟩ = some (.int .i64 m) ∧ W.cell? ⟨w.heap.size, 2, none⟩ = some (.int .i64 sum) ∧ W.cell? ⟨w.heap.size, 3, none⟩ = some (.int .i64 rng) ∧ W.cell? ⟨w.heap.size, 4, none⟩ = some (.int .i64 last)) (first | exact ⟨y30, y31, y32, y33, y34⟩ | exact ⟨y20, y21, y22, y23, y24⟩ | exact ⟨y10, y11, y12, y13, y14⟩ | exact ⟨qb0_5, qb1_5, qb2_5, qb3_5, qb4_5⟩ | simp [go_sem, *]) (first | (go_at_call 10; refine (HRI.out _).mono ?_; rintro e wr1 ⟨rfl, kr1⟩; (have HBr1 := Lib.hid (show Below w.heap.size w wr1 by first | exact HBz5.out.trans (kr1.mono HBz5.out.size) | exact (Below.drew HBz5.out).trans (kr1.mono HBz5.out.size) | exact (Below.drew (Below.drew HBz5.out)).trans (kr1.mono HBz5.out.size) | exact (Below.drew (Below.drew (Below.drew HBz5.out))).trans (kr1.mono HBz5.out.size))); (have Hbr1 := Lib.hid (show Has wr1 w.heap.size [.int .i64 size, .int .i64 m, .int .i64 sum, .int .i64 rng, .int .i64 last] 23 from Hbz5.out.of (kr1.block _ (by exact Hbz5.out.lt)))); (have y10 : wr1.cell? ⟨w.heap.size, 0, none⟩ = some (.int .i64 size) := Hbr1.out.cell 0); (have y11 : wr1.cell? ⟨w.heap.size, 1, none⟩ = some (.int .i64 m) := Hbr1.out.cell 1); (have y12 : wr1.cell? ⟨w.heap.size, 2, none⟩ = some (.int .i64 sum) := Hbr1.out.cell 2); (have y13 : wr1.cell? ⟨w.heap.size, 3, none⟩ = some (.int .i64 rng) := Hbr1.out.cell 3); (have y14 : wr1.cell? ⟨w.heap.size, 4, none⟩ = some (.int .i64 last) := Hbr1.out.cell 4)) | (go_at_call 11; refine (HRR.out _).mono ?_; rintro e wr2 ⟨rfl, kr2⟩; (have HBr2 := Lib.hid (show Below w.heap.size w wr2 by first | exact HBr1.out.trans (kr2.mono HBr1.out.size) | exact (Below.drew HBr1.out).trans (kr2.mono HBr1.out.size) | exact (Below.drew (Below.drew HBr1.out)).trans (kr2.mono HBr1.out.size) | exact (Below.drew (Below.drew (Below.drew HBr1.out))).trans (kr2.mono HBr1.out.size))); (have Hbr2 := Lib.hid (show Has wr2 w.heap.size [.int .i64 size, .int .i64 m, .int .i64 sum, .int .i64 rng, .int .i64 last] 23 from Hbr1.out.of (kr2.block _ (by exact Hbr1.out.lt)))); (have y20 : wr2.cell? ⟨w.heap.size, 0, none⟩ = some (.int .i64 size) := Hbr2.out.cell 0); (have y21 : wr2.cell? ⟨w.heap.size, 1, none⟩ = some (.int .i64 m) := Hbr2.out.cell 1); (have y22 : wr2.cell? ⟨w.heap.size, 2, none⟩ = some (.int .i64 sum) := Hbr2.out.cell 2); (have y23 : wr2.cell? ⟨w.heap.size, 3, none⟩ = some (.int .i64 rng) := Hbr2.out.cell 3); (have y24 : wr2.cell? ⟨w.heap.size, 4, none⟩ = some (.int .i64 last) := Hbr2.out.cell 4)) | (go_at_call 12; refine (HAL.out _).mono ?_; rintro e wr3 ⟨rfl, kr3⟩; (have HBr3 := Lib.hid (show Below w.heap.size w wr3 by first | exact HBr2.out.trans (kr3.mono HBr2.out.size) | exact (Below.drew HBr2.out).trans (kr3.mono HBr2.out.size) | exact (Below.drew (Below.drew HBr2.out)).trans (kr3.mono HBr2.out.size) | exact (Below.drew (Below.drew (Below.drew HBr2.out))).trans (kr3.mono HBr2.out.size))); (have Hbr3 := Lib.hid (show Has wr3 w.heap.size [.int .i64 size, .int .i64 m, .int .i64 sum, .int .i64 rng, .int .i64 last] 23 from Hbr2.out.of (kr3.block _ (by exact Hbr2.out.lt)))); (have y30 : wr3.cell? ⟨w.heap.size, 0, none⟩ = some (.int .i64 size) := Hbr3.out.cell 0); (have y31 : wr3.cell? ⟨w.heap.size, 1, none⟩ = some (.int .i64 m) := Hbr3.out.cell 1); (have y32 : wr3.cell? ⟨w.heap.size, 2, none⟩ = some (.int .i64 sum) := Hbr3.out.cell 2); (have y33 : wr3.cell? ⟨w.heap.size, 3, none⟩ = some (.int .i64 rng) := Hbr3.out.cell 3); (have y34 : wr3.cell? ⟨w.heap.size, 4, none⟩ = some (.int .i64 last) := Hbr3.out.cell 4)))
    have Hnr1 := Lib.hid (Hnz5.out.step kr1 rfl)
    have Har1 := Lib.hid (Haz5.out.step kr1 rfl)
    have Hzr1 := Lib.hid (Hzz5.out.step kr1 rfl)
    have Hnr2 := Lib.hid (Hnr1.out.step kr2 rfl)
    have Har2 := Lib.hid (Har1.out.step kr2 rfl)
    have Hzr2 := Lib.hid (Hzr1.out.step kr2 rfl)
    have Hnr3 := Lib.hid (Hnr2.out.step kr3 rfl)
    have Har3 := Lib.hid (Har2.out.step kr3 rfl)
    have Hzr3 := Lib.hid (Hzr2.out.step kr3 rfl)
    clear kr1 kr2 kr3 y10 y11 y12 y13 y14 y20 y21 y22 y23 y24 y30 y31 y32 y33 y34 qb0_5 qb1_5 qb2_5 qb3_5 qb4_5 lb_5
    have hqb := eqBas
    have qn0_8 : wr3.cell? ⟨wz1.heap.size, 0, none⟩ = some (.int .i64 0) := Hnr3.out.cell 0
    have qn1_8 : wr3.cell? ⟨wz1.heap.size, 1, none⟩ = some (.int .i64 0) := Hnr3.out.cell 1
    have qn2_8 : wr3.cell? ⟨wz1.heap.size, 2, none⟩ = some (.int .i64 0) := Hnr3.out.cell 2
    have qn3_8 : wr3.cell? ⟨wz1.heap.size, 3, none⟩ = some (.int .i64 0) := Hnr3.out.cell 3
    have qn4_8 : wr3.cell? ⟨wz1.heap.size, 4, none⟩ = some (.int .i64 0) := Hnr3.out.cell 4
    have ln_8 : wz1.heap.size < wr3.heap.size := Hnr3.out.lt
    have qz0_8 : wr3.cell? ⟨wz4.heap.size, 0, none⟩ = some (.int .i64 0) := Hzr3.out.cell 0
    have qz1_8 : wr3.cell? ⟨wz4.heap.size, 1, none⟩ = some (.int .i64 0) := Hzr3.out.cell 1
    have qz2_8 : wr3.cell? ⟨wz4.heap.size, 2, none⟩ = some (.int .i64 0) := Hzr3.out.cell 2
    have qz3_8 : wr3.cell? ⟨wz4.heap.size, 3, none⟩ = some (.int .i64 0) := Hzr3.out.cell 3
    have qz4_8 : wr3.cell? ⟨wz4.heap.size, 4, none⟩ = some (.int .i64 0) := Hzr3.out.cell 4
    have lz_8 : wz4.heap.size < wr3.heap.size := Hzr3.out.lt
    have qb0_8 : wr3.cell? ⟨w.heap.size, 0, none⟩ = some (.int .i64 size) := Hbr3.out.cell 0
    have qb1_8 : wr3.cell? ⟨w.heap.size, 1, none⟩ = some (.int .i64 m) := Hbr3.out.cell 1
    have qb2_8 : wr3.cell? ⟨w.heap.size, 2, none⟩ = some (.int .i64 sum) := Hbr3.out.cell 2
    have qb3_8 : wr3.cell? ⟨w.heap.size, 3, none⟩ = some (.int .i64 rng) := Hbr3.out.cell 3
    have qb4_8 : wr3.cell? ⟨w.heap.size, 4, none⟩ = some (.int .i64 last) := Hbr3.out.cell 4
    have lb_8 : w.heap.size < wr3.heap.size := Hbr3.out.lt
    have hcz9 := HRR.out wr3
    go_wp2_with fail
    refine hcz9.mono ?_
    rintro e wz9 ⟨rfl, kz9⟩
    clear hcz9 qn0_8 qn1_8 qn2_8 qn3_8 qn4_8 ln_8 qz0_8 qz1_8 qz2_8 qz3_8 qz4_8 lz_8 qb0_8 qb1_8 qb2_8 qb3_8 qb4_8 lb_8
    have HBz9 := Lib.hid (HBr3.out.trans (kz9.mono (Nat.le_trans hbase HBr3.out.size)))
    have Hbz9 := Lib.hid (Hbr3.out.call kz9)
    have Hnz9 := Lib.hid (Hnr3.out.call kz9)
    have Haz9 := Lib.hid (Har3.out.call kz9)
    have Hzz9 := Lib.hid (Hzr3.out.call kz9)
    clear kz9
    have qb0_9 : wz9.cell? ⟨w.heap.size, 0, none⟩ = some (.int .i64 size) := Hbz9.out.cell 0
    have qb1_9 : wz9.cell? ⟨w.heap.size, 1, none⟩ = some (.int .i64 m) := Hbz9.out.cell 1
    have qb2_9 : wz9.cell? ⟨w.heap.size, 2, none⟩ = some (.int .i64 sum) := Hbz9.out.cell 2
    have qb3_9 : wz9.cell? ⟨w.heap.size, 3, none⟩ = some (.int .i64 rng) := Hbz9.out.cell 3
    have qb4_9 : wz9.cell? ⟨w.heap.size, 4, none⟩ = some (.int .i64 last) := Hbz9.out.cell 4
    have lb_9 : w.heap.size < wz9.heap.size := Hbz9.out.lt
    have hcz10 := HROW.out wz9 (HR.out.below HBz9.out)
    go_wp2_with fail
    refine hcz10.mono ?_
    rintro e wz10 ⟨rfl, kz10⟩
    clear hcz10 qb0_9 qb1_9 qb2_9 qb3_9 qb4_9 lb_9
    have HBz10 := Lib.hid (HBz9.out.trans (kz10.mono (Nat.le_trans hbase HBz9.out.size)))
    have Hbz10 := Lib.hid (Hbz9.out.call kz10)
    have Hnz10 := Lib.hid (Hnz9.out.call kz10)
    have Haz10 := Lib.hid (Haz9.out.call kz10)
    have Hzz10 := Lib.hid (Hzz9.out.call kz10)
    clear kz10
    have qb0_10 : wz10.cell? ⟨w.heap.size, 0, none⟩ = some (.int .i64 size) := Hbz10.out.cell 0
    have qb1_10 : wz10.cell? ⟨w.heap.size, 1, none⟩ = some (.int .i64 m) := Hbz10.out.cell 1
    have qb2_10 : wz10.cell? ⟨w.heap.size, 2, none⟩ = some (.int .i64 sum) := Hbz10.out.cell 2
    have qb3_10 : wz10.cell? ⟨w.heap.size, 3, none⟩ = some (.int .i64 rng) := Hbz10.out.cell 3
    have qb4_10 : wz10.cell? ⟨w.heap.size, 4, none⟩ = some (.int .i64 last) := Hbz10.out.cell 4
    have lb_10 : w.heap.size < wz10.heap.size := Hbz10.out.lt
    have qa0_10 : wz10.cell? ⟨wz3.heap.size, 0, none⟩ = some (.int .i64 ta) := Haz10.out.cell 0
    have qa1_10 : wz10.cell? ⟨wz3.heap.size, 1, none⟩ = some (.int .i64 tb) := Haz10.out.cell 1
    have qa2_10 : wz10.cell? ⟨wz3.heap.size, 2, none⟩ = some (.int .i64 tc) := Haz10.out.cell 2
    have qa3_10 : wz10.cell? ⟨wz3.heap.size, 3, none⟩ = some (.int .i64 td) := Haz10.out.cell 3
    have qa4_10 : wz10.cell? ⟨wz3.heap.size, 4, none⟩ = some (.int .i64 te) := Haz10.out.cell 4
    have la_10 : wz3.heap.size < wz10.heap.size := Haz10.out.lt
    have qz0_10 : wz10.cell? ⟨wz4.heap.size, 0, none⟩ = some (.int .i64 0) := Hzz10.out.cell 0
    have qz1_10 : wz10.cell? ⟨wz4.heap.size, 1, none⟩ = some (.int .i64 0) := Hzz10.out.cell 1
    have qz2_10 : wz10.cell? ⟨wz4.heap.size, 2, none⟩ = some (.int .i64 0) := Hzz10.out.cell 2
    have qz3_10 : wz10.cell? ⟨wz4.heap.size, 3, none⟩ = some (.int .i64 0) := Hzz10.out.cell 3
    have qz4_10 : wz10.cell? ⟨wz4.heap.size, 4, none⟩ = some (.int .i64 0) := Hzz10.out.cell 4
    have lz_10 : wz4.heap.size < wz10.heap.size := Hzz10.out.lt
    go_upto_region 16 with fail
    clear qb0_10 qb1_10 qb2_10 qb3_10 qb4_10 lb_10 qa0_10 qa1_10 qa2_10 qa3_10 qa4_10 la_10 qz0_10 qz1_10 qz2_10 qz3_10 qz4_10 lz_10
    refine wp_region_held_drew (S := (fun W => W.cell? ⟨w.heap.size, 0, none⟩ = some (.int .i64 size) ∧ W.cell? ⟨w.heap.size, 1, none⟩ = some (.int .i64 m) ∧ W.cell? ⟨w.heap.size, 2, none⟩ = some (.int .i64 sum) ∧ W.cell? ⟨w.heap.size, 3, none⟩ = some (.int .i64 rng) ∧ W.cell? ⟨w.heap.size, 4, none⟩ = some (.int .i64 last) ∧ W.cell? ⟨wz3.heap.size, 0, none⟩ = some (.int .i64 ta) ∧ W.cell? ⟨wz3.heap.size, 1, none⟩ = some (.int .i64 tb) ∧ W.cell? ⟨wz3.heap.size, 2, none⟩ = some (.int .i64 tc) ∧ W.cell? ⟨wz3.heap.size, 3, none⟩ = some (.int .i64 td) ∧ W.cell? ⟨wz3.heap.size, 4, none⟩ = some (.int .i64 te))) (by kernel_rfl) ⟨Hbz10.out.cell 0, Hbz10.out.cell 1, Hbz10.out.cell 2, Hbz10.out.cell 3, Hbz10.out.cell 4, Haz10.out.cell 0, Haz10.out.cell 1, Haz10.out.cell 2, Haz10.out.cell 3, Haz10.out.cell 4⟩ (fun hHeld => ?_)
    refine regTake 0 (some 87) (v := ?_) rfl rfl (by kernel_rfl) (by kernel_rfl) (by kernel_rfl) (fun _ _ _ h => h) (by rfl) hHeld ?_ ?_
    rotate_left 1
    · (intro w hSw; (try dsimp only at hSw); go_simp; try with_reducible rfl)
    simp only [Act.put, List.setIfInBounds_toArray, List.set_cons_zero, List.set_cons_succ]
    refine regTake 1 (some 88) (v := ?_) rfl rfl (by kernel_rfl) (by kernel_rfl) (by kernel_rfl) (fun _ _ _ h => h) (by rfl) hHeld ?_ ?_
    rotate_left 1
    · (intro w hSw; (try dsimp only at hSw); go_simp; try with_reducible rfl)
    simp only [Act.put, List.setIfInBounds_toArray, List.set_cons_zero, List.set_cons_succ]
    refine regTake 2 (some 89) (v := ?_) rfl rfl (by kernel_rfl) (by kernel_rfl) (by kernel_rfl) (fun _ _ _ h => h) (by rfl) hHeld ?_ ?_
    rotate_left 1
    · (intro w hSw; (try dsimp only at hSw); go_simp; try with_reducible rfl)
    simp only [Act.put, List.setIfInBounds_toArray, List.set_cons_zero, List.set_cons_succ]
    refine regTake 3 (some 90) (v := ?_) rfl rfl (by kernel_rfl) (by kernel_rfl) (by kernel_rfl) (fun _ _ _ h => h) (by rfl) hHeld ?_ ?_
    rotate_left 1
    · (intro w hSw; (try dsimp only at hSw); go_simp; try with_reducible rfl)
    simp only [Act.put, List.setIfInBounds_toArray, List.set_cons_zero, List.set_cons_succ]
    refine regTake 4 (some 91) (v := ?_) rfl rfl (by kernel_rfl) (by kernel_rfl) (by kernel_rfl) (fun _ _ _ h => h) (by rfl) hHeld ?_ ?_
    rotate_left 1
    · (intro w hSw; (try dsimp only at hSw); go_simp; try with_reducible rfl)
    simp only [Act.put, List.setIfInBounds_toArray, List.set_cons_zero, List.set_cons_succ]
    refine regTake 5 (some 92) (v := ?_) rfl rfl (by kernel_rfl) (by kernel_rfl) (by kernel_rfl) (fun _ _ _ h => h) (by rfl) hHeld ?_ ?_
    rotate_left 1
    · (intro w hSw; (try dsimp only at hSw); go_simp; try with_reducible rfl)
    simp only [Act.put, List.setIfInBounds_toArray, List.set_cons_zero, List.set_cons_succ]
    refine regCall 6 (some 93) (f := 14) (args := ?_) rfl rfl (by kernel_rfl) (by rfl) ?_ ?_
    rotate_left 1
    · (go_simp; try with_reducible rfl)
    refine (HRT.out _ (HR.out.below HBz10.out.drew)).mono ?_
    rintro e wx6 ⟨rfl, k6⟩
    refine ⟨_, rfl, ⟨(Hbz10.out.step k6 rfl).cell 0, (Hbz10.out.step k6 rfl).cell 1, (Hbz10.out.step k6 rfl).cell 2, (Hbz10.out.step k6 rfl).cell 3, (Hbz10.out.step k6 rfl).cell 4, (Haz10.out.step k6 rfl).cell 0, (Haz10.out.step k6 rfl).cell 1, (Haz10.out.step k6 rfl).cell 2, (Haz10.out.step k6 rfl).cell 3, (Haz10.out.step k6 rfl).cell 4⟩, fun hHeld => ?_⟩
    simp only [Act.put, List.setIfInBounds_toArray, List.set_cons_zero, List.set_cons_succ]
    have HBs := Lib.hid (HBz10.out.drew.trans (k6.mono HBz10.out.drew.size))
    clear k6
    refine regTake 7 (some 94) (v := ?_) rfl rfl (by kernel_rfl) (by kernel_rfl) (by kernel_rfl) (fun _ _ _ h => h) (by rfl) hHeld ?_ ?_
    rotate_left 1
    · (intro w hSw; (try dsimp only at hSw); go_simp; try with_reducible rfl)
    simp only [Act.put, List.setIfInBounds_toArray, List.set_cons_zero, List.set_cons_succ]
    refine regTake 8 (some 95) (v := ?_) rfl rfl (by kernel_rfl) (by kernel_rfl) (by kernel_rfl) (fun _ _ _ h => h) (by rfl) hHeld ?_ ?_
    rotate_left 1
    · (intro w hSw; (try dsimp only at hSw); go_simp; try with_reducible rfl)
    simp only [Act.put, List.setIfInBounds_toArray, List.set_cons_zero, List.set_cons_succ]
    refine regTake 9 (some 6) (v := ?_) rfl rfl (by kernel_rfl) (by kernel_rfl) (by kernel_rfl) (fun _ _ _ h => h) (by rfl) hHeld ?_ ?_
    rotate_left 1
    · (intro w hSw; (try dsimp only at hSw); go_simp; try with_reducible rfl)
    simp only [Act.put, List.setIfInBounds_toArray, List.set_cons_zero, List.set_cons_succ]
    refine wpAnyH_done (by kernel_rfl) ?_ _
    clear hHeld
    go_wp2_with fail
    go_ret
    exact ⟨rfl, HBs.out⟩
theorem takes15_walk (H : BasCode) (n : Int) (b : Bas) (l : List Int) (v : Value) (w : World) (hn : IsInt n) (hb : basI b) (hr : ReadsI w v l) :
    Calls Try.prog 3 #[.int .i64 n, basV b, v] w fun e w' => e = .returned (.bool true) ∧ Below w.heap.size w w' := by
  obtain ⟨ao, cap, rfl, hlc, hcm, -⟩ := id hr
  unfold maxLen at hcm
  obtain ⟨k, hk⟩ : ∃ k, k = min l.length 12 := ⟨_, rfl⟩
  have hrk := hr.few 12 k hk
  obtain ⟨row, hrow⟩ : ∃ row, l.take 12 = row := ⟨_, rfl⟩
  have hrl : row.length ≤ 12 := by rw [← hrow, List.length_take]; omega
  rw [hrow] at hrk
  have HNEW := Lib.hid (fun W => H.new n hn W)
  have HTAKE := Lib.hid (fun W (h : ReadsI W (.slice ao k cap) row) => H.take b hb row _ W (by omega) h)
  have HRI := Lib.hid (fun W => H.right b hb W)
  have HRR := Lib.hid (fun W => rright15_any b W)
  have HAL := Lib.hid (fun W => alive15_any H W)
  have HROW := Lib.hid (fun W (h : ReadsI W (.slice ao k cap) row) => rrow15_any b row _ W h)
  by_cases g1 : basB b = true
  · rw [g1] at HRI HRR
    by_cases g2 : rowB b row = true
    · rw [g2] at HROW
      have hE : takE b row = if b.m = 25 then 11 else 0 := by unfold takE; rw [g1, g2]; rfl
      by_cases g3 : b.m = 25
      · have g5 : (b.m == 25) = true := by rw [g3]; rfl
        rw [if_pos g3] at hE
        have hA : takA b row = bas0 := by unfold takA; rw [hE]; rfl
        rw [hE, hA] at HTAKE
        by_cases s0 : 1 ≤ n ∧ n ≤ 10
        · have e1 : newE n = 0 := if_pos s0
          have e2 : newA n = ⟨n, 0, 0, 0, 0⟩ := if_pos s0
          rw [e1, e2] at HNEW
          exact takes15_1full n _ _ _ _ _ 0 0 0 0 0 row ao k cap l.length w hk hlc hrk (by omega) (by omega) g5 HNEW HTAKE HRI HRR HAL HROW
        · have e1 : newE n = 1 := if_neg s0
          have e2 : newA n = bas0 := if_neg s0
          rw [e1, e2] at HNEW
          exact takes15_0full n _ _ _ _ _ 0 0 0 0 0 row ao k cap l.length w hk hlc hrk (by omega) g5 HNEW HTAKE HRI HRR HAL HROW
      · have g5 : (b.m == 25) = false := beq_false_of_ne g3
        rw [if_neg g3] at hE
        have hA : takA b row = takeN b row := by unfold takA; rw [hE]; rfl
        rw [hE, hA] at HTAKE
        have hbo : basOk b := of_decide_eq_true g1
        have hm25 : b.m < 25 := by have := hbo.1.2.2.2.1; omega
        have HRT := Lib.hid (fun W (h : ReadsI W (.slice ao k cap) row) => rtake15_any b row _ hbo g2 hm25 W h)
        by_cases s0 : 1 ≤ n ∧ n ≤ 10
        · have e1 : newE n = 0 := if_pos s0
          have e2 : newA n = ⟨n, 0, 0, 0, 0⟩ := if_pos s0
          rw [e1, e2] at HNEW
          exact takes15_1ok n _ _ _ _ _ _ _ _ _ _ row ao k cap l.length w hk hlc hrk (by omega) (by omega) g5 HNEW HTAKE HRI HRR HAL HROW HRT
        · have e1 : newE n = 1 := if_neg s0
          have e2 : newA n = bas0 := if_neg s0
          rw [e1, e2] at HNEW
          exact takes15_0ok n _ _ _ _ _ _ _ _ _ _ row ao k cap l.length w hk hlc hrk (by omega) g5 HNEW HTAKE HRI HRR HAL HROW HRT
    · have g2' : rowB b row = false := by simpa using g2
      rw [g2'] at HROW
      have hE : takE b row = 1 := by unfold takE; rw [g1, g2']; rfl
      have hA : takA b row = bas0 := by unfold takA; rw [hE]; rfl
      rw [hE, hA] at HTAKE
      by_cases s0 : 1 ≤ n ∧ n ≤ 10
      · have e1 : newE n = 0 := if_pos s0
        have e2 : newA n = ⟨n, 0, 0, 0, 0⟩ := if_pos s0
        rw [e1, e2] at HNEW
        exact takes15_1norow n _ _ _ _ _ 0 0 0 0 0 row ao k cap l.length w hk hlc hrk (by omega) (by omega) HNEW HTAKE HRI HRR HAL HROW
      · have e1 : newE n = 1 := if_neg s0
        have e2 : newA n = bas0 := if_neg s0
        rw [e1, e2] at HNEW
        exact takes15_0norow n _ _ _ _ _ 0 0 0 0 0 row ao k cap l.length w hk hlc hrk (by omega) HNEW HTAKE HRI HRR HAL HROW
  · have g1' : basB b = false := by simpa using g1
    rw [g1'] at HRI HRR
    have hE : takE b row = 1 := by unfold takE; rw [g1']; rfl
    have hA : takA b row = bas0 := by unfold takA; rw [hE]; rfl
    rw [hE, hA] at HTAKE
    by_cases s0 : 1 ≤ n ∧ n ≤ 10
    · have e1 : newE n = 0 := if_pos s0
      have e2 : newA n = ⟨n, 0, 0, 0, 0⟩ := if_pos s0
      rw [e1, e2] at HNEW
      exact takes15_1bad n _ _ _ _ _ 0 0 0 0 0 row ao k cap l.length w hk hlc hrk (by omega) (by omega) HNEW HTAKE HRI HRR HAL
    · have e1 : newE n = 1 := if_neg s0
      have e2 : newA n = bas0 := if_neg s0
      rw [e1, e2] at HNEW
      exact takes15_0bad n _ _ _ _ _ 0 0 0 0 0 row ao k cap l.length w hk hlc hrk (by omega) HNEW HTAKE HRI HRR HAL
end Go.Proofs.Ytfafkdbflmennaa
