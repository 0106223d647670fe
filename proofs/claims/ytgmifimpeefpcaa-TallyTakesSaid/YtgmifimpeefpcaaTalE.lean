/- What the laws of stage 16 ask of tally's functions; alive; tallies and points compared. -/
import Derived.Test.YtgmifimpeefpcaaTalA
namespace Go.Proofs.Ytgmifimpeefpcaa
open Go.RowKit

structure TalCode : Prop where
  right : ∀ (t : Tal), talI t → ∀ (W : World), Calls Try.prog 9 #[talV t] W fun e w' => e = .returned (.bool (talB t)) ∧ Below W.heap.size W w'
  new : ∀ (k n : Int), IsInt k → IsInt n → ∀ (W : World), Calls Try.prog 7 #[.int .i64 k, .int .i64 n] W fun e w' => e = .returned (.tuple #[talV (tnewA k n), .int .i64 (tnewE k n)]) ∧ Below W.heap.size W w'
  take : ∀ (t : Tal), talI t → ∀ (d : Int), IsInt d → ∀ (W : World), Calls Try.prog 8 #[talV t, .int .i64 d] W fun e w' => e = .returned (.tuple #[talV (ttakA t d), .int .i64 (ttakE t d)]) ∧ Below W.heap.size W w'
  point : ∀ (t : Tal), talI t → ∀ (d : Int), IsInt d → ∀ (W : World), Calls Try.prog 15 #[talV t, .int .i64 d] W fun e w' => e = .returned (.tuple #[pntV (tpoiA t d), .int .i64 (tpoiE t d)]) ∧ Below W.heap.size W w'
theorem eqTal (a b c d : Int) (w : World) : (Op.equalIn 10000 23 (.agg #[.int .i64 a, .int .i64 b, .int .i64 c, .int .i64 d]) (.agg #[.int .i64 a, .int .i64 b, .int .i64 c, .int .i64 d])).run Try.prog w = .ok true w := by go_simp
theorem eqPntT (a b c : Int) (d e : Int) (w : World) : (Op.equalIn 10000 38 (.agg #[.int .i64 a, .int .i64 b, .int .i64 c, .int .u64 d, .int .u64 e]) (.agg #[.int .i64 a, .int .i64 b, .int .i64 c, .int .u64 d, .int .u64 e])).run Try.prog w = .ok true w := by go_simp
theorem alive16_tab : tnewA 2 10 = ⟨2, 10, 0, 0⟩ ∧ tnewE 2 10 = 0 ∧ ttakA ⟨2, 10, 0, 0⟩ 1 = ⟨2, 10, 1, 1⟩ ∧ ttakE ⟨2, 10, 0, 0⟩ 1 = 0 ∧ ttakA ⟨2, 10, 1, 1⟩ 3 = ⟨2, 10, 2, 4⟩ ∧ ttakE ⟨2, 10, 1, 1⟩ 3 = 0 ∧ tpoiA ⟨2, 10, 2, 4⟩ 3 = ⟨40, 200, 20, 640⟩ ∧ tpoiE ⟨2, 10, 2, 4⟩ 3 = 0 :=
  ⟨by rfl, by rfl, by rfl, by rfl, by rfl, by rfl, by rfl, by rfl⟩
set_option linter.unusedSimpArgs false in
set_option linter.unusedVariables false in
set_option maxHeartbeats 4000000 in
set_option maxRecDepth 100000 in
theorem alive16_any (H : TalCode) (w : World) : Calls Try.prog 11 #[] w fun e w' => e = .returned (.bool true) ∧ Below w.heap.size w w' := by
  obtain ⟨t1, t2, t3, t4, t5, t6, t7, t8⟩ := alive16_tab
  have hn := fun W => H.new 2 10 (by unfold IsInt; omega) (by unfold IsInt; omega) W
  have ha := fun W => H.take ⟨2, 10, 0, 0⟩ (by unfold talI IsInt; dsimp only; omega) 1 (by unfold IsInt; omega) W
  have hb := fun W => H.take ⟨2, 10, 1, 1⟩ (by unfold talI IsInt; dsimp only; omega) 3 (by unfold IsInt; omega) W
  have hp := fun W => H.point ⟨2, 10, 2, 4⟩ (by unfold talI IsInt; dsimp only; omega) 3 (by unfold IsInt; omega) W
  rw [t1, t2] at hn
  rw [t3, t4] at ha
  rw [t5, t6] at hb
  rw [t7, t8] at hp
  dsimp only [pntV] at hp
  rw [show hi 640 = 0 by decide, show lo 640 = 640 by decide] at hp
  have HN := Lib.hid hn; have HA := Lib.hid ha; have HB := Lib.hid hb; have HP := Lib.hid hp
  have hbase := Nat.le_refl w.heap.size
  have HB0 := Lib.hid (Below.refl w.heap.size w)
  clear H t1 t2 t3 t4 t5 t6 t7 t8 hn ha hb hp
  go_enter Try.func11, Try.ntmps11
  have hcz1 := HN.out w
  go_wp2_with fail
  refine hcz1.mono ?_
  rintro e wz1 ⟨rfl, kz1⟩
  clear hcz1
  have HBz1 := Lib.hid (HB0.out.trans (kz1.mono (Nat.le_trans hbase HB0.out.size)))
  have HLBb := Lib.hid (show w.heap.size ≤ wz1.heap.size from kz1.size)
  clear kz1
  obtain ⟨wz2, hwz2⟩ : ∃ wz2, wz1.alloc (.cells #[.int .i64 2, .int .i64 10, .int .i64 0, .int .i64 0] 23) = wz2 := ⟨_, rfl⟩
  have kz2 : Below wz1.heap.size wz1 wz2 := by rw [← hwz2]; exact (Below.refl _ _).alloc (Nat.le_refl _) _
  have Hbz2 := Lib.hid (show Has wz2 wz1.heap.size [.int .i64 2, .int .i64 10, .int .i64 0, .int .i64 0] 23 by rw [← hwz2]; exact Has.new _ _ _)
  have HWz2 := Lib.hid hwz2
  clear hwz2
  have HBz2 := Lib.hid (HBz1.out.trans (kz2.mono (Nat.le_trans hbase HBz1.out.size)))
  clear kz2
  go_upto_region 2 with fail
  rw [HWz2.out]
  have qb0_2 : wz2.cell? ⟨wz1.heap.size, 0, none⟩ = some (.int .i64 2) := Hbz2.out.cell 0
  have qb1_2 : wz2.cell? ⟨wz1.heap.size, 1, none⟩ = some (.int .i64 10) := Hbz2.out.cell 1
  have qb2_2 : wz2.cell? ⟨wz1.heap.size, 2, none⟩ = some (.int .i64 0) := Hbz2.out.cell 2
  have qb3_2 : wz2.cell? ⟨wz1.heap.size, 3, none⟩ = some (.int .i64 0) := Hbz2.out.cell 3
  have lb_2 : wz1.heap.size < wz2.heap.size := Hbz2.out.lt
  have hcz3 := HA.out wz2
  go_wp2_with fail
  refine hcz3.mono ?_
  rintro e wz3 ⟨rfl, kz3⟩
  clear hcz3 qb0_2 qb1_2 qb2_2 qb3_2 lb_2
  have HBz3 := Lib.hid (HBz2.out.trans (kz3.mono (Nat.le_trans hbase HBz2.out.size)))
  have Hbz3 := Lib.hid (Hbz2.out.call kz3)
  clear kz3
  have qb0_3 : wz3.cell? ⟨wz1.heap.size, 0, none⟩ = some (.int .i64 2) := Hbz3.out.cell 0
  have qb1_3 : wz3.cell? ⟨wz1.heap.size, 1, none⟩ = some (.int .i64 10) := Hbz3.out.cell 1
  have qb2_3 : wz3.cell? ⟨wz1.heap.size, 2, none⟩ = some (.int .i64 0) := Hbz3.out.cell 2
  have qb3_3 : wz3.cell? ⟨wz1.heap.size, 3, none⟩ = some (.int .i64 0) := Hbz3.out.cell 3
  have lb_3 : wz1.heap.size < wz3.heap.size := Hbz3.out.lt
  have zb0_3 : wz3.frozen? ⟨wz1.heap.size, 0, none⟩ = false := Hbz3.out.frozen 0
  have zb1_3 : wz3.frozen? ⟨wz1.heap.size, 1, none⟩ = false := Hbz3.out.frozen 1
  have zb2_3 : wz3.frozen? ⟨wz1.heap.size, 2, none⟩ = false := Hbz3.out.frozen 2
  have zb3_3 : wz3.frozen? ⟨wz1.heap.size, 3, none⟩ = false := Hbz3.out.frozen 3
  obtain ⟨wz4, hwz4⟩ : ∃ wz4, ((((wz3.setCell ⟨wz1.heap.size, 0, none⟩ (.int .i64 2)).setCell ⟨wz1.heap.size, 1, none⟩ (.int .i64 10)).setCell ⟨wz1.heap.size, 2, none⟩ (.int .i64 1)).setCell ⟨wz1.heap.size, 3, none⟩ (.int .i64 1)) = wz4 := ⟨_, rfl⟩
  have Hbz4 := Lib.hid (show Has wz4 wz1.heap.size [.int .i64 2, .int .i64 10, .int .i64 1, .int .i64 1] 23 by rw [← hwz4]; exact Hbz3.out.put4B (.int .i64 2) (.int .i64 10) (.int .i64 1) (.int .i64 1))
  have HBz4 := Lib.hid (show Below w.heap.size w wz4 by rw [← hwz4]; exact Below.put4B HBz3.out (b := wz1.heap.size) (by first | exact Nat.le_refl _ | exact HLBb.out) (.int .i64 2) (.int .i64 10) (.int .i64 1) (.int .i64 1))
  have HWz4 := Lib.hid hwz4
  clear hwz4
  go_upto_region 3 with fail
  rw [HWz4.out]
  clear qb0_3 qb1_3 qb2_3 qb3_3 lb_3 zb0_3 zb1_3 zb2_3 zb3_3
  have qb0_4 : wz4.cell? ⟨wz1.heap.size, 0, none⟩ = some (.int .i64 2) := Hbz4.out.cell 0
  have qb1_4 : wz4.cell? ⟨wz1.heap.size, 1, none⟩ = some (.int .i64 10) := Hbz4.out.cell 1
  have qb2_4 : wz4.cell? ⟨wz1.heap.size, 2, none⟩ = some (.int .i64 1) := Hbz4.out.cell 2
  have qb3_4 : wz4.cell? ⟨wz1.heap.size, 3, none⟩ = some (.int .i64 1) := Hbz4.out.cell 3
  have lb_4 : wz1.heap.size < wz4.heap.size := Hbz4.out.lt
  have hcz5 := HB.out wz4
  go_wp2_with fail
  refine hcz5.mono ?_
  rintro e wz5 ⟨rfl, kz5⟩
  clear hcz5 qb0_4 qb1_4 qb2_4 qb3_4 lb_4
  have HBz5 := Lib.hid (HBz4.out.trans (kz5.mono (Nat.le_trans hbase HBz4.out.size)))
  have Hbz5 := Lib.hid (Hbz4.out.call kz5)
  clear kz5
  have qb0_5 : wz5.cell? ⟨wz1.heap.size, 0, none⟩ = some (.int .i64 2) := Hbz5.out.cell 0
  have qb1_5 : wz5.cell? ⟨wz1.heap.size, 1, none⟩ = some (.int .i64 10) := Hbz5.out.cell 1
  have qb2_5 : wz5.cell? ⟨wz1.heap.size, 2, none⟩ = some (.int .i64 1) := Hbz5.out.cell 2
  have qb3_5 : wz5.cell? ⟨wz1.heap.size, 3, none⟩ = some (.int .i64 1) := Hbz5.out.cell 3
  have lb_5 : wz1.heap.size < wz5.heap.size := Hbz5.out.lt
  have zb0_5 : wz5.frozen? ⟨wz1.heap.size, 0, none⟩ = false := Hbz5.out.frozen 0
  have zb1_5 : wz5.frozen? ⟨wz1.heap.size, 1, none⟩ = false := Hbz5.out.frozen 1
  have zb2_5 : wz5.frozen? ⟨wz1.heap.size, 2, none⟩ = false := Hbz5.out.frozen 2
  have zb3_5 : wz5.frozen? ⟨wz1.heap.size, 3, none⟩ = false := Hbz5.out.frozen 3
  obtain ⟨wz6, hwz6⟩ : ∃ wz6, ((((wz5.setCell ⟨wz1.heap.size, 0, none⟩ (.int .i64 2)).setCell ⟨wz1.heap.size, 1, none⟩ (.int .i64 10)).setCell ⟨wz1.heap.size, 2, none⟩ (.int .i64 2)).setCell ⟨wz1.heap.size, 3, none⟩ (.int .i64 4)) = wz6 := ⟨_, rfl⟩
  have Hbz6 := Lib.hid (show Has wz6 wz1.heap.size [.int .i64 2, .int .i64 10, .int .i64 2, .int .i64 4] 23 by rw [← hwz6]; exact Hbz5.out.put4B (.int .i64 2) (.int .i64 10) (.int .i64 2) (.int .i64 4))
  have HBz6 := Lib.hid (show Below w.heap.size w wz6 by rw [← hwz6]; exact Below.put4B HBz5.out (b := wz1.heap.size) (by first | exact Nat.le_refl _ | exact HLBb.out) (.int .i64 2) (.int .i64 10) (.int .i64 2) (.int .i64 4))
  have HWz6 := Lib.hid hwz6
  clear hwz6
  go_upto_region 4 with fail
  rw [HWz6.out]
  clear qb0_5 qb1_5 qb2_5 qb3_5 lb_5 zb0_5 zb1_5 zb2_5 zb3_5
  have qb0_6 : wz6.cell? ⟨wz1.heap.size, 0, none⟩ = some (.int .i64 2) := Hbz6.out.cell 0
  have qb1_6 : wz6.cell? ⟨wz1.heap.size, 1, none⟩ = some (.int .i64 10) := Hbz6.out.cell 1
  have qb2_6 : wz6.cell? ⟨wz1.heap.size, 2, none⟩ = some (.int .i64 2) := Hbz6.out.cell 2
  have qb3_6 : wz6.cell? ⟨wz1.heap.size, 3, none⟩ = some (.int .i64 4) := Hbz6.out.cell 3
  have lb_6 : wz1.heap.size < wz6.heap.size := Hbz6.out.lt
  have hcz7 := HP.out wz6
  go_wp2_with fail
  refine hcz7.mono ?_
  rintro e wz7 ⟨rfl, kz7⟩
  clear hcz7 qb0_6 qb1_6 qb2_6 qb3_6 lb_6
  have HBz7 := Lib.hid (HBz6.out.trans (kz7.mono (Nat.le_trans hbase HBz6.out.size)))
  have Hbz7 := Lib.hid (Hbz6.out.call kz7)
  clear kz7
  obtain ⟨wz8, hwz8⟩ : ∃ wz8, wz7.alloc (.cells #[.int .i64 40, .int .i64 200, .int .i64 20, .int .u64 0, .int .u64 640] 38) = wz8 := ⟨_, rfl⟩
  have kz8 : Below wz7.heap.size wz7 wz8 := by rw [← hwz8]; exact (Below.refl _ _).alloc (Nat.le_refl _) _
  have Hpz8 := Lib.hid (show Has wz8 wz7.heap.size [.int .i64 40, .int .i64 200, .int .i64 20, .int .u64 0, .int .u64 640] 38 by rw [← hwz8]; exact Has.new _ _ _)
  have HWz8 := Lib.hid hwz8
  clear hwz8
  have HBz8 := Lib.hid (HBz7.out.trans (kz8.mono (Nat.le_trans hbase HBz7.out.size)))
  have Hbz8 := Lib.hid (Hbz7.out.call kz8)
  clear kz8
  go_upto_region 5 with fail
  rw [HWz8.out]
  have qb0_8 : wz8.cell? ⟨wz1.heap.size, 0, none⟩ = some (.int .i64 2) := Hbz8.out.cell 0
  have qb1_8 : wz8.cell? ⟨wz1.heap.size, 1, none⟩ = some (.int .i64 10) := Hbz8.out.cell 1
  have qb2_8 : wz8.cell? ⟨wz1.heap.size, 2, none⟩ = some (.int .i64 2) := Hbz8.out.cell 2
  have qb3_8 : wz8.cell? ⟨wz1.heap.size, 3, none⟩ = some (.int .i64 4) := Hbz8.out.cell 3
  have lb_8 : wz1.heap.size < wz8.heap.size := Hbz8.out.lt
  have qp0_8 : wz8.cell? ⟨wz7.heap.size, 0, none⟩ = some (.int .i64 40) := Hpz8.out.cell 0
  have qp1_8 : wz8.cell? ⟨wz7.heap.size, 1, none⟩ = some (.int .i64 200) := Hpz8.out.cell 1
  have qp2_8 : wz8.cell? ⟨wz7.heap.size, 2, none⟩ = some (.int .i64 20) := Hpz8.out.cell 2
  have qp3_8 : wz8.cell? ⟨wz7.heap.size, 3, none⟩ = some (.int .u64 0) := Hpz8.out.cell 3
  have qp4_8 : wz8.cell? ⟨wz7.heap.size, 4, none⟩ = some (.int .u64 640) := Hpz8.out.cell 4
  have lp_8 : wz7.heap.size < wz8.heap.size := Hpz8.out.lt
  go_wp2
  go_ret
  exact ⟨rfl, HBz8.out⟩
end Go.Proofs.Ytgmifimpeefpcaa
