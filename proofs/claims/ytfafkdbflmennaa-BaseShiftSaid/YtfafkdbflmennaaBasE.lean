/- What the laws of stage 15 ask of base's functions; alive; bases and points compared. -/
import Derived.Test.YtfafkdbflmennaaBasD
import Derived.Test.YtfafkdbflmennaaApI
namespace Go.Proofs.Ytfafkdbflmennaa
open Go.RowKit

def basI (b : Bas) : Prop := IsInt b.size ∧ IsInt b.m ∧ IsInt b.sum ∧ IsInt b.rng ∧ IsInt b.last
theorem basI_ok {b : Bas} (h : basOk b) : basI b := by
  have h1 := sum_bounds h
  have h2 := stp_bounds h
  obtain ⟨h3, _, h4⟩ := h
  unfold basI IsInt
  omega
theorem basI_0 : basI bas0 := by unfold basI bas0 IsInt; dsimp only; omega
def newE (n : Int) : Int := if 1 ≤ n ∧ n ≤ 10 then 0 else 1
def newA (n : Int) : Bas := if 1 ≤ n ∧ n ≤ 10 then ⟨n, 0, 0, 0, 0⟩ else bas0
structure BasCode : Prop where
  right : ∀ (b : Bas), basI b → ∀ (W : World), Calls Try.prog 10 #[basV b] W fun e w' => e = .returned (.bool (basB b)) ∧ Below W.heap.size W w'
  new : ∀ (n : Int), IsInt n → ∀ (W : World), Calls Try.prog 8 #[.int .i64 n] W fun e w' => e = .returned (.tuple #[basV (newA n), .int .i64 (newE n)]) ∧ Below W.heap.size W w'
  take : ∀ (b : Bas), basI b → ∀ (l : List Int) (v : Value) (W : World), l.length ≤ 1000 → ReadsI W v l → Calls Try.prog 9 #[basV b, v] W fun e w' => e = .returned (.tuple #[basV (takA b l), .int .i64 (takE b l)]) ∧ Below W.heap.size W w'
  point : ∀ (b : Bas), basI b → ∀ (s : Int), IsInt s → ∀ (W : World), Calls Try.prog 15 #[basV b, .int .i64 s] W fun e w' => e = .returned (.tuple #[pntV (poiA b s), .int .i64 (poiE b s)]) ∧ Below W.heap.size W w'
  wide : ∀ (b : Bas), basI b → ∀ (r : Int), IsInt r → ∀ (W : World), Calls Try.prog 16 #[basV b, .int .i64 r] W fun e w' => e = .returned (.tuple #[.int .i64 (widA b r), .int .i64 (widE b r)]) ∧ Below W.heap.size W w'
theorem eqBas (a b c d e : Int) (w : World) : (Op.equalIn 10000 23 (.agg #[.int .i64 a, .int .i64 b, .int .i64 c, .int .i64 d, .int .i64 e]) (.agg #[.int .i64 a, .int .i64 b, .int .i64 c, .int .i64 d, .int .i64 e])).run Try.prog w = .ok true w := by go_simp
theorem eqPnt (a b c : Int) (d e : Int) (w : World) : (Op.equalIn 10000 38 (.agg #[.int .i64 a, .int .i64 b, .int .i64 c, .int .u64 d, .int .u64 e]) (.agg #[.int .i64 a, .int .i64 b, .int .i64 c, .int .u64 d, .int .u64 e])).run Try.prog w = .ok true w := by go_simp
theorem alive_tab : takA ⟨2, 0, 0, 0, 0⟩ [1, 3] = ⟨2, 1, 4, 2, 3⟩ ∧ takE ⟨2, 0, 0, 0, 0⟩ [1, 3] = 0 ∧ takA ⟨2, 1, 4, 2, 3⟩ [2, 6] = ⟨2, 2, 12, 6, 6⟩ ∧ takE ⟨2, 1, 4, 2, 3⟩ [2, 6] = 0 ∧ poiA ⟨2, 2, 12, 6, 6⟩ 6 = ⟨360000, 120000, 0, 225600 * 225600⟩ ∧ poiE ⟨2, 2, 12, 6, 6⟩ 6 = 0 ∧ newA 2 = ⟨2, 0, 0, 0, 0⟩ ∧ newE 2 = 0 :=
  ⟨by rfl, by rfl, by rfl, by rfl, by rfl, by rfl, by rfl, by rfl⟩
theorem ReadsI.twoI (w : World) (x y : Int) : ReadsI (w.alloc (.cells #[.int .i64 x, .int .i64 y] 3)) (.slice (some ⟨w.heap.size, 0, none⟩) 2 2) [x, y] :=
  (Has.new w [.int .i64 x, .int .i64 y] 3).readsI rfl rfl (Nat.le_refl _) (by omega) rfl
set_option linter.unusedSimpArgs false in
set_option linter.unusedVariables false in
set_option maxHeartbeats 4000000 in
set_option maxRecDepth 100000 in
theorem alive15_any (H : BasCode) (w : World) : Calls Try.prog 12 #[] w fun e w' => e = .returned (.bool true) ∧ Below w.heap.size w w' := by
  obtain ⟨t1, t2, t3, t4, t5, t6, t7, t8⟩ := alive_tab
  have hn := fun W => H.new 2 (by unfold IsInt; omega) W
  have ha := fun v W hr => H.take ⟨2, 0, 0, 0, 0⟩ (by unfold basI IsInt; dsimp only; omega) [1, 3] v W (by decide) hr
  have hb := fun v W hr => H.take ⟨2, 1, 4, 2, 3⟩ (by unfold basI IsInt; dsimp only; omega) [2, 6] v W (by decide) hr
  have hp := fun W => H.point ⟨2, 2, 12, 6, 6⟩ (by unfold basI IsInt; dsimp only; omega) 6 (by unfold IsInt; omega) W
  rw [t1, t2] at ha
  rw [t3, t4] at hb
  rw [t5, t6] at hp
  rw [t7, t8] at hn
  obtain ⟨q1, hq1⟩ : ∃ q, hi (225600 * 225600) = q := ⟨_, rfl⟩
  obtain ⟨q2, hq2⟩ : ∃ q, lo (225600 * 225600) = q := ⟨_, rfl⟩
  dsimp only [pntV] at hp
  rw [hq1, hq2] at hp
  have HN := Lib.hid hn; have HA := Lib.hid ha; have HB := Lib.hid hb; have HP := Lib.hid hp
  have hbase := Nat.le_refl w.heap.size
  have HB0 := Lib.hid (Below.refl w.heap.size w)
  clear H t1 t2 t3 t4 t5 t6 t7 t8 hn ha hb hp hq1 hq2
  go_enter Try.func12, Try.ntmps12
  have hcz1 := HN.out w
  go_wp2_with fail
  refine hcz1.mono ?_
  rintro e wz1 ⟨rfl, kz1⟩
  clear hcz1
  have HBz1 := Lib.hid (HB0.out.trans (kz1.mono (Nat.le_trans hbase HB0.out.size)))
  have HLBb := Lib.hid (show w.heap.size ≤ wz1.heap.size from kz1.size)
  clear kz1
  obtain ⟨wz2, hwz2⟩ : ∃ wz2, wz1.alloc (.cells #[.int .i64 2, .int .i64 0, .int .i64 0, .int .i64 0, .int .i64 0] 23) = wz2 := ⟨_, rfl⟩
  have kz2 : Below wz1.heap.size wz1 wz2 := by rw [← hwz2]; exact (Below.refl _ _).alloc (Nat.le_refl _) _
  have Hbz2 := Lib.hid (show Has wz2 wz1.heap.size [.int .i64 2, .int .i64 0, .int .i64 0, .int .i64 0, .int .i64 0] 23 by rw [← hwz2]; exact Has.new _ _ _)
  have HWz2 := Lib.hid hwz2
  clear hwz2
  have HBz2 := Lib.hid (HBz1.out.trans (kz2.mono (Nat.le_trans hbase HBz1.out.size)))
  clear kz2
  go_upto_region 2 with fail
  rw [HWz2.out]
  have qb0_2 : wz2.cell? ⟨wz1.heap.size, 0, none⟩ = some (.int .i64 2) := Hbz2.out.cell 0
  have qb1_2 : wz2.cell? ⟨wz1.heap.size, 1, none⟩ = some (.int .i64 0) := Hbz2.out.cell 1
  have qb2_2 : wz2.cell? ⟨wz1.heap.size, 2, none⟩ = some (.int .i64 0) := Hbz2.out.cell 2
  have qb3_2 : wz2.cell? ⟨wz1.heap.size, 3, none⟩ = some (.int .i64 0) := Hbz2.out.cell 3
  have qb4_2 : wz2.cell? ⟨wz1.heap.size, 4, none⟩ = some (.int .i64 0) := Hbz2.out.cell 4
  have lb_2 : wz1.heap.size < wz2.heap.size := Hbz2.out.lt
  obtain ⟨wz3, hwz3⟩ : ∃ wz3, wz2.alloc (.cells #[.int .i64 1, .int .i64 3] 3) = wz3 := ⟨_, rfl⟩
  have kz3 : Below wz2.heap.size wz2 wz3 := by rw [← hwz3]; exact (Below.refl _ _).alloc (Nat.le_refl _) _
  have Hsz3 := Lib.hid (show Has wz3 wz2.heap.size [.int .i64 1, .int .i64 3] 3 by rw [← hwz3]; exact Has.new _ _ _)
  have HWz3 := Lib.hid hwz3
  clear hwz3
  have HBz3 := Lib.hid (HBz2.out.trans (kz3.mono (Nat.le_trans hbase HBz2.out.size)))
  have Hbz3 := Lib.hid (Hbz2.out.call kz3)
  clear kz3
  have hcz4 := HA.out _ wz3 (by rw [← HWz3.out]; exact ReadsI.twoI _ 1 3)
  go_wp2_with fail
  rw [HWz3.out]
  refine hcz4.mono ?_
  rintro e wz4 ⟨rfl, kz4⟩
  clear hcz4 qb0_2 qb1_2 qb2_2 qb3_2 qb4_2 lb_2
  have HBz4 := Lib.hid (HBz3.out.trans (kz4.mono (Nat.le_trans hbase HBz3.out.size)))
  have Hbz4 := Lib.hid (Hbz3.out.call kz4)
  have Hsz4 := Lib.hid (Hsz3.out.call kz4)
  clear kz4
  have qb0_4 : wz4.cell? ⟨wz1.heap.size, 0, none⟩ = some (.int .i64 2) := Hbz4.out.cell 0
  have qb1_4 : wz4.cell? ⟨wz1.heap.size, 1, none⟩ = some (.int .i64 0) := Hbz4.out.cell 1
  have qb2_4 : wz4.cell? ⟨wz1.heap.size, 2, none⟩ = some (.int .i64 0) := Hbz4.out.cell 2
  have qb3_4 : wz4.cell? ⟨wz1.heap.size, 3, none⟩ = some (.int .i64 0) := Hbz4.out.cell 3
  have qb4_4 : wz4.cell? ⟨wz1.heap.size, 4, none⟩ = some (.int .i64 0) := Hbz4.out.cell 4
  have lb_4 : wz1.heap.size < wz4.heap.size := Hbz4.out.lt
  have zb0_4 : wz4.frozen? ⟨wz1.heap.size, 0, none⟩ = false := Hbz4.out.frozen 0
  have zb1_4 : wz4.frozen? ⟨wz1.heap.size, 1, none⟩ = false := Hbz4.out.frozen 1
  have zb2_4 : wz4.frozen? ⟨wz1.heap.size, 2, none⟩ = false := Hbz4.out.frozen 2
  have zb3_4 : wz4.frozen? ⟨wz1.heap.size, 3, none⟩ = false := Hbz4.out.frozen 3
  have zb4_4 : wz4.frozen? ⟨wz1.heap.size, 4, none⟩ = false := Hbz4.out.frozen 4
  obtain ⟨wz5, hwz5⟩ : ∃ wz5, (((((wz4.setCell ⟨wz1.heap.size, 0, none⟩ (.int .i64 2)).setCell ⟨wz1.heap.size, 1, none⟩ (.int .i64 1)).setCell ⟨wz1.heap.size, 2, none⟩ (.int .i64 4)).setCell ⟨wz1.heap.size, 3, none⟩ (.int .i64 2)).setCell ⟨wz1.heap.size, 4, none⟩ (.int .i64 3)) = wz5 := ⟨_, rfl⟩
  have Hbz5 := Lib.hid (show Has wz5 wz1.heap.size [.int .i64 2, .int .i64 1, .int .i64 4, .int .i64 2, .int .i64 3] 23 by rw [← hwz5]; exact Hbz4.out.put5B (.int .i64 2) (.int .i64 1) (.int .i64 4) (.int .i64 2) (.int .i64 3))
  have HBz5 := Lib.hid (show Below w.heap.size w wz5 by rw [← hwz5]; exact Below.put5B HBz4.out (b := wz1.heap.size) (by first | exact Nat.le_refl _ | exact HLBb.out) (.int .i64 2) (.int .i64 1) (.int .i64 4) (.int .i64 2) (.int .i64 3))
  have HWz5 := Lib.hid hwz5
  clear hwz5
  go_upto_region 3 with fail
  rw [HWz5.out]
  clear qb0_4 qb1_4 qb2_4 qb3_4 qb4_4 lb_4 zb0_4 zb1_4 zb2_4 zb3_4 zb4_4
  have qb0_5 : wz5.cell? ⟨wz1.heap.size, 0, none⟩ = some (.int .i64 2) := Hbz5.out.cell 0
  have qb1_5 : wz5.cell? ⟨wz1.heap.size, 1, none⟩ = some (.int .i64 1) := Hbz5.out.cell 1
  have qb2_5 : wz5.cell? ⟨wz1.heap.size, 2, none⟩ = some (.int .i64 4) := Hbz5.out.cell 2
  have qb3_5 : wz5.cell? ⟨wz1.heap.size, 3, none⟩ = some (.int .i64 2) := Hbz5.out.cell 3
  have qb4_5 : wz5.cell? ⟨wz1.heap.size, 4, none⟩ = some (.int .i64 3) := Hbz5.out.cell 4
  have lb_5 : wz1.heap.size < wz5.heap.size := Hbz5.out.lt
  obtain ⟨wz6, hwz6⟩ : ∃ wz6, wz5.alloc (.cells #[.int .i64 2, .int .i64 6] 3) = wz6 := ⟨_, rfl⟩
  have kz6 : Below wz5.heap.size wz5 wz6 := by rw [← hwz6]; exact (Below.refl _ _).alloc (Nat.le_refl _) _
  have Hsz6 := Lib.hid (show Has wz6 wz5.heap.size [.int .i64 2, .int .i64 6] 3 by rw [← hwz6]; exact Has.new _ _ _)
  have HWz6 := Lib.hid hwz6
  clear hwz6
  have HBz6 := Lib.hid (HBz5.out.trans (kz6.mono (Nat.le_trans hbase HBz5.out.size)))
  have Hbz6 := Lib.hid (Hbz5.out.call kz6)
  clear kz6
  have hcz7 := HB.out _ wz6 (by rw [← HWz6.out]; exact ReadsI.twoI _ 2 6)
  go_wp2_with fail
  rw [HWz6.out]
  refine hcz7.mono ?_
  rintro e wz7 ⟨rfl, kz7⟩
  clear hcz7 qb0_5 qb1_5 qb2_5 qb3_5 qb4_5 lb_5
  have HBz7 := Lib.hid (HBz6.out.trans (kz7.mono (Nat.le_trans hbase HBz6.out.size)))
  have Hbz7 := Lib.hid (Hbz6.out.call kz7)
  have Hsz7 := Lib.hid (Hsz6.out.call kz7)
  clear kz7
  have qb0_7 : wz7.cell? ⟨wz1.heap.size, 0, none⟩ = some (.int .i64 2) := Hbz7.out.cell 0
  have qb1_7 : wz7.cell? ⟨wz1.heap.size, 1, none⟩ = some (.int .i64 1) := Hbz7.out.cell 1
  have qb2_7 : wz7.cell? ⟨wz1.heap.size, 2, none⟩ = some (.int .i64 4) := Hbz7.out.cell 2
  have qb3_7 : wz7.cell? ⟨wz1.heap.size, 3, none⟩ = some (.int .i64 2) := Hbz7.out.cell 3
  have qb4_7 : wz7.cell? ⟨wz1.heap.size, 4, none⟩ = some (.int .i64 3) := Hbz7.out.cell 4
  have lb_7 : wz1.heap.size < wz7.heap.size := Hbz7.out.lt
  have zb0_7 : wz7.frozen? ⟨wz1.heap.size, 0, none⟩ = false := Hbz7.out.frozen 0
  have zb1_7 : wz7.frozen? ⟨wz1.heap.size, 1, none⟩ = false := Hbz7.out.frozen 1
  have zb2_7 : wz7.frozen? ⟨wz1.heap.size, 2, none⟩ = false := Hbz7.out.frozen 2
  have zb3_7 : wz7.frozen? ⟨wz1.heap.size, 3, none⟩ = false := Hbz7.out.frozen 3
  have zb4_7 : wz7.frozen? ⟨wz1.heap.size, 4, none⟩ = false := Hbz7.out.frozen 4
  obtain ⟨wz8, hwz8⟩ : ∃ wz8, (((((wz7.setCell ⟨wz1.heap.size, 0, none⟩ (.int .i64 2)).setCell ⟨wz1.heap.size, 1, none⟩ (.int .i64 2)).setCell ⟨wz1.heap.size, 2, none⟩ (.int .i64 12)).setCell ⟨wz1.heap.size, 3, none⟩ (.int .i64 6)).setCell ⟨wz1.heap.size, 4, none⟩ (.int .i64 6)) = wz8 := ⟨_, rfl⟩
  have Hbz8 := Lib.hid (show Has wz8 wz1.heap.size [.int .i64 2, .int .i64 2, .int .i64 12, .int .i64 6, .int .i64 6] 23 by rw [← hwz8]; exact Hbz7.out.put5B (.int .i64 2) (.int .i64 2) (.int .i64 12) (.int .i64 6) (.int .i64 6))
  have HBz8 := Lib.hid (show Below w.heap.size w wz8 by rw [← hwz8]; exact Below.put5B HBz7.out (b := wz1.heap.size) (by first | exact Nat.le_refl _ | exact HLBb.out) (.int .i64 2) (.int .i64 2) (.int .i64 12) (.int .i64 6) (.int .i64 6))
  have HWz8 := Lib.hid hwz8
  clear hwz8
  go_upto_region 4 with fail
  rw [HWz8.out]
  clear qb0_7 qb1_7 qb2_7 qb3_7 qb4_7 lb_7 zb0_7 zb1_7 zb2_7 zb3_7 zb4_7
  have qb0_8 : wz8.cell? ⟨wz1.heap.size, 0, none⟩ = some (.int .i64 2) := Hbz8.out.cell 0
  have qb1_8 : wz8.cell? ⟨wz1.heap.size, 1, none⟩ = some (.int .i64 2) := Hbz8.out.cell 1
  have qb2_8 : wz8.cell? ⟨wz1.heap.size, 2, none⟩ = some (.int .i64 12) := Hbz8.out.cell 2
  have qb3_8 : wz8.cell? ⟨wz1.heap.size, 3, none⟩ = some (.int .i64 6) := Hbz8.out.cell 3
  have qb4_8 : wz8.cell? ⟨wz1.heap.size, 4, none⟩ = some (.int .i64 6) := Hbz8.out.cell 4
  have lb_8 : wz1.heap.size < wz8.heap.size := Hbz8.out.lt
  have hcz9 := HP.out wz8
  go_wp2_with fail
  refine hcz9.mono ?_
  rintro e wz9 ⟨rfl, kz9⟩
  clear hcz9 qb0_8 qb1_8 qb2_8 qb3_8 qb4_8 lb_8
  have HBz9 := Lib.hid (HBz8.out.trans (kz9.mono (Nat.le_trans hbase HBz8.out.size)))
  have Hbz9 := Lib.hid (Hbz8.out.call kz9)
  clear kz9
  obtain ⟨wz10, hwz10⟩ : ∃ wz10, wz9.alloc (.cells #[.int .i64 360000, .int .i64 120000, .int .i64 0, .int .u64 (q1 : Nat), .int .u64 (q2 : Nat)] 38) = wz10 := ⟨_, rfl⟩
  have kz10 : Below wz9.heap.size wz9 wz10 := by rw [← hwz10]; exact (Below.refl _ _).alloc (Nat.le_refl _) _
  have Hpz10 := Lib.hid (show Has wz10 wz9.heap.size [.int .i64 360000, .int .i64 120000, .int .i64 0, .int .u64 (q1 : Nat), .int .u64 (q2 : Nat)] 38 by rw [← hwz10]; exact Has.new _ _ _)
  have HWz10 := Lib.hid hwz10
  clear hwz10
  have HBz10 := Lib.hid (HBz9.out.trans (kz10.mono (Nat.le_trans hbase HBz9.out.size)))
  have Hbz10 := Lib.hid (Hbz9.out.call kz10)
  clear kz10
  go_upto_region 5 with fail
  rw [HWz10.out]
  have qb0_10 : wz10.cell? ⟨wz1.heap.size, 0, none⟩ = some (.int .i64 2) := Hbz10.out.cell 0
  have qb1_10 : wz10.cell? ⟨wz1.heap.size, 1, none⟩ = some (.int .i64 2) := Hbz10.out.cell 1
  have qb2_10 : wz10.cell? ⟨wz1.heap.size, 2, none⟩ = some (.int .i64 12) := Hbz10.out.cell 2
  have qb3_10 : wz10.cell? ⟨wz1.heap.size, 3, none⟩ = some (.int .i64 6) := Hbz10.out.cell 3
  have qb4_10 : wz10.cell? ⟨wz1.heap.size, 4, none⟩ = some (.int .i64 6) := Hbz10.out.cell 4
  have lb_10 : wz1.heap.size < wz10.heap.size := Hbz10.out.lt
  have qp0_10 : wz10.cell? ⟨wz9.heap.size, 0, none⟩ = some (.int .i64 360000) := Hpz10.out.cell 0
  have qp1_10 : wz10.cell? ⟨wz9.heap.size, 1, none⟩ = some (.int .i64 120000) := Hpz10.out.cell 1
  have qp2_10 : wz10.cell? ⟨wz9.heap.size, 2, none⟩ = some (.int .i64 0) := Hpz10.out.cell 2
  have qp3_10 : wz10.cell? ⟨wz9.heap.size, 3, none⟩ = some (.int .u64 (q1 : Nat)) := Hpz10.out.cell 3
  have qp4_10 : wz10.cell? ⟨wz9.heap.size, 4, none⟩ = some (.int .u64 (q2 : Nat)) := Hpz10.out.cell 4
  have lp_10 : wz9.heap.size < wz10.heap.size := Hpz10.out.lt
  go_wp2
  go_ret
  exact ⟨rfl, HBz10.out⟩
end Go.Proofs.Ytfafkdbflmennaa
