/- zone.Class, zone.Hull. -/
import Derived.Test.YtcadbenjgpohoaaZonK
import Derived.Test.YtcadbenjgpohoaaSpR
namespace Go.Proofs.Ytcadbenjgpohoaa
open Go.RowKit

theorem class13_any (d : Int) (v : Nat) (hd : IsInt d) (hv : v < 21267647932558653966460912964485513216) (w : World) :
    Calls Try.prog 21 #[.int .i64 d, .agg #[.int .u64 (hi v : Nat), .int .u64 (lo v : Nat)]] w fun e w' => e = .returned (.int .i64 (clsN d v)) ∧ Below w.heap.size w w' := by
  by_cases h0 : d = 0
  · subst h0
    have hB := (Below.refl w.heap.size w).alloc (Nat.le_refl _) (.cells #[.int .u64 (hi v : Nat), .int .u64 (lo v : Nat)] 24)
    rw [clsN_zero]
    clear hd hv
    go_enter Try.func21, Try.ntmps21
    go_wp2
    go_ret
    exact ⟨rfl, hB⟩
  · have hz : d.natAbs < B64 := by unfold IsInt at hd; unfold B64; omega
    have hs : sqN d < M128 := by
      have e : M128 = B64 * B64 := by decide
      unfold sqN
      rw [e]
      exact Nat.mul_lt_mul_of_lt_of_lt hz hz
    have h := cls_core d h0 d.natAbs (sqN d) v _ w (fun W => size13_any d hd W) (fun W => mul_any d.natAbs d.natAbs hz hz W) hs hv rfl (by have := cntK_le (sqN d) v 3; omega)
    rw [cntK_all] at h
    have e : clsN d v = if d < 0 then -((1 + cntN (sqN d) v : Nat) : Int) else ((1 + cntN (sqN d) v : Nat) : Int) := by unfold clsN; rw [if_neg h0]
    rw [e]
    exact h
theorem hi_var (v : Nat) : decide (hi v < 1152921504606846976) = decide (v < 21267647932558653966460912964485513216) := by
  apply decide_eq_decide.2
  unfold hi
  omega
set_option linter.unusedSimpArgs false in
theorem cls13_core (d c : Int) (h l : Nat) (w : World)
    (m1 : (∀ W, Calls Try.prog 20 #[.agg #[.int .u64 (h : Nat), .int .u64 (l : Nat)]] W fun e w' => e = .returned (.bool true) ∧ Below W.heap.size W w'))
    (m2 : (∀ W, Calls Try.prog 21 #[.int .i64 d, .agg #[.int .u64 (h : Nat), .int .u64 (l : Nat)]] W fun e w' => e = .returned (.int .i64 c) ∧ Below W.heap.size W w')) :
    Calls Try.prog 7 #[.int .i64 d, .agg #[.int .u64 (h : Nat), .int .u64 (l : Nat)]] w fun e w' => e = .returned (.tuple #[.int .i64 c, .int .i64 0]) ∧ Below w.heap.size w w' := by
  have M1 := Lib.hid m1; have M2 := Lib.hid m2
  clear m1 m2
  obtain ⟨w2, hw2⟩ : ∃ w2, w.alloc (.cells #[.int .u64 (h : Nat), .int .u64 (l : Nat)] 24) = w2 := ⟨_, rfl⟩
  have HB2 := Lib.hid (show Below w.heap.size w w2 by rw [← hw2]; exact (Below.refl _ _).alloc (Nat.le_refl _) _)
  have HV2 := Lib.hid (show Has w2 w.heap.size [.int .u64 (h : Nat), .int .u64 (l : Nat)] 24 by rw [← hw2]; exact Has.new w _ _)
  have HW2 := Lib.hid hw2
  clear hw2
  have hbase := Nat.le_refl w.heap.size
  go_enter Try.func7, Try.ntmps7
  go_upto_region 1 with fail
  rw [HW2.out]
  have qv0_0 : w2.cell? ⟨w.heap.size, 0, none⟩ = some (.int .u64 (h : Nat)) := HV2.out.cell 0
  have qv1_0 : w2.cell? ⟨w.heap.size, 1, none⟩ = some (.int .u64 (l : Nat)) := HV2.out.cell 1
  have lv_0 : w.heap.size < w2.heap.size := HV2.out.lt
  have hcz1 := M1.out w2
  go_wp2_with fail
  refine hcz1.mono ?_
  rintro e wz1 ⟨rfl, kz1⟩
  clear hcz1 qv0_0 qv1_0 lv_0
  have HBz1 := Lib.hid (HB2.out.trans (kz1.mono (Nat.le_trans hbase HB2.out.size)))
  have Hvz1 := Lib.hid (HV2.out.call kz1)
  clear kz1
  have qv0_1 : wz1.cell? ⟨w.heap.size, 0, none⟩ = some (.int .u64 (h : Nat)) := Hvz1.out.cell 0
  have qv1_1 : wz1.cell? ⟨w.heap.size, 1, none⟩ = some (.int .u64 (l : Nat)) := Hvz1.out.cell 1
  have lv_1 : w.heap.size < wz1.heap.size := Hvz1.out.lt
  have hcz2 := M2.out wz1
  go_wp2_with fail
  refine hcz2.mono ?_
  rintro e wz2 ⟨rfl, kz2⟩
  clear hcz2 qv0_1 qv1_1 lv_1
  have HBz2 := Lib.hid (HBz1.out.trans (kz2.mono (Nat.le_trans hbase HBz1.out.size)))
  have Hvz2 := Lib.hid (Hvz1.out.call kz2)
  clear kz2
  go_wp2
  go_ret2
  exact ⟨rfl, HBz2.out⟩
set_option linter.unusedSimpArgs false in
theorem cls13_no (d : Int) (v : Nat) (hv : ¬ v < 21267647932558653966460912964485513216) (w : World) :
    Calls Try.prog 7 #[.int .i64 d, .agg #[.int .u64 (hi v : Nat), .int .u64 (lo v : Nat)]] w fun e w' => e = .returned (.tuple #[.int .i64 0, .int .i64 1]) ∧ Below w.heap.size w w' := by
  have m1 := fun W => var13_any (hi v) (lo v) W
  rw [hi_var, decide_eq_false hv] at m1
  have M1 := Lib.hid m1
  clear m1 hv
  obtain ⟨w2, hw2⟩ : ∃ w2, w.alloc (.cells #[.int .u64 (hi v : Nat), .int .u64 (lo v : Nat)] 24) = w2 := ⟨_, rfl⟩
  have HB2 := Lib.hid (show Below w.heap.size w w2 by rw [← hw2]; exact (Below.refl _ _).alloc (Nat.le_refl _) _)
  have HV2 := Lib.hid (show Has w2 w.heap.size [.int .u64 (hi v : Nat), .int .u64 (lo v : Nat)] 24 by rw [← hw2]; exact Has.new w _ _)
  have HW2 := Lib.hid hw2
  clear hw2
  have hbase := Nat.le_refl w.heap.size
  go_enter Try.func7, Try.ntmps7
  go_upto_region 1 with fail
  rw [HW2.out]
  have qv0_0 : w2.cell? ⟨w.heap.size, 0, none⟩ = some (.int .u64 (hi v : Nat)) := HV2.out.cell 0
  have qv1_0 : w2.cell? ⟨w.heap.size, 1, none⟩ = some (.int .u64 (lo v : Nat)) := HV2.out.cell 1
  have lv_0 : w.heap.size < w2.heap.size := HV2.out.lt
  have hcz1 := M1.out w2
  go_wp2_with fail
  refine hcz1.mono ?_
  rintro e wz1 ⟨rfl, kz1⟩
  clear hcz1 qv0_0 qv1_0 lv_0
  have HBz1 := Lib.hid (HB2.out.trans (kz1.mono (Nat.le_trans hbase HB2.out.size)))
  have Hvz1 := Lib.hid (HV2.out.call kz1)
  clear kz1
  go_wp2
  go_ret2
  exact ⟨rfl, HBz1.out⟩
theorem cls13_ok (d : Int) (v : Nat) (hd : IsInt d) (hv : v < 21267647932558653966460912964485513216) (w : World) :
    Calls Try.prog 7 #[.int .i64 d, .agg #[.int .u64 (hi v : Nat), .int .u64 (lo v : Nat)]] w fun e w' => e = .returned (.tuple #[.int .i64 (clsN d v), .int .i64 0]) ∧ Below w.heap.size w w' := by
  have m1 := fun W => var13_any (hi v) (lo v) W
  rw [hi_var, decide_eq_true hv] at m1
  exact cls13_core d _ _ _ w m1 (fun W => class13_any d v hd hv W)
/-- Class, whatever the deviation and the number. -/
def clsR (d : Int) (v : Nat) : Int := if v < 21267647932558653966460912964485513216 then clsN d v else 0
def clsE (v : Nat) : Int := if v < 21267647932558653966460912964485513216 then 0 else 1
theorem cls13_any (d : Int) (v : Nat) (hd : IsInt d) (w : World) :
    Calls Try.prog 7 #[.int .i64 d, .agg #[.int .u64 (hi v : Nat), .int .u64 (lo v : Nat)]] w fun e w' => e = .returned (.tuple #[.int .i64 (clsR d v), .int .i64 (clsE v)]) ∧ Below w.heap.size w w' := by
  unfold clsR clsE
  by_cases h : v < 21267647932558653966460912964485513216
  · rw [if_pos h, if_pos h]; exact cls13_ok d v hd h w
  · rw [if_neg h, if_neg h]; exact cls13_no d v h w
/-! ### Hull -/
set_option linter.unusedSimpArgs false in
set_option linter.unusedVariables false in
set_option maxHeartbeats 8000000 in
set_option maxRecDepth 100000 in
theorem hull_span (a b : Int) (uh ul xh xl : Nat) (w : World)
    (mr : (∀ W, Calls Try.prog 28 #[.agg #[.int .i64 a, .int .i64 b]] W fun e w' => e = .returned (.bool false) ∧ Below W.heap.size W w')) :
    Calls Try.prog 16 #[.agg #[.int .i64 a, .int .i64 b], .agg #[.int .u64 (uh : Nat), .int .u64 (ul : Nat)], .agg #[.int .u64 (xh : Nat), .int .u64 (xl : Nat)]] w fun e w' => e = .returned (.tuple #[.int .i64 0, .int .i64 1]) ∧ Below w.heap.size w w' := by
  have MR := Lib.hid mr
  clear mr
  obtain ⟨w2, hw2⟩ : ∃ w2, ((w.alloc (.cells #[.int .i64 a, .int .i64 b] 39)).alloc (.cells #[.int .u64 (uh : Nat), .int .u64 (ul : Nat)] 24)).alloc (.cells #[.int .u64 (xh : Nat), .int .u64 (xl : Nat)] 24) = w2 := ⟨_, rfl⟩
  have HB2 := Lib.hid (show Below w.heap.size w w2 by rw [← hw2]; exact (((Below.refl _ _).alloc (Nat.le_refl _) _).alloc (by simp) _).alloc (by simp; omega) _)
  have HP2 := Lib.hid (show Has w2 w.heap.size [.int .i64 a, .int .i64 b] 39 by rw [← hw2]; exact ((Has.new w _ _).alloc _).alloc _)
  have HU2 := Lib.hid (show Has w2 (w.heap.size + 1) [.int .u64 (uh : Nat), .int .u64 (ul : Nat)] 24 by
    rw [← hw2]
    have := (Has.new (w.alloc (.cells #[.int .i64 a, .int .i64 b] 39)) [.int .u64 (uh : Nat), .int .u64 (ul : Nat)] 24).alloc (.cells #[.int .u64 (xh : Nat), .int .u64 (xl : Nat)] 24)
    rw [show (w.alloc (.cells #[.int .i64 a, .int .i64 b] 39)).heap.size = w.heap.size + 1 by simp] at this
    exact this)
  have HX2 := Lib.hid (show Has w2 (w.heap.size + 2) [.int .u64 (xh : Nat), .int .u64 (xl : Nat)] 24 by
    rw [← hw2]
    have := Has.new ((w.alloc (.cells #[.int .i64 a, .int .i64 b] 39)).alloc (.cells #[.int .u64 (uh : Nat), .int .u64 (ul : Nat)] 24)) [.int .u64 (xh : Nat), .int .u64 (xl : Nat)] 24
    rw [show ((w.alloc (.cells #[.int .i64 a, .int .i64 b] 39)).alloc (.cells #[.int .u64 (uh : Nat), .int .u64 (ul : Nat)] 24)).heap.size = w.heap.size + 2 by simp] at this
    exact this)
  have HW2 := Lib.hid hw2
  clear hw2
  have hbase := Nat.le_refl w.heap.size
  go_enter Try.func16, Try.ntmps16
  go_upto_region 1 with fail
  rw [HW2.out]
  have qp0_0 : w2.cell? ⟨w.heap.size, 0, none⟩ = some (.int .i64 a) := HP2.out.cell 0
  have qp1_0 : w2.cell? ⟨w.heap.size, 1, none⟩ = some (.int .i64 b) := HP2.out.cell 1
  have lp_0 : w.heap.size < w2.heap.size := HP2.out.lt
  have hcz1 := MR.out w2
  go_wp2_with fail
  refine hcz1.mono ?_
  rintro e wz1 ⟨rfl, kz1⟩
  clear hcz1 qp0_0 qp1_0 lp_0
  have HBz1 := Lib.hid (HB2.out.trans (kz1.mono (Nat.le_trans hbase HB2.out.size)))
  have Hpz1 := Lib.hid (HP2.out.call kz1)
  have Huz1 := Lib.hid (HU2.out.call kz1)
  have Hxz1 := Lib.hid (HX2.out.call kz1)
  clear kz1
  go_wp2
  go_ret2
  exact ⟨rfl, HBz1.out⟩
set_option linter.unusedSimpArgs false in
set_option linter.unusedVariables false in
set_option maxHeartbeats 8000000 in
set_option maxRecDepth 100000 in
theorem hull_less (a b : Int) (uh ul xh xl : Nat) (w : World)
    (mr : (∀ W, Calls Try.prog 28 #[.agg #[.int .i64 a, .int .i64 b]] W fun e w' => e = .returned (.bool true) ∧ Below W.heap.size W w')) (ml : (∀ W, Calls Try.prog 18 #[.agg #[.int .u64 (xh : Nat), .int .u64 (xl : Nat)], .agg #[.int .u64 (uh : Nat), .int .u64 (ul : Nat)]] W fun e w' => e = .returned (.bool true) ∧ Below W.heap.size W w')) :
    Calls Try.prog 16 #[.agg #[.int .i64 a, .int .i64 b], .agg #[.int .u64 (uh : Nat), .int .u64 (ul : Nat)], .agg #[.int .u64 (xh : Nat), .int .u64 (xl : Nat)]] w fun e w' => e = .returned (.tuple #[.int .i64 0, .int .i64 1]) ∧ Below w.heap.size w w' := by
  have MR := Lib.hid mr; have ML := Lib.hid ml
  clear mr ml
  obtain ⟨w2, hw2⟩ : ∃ w2, ((w.alloc (.cells #[.int .i64 a, .int .i64 b] 39)).alloc (.cells #[.int .u64 (uh : Nat), .int .u64 (ul : Nat)] 24)).alloc (.cells #[.int .u64 (xh : Nat), .int .u64 (xl : Nat)] 24) = w2 := ⟨_, rfl⟩
  have HB2 := Lib.hid (show Below w.heap.size w w2 by rw [← hw2]; exact (((Below.refl _ _).alloc (Nat.le_refl _) _).alloc (by simp) _).alloc (by simp; omega) _)
  have HP2 := Lib.hid (show Has w2 w.heap.size [.int .i64 a, .int .i64 b] 39 by rw [← hw2]; exact ((Has.new w _ _).alloc _).alloc _)
  have HU2 := Lib.hid (show Has w2 (w.heap.size + 1) [.int .u64 (uh : Nat), .int .u64 (ul : Nat)] 24 by
    rw [← hw2]
    have := (Has.new (w.alloc (.cells #[.int .i64 a, .int .i64 b] 39)) [.int .u64 (uh : Nat), .int .u64 (ul : Nat)] 24).alloc (.cells #[.int .u64 (xh : Nat), .int .u64 (xl : Nat)] 24)
    rw [show (w.alloc (.cells #[.int .i64 a, .int .i64 b] 39)).heap.size = w.heap.size + 1 by simp] at this
    exact this)
  have HX2 := Lib.hid (show Has w2 (w.heap.size + 2) [.int .u64 (xh : Nat), .int .u64 (xl : Nat)] 24 by
    rw [← hw2]
    have := Has.new ((w.alloc (.cells #[.int .i64 a, .int .i64 b] 39)).alloc (.cells #[.int .u64 (uh : Nat), .int .u64 (ul : Nat)] 24)) [.int .u64 (xh : Nat), .int .u64 (xl : Nat)] 24
    rw [show ((w.alloc (.cells #[.int .i64 a, .int .i64 b] 39)).alloc (.cells #[.int .u64 (uh : Nat), .int .u64 (ul : Nat)] 24)).heap.size = w.heap.size + 2 by simp] at this
    exact this)
  have HW2 := Lib.hid hw2
  clear hw2
  have hbase := Nat.le_refl w.heap.size
  go_enter Try.func16, Try.ntmps16
  go_upto_region 1 with fail
  rw [HW2.out]
  have qp0_0 : w2.cell? ⟨w.heap.size, 0, none⟩ = some (.int .i64 a) := HP2.out.cell 0
  have qp1_0 : w2.cell? ⟨w.heap.size, 1, none⟩ = some (.int .i64 b) := HP2.out.cell 1
  have lp_0 : w.heap.size < w2.heap.size := HP2.out.lt
  have hcz1 := MR.out w2
  go_wp2_with fail
  refine hcz1.mono ?_
  rintro e wz1 ⟨rfl, kz1⟩
  clear hcz1 qp0_0 qp1_0 lp_0
  have HBz1 := Lib.hid (HB2.out.trans (kz1.mono (Nat.le_trans hbase HB2.out.size)))
  have Hpz1 := Lib.hid (HP2.out.call kz1)
  have Huz1 := Lib.hid (HU2.out.call kz1)
  have Hxz1 := Lib.hid (HX2.out.call kz1)
  clear kz1
  have qu0_1 : wz1.cell? ⟨w.heap.size + 1, 0, none⟩ = some (.int .u64 (uh : Nat)) := Huz1.out.cell 0
  have qu1_1 : wz1.cell? ⟨w.heap.size + 1, 1, none⟩ = some (.int .u64 (ul : Nat)) := Huz1.out.cell 1
  have lu_1 : w.heap.size + 1 < wz1.heap.size := Huz1.out.lt
  have qx0_1 : wz1.cell? ⟨w.heap.size + 2, 0, none⟩ = some (.int .u64 (xh : Nat)) := Hxz1.out.cell 0
  have qx1_1 : wz1.cell? ⟨w.heap.size + 2, 1, none⟩ = some (.int .u64 (xl : Nat)) := Hxz1.out.cell 1
  have lx_1 : w.heap.size + 2 < wz1.heap.size := Hxz1.out.lt
  have hcz2 := ML.out wz1
  go_wp2_with fail
  refine hcz2.mono ?_
  rintro e wz2 ⟨rfl, kz2⟩
  clear hcz2 qu0_1 qu1_1 lu_1 qx0_1 qx1_1 lx_1
  have HBz2 := Lib.hid (HBz1.out.trans (kz2.mono (Nat.le_trans hbase HBz1.out.size)))
  have Hpz2 := Lib.hid (Hpz1.out.call kz2)
  have Huz2 := Lib.hid (Huz1.out.call kz2)
  have Hxz2 := Lib.hid (Hxz1.out.call kz2)
  clear kz2
  go_wp2
  go_ret2
  exact ⟨rfl, HBz2.out⟩
set_option linter.unusedSimpArgs false in
set_option linter.unusedVariables false in
set_option maxHeartbeats 8000000 in
set_option maxRecDepth 100000 in
theorem hull_var (a b : Int) (uh ul xh xl : Nat) (w : World)
    (mr : (∀ W, Calls Try.prog 28 #[.agg #[.int .i64 a, .int .i64 b]] W fun e w' => e = .returned (.bool true) ∧ Below W.heap.size W w')) (ml : (∀ W, Calls Try.prog 18 #[.agg #[.int .u64 (xh : Nat), .int .u64 (xl : Nat)], .agg #[.int .u64 (uh : Nat), .int .u64 (ul : Nat)]] W fun e w' => e = .returned (.bool false) ∧ Below W.heap.size W w')) (mv : (∀ W, Calls Try.prog 20 #[.agg #[.int .u64 (xh : Nat), .int .u64 (xl : Nat)]] W fun e w' => e = .returned (.bool false) ∧ Below W.heap.size W w')) :
    Calls Try.prog 16 #[.agg #[.int .i64 a, .int .i64 b], .agg #[.int .u64 (uh : Nat), .int .u64 (ul : Nat)], .agg #[.int .u64 (xh : Nat), .int .u64 (xl : Nat)]] w fun e w' => e = .returned (.tuple #[.int .i64 0, .int .i64 1]) ∧ Below w.heap.size w w' := by
  have MR := Lib.hid mr; have ML := Lib.hid ml; have MV := Lib.hid mv
  clear mr ml mv
  obtain ⟨w2, hw2⟩ : ∃ w2, ((w.alloc (.cells #[.int .i64 a, .int .i64 b] 39)).alloc (.cells #[.int .u64 (uh : Nat), .int .u64 (ul : Nat)] 24)).alloc (.cells #[.int .u64 (xh : Nat), .int .u64 (xl : Nat)] 24) = w2 := ⟨_, rfl⟩
  have HB2 := Lib.hid (show Below w.heap.size w w2 by rw [← hw2]; exact (((Below.refl _ _).alloc (Nat.le_refl _) _).alloc (by simp) _).alloc (by simp; omega) _)
  have HP2 := Lib.hid (show Has w2 w.heap.size [.int .i64 a, .int .i64 b] 39 by rw [← hw2]; exact ((Has.new w _ _).alloc _).alloc _)
  have HU2 := Lib.hid (show Has w2 (w.heap.size + 1) [.int .u64 (uh : Nat), .int .u64 (ul : Nat)] 24 by
    rw [← hw2]
    have := (Has.new (w.alloc (.cells #[.int .i64 a, .int .i64 b] 39)) [.int .u64 (uh : Nat), .int .u64 (ul : Nat)] 24).alloc (.cells #[.int .u64 (xh : Nat), .int .u64 (xl : Nat)] 24)
    rw [show (w.alloc (.cells #[.int .i64 a, .int .i64 b] 39)).heap.size = w.heap.size + 1 by simp] at this
    exact this)
  have HX2 := Lib.hid (show Has w2 (w.heap.size + 2) [.int .u64 (xh : Nat), .int .u64 (xl : Nat)] 24 by
    rw [← hw2]
    have := Has.new ((w.alloc (.cells #[.int .i64 a, .int .i64 b] 39)).alloc (.cells #[.int .u64 (uh : Nat), .int .u64 (ul : Nat)] 24)) [.int .u64 (xh : Nat), .int .u64 (xl : Nat)] 24
    rw [show ((w.alloc (.cells #[.int .i64 a, .int .i64 b] 39)).alloc (.cells #[.int .u64 (uh : Nat), .int .u64 (ul : Nat)] 24)).heap.size = w.heap.size + 2 by simp] at this
    exact this)
  have HW2 := Lib.hid hw2
  clear hw2
  have hbase := Nat.le_refl w.heap.size
  go_enter Try.func16, Try.ntmps16
  go_upto_region 1 with fail
  rw [HW2.out]
  have qp0_0 : w2.cell? ⟨w.heap.size, 0, none⟩ = some (.int .i64 a) := HP2.out.cell 0
  have qp1_0 : w2.cell? ⟨w.heap.size, 1, none⟩ = some (.int .i64 b) := HP2.out.cell 1
  have lp_0 : w.heap.size < w2.heap.size := HP2.out.lt
  have hcz1 := MR.out w2
  go_wp2_with fail
  refine hcz1.mono ?_
  rintro e wz1 ⟨rfl, kz1⟩
  clear hcz1 qp0_0 qp1_0 lp_0
  have HBz1 := Lib.hid (HB2.out.trans (kz1.mono (Nat.le_trans hbase HB2.out.size)))
  have Hpz1 := Lib.hid (HP2.out.call kz1)
  have Huz1 := Lib.hid (HU2.out.call kz1)
  have Hxz1 := Lib.hid (HX2.out.call kz1)
  clear kz1
  have qu0_1 : wz1.cell? ⟨w.heap.size + 1, 0, none⟩ = some (.int .u64 (uh : Nat)) := Huz1.out.cell 0
  have qu1_1 : wz1.cell? ⟨w.heap.size + 1, 1, none⟩ = some (.int .u64 (ul : Nat)) := Huz1.out.cell 1
  have lu_1 : w.heap.size + 1 < wz1.heap.size := Huz1.out.lt
  have qx0_1 : wz1.cell? ⟨w.heap.size + 2, 0, none⟩ = some (.int .u64 (xh : Nat)) := Hxz1.out.cell 0
  have qx1_1 : wz1.cell? ⟨w.heap.size + 2, 1, none⟩ = some (.int .u64 (xl : Nat)) := Hxz1.out.cell 1
  have lx_1 : w.heap.size + 2 < wz1.heap.size := Hxz1.out.lt
  have hcz2 := ML.out wz1
  go_wp2_with fail
  refine hcz2.mono ?_
  rintro e wz2 ⟨rfl, kz2⟩
  clear hcz2 qu0_1 qu1_1 lu_1 qx0_1 qx1_1 lx_1
  have HBz2 := Lib.hid (HBz1.out.trans (kz2.mono (Nat.le_trans hbase HBz1.out.size)))
  have Hpz2 := Lib.hid (Hpz1.out.call kz2)
  have Huz2 := Lib.hid (Huz1.out.call kz2)
  have Hxz2 := Lib.hid (Hxz1.out.call kz2)
  clear kz2
  have qx0_2 : wz2.cell? ⟨w.heap.size + 2, 0, none⟩ = some (.int .u64 (xh : Nat)) := Hxz2.out.cell 0
  have qx1_2 : wz2.cell? ⟨w.heap.size + 2, 1, none⟩ = some (.int .u64 (xl : Nat)) := Hxz2.out.cell 1
  have lx_2 : w.heap.size + 2 < wz2.heap.size := Hxz2.out.lt
  have hcz3 := MV.out wz2
  go_wp2_with fail
  refine hcz3.mono ?_
  rintro e wz3 ⟨rfl, kz3⟩
  clear hcz3 qx0_2 qx1_2 lx_2
  have HBz3 := Lib.hid (HBz2.out.trans (kz3.mono (Nat.le_trans hbase HBz2.out.size)))
  have Hpz3 := Lib.hid (Hpz2.out.call kz3)
  have Huz3 := Lib.hid (Huz2.out.call kz3)
  have Hxz3 := Lib.hid (Hxz2.out.call kz3)
  clear kz3
  go_wp2
  go_ret2
  exact ⟨rfl, HBz3.out⟩
set_option linter.unusedSimpArgs false in
set_option linter.unusedVariables false in
set_option maxHeartbeats 8000000 in
set_option maxRecDepth 100000 in
theorem hull_core (a b c1 c2 c3 c4 LO HI M : Int) (uh ul xh xl : Nat) (w : World)
    (mr : (∀ W, Calls Try.prog 28 #[.agg #[.int .i64 a, .int .i64 b]] W fun e w' => e = .returned (.bool true) ∧ Below W.heap.size W w')) (ml : (∀ W, Calls Try.prog 18 #[.agg #[.int .u64 (xh : Nat), .int .u64 (xl : Nat)], .agg #[.int .u64 (uh : Nat), .int .u64 (ul : Nat)]] W fun e w' => e = .returned (.bool false) ∧ Below W.heap.size W w')) (mv : (∀ W, Calls Try.prog 20 #[.agg #[.int .u64 (xh : Nat), .int .u64 (xl : Nat)]] W fun e w' => e = .returned (.bool true) ∧ Below W.heap.size W w'))
    (k1 : (∀ W, Calls Try.prog 21 #[.int .i64 a, .agg #[.int .u64 (uh : Nat), .int .u64 (ul : Nat)]] W fun e w' => e = .returned (.int .i64 c1) ∧ Below W.heap.size W w')) (k2 : (∀ W, Calls Try.prog 21 #[.int .i64 a, .agg #[.int .u64 (xh : Nat), .int .u64 (xl : Nat)]] W fun e w' => e = .returned (.int .i64 c2) ∧ Below W.heap.size W w'))
    (k3 : (∀ W, Calls Try.prog 21 #[.int .i64 b, .agg #[.int .u64 (uh : Nat), .int .u64 (ul : Nat)]] W fun e w' => e = .returned (.int .i64 c3) ∧ Below W.heap.size W w')) (k4 : (∀ W, Calls Try.prog 21 #[.int .i64 b, .agg #[.int .u64 (xh : Nat), .int .u64 (xl : Nat)]] W fun e w' => e = .returned (.int .i64 c4) ∧ Below W.heap.size W w'))
    (hlo : min c1 c2 = LO) (hhi : max c3 c4 = HI)
    (mb : ∀ W, Calls Try.prog 29 #[.int .i64 LO, .int .i64 HI] W fun e w' => e = .returned (.int .i64 M) ∧ w' = W) :
    Calls Try.prog 16 #[.agg #[.int .i64 a, .int .i64 b], .agg #[.int .u64 (uh : Nat), .int .u64 (ul : Nat)], .agg #[.int .u64 (xh : Nat), .int .u64 (xl : Nat)]] w fun e w' => e = .returned (.tuple #[.int .i64 M, .int .i64 0]) ∧ Below w.heap.size w w' := by
  have MR := Lib.hid mr; have ML := Lib.hid ml; have MV := Lib.hid mv; have K1 := Lib.hid k1; have K2 := Lib.hid k2; have K3 := Lib.hid k3; have K4 := Lib.hid k4; have HLO := Lib.hid hlo; have HHI := Lib.hid hhi; have MB := Lib.hid mb
  have HMN := Lib.hid (show (if c2 < c1 then c2 else c1) = LO by split <;> omega)
  have HMX := Lib.hid (show (if c3 < c4 then c4 else c3) = HI by split <;> omega)
  clear mr ml mv k1 k2 k3 k4 hlo hhi mb
  obtain ⟨w2, hw2⟩ : ∃ w2, ((w.alloc (.cells #[.int .i64 a, .int .i64 b] 39)).alloc (.cells #[.int .u64 (uh : Nat), .int .u64 (ul : Nat)] 24)).alloc (.cells #[.int .u64 (xh : Nat), .int .u64 (xl : Nat)] 24) = w2 := ⟨_, rfl⟩
  have HB2 := Lib.hid (show Below w.heap.size w w2 by rw [← hw2]; exact (((Below.refl _ _).alloc (Nat.le_refl _) _).alloc (by simp) _).alloc (by simp; omega) _)
  have HP2 := Lib.hid (show Has w2 w.heap.size [.int .i64 a, .int .i64 b] 39 by rw [← hw2]; exact ((Has.new w _ _).alloc _).alloc _)
  have HU2 := Lib.hid (show Has w2 (w.heap.size + 1) [.int .u64 (uh : Nat), .int .u64 (ul : Nat)] 24 by
    rw [← hw2]
    have := (Has.new (w.alloc (.cells #[.int .i64 a, .int .i64 b] 39)) [.int .u64 (uh : Nat), .int .u64 (ul : Nat)] 24).alloc (.cells #[.int .u64 (xh : Nat), .int .u64 (xl : Nat)] 24)
    rw [show (w.alloc (.cells #[.int .i64 a, .int .i64 b] 39)).heap.size = w.heap.size + 1 by simp] at this
    exact this)
  have HX2 := Lib.hid (show Has w2 (w.heap.size + 2) [.int .u64 (xh : Nat), .int .u64 (xl : Nat)] 24 by
    rw [← hw2]
    have := Has.new ((w.alloc (.cells #[.int .i64 a, .int .i64 b] 39)).alloc (.cells #[.int .u64 (uh : Nat), .int .u64 (ul : Nat)] 24)) [.int .u64 (xh : Nat), .int .u64 (xl : Nat)] 24
    rw [show ((w.alloc (.cells #[.int .i64 a, .int .i64 b] 39)).alloc (.cells #[.int .u64 (uh : Nat), .int .u64 (ul : Nat)] 24)).heap.size = w.heap.size + 2 by simp] at this
    exact this)
  have HW2 := Lib.hid hw2
  clear hw2
  have hbase := Nat.le_refl w.heap.size
  go_enter Try.func16, Try.ntmps16
  go_upto_region 1 with fail
  rw [HW2.out]
  have qp0_0 : w2.cell? ⟨w.heap.size, 0, none⟩ = some (.int .i64 a) := HP2.out.cell 0
  have qp1_0 : w2.cell? ⟨w.heap.size, 1, none⟩ = some (.int .i64 b) := HP2.out.cell 1
  have lp_0 : w.heap.size < w2.heap.size := HP2.out.lt
  have hcz1 := MR.out w2
  go_wp2_with fail
  refine hcz1.mono ?_
  rintro e wz1 ⟨rfl, kz1⟩
  clear hcz1 qp0_0 qp1_0 lp_0
  have HBz1 := Lib.hid (HB2.out.trans (kz1.mono (Nat.le_trans hbase HB2.out.size)))
  have Hpz1 := Lib.hid (HP2.out.call kz1)
  have Huz1 := Lib.hid (HU2.out.call kz1)
  have Hxz1 := Lib.hid (HX2.out.call kz1)
  clear kz1
  have qu0_1 : wz1.cell? ⟨w.heap.size + 1, 0, none⟩ = some (.int .u64 (uh : Nat)) := Huz1.out.cell 0
  have qu1_1 : wz1.cell? ⟨w.heap.size + 1, 1, none⟩ = some (.int .u64 (ul : Nat)) := Huz1.out.cell 1
  have lu_1 : w.heap.size + 1 < wz1.heap.size := Huz1.out.lt
  have qx0_1 : wz1.cell? ⟨w.heap.size + 2, 0, none⟩ = some (.int .u64 (xh : Nat)) := Hxz1.out.cell 0
  have qx1_1 : wz1.cell? ⟨w.heap.size + 2, 1, none⟩ = some (.int .u64 (xl : Nat)) := Hxz1.out.cell 1
  have lx_1 : w.heap.size + 2 < wz1.heap.size := Hxz1.out.lt
  have hcz2 := ML.out wz1
  go_wp2_with fail
  refine hcz2.mono ?_
  rintro e wz2 ⟨rfl, kz2⟩
  clear hcz2 qu0_1 qu1_1 lu_1 qx0_1 qx1_1 lx_1
  have HBz2 := Lib.hid (HBz1.out.trans (kz2.mono (Nat.le_trans hbase HBz1.out.size)))
  have Hpz2 := Lib.hid (Hpz1.out.call kz2)
  have Huz2 := Lib.hid (Huz1.out.call kz2)
  have Hxz2 := Lib.hid (Hxz1.out.call kz2)
  clear kz2
  have qx0_2 : wz2.cell? ⟨w.heap.size + 2, 0, none⟩ = some (.int .u64 (xh : Nat)) := Hxz2.out.cell 0
  have qx1_2 : wz2.cell? ⟨w.heap.size + 2, 1, none⟩ = some (.int .u64 (xl : Nat)) := Hxz2.out.cell 1
  have lx_2 : w.heap.size + 2 < wz2.heap.size := Hxz2.out.lt
  have hcz3 := MV.out wz2
  go_wp2_with fail
  refine hcz3.mono ?_
  rintro e wz3 ⟨rfl, kz3⟩
  clear hcz3 qx0_2 qx1_2 lx_2
  have HBz3 := Lib.hid (HBz2.out.trans (kz3.mono (Nat.le_trans hbase HBz2.out.size)))
  have Hpz3 := Lib.hid (Hpz2.out.call kz3)
  have Huz3 := Lib.hid (Huz2.out.call kz3)
  have Hxz3 := Lib.hid (Hxz2.out.call kz3)
  clear kz3
  go_upto_region 3 with fail
  go_cut [8] (fun s8 wx => s8 = .int .i64 LO ∧ Hid (Has wx (w.heap.size) [.int .i64 a, .int .i64 b] 39) ∧ Hid (Has wx (w.heap.size + 1) [.int .u64 (uh : Nat), .int .u64 (ul : Nat)] 24) ∧ Hid (Has wx (w.heap.size + 2) [.int .u64 (xh : Nat), .int .u64 (xl : Nat)] 24) ∧ Hid (Below w.heap.size w wx))
  case first =>
    refine wp_region_held_drew (S := (fun W => W.cell? ⟨w.heap.size, 0, none⟩ = some (.int .i64 a) ∧ W.cell? ⟨w.heap.size, 1, none⟩ = some (.int .i64 b) ∧ W.cell? ⟨w.heap.size + 1, 0, none⟩ = some (.int .u64 (uh : Nat)) ∧ W.cell? ⟨w.heap.size + 1, 1, none⟩ = some (.int .u64 (ul : Nat)) ∧ W.cell? ⟨w.heap.size + 2, 0, none⟩ = some (.int .u64 (xh : Nat)) ∧ W.cell? ⟨w.heap.size + 2, 1, none⟩ = some (.int .u64 (xl : Nat)) ∧ Hid (Has W (w.heap.size) [.int .i64 a, .int .i64 b] 39) ∧ Hid (Has W (w.heap.size + 1) [.int .u64 (uh : Nat), .int .u64 (ul : Nat)] 24) ∧ Hid (Has W (w.heap.size + 2) [.int .u64 (xh : Nat), .int .u64 (xl : Nat)] 24) ∧ Hid (Below w.heap.size w W))) (by kernel_rfl) ⟨(Hpz3.out.of rfl).cell 0, (Hpz3.out.of rfl).cell 1, (Huz3.out.of rfl).cell 0, (Huz3.out.of rfl).cell 1, (Hxz3.out.of rfl).cell 0, (Hxz3.out.of rfl).cell 1, Lib.hid (Hpz3.out.of rfl), Lib.hid (Huz3.out.of rfl), Lib.hid (Hxz3.out.of rfl), Lib.hid (HBz3.out.drew)⟩ (fun hHeld => ?_)
    refine regTake 0 (some 23) (v := ?_) rfl rfl (by kernel_rfl) (by kernel_rfl) (by kernel_rfl) (fun _ _ _ h => h) (by rfl) hHeld ?_ ?_
    rotate_left 1
    · (intro w hSw; (try dsimp only at hSw); go_simp; try with_reducible rfl)
    simp only [Act.put, List.setIfInBounds_toArray, List.set_cons_zero, List.set_cons_succ]
    refine regTake 1 (some 24) (v := ?_) rfl rfl (by kernel_rfl) (by kernel_rfl) (by kernel_rfl) (fun _ _ _ h => h) (by rfl) hHeld ?_ ?_
    rotate_left 1
    · (intro w hSw; (try dsimp only at hSw); go_simp; try with_reducible rfl)
    simp only [Act.put, List.setIfInBounds_toArray, List.set_cons_zero, List.set_cons_succ]
    refine regTake 2 (some 25) (v := ?_) rfl rfl (by kernel_rfl) (by kernel_rfl) (by kernel_rfl) (fun _ _ _ h => h) (by rfl) hHeld ?_ ?_
    rotate_left 1
    · (intro w hSw; (try dsimp only at hSw); go_simp; try with_reducible rfl)
    simp only [Act.put, List.setIfInBounds_toArray, List.set_cons_zero, List.set_cons_succ]
    refine regTake 4 (some 27) (v := ?_) rfl rfl (by kernel_rfl) (by kernel_rfl) (by kernel_rfl) (fun _ _ _ h => h) (by rfl) hHeld ?_ ?_
    rotate_left 1
    · (intro w hSw; (try dsimp only at hSw); go_simp; try with_reducible rfl)
    simp only [Act.put, List.setIfInBounds_toArray, List.set_cons_zero, List.set_cons_succ]
    refine regTake 5 (some 28) (v := ?_) rfl rfl (by kernel_rfl) (by kernel_rfl) (by kernel_rfl) (fun _ _ _ h => h) (by rfl) hHeld ?_ ?_
    rotate_left 1
    · (intro w hSw; (try dsimp only at hSw); go_simp; try with_reducible rfl)
    simp only [Act.put, List.setIfInBounds_toArray, List.set_cons_zero, List.set_cons_succ]
    refine regTake 6 (some 29) (v := ?_) rfl rfl (by kernel_rfl) (by kernel_rfl) (by kernel_rfl) (fun _ _ _ h => h) (by rfl) hHeld ?_ ?_
    rotate_left 1
    · (intro w hSw; (try dsimp only at hSw); go_simp; try with_reducible rfl)
    simp only [Act.put, List.setIfInBounds_toArray, List.set_cons_zero, List.set_cons_succ]
    refine regCall 3 (some 26) (f := 21) (args := ?_) rfl rfl (by kernel_rfl) (by rfl) ?_ ?_
    rotate_left 1
    · (go_simp; try with_reducible rfl)
    refine (K1.out _).mono ?_
    rintro e wx3 ⟨rfl, hbx⟩
    refine ⟨_, rfl, ⟨(hHeld.2.2.2.2.2.2.1.out.call hbx).cell 0, (hHeld.2.2.2.2.2.2.1.out.call hbx).cell 1, (hHeld.2.2.2.2.2.2.2.1.out.call hbx).cell 0, (hHeld.2.2.2.2.2.2.2.1.out.call hbx).cell 1, (hHeld.2.2.2.2.2.2.2.2.1.out.call hbx).cell 0, (hHeld.2.2.2.2.2.2.2.2.1.out.call hbx).cell 1, Lib.hid (hHeld.2.2.2.2.2.2.1.out.call hbx), Lib.hid (hHeld.2.2.2.2.2.2.2.1.out.call hbx), Lib.hid (hHeld.2.2.2.2.2.2.2.2.1.out.call hbx), Lib.hid (hHeld.2.2.2.2.2.2.2.2.2.out.trans (hbx.mono hHeld.2.2.2.2.2.2.2.2.2.out.size))⟩, fun hHeld => ?_⟩
    simp only [Act.put, List.setIfInBounds_toArray, List.set_cons_zero, List.set_cons_succ]
    refine regCall 7 (some 30) (f := 21) (args := ?_) rfl rfl (by kernel_rfl) (by rfl) ?_ ?_
    rotate_left 1
    · (go_simp; try with_reducible rfl)
    refine (K2.out _).mono ?_
    rintro e wx7 ⟨rfl, hbx⟩
    refine ⟨_, rfl, ⟨(hHeld.2.2.2.2.2.2.1.out.call hbx).cell 0, (hHeld.2.2.2.2.2.2.1.out.call hbx).cell 1, (hHeld.2.2.2.2.2.2.2.1.out.call hbx).cell 0, (hHeld.2.2.2.2.2.2.2.1.out.call hbx).cell 1, (hHeld.2.2.2.2.2.2.2.2.1.out.call hbx).cell 0, (hHeld.2.2.2.2.2.2.2.2.1.out.call hbx).cell 1, Lib.hid (hHeld.2.2.2.2.2.2.1.out.call hbx), Lib.hid (hHeld.2.2.2.2.2.2.2.1.out.call hbx), Lib.hid (hHeld.2.2.2.2.2.2.2.2.1.out.call hbx), Lib.hid (hHeld.2.2.2.2.2.2.2.2.2.out.trans (hbx.mono hHeld.2.2.2.2.2.2.2.2.2.out.size))⟩, fun hHeld => ?_⟩
    simp only [Act.put, List.setIfInBounds_toArray, List.set_cons_zero, List.set_cons_succ]
    refine regDo 8 (some 31) (v := .int .i64 LO) (w' := wx7) rfl rfl (by kernel_rfl) (by rfl) ?_ hHeld (fun hHeld => ?_)
    · (go_simp; rw [HMN.out])
    simp only [Act.put, List.setIfInBounds_toArray, List.set_cons_zero, List.set_cons_succ]
    refine regTake 9 (some 8) (v := ?_) rfl rfl (by kernel_rfl) (by kernel_rfl) (by kernel_rfl) (fun _ _ _ h => h) (by rfl) hHeld ?_ ?_
    rotate_left 1
    · (intro w hSw; (try dsimp only at hSw); go_simp; try with_reducible rfl)
    simp only [Act.put, List.setIfInBounds_toArray, List.set_cons_zero, List.set_cons_succ]
    refine wpAnyH_done (by kernel_rfl) ?_ _
    obtain ⟨_, _, _, _, _, _, H0a, H0b, H0c, H0d⟩ := hHeld
    go_wp2_with fail
    go_meet
    exact ⟨rfl, H0a, H0b, H0c, H0d⟩
  case rest =>
    obtain ⟨rfl, HP5, HU5, HX5, HB5⟩ := hcut
    obtain ⟨w5, hw5⟩ : ∃ w5 : World, w5 = wc := ⟨_, rfl⟩
    rw [← hw5] at HP5 HU5 HX5 HB5 ⊢
    clear hw5
    go_upto_region 4 with fail
    go_cut [9] (fun s9 wx => s9 = .int .i64 HI ∧ Hid (Has wx (w.heap.size) [.int .i64 a, .int .i64 b] 39) ∧ Hid (Has wx (w.heap.size + 1) [.int .u64 (uh : Nat), .int .u64 (ul : Nat)] 24) ∧ Hid (Has wx (w.heap.size + 2) [.int .u64 (xh : Nat), .int .u64 (xl : Nat)] 24) ∧ Hid (Below w.heap.size w wx))
    case first =>
      refine wp_region_held_drew (S := (fun W => W.cell? ⟨w.heap.size, 0, none⟩ = some (.int .i64 a) ∧ W.cell? ⟨w.heap.size, 1, none⟩ = some (.int .i64 b) ∧ W.cell? ⟨w.heap.size + 1, 0, none⟩ = some (.int .u64 (uh : Nat)) ∧ W.cell? ⟨w.heap.size + 1, 1, none⟩ = some (.int .u64 (ul : Nat)) ∧ W.cell? ⟨w.heap.size + 2, 0, none⟩ = some (.int .u64 (xh : Nat)) ∧ W.cell? ⟨w.heap.size + 2, 1, none⟩ = some (.int .u64 (xl : Nat)) ∧ Hid (Has W (w.heap.size) [.int .i64 a, .int .i64 b] 39) ∧ Hid (Has W (w.heap.size + 1) [.int .u64 (uh : Nat), .int .u64 (ul : Nat)] 24) ∧ Hid (Has W (w.heap.size + 2) [.int .u64 (xh : Nat), .int .u64 (xl : Nat)] 24) ∧ Hid (Below w.heap.size w W))) (by kernel_rfl) ⟨(HP5.out.of rfl).cell 0, (HP5.out.of rfl).cell 1, (HU5.out.of rfl).cell 0, (HU5.out.of rfl).cell 1, (HX5.out.of rfl).cell 0, (HX5.out.of rfl).cell 1, Lib.hid (HP5.out.of rfl), Lib.hid (HU5.out.of rfl), Lib.hid (HX5.out.of rfl), Lib.hid (HB5.out.drew)⟩ (fun hHeld => ?_)
      refine regTake 0 (some 32) (v := ?_) rfl rfl (by kernel_rfl) (by kernel_rfl) (by kernel_rfl) (fun _ _ _ h => h) (by rfl) hHeld ?_ ?_
      rotate_left 1
      · (intro w hSw; (try dsimp only at hSw); go_simp; try with_reducible rfl)
      simp only [Act.put, List.setIfInBounds_toArray, List.set_cons_zero, List.set_cons_succ]
      refine regTake 1 (some 33) (v := ?_) rfl rfl (by kernel_rfl) (by kernel_rfl) (by kernel_rfl) (fun _ _ _ h => h) (by rfl) hHeld ?_ ?_
      rotate_left 1
      · (intro w hSw; (try dsimp only at hSw); go_simp; try with_reducible rfl)
      simp only [Act.put, List.setIfInBounds_toArray, List.set_cons_zero, List.set_cons_succ]
      refine regTake 2 (some 34) (v := ?_) rfl rfl (by kernel_rfl) (by kernel_rfl) (by kernel_rfl) (fun _ _ _ h => h) (by rfl) hHeld ?_ ?_
      rotate_left 1
      · (intro w hSw; (try dsimp only at hSw); go_simp; try with_reducible rfl)
      simp only [Act.put, List.setIfInBounds_toArray, List.set_cons_zero, List.set_cons_succ]
      refine regTake 4 (some 36) (v := ?_) rfl rfl (by kernel_rfl) (by kernel_rfl) (by kernel_rfl) (fun _ _ _ h => h) (by rfl) hHeld ?_ ?_
      rotate_left 1
      · (intro w hSw; (try dsimp only at hSw); go_simp; try with_reducible rfl)
      simp only [Act.put, List.setIfInBounds_toArray, List.set_cons_zero, List.set_cons_succ]
      refine regTake 5 (some 37) (v := ?_) rfl rfl (by kernel_rfl) (by kernel_rfl) (by kernel_rfl) (fun _ _ _ h => h) (by rfl) hHeld ?_ ?_
      rotate_left 1
      · (intro w hSw; (try dsimp only at hSw); go_simp; try with_reducible rfl)
      simp only [Act.put, List.setIfInBounds_toArray, List.set_cons_zero, List.set_cons_succ]
      refine regTake 6 (some 38) (v := ?_) rfl rfl (by kernel_rfl) (by kernel_rfl) (by kernel_rfl) (fun _ _ _ h => h) (by rfl) hHeld ?_ ?_
      rotate_left 1
      · (intro w hSw; (try dsimp only at hSw); go_simp; try with_reducible rfl)
      simp only [Act.put, List.setIfInBounds_toArray, List.set_cons_zero, List.set_cons_succ]
      refine regCall 3 (some 35) (f := 21) (args := ?_) rfl rfl (by kernel_rfl) (by rfl) ?_ ?_
      rotate_left 1
      · (go_simp; try with_reducible rfl)
      refine (K3.out _).mono ?_
      rintro e wx3 ⟨rfl, hbx⟩
      refine ⟨_, rfl, ⟨(hHeld.2.2.2.2.2.2.1.out.call hbx).cell 0, (hHeld.2.2.2.2.2.2.1.out.call hbx).cell 1, (hHeld.2.2.2.2.2.2.2.1.out.call hbx).cell 0, (hHeld.2.2.2.2.2.2.2.1.out.call hbx).cell 1, (hHeld.2.2.2.2.2.2.2.2.1.out.call hbx).cell 0, (hHeld.2.2.2.2.2.2.2.2.1.out.call hbx).cell 1, Lib.hid (hHeld.2.2.2.2.2.2.1.out.call hbx), Lib.hid (hHeld.2.2.2.2.2.2.2.1.out.call hbx), Lib.hid (hHeld.2.2.2.2.2.2.2.2.1.out.call hbx), Lib.hid (hHeld.2.2.2.2.2.2.2.2.2.out.trans (hbx.mono hHeld.2.2.2.2.2.2.2.2.2.out.size))⟩, fun hHeld => ?_⟩
      simp only [Act.put, List.setIfInBounds_toArray, List.set_cons_zero, List.set_cons_succ]
      refine regCall 7 (some 39) (f := 21) (args := ?_) rfl rfl (by kernel_rfl) (by rfl) ?_ ?_
      rotate_left 1
      · (go_simp; try with_reducible rfl)
      refine (K4.out _).mono ?_
      rintro e wx7 ⟨rfl, hbx⟩
      refine ⟨_, rfl, ⟨(hHeld.2.2.2.2.2.2.1.out.call hbx).cell 0, (hHeld.2.2.2.2.2.2.1.out.call hbx).cell 1, (hHeld.2.2.2.2.2.2.2.1.out.call hbx).cell 0, (hHeld.2.2.2.2.2.2.2.1.out.call hbx).cell 1, (hHeld.2.2.2.2.2.2.2.2.1.out.call hbx).cell 0, (hHeld.2.2.2.2.2.2.2.2.1.out.call hbx).cell 1, Lib.hid (hHeld.2.2.2.2.2.2.1.out.call hbx), Lib.hid (hHeld.2.2.2.2.2.2.2.1.out.call hbx), Lib.hid (hHeld.2.2.2.2.2.2.2.2.1.out.call hbx), Lib.hid (hHeld.2.2.2.2.2.2.2.2.2.out.trans (hbx.mono hHeld.2.2.2.2.2.2.2.2.2.out.size))⟩, fun hHeld => ?_⟩
      simp only [Act.put, List.setIfInBounds_toArray, List.set_cons_zero, List.set_cons_succ]
      refine regDo 8 (some 40) (v := .int .i64 HI) (w' := wx7) rfl rfl (by kernel_rfl) (by rfl) ?_ hHeld (fun hHeld => ?_)
      · (go_simp; rw [HMX.out])
      simp only [Act.put, List.setIfInBounds_toArray, List.set_cons_zero, List.set_cons_succ]
      refine regTake 9 (some 9) (v := ?_) rfl rfl (by kernel_rfl) (by kernel_rfl) (by kernel_rfl) (fun _ _ _ h => h) (by rfl) hHeld ?_ ?_
      rotate_left 1
      · (intro w hSw; (try dsimp only at hSw); go_simp; try with_reducible rfl)
      simp only [Act.put, List.setIfInBounds_toArray, List.set_cons_zero, List.set_cons_succ]
      refine wpAnyH_done (by kernel_rfl) ?_ _
      obtain ⟨_, _, _, _, _, _, H0a, H0b, H0c, H0d⟩ := hHeld
      go_wp2_with fail
      go_meet
      exact ⟨rfl, H0a, H0b, H0c, H0d⟩
    case rest =>
      obtain ⟨rfl, HP7, HU7, HX7, HB7⟩ := hcut
      go_wp2_with fail
      refine (MB.out _).mono ?_
      rintro e w8 ⟨rfl, rfl⟩
      go_wp2
      go_ret2
      exact ⟨rfl, HB7.out⟩
end Go.Proofs.Ytcadbenjgpohoaa
