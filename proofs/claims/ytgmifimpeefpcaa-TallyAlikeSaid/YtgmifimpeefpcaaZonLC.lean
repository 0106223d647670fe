/- zone.Class. -/
import Derived.Test.YtgmifimpeefpcaaZonK
namespace Go.Proofs.Ytgmifimpeefpcaa
open Go.RowKit

theorem class13_any (d : Int) (v : Nat) (hd : IsInt d) (hv : v < 21267647932558653966460912964485513216) (w : World) :
    Calls Try.prog 25 #[.int .i64 d, .agg #[.int .u64 (hi v : Nat), .int .u64 (lo v : Nat)]] w fun e w' => e = .returned (.int .i64 (clsN d v)) ∧ Below w.heap.size w w' := by
  by_cases h0 : d = 0
  · subst h0
    have hB := (Below.refl w.heap.size w).alloc (Nat.le_refl _) (.cells #[.int .u64 (hi v : Nat), .int .u64 (lo v : Nat)] 36)
    rw [clsN_zero]
    clear hd hv
    go_enter Try.func25, Try.ntmps25
    go_wp2
    go_ret
    exact ⟨rfl, hB⟩
  · have hz : d.natAbs < B64 := by unfold IsInt at hd; unfold B64; omega
    have hs : sqN d < M128 := by
      have e : M128 = B64 * B64 := by decide
      unfold sqN
      rw [e]
      exact Nat.mul_lt_mul_of_lt_of_lt hz hz
    have h := cls_core d h0 d.natAbs (sqN d) v _ w (fun W => size13_any d hd W) (fun W => mul_any d.natAbs d.natAbs hz hz W) hs hv rfl (by have := cntK_le (sqN d) v 3; omega)
    rw [cntK_all] at h
    have e : clsN d v = if d < 0 then -((1 + cntN (sqN d) v : Nat) : Int) else ((1 + cntN (sqN d) v : Nat) : Int) := by unfold clsN; rw [if_neg h0]
    rw [e]
    exact h
theorem hi_var (v : Nat) : decide (hi v < 1152921504606846976) = decide (v < 21267647932558653966460912964485513216) := by
  apply decide_eq_decide.2
  unfold hi
  omega
set_option linter.unusedSimpArgs false in
theorem cls13_core (d c : Int) (h l : Nat) (w : World)
    (m1 : (∀ W, Calls Try.prog 24 #[.agg #[.int .u64 (h : Nat), .int .u64 (l : Nat)]] W fun e w' => e = .returned (.bool true) ∧ Below W.heap.size W w'))
    (m2 : (∀ W, Calls Try.prog 25 #[.int .i64 d, .agg #[.int .u64 (h : Nat), .int .u64 (l : Nat)]] W fun e w' => e = .returned (.int .i64 c) ∧ Below W.heap.size W w')) :
    Calls Try.prog 18 #[.int .i64 d, .agg #[.int .u64 (h : Nat), .int .u64 (l : Nat)]] w fun e w' => e = .returned (.tuple #[.int .i64 c, .int .i64 0]) ∧ Below w.heap.size w w' := by
  have M1 := Lib.hid m1; have M2 := Lib.hid m2
  clear m1 m2
  obtain ⟨w2, hw2⟩ : ∃ w2, w.alloc (.cells #[.int .u64 (h : Nat), .int .u64 (l : Nat)] 36) = w2 := ⟨_, rfl⟩
  have HB2 := Lib.hid (show Below w.heap.size w w2 by rw [← hw2]; exact (Below.refl _ _).alloc (Nat.le_refl _) _)
  have HV2 := Lib.hid (show Has w2 w.heap.size [.int .u64 (h : Nat), .int .u64 (l : Nat)] 36 by rw [← hw2]; exact Has.new w _ _)
  have HW2 := Lib.hid hw2
  clear hw2
  have hbase := Nat.le_refl w.heap.size
  go_enter Try.func18, Try.ntmps18
  go_upto_region 1 with fail
  rw [HW2.out]
  have qv0_0 : w2.cell? ⟨w.heap.size, 0, none⟩ = some (.int .u64 (h : Nat)) := HV2.out.cell 0
  have qv1_0 : w2.cell? ⟨w.heap.size, 1, none⟩ = some (.int .u64 (l : Nat)) := HV2.out.cell 1
  have lv_0 : w.heap.size < w2.heap.size := HV2.out.lt
  have hcz1 := M1.out w2
  go_wp2_with fail
  refine hcz1.mono ?_
  rintro e wz1 ⟨rfl, kz1⟩
  clear hcz1 qv0_0 qv1_0 lv_0
  have HBz1 := Lib.hid (HB2.out.trans (kz1.mono (Nat.le_trans hbase HB2.out.size)))
  have Hvz1 := Lib.hid (HV2.out.call kz1)
  clear kz1
  have qv0_1 : wz1.cell? ⟨w.heap.size, 0, none⟩ = some (.int .u64 (h : Nat)) := Hvz1.out.cell 0
  have qv1_1 : wz1.cell? ⟨w.heap.size, 1, none⟩ = some (.int .u64 (l : Nat)) := Hvz1.out.cell 1
  have lv_1 : w.heap.size < wz1.heap.size := Hvz1.out.lt
  have hcz2 := M2.out wz1
  go_wp2_with fail
  refine hcz2.mono ?_
  rintro e wz2 ⟨rfl, kz2⟩
  clear hcz2 qv0_1 qv1_1 lv_1
  have HBz2 := Lib.hid (HBz1.out.trans (kz2.mono (Nat.le_trans hbase HBz1.out.size)))
  have Hvz2 := Lib.hid (Hvz1.out.call kz2)
  clear kz2
  go_wp2
  go_ret2
  exact ⟨rfl, HBz2.out⟩
set_option linter.unusedSimpArgs false in
theorem cls13_no (d : Int) (v : Nat) (hv : ¬ v < 21267647932558653966460912964485513216) (w : World) :
    Calls Try.prog 18 #[.int .i64 d, .agg #[.int .u64 (hi v : Nat), .int .u64 (lo v : Nat)]] w fun e w' => e = .returned (.tuple #[.int .i64 0, .int .i64 1]) ∧ Below w.heap.size w w' := by
  have m1 := fun W => var13_any (hi v) (lo v) W
  rw [hi_var, decide_eq_false hv] at m1
  have M1 := Lib.hid m1
  clear m1 hv
  obtain ⟨w2, hw2⟩ : ∃ w2, w.alloc (.cells #[.int .u64 (hi v : Nat), .int .u64 (lo v : Nat)] 36) = w2 := ⟨_, rfl⟩
  have HB2 := Lib.hid (show Below w.heap.size w w2 by rw [← hw2]; exact (Below.refl _ _).alloc (Nat.le_refl _) _)
  have HV2 := Lib.hid (show Has w2 w.heap.size [.int .u64 (hi v : Nat), .int .u64 (lo v : Nat)] 36 by rw [← hw2]; exact Has.new w _ _)
  have HW2 := Lib.hid hw2
  clear hw2
  have hbase := Nat.le_refl w.heap.size
  go_enter Try.func18, Try.ntmps18
  go_upto_region 1 with fail
  rw [HW2.out]
  have qv0_0 : w2.cell? ⟨w.heap.size, 0, none⟩ = some (.int .u64 (hi v : Nat)) := HV2.out.cell 0
  have qv1_0 : w2.cell? ⟨w.heap.size, 1, none⟩ = some (.int .u64 (lo v : Nat)) := HV2.out.cell 1
  have lv_0 : w.heap.size < w2.heap.size := HV2.out.lt
  have hcz1 := M1.out w2
  go_wp2_with fail
  refine hcz1.mono ?_
  rintro e wz1 ⟨rfl, kz1⟩
  clear hcz1 qv0_0 qv1_0 lv_0
  have HBz1 := Lib.hid (HB2.out.trans (kz1.mono (Nat.le_trans hbase HB2.out.size)))
  have Hvz1 := Lib.hid (HV2.out.call kz1)
  clear kz1
  go_wp2
  go_ret2
  exact ⟨rfl, HBz1.out⟩
theorem cls13_ok (d : Int) (v : Nat) (hd : IsInt d) (hv : v < 21267647932558653966460912964485513216) (w : World) :
    Calls Try.prog 18 #[.int .i64 d, .agg #[.int .u64 (hi v : Nat), .int .u64 (lo v : Nat)]] w fun e w' => e = .returned (.tuple #[.int .i64 (clsN d v), .int .i64 0]) ∧ Below w.heap.size w w' := by
  have m1 := fun W => var13_any (hi v) (lo v) W
  rw [hi_var, decide_eq_true hv] at m1
  exact cls13_core d _ _ _ w m1 (fun W => class13_any d v hd hv W)
/-- Class, whatever the deviation and the number. -/
def clsR (d : Int) (v : Nat) : Int := if v < 21267647932558653966460912964485513216 then clsN d v else 0
def clsE (v : Nat) : Int := if v < 21267647932558653966460912964485513216 then 0 else 1
theorem cls13_any (d : Int) (v : Nat) (hd : IsInt d) (w : World) :
    Calls Try.prog 18 #[.int .i64 d, .agg #[.int .u64 (hi v : Nat), .int .u64 (lo v : Nat)]] w fun e w' => e = .returned (.tuple #[.int .i64 (clsR d v), .int .i64 (clsE v)]) ∧ Below w.heap.size w w' := by
  unfold clsR clsE
  by_cases h : v < 21267647932558653966460912964485513216
  · rw [if_pos h, if_pos h]; exact cls13_ok d v hd h w
  · rw [if_neg h, if_neg h]; exact cls13_no d v h w
end Go.Proofs.Ytgmifimpeefpcaa
