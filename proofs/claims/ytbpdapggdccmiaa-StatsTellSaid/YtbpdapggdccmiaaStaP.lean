/- The law of StatsTell: its walk. -/
import Derived.Test.YtbpdapggdccmiaaStaL
namespace Go.Proofs.Ytbpdapggdccmiaa
open Go.RowKit

theorem eqWI (p q : Int) (w : World) : (Op.equalIn 10000 25 (.agg #[.int .u64 p, .int .u64 q]) (.agg #[.int .u64 p, .int .u64 q])).run Try.prog w = .ok true w := by
  have h1 : (p == p) = true := beq_self_eq_true p
  have h2 : (q == q) = true := beq_self_eq_true q
  go_simp
set_option linter.unusedSimpArgs false in
set_option linter.unusedVariables false in
set_option maxHeartbeats 16000000 in
set_option maxRecDepth 100000 in
theorem tell_core (n1 z1 h1 o1 l1 g1 n2 z2 h2 o2 l2 g2 n3 z3 h3 o3 l3 g3 n4 z4 h4 o4 l4 g4 dh dl eo ej es S : Int) (XI XA XB : Bool) (l : List Int) (ao : Option Addr) (n cap m : Nat) (w : World)
    (hm : m = min n 200) (hlc : n ≤ cap) (hcm : cap ≤ 9223372036854775807)
    (cof : (∀ W, Below w.heap.size w W → Calls Try.prog 7 #[.slice ao m cap] W fun e w' => e = .returned (.tuple #[.agg #[.int .i64 n3, .int .i64 z3, .int .u64 h3, .int .u64 o3, .int .i64 l3, .int .i64 g3], .int .i64 eo]) ∧ Below W.heap.size W w'))
    (cjo : (∀ W, Calls Try.prog 8 #[.agg #[.int .i64 n1, .int .i64 z1, .int .u64 h1, .int .u64 o1, .int .i64 l1, .int .i64 g1], .agg #[.int .i64 n2, .int .i64 z2, .int .u64 h2, .int .u64 o2, .int .i64 l2, .int .i64 g2]] W fun e w' => e = .returned (.tuple #[.agg #[.int .i64 n4, .int .i64 z4, .int .u64 h4, .int .u64 o4, .int .i64 l4, .int .i64 g4], .int .i64 ej]) ∧ Below W.heap.size W w'))
    (csp : (∀ W, Calls Try.prog 9 #[.agg #[.int .i64 n1, .int .i64 z1, .int .u64 h1, .int .u64 o1, .int .i64 l1, .int .i64 g1]] W fun e w' => e = .returned (.tuple #[.agg #[.int .u64 dh, .int .u64 dl], .int .i64 es]) ∧ Below W.heap.size W w'))
    (cri : (∀ W, Calls Try.prog 10 #[.agg #[.int .i64 n1, .int .i64 z1, .int .u64 h1, .int .u64 o1, .int .i64 l1, .int .i64 g1]] W fun e w' => e = .returned (.bool XA) ∧ Below W.heap.size W w')) (crr : (∀ W, Calls Try.prog 11 #[.agg #[.int .i64 n1, .int .i64 z1, .int .u64 h1, .int .u64 o1, .int .i64 l1, .int .i64 g1]] W fun e w' => e = .returned (.bool XA) ∧ Below W.heap.size W w')) (crb : (∀ W, Calls Try.prog 11 #[.agg #[.int .i64 n2, .int .i64 z2, .int .u64 h2, .int .u64 o2, .int .i64 l2, .int .i64 g2]] W fun e w' => e = .returned (.bool XB) ∧ Below W.heap.size W w'))
    (cin : (∀ W, Below w.heap.size w W → Calls Try.prog 13 #[.slice ao m cap] W fun e w' => e = .returned (.bool XI) ∧ Below W.heap.size W w'))
    (c1 : XI = false → eo = 3 ∧ (n3 = 0 ∧ z3 = 0 ∧ h3 = 0 ∧ o3 = 0 ∧ l3 = 0 ∧ g3 = 0))
    (c2 : XI = true → eo = 0 ∧ (∀ W, Below w.heap.size w W → Calls Try.prog 14 #[.slice ao m cap] W fun e w' => e = .returned (.agg #[.int .i64 n3, .int .i64 z3, .int .u64 h3, .int .u64 o3, .int .i64 l3, .int .i64 g3]) ∧ Below W.heap.size W w') ∧ (∀ W, Calls Try.prog 10 #[.agg #[.int .i64 n3, .int .i64 z3, .int .u64 h3, .int .u64 o3, .int .i64 l3, .int .i64 g3]] W fun e w' => e = .returned (.bool true) ∧ Below W.heap.size W w'))
    (d1 : XA = false → es = 1 ∧ (dh = 0 ∧ dl = 0) ∧ ej = 1 ∧ (n4 = 0 ∧ z4 = 0 ∧ h4 = 0 ∧ o4 = 0 ∧ l4 = 0 ∧ g4 = 0))
    (d2 : XA = true → n1 = 0 → es = 6 ∧ dh = 0 ∧ dl = 0)
    (d3 : XA = true → ¬ n1 = 0 → es = 0 ∧ (∀ W, Calls Try.prog 15 #[.agg #[.int .i64 n1, .int .i64 z1, .int .u64 h1, .int .u64 o1, .int .i64 l1, .int .i64 g1]] W fun e w' => e = .returned (.agg #[.int .u64 dh, .int .u64 dl]) ∧ Below W.heap.size W w'))
    (e1 : XA = true → XB = false → ej = 1 ∧ (n4 = 0 ∧ z4 = 0 ∧ h4 = 0 ∧ o4 = 0 ∧ l4 = 0 ∧ g4 = 0))
    (e2 : XA = true → XB = true → wrap64 (n1 + n2) = S ∧ (1000000000 < S → ej = 11 ∧ (n4 = 0 ∧ z4 = 0 ∧ h4 = 0 ∧ o4 = 0 ∧ l4 = 0 ∧ g4 = 0)) ∧ (¬ 1000000000 < S → ej = 0 ∧ (∀ W, Calls Try.prog 16 #[.agg #[.int .i64 n1, .int .i64 z1, .int .u64 h1, .int .u64 o1, .int .i64 l1, .int .i64 g1], .agg #[.int .i64 n2, .int .i64 z2, .int .u64 h2, .int .u64 o2, .int .i64 l2, .int .i64 g2]] W fun e w' => e = .returned (.agg #[.int .i64 n4, .int .i64 z4, .int .u64 h4, .int .u64 o4, .int .i64 l4, .int .i64 g4]) ∧ Below W.heap.size W w'))) :
    Calls Try.prog 3 #[.slice ao n cap, .agg #[.int .i64 n1, .int .i64 z1, .int .u64 h1, .int .u64 o1, .int .i64 l1, .int .i64 g1], .agg #[.int .i64 n2, .int .i64 z2, .int .u64 h2, .int .u64 o2, .int .i64 l2, .int .i64 g2]] w fun e w' => e = .returned (.bool true) ∧ Below w.heap.size w w' := by
  obtain ⟨w2, hw2⟩ : ∃ w2, (w.alloc (.cells #[.int .i64 n1, .int .i64 z1, .int .u64 h1, .int .u64 o1, .int .i64 l1, .int .i64 g1] 27)).alloc (.cells #[.int .i64 n2, .int .i64 z2, .int .u64 h2, .int .u64 o2, .int .i64 l2, .int .i64 g2] 27) = w2 := ⟨_, rfl⟩
  have HB2 := Lib.hid (show Below w.heap.size w w2 by rw [← hw2]; exact ((Below.refl _ _).alloc (Nat.le_refl _) _).alloc (by simp) _)
  have Ha2 := Lib.hid (show Has w2 w.heap.size [.int .i64 n1, .int .i64 z1, .int .u64 h1, .int .u64 o1, .int .i64 l1, .int .i64 g1] 27 by rw [← hw2]; exact (Has.new w _ _).alloc _)
  have Hb2 := Lib.hid (show Has w2 (w.heap.size + 1) [.int .i64 n2, .int .i64 z2, .int .u64 h2, .int .u64 o2, .int .i64 l2, .int .i64 g2] 27 by
    have := Has.new (w.alloc (.cells #[.int .i64 n1, .int .i64 z1, .int .u64 h1, .int .u64 o1, .int .i64 l1, .int .i64 g1] 27)) [.int .i64 n2, .int .i64 z2, .int .u64 h2, .int .u64 o2, .int .i64 l2, .int .i64 g2] 27
    rw [show (w.alloc (.cells #[.int .i64 n1, .int .i64 z1, .int .u64 h1, .int .u64 o1, .int .i64 l1, .int .i64 g1] 27)).heap.size = w.heap.size + 1 by simp] at this
    rw [← hw2]; exact this)
  have HW2 := Lib.hid hw2
  have HM := Lib.hid hm
  have HC1 := Lib.hid c1
  have HC2 := Lib.hid c2
  have HD1 := Lib.hid d1
  have HD2 := Lib.hid d2
  have HD3 := Lib.hid d3
  have HE1 := Lib.hid e1
  have HE2 := Lib.hid e2
  have COF := Lib.hid cof
  have CJO := Lib.hid cjo
  have CSP := Lib.hid csp
  have CRI := Lib.hid cri
  have CRR := Lib.hid crr
  have CRB := Lib.hid crb
  have CIN := Lib.hid cin
  have hbase := Nat.le_refl w.heap.size
  clear hw2 c1 c2 d1 d2 d3 e1 e2 hm cof cjo csp cri crr crb cin
  go_enter Try.func3, Try.ntmps3
  go_upto_region 1 with fail
  rw [HW2.out]
  go_cut [0] (fun s0 wx => s0 = .slice ao m cap ∧ wx = w2)
  case first =>
    have hm := HM.out
    rcases Nat.lt_trichotomy n 200 with c | c | c
    · obtain rfl : m = n := by omega
      have g1 : (m : Int) < 200 := by omega
      have g2 : ¬ (200 : Int) < (m : Int) := by omega
      have g3 : ¬ (200 : Int) ≤ (m : Int) := by omega
      have g4 : (m : Int) ≤ 200 := by omega
      have hsl := slice_hi ao m cap m (by omega)
      clear hm
      go_wp2_with fail
      go_meet
      exact ⟨rfl, rfl⟩
    · subst c
      obtain rfl : m = 200 := by omega
      have hsl : ∀ W, (Instr.slice 22 (.slice ao 200 cap) none (some (.int .i64 200)) none).run Try.prog W = .ok (.slice ao 200 cap) W := slice_hi ao 200 cap 200 (by omega)
      clear hm
      go_wp2_with fail
      go_meet
      exact ⟨rfl, rfl⟩
    · obtain rfl : m = 200 := by omega
      have g1 : (200 : Int) < (n : Int) := by omega
      have g2 : ¬ (n : Int) < 200 := by omega
      have g3 : ¬ (n : Int) ≤ 200 := by omega
      have g4 : (200 : Int) ≤ (n : Int) := by omega
      have hsl : ∀ W, (Instr.slice 22 (.slice ao n cap) none (some (.int .i64 200)) none).run Try.prog W = .ok (.slice ao 200 cap) W := slice_hi ao n cap 200 (by omega)
      clear hm
      go_wp2_with fail
      go_meet
      exact ⟨rfl, rfl⟩
  case rest =>
    obtain ⟨rfl, rfl⟩ := hcut
    clear hlc hcm
    go_upto_region 2 with fail
    have hcz1 := COF.out wc HB2.out
    go_wp2_with fail
    refine hcz1.mono ?_
    rintro e wz1 ⟨rfl, kz1⟩
    clear hcz1
    have HBz1 := Lib.hid (HB2.out.trans (kz1.mono (Nat.le_trans hbase HB2.out.size)))
    have Haz1 := Lib.hid (Ha2.out.call kz1)
    have Hbz1 := Lib.hid (Hb2.out.call kz1)
    clear kz1
    obtain ⟨wz2, hwz2⟩ : ∃ wz2, wz1.alloc (.cells #[.int .i64 n3, .int .i64 z3, .int .u64 h3, .int .u64 o3, .int .i64 l3, .int .i64 g3] 27) = wz2 := ⟨_, rfl⟩
    have kz2 : Below wz1.heap.size wz1 wz2 := by rw [← hwz2]; exact (Below.refl _ _).alloc (Nat.le_refl _) _
    have Hsz2 := Lib.hid (show Has wz2 wz1.heap.size [.int .i64 n3, .int .i64 z3, .int .u64 h3, .int .u64 o3, .int .i64 l3, .int .i64 g3] 27 by rw [← hwz2]; exact Has.new _ _ _)
    have HWz2 := Lib.hid hwz2
    clear hwz2
    have HBz2 := Lib.hid (HBz1.out.trans (kz2.mono (Nat.le_trans hbase HBz1.out.size)))
    have Haz2 := Lib.hid (Haz1.out.call kz2)
    have Hbz2 := Lib.hid (Hbz1.out.call kz2)
    clear kz2
    have qa0_2 : wz1.cell? ⟨w.heap.size, 0, none⟩ = some (.int .i64 n1) := Haz1.out.cell 0
    have qa1_2 : wz1.cell? ⟨w.heap.size, 1, none⟩ = some (.int .i64 z1) := Haz1.out.cell 1
    have qa2_2 : wz1.cell? ⟨w.heap.size, 2, none⟩ = some (.int .u64 h1) := Haz1.out.cell 2
    have qa3_2 : wz1.cell? ⟨w.heap.size, 3, none⟩ = some (.int .u64 o1) := Haz1.out.cell 3
    have qa4_2 : wz1.cell? ⟨w.heap.size, 4, none⟩ = some (.int .i64 l1) := Haz1.out.cell 4
    have qa5_2 : wz1.cell? ⟨w.heap.size, 5, none⟩ = some (.int .i64 g1) := Haz1.out.cell 5
    have la_2 : w.heap.size < wz1.heap.size := Haz1.out.lt
    have qb0_2 : wz1.cell? ⟨w.heap.size + 1, 0, none⟩ = some (.int .i64 n2) := Hbz1.out.cell 0
    have qb1_2 : wz1.cell? ⟨w.heap.size + 1, 1, none⟩ = some (.int .i64 z2) := Hbz1.out.cell 1
    have qb2_2 : wz1.cell? ⟨w.heap.size + 1, 2, none⟩ = some (.int .u64 h2) := Hbz1.out.cell 2
    have qb3_2 : wz1.cell? ⟨w.heap.size + 1, 3, none⟩ = some (.int .u64 o2) := Hbz1.out.cell 3
    have qb4_2 : wz1.cell? ⟨w.heap.size + 1, 4, none⟩ = some (.int .i64 l2) := Hbz1.out.cell 4
    have qb5_2 : wz1.cell? ⟨w.heap.size + 1, 5, none⟩ = some (.int .i64 g2) := Hbz1.out.cell 5
    have lb_2 : w.heap.size + 1 < wz1.heap.size := Hbz1.out.lt
    have hcz3 := CJO.out wz2
    go_wp2_with fail
    rw [HWz2.out]
    refine hcz3.mono ?_
    rintro e wz3 ⟨rfl, kz3⟩
    clear hcz3 qa0_2 qa1_2 qa2_2 qa3_2 qa4_2 qa5_2 la_2 qb0_2 qb1_2 qb2_2 qb3_2 qb4_2 qb5_2 lb_2
    have HBz3 := Lib.hid (HBz2.out.trans (kz3.mono (Nat.le_trans hbase HBz2.out.size)))
    have Haz3 := Lib.hid (Haz2.out.call kz3)
    have Hbz3 := Lib.hid (Hbz2.out.call kz3)
    have Hsz3 := Lib.hid (Hsz2.out.call kz3)
    clear kz3
    obtain ⟨wz4, hwz4⟩ : ∃ wz4, wz3.alloc (.cells #[.int .i64 n4, .int .i64 z4, .int .u64 h4, .int .u64 o4, .int .i64 l4, .int .i64 g4] 27) = wz4 := ⟨_, rfl⟩
    have kz4 : Below wz3.heap.size wz3 wz4 := by rw [← hwz4]; exact (Below.refl _ _).alloc (Nat.le_refl _) _
    have Hjz4 := Lib.hid (show Has wz4 wz3.heap.size [.int .i64 n4, .int .i64 z4, .int .u64 h4, .int .u64 o4, .int .i64 l4, .int .i64 g4] 27 by rw [← hwz4]; exact Has.new _ _ _)
    have HWz4 := Lib.hid hwz4
    clear hwz4
    have HBz4 := Lib.hid (HBz3.out.trans (kz4.mono (Nat.le_trans hbase HBz3.out.size)))
    have Haz4 := Lib.hid (Haz3.out.call kz4)
    have Hbz4 := Lib.hid (Hbz3.out.call kz4)
    have Hsz4 := Lib.hid (Hsz3.out.call kz4)
    clear kz4
    have qa0_4 : wz3.cell? ⟨w.heap.size, 0, none⟩ = some (.int .i64 n1) := Haz3.out.cell 0
    have qa1_4 : wz3.cell? ⟨w.heap.size, 1, none⟩ = some (.int .i64 z1) := Haz3.out.cell 1
    have qa2_4 : wz3.cell? ⟨w.heap.size, 2, none⟩ = some (.int .u64 h1) := Haz3.out.cell 2
    have qa3_4 : wz3.cell? ⟨w.heap.size, 3, none⟩ = some (.int .u64 o1) := Haz3.out.cell 3
    have qa4_4 : wz3.cell? ⟨w.heap.size, 4, none⟩ = some (.int .i64 l1) := Haz3.out.cell 4
    have qa5_4 : wz3.cell? ⟨w.heap.size, 5, none⟩ = some (.int .i64 g1) := Haz3.out.cell 5
    have la_4 : w.heap.size < wz3.heap.size := Haz3.out.lt
    have hcz5 := CSP.out wz4
    go_wp2_with fail
    rw [HWz4.out]
    refine hcz5.mono ?_
    rintro e wz5 ⟨rfl, kz5⟩
    clear hcz5 qa0_4 qa1_4 qa2_4 qa3_4 qa4_4 qa5_4 la_4
    have HBz5 := Lib.hid (HBz4.out.trans (kz5.mono (Nat.le_trans hbase HBz4.out.size)))
    have Haz5 := Lib.hid (Haz4.out.call kz5)
    have Hbz5 := Lib.hid (Hbz4.out.call kz5)
    have Hsz5 := Lib.hid (Hsz4.out.call kz5)
    have Hjz5 := Lib.hid (Hjz4.out.call kz5)
    clear kz5
    obtain ⟨wz6, hwz6⟩ : ∃ wz6, wz5.alloc (.cells #[.int .u64 dh, .int .u64 dl] 25) = wz6 := ⟨_, rfl⟩
    have kz6 : Below wz5.heap.size wz5 wz6 := by rw [← hwz6]; exact (Below.refl _ _).alloc (Nat.le_refl _) _
    have Hdz6 := Lib.hid (show Has wz6 wz5.heap.size [.int .u64 dh, .int .u64 dl] 25 by rw [← hwz6]; exact Has.new _ _ _)
    have HWz6 := Lib.hid hwz6
    clear hwz6
    have HBz6 := Lib.hid (HBz5.out.trans (kz6.mono (Nat.le_trans hbase HBz5.out.size)))
    have Haz6 := Lib.hid (Haz5.out.call kz6)
    have Hbz6 := Lib.hid (Hbz5.out.call kz6)
    have Hsz6 := Lib.hid (Hsz5.out.call kz6)
    have Hjz6 := Lib.hid (Hjz5.out.call kz6)
    clear kz6
    go_upto_region 5 with fail
    rw [HWz6.out]
    obtain ⟨wz7, hwz7⟩ : ∃ wz7, wz6.alloc (.cells #[.int .i64 0, .int .i64 0, .int .u64 0, .int .u64 0, .int .i64 0, .int .i64 0] 27) = wz7 := ⟨_, rfl⟩
    have kz7 : Below wz6.heap.size wz6 wz7 := by rw [← hwz7]; exact (Below.refl _ _).alloc (Nat.le_refl _) _
    have Hnonez7 := Lib.hid (show Has wz7 wz6.heap.size [.int .i64 0, .int .i64 0, .int .u64 0, .int .u64 0, .int .i64 0, .int .i64 0] 27 by rw [← hwz7]; exact Has.new _ _ _)
    have HWz7 := Lib.hid hwz7
    clear hwz7
    have HBz7 := Lib.hid (HBz6.out.trans (kz7.mono (Nat.le_trans hbase HBz6.out.size)))
    have Haz7 := Lib.hid (Haz6.out.call kz7)
    have Hbz7 := Lib.hid (Hbz6.out.call kz7)
    have Hsz7 := Lib.hid (Hsz6.out.call kz7)
    have Hjz7 := Lib.hid (Hjz6.out.call kz7)
    have Hdz7 := Lib.hid (Hdz6.out.call kz7)
    clear kz7
    have hxx : (XA == XA) = true := beq_self_eq_true XA
    have hxn : (XA != XA) = false := by cases XA <;> rfl
    go_upto_region 6 with fail
    rw [HWz7.out]
    have qa0_7 : wz7.cell? ⟨w.heap.size, 0, none⟩ = some (.int .i64 n1) := Haz7.out.cell 0
    have qa1_7 : wz7.cell? ⟨w.heap.size, 1, none⟩ = some (.int .i64 z1) := Haz7.out.cell 1
    have qa2_7 : wz7.cell? ⟨w.heap.size, 2, none⟩ = some (.int .u64 h1) := Haz7.out.cell 2
    have qa3_7 : wz7.cell? ⟨w.heap.size, 3, none⟩ = some (.int .u64 o1) := Haz7.out.cell 3
    have qa4_7 : wz7.cell? ⟨w.heap.size, 4, none⟩ = some (.int .i64 l1) := Haz7.out.cell 4
    have qa5_7 : wz7.cell? ⟨w.heap.size, 5, none⟩ = some (.int .i64 g1) := Haz7.out.cell 5
    have la_7 : w.heap.size < wz7.heap.size := Haz7.out.lt
    go_region_held3 (fun W => W.cell? ⟨w.heap.size, 0, none⟩ = some (.int .i64 n1) ∧ W.cell? ⟨w.heap.size, 1, none⟩ = some (.int .i64 z1) ∧ W.cell? ⟨w.heap.size, 2, none⟩ = some (.int .u64 h1) ∧ W.cell? ⟨w.heap.size, 3, none⟩ = some (.int .u64 o1) ∧ W.cell? ⟨w.heap.size, 4, none⟩ = some (.int .i64 l1) ∧ W.cell? ⟨w.heap.size, 5, none⟩ = some (.int .i64 g1)) (first | exact ⟨ya100, ya101, ya102, ya103, ya104, ya105⟩ | exact ⟨ya90, ya91, ya92, ya93, ya94, ya95⟩ | exact ⟨ya80, ya81, ya82, ya83, ya84, ya85⟩ | exact ⟨qa0_7, qa1_7, qa2_7, qa3_7, qa4_7, qa5_7⟩ | simp [go_sem, *]) (first | (go_at_call 10; refine (CRI.out _).mono ?_; rintro e wr8 ⟨rfl, kr8⟩; (have HBr8 := Lib.hid (show Below w.heap.size w wr8 by first | exact (HBz7.out).trans (kr8.mono (by have := HBz7.out.size; first | omega | (simp; omega) | simp)) | exact (Below.drew (HBz7.out)).trans (kr8.mono (by have := HBz7.out.size; first | omega | (simp; omega) | simp)) | exact (Below.drew (Below.drew (HBz7.out))).trans (kr8.mono (by have := HBz7.out.size; first | omega | (simp; omega) | simp)) | exact (Below.drew (Below.drew (Below.drew (HBz7.out)))).trans (kr8.mono (by have := HBz7.out.size; first | omega | (simp; omega) | simp)))); (have Har8 := Lib.hid (show Has wr8 (w.heap.size) [.int .i64 n1, .int .i64 z1, .int .u64 h1, .int .u64 o1, .int .i64 l1, .int .i64 g1] 27 from Haz7.out.step kr8 rfl)); (have ya80 : wr8.cell? ⟨w.heap.size, 0, none⟩ = some (.int .i64 n1) := Har8.out.cell 0); (have ya81 : wr8.cell? ⟨w.heap.size, 1, none⟩ = some (.int .i64 z1) := Har8.out.cell 1); (have ya82 : wr8.cell? ⟨w.heap.size, 2, none⟩ = some (.int .u64 h1) := Har8.out.cell 2); (have ya83 : wr8.cell? ⟨w.heap.size, 3, none⟩ = some (.int .u64 o1) := Har8.out.cell 3); (have ya84 : wr8.cell? ⟨w.heap.size, 4, none⟩ = some (.int .i64 l1) := Har8.out.cell 4); (have ya85 : wr8.cell? ⟨w.heap.size, 5, none⟩ = some (.int .i64 g1) := Har8.out.cell 5); (have la8 : w.heap.size < wr8.heap.size := Har8.out.lt)) | (go_at_call 11; refine (CRR.out _).mono ?_; rintro e wr9 ⟨rfl, kr9⟩; (have HBr9 := Lib.hid (show Below w.heap.size w wr9 by first | exact (HBr8.out).trans (kr9.mono (by have := HBr8.out.size; first | omega | (simp; omega) | simp)) | exact (Below.drew (HBr8.out)).trans (kr9.mono (by have := HBr8.out.size; first | omega | (simp; omega) | simp)) | exact (Below.drew (Below.drew (HBr8.out))).trans (kr9.mono (by have := HBr8.out.size; first | omega | (simp; omega) | simp)) | exact (Below.drew (Below.drew (Below.drew (HBr8.out)))).trans (kr9.mono (by have := HBr8.out.size; first | omega | (simp; omega) | simp)))); (have Har9 := Lib.hid (show Has wr9 (w.heap.size) [.int .i64 n1, .int .i64 z1, .int .u64 h1, .int .u64 o1, .int .i64 l1, .int .i64 g1] 27 from Har8.out.step kr9 rfl)); (have ya90 : wr9.cell? ⟨w.heap.size, 0, none⟩ = some (.int .i64 n1) := Har9.out.cell 0); (have ya91 : wr9.cell? ⟨w.heap.size, 1, none⟩ = some (.int .i64 z1) := Har9.out.cell 1); (have ya92 : wr9.cell? ⟨w.heap.size, 2, none⟩ = some (.int .u64 h1) := Har9.out.cell 2); (have ya93 : wr9.cell? ⟨w.heap.size, 3, none⟩ = some (.int .u64 o1) := Har9.out.cell 3); (have ya94 : wr9.cell? ⟨w.heap.size, 4, none⟩ = some (.int .i64 l1) := Har9.out.cell 4); (have ya95 : wr9.cell? ⟨w.heap.size, 5, none⟩ = some (.int .i64 g1) := Har9.out.cell 5); (have la9 : w.heap.size < wr9.heap.size := Har9.out.lt)) | (go_at_call 12; refine (alive11_any _).mono ?_; rintro e wr10 ⟨rfl, kr10⟩; (have HBr10 := Lib.hid (show Below w.heap.size w wr10 by first | exact (HBr9.out).trans (kr10.mono (by have := HBr9.out.size; first | omega | (simp; omega) | simp)) | exact (Below.drew (HBr9.out)).trans (kr10.mono (by have := HBr9.out.size; first | omega | (simp; omega) | simp)) | exact (Below.drew (Below.drew (HBr9.out))).trans (kr10.mono (by have := HBr9.out.size; first | omega | (simp; omega) | simp)) | exact (Below.drew (Below.drew (Below.drew (HBr9.out)))).trans (kr10.mono (by have := HBr9.out.size; first | omega | (simp; omega) | simp)))); (have Har10 := Lib.hid (show Has wr10 (w.heap.size) [.int .i64 n1, .int .i64 z1, .int .u64 h1, .int .u64 o1, .int .i64 l1, .int .i64 g1] 27 from Har9.out.step kr10 rfl)); (have ya100 : wr10.cell? ⟨w.heap.size, 0, none⟩ = some (.int .i64 n1) := Har10.out.cell 0); (have ya101 : wr10.cell? ⟨w.heap.size, 1, none⟩ = some (.int .i64 z1) := Har10.out.cell 1); (have ya102 : wr10.cell? ⟨w.heap.size, 2, none⟩ = some (.int .u64 h1) := Har10.out.cell 2); (have ya103 : wr10.cell? ⟨w.heap.size, 3, none⟩ = some (.int .u64 o1) := Har10.out.cell 3); (have ya104 : wr10.cell? ⟨w.heap.size, 4, none⟩ = some (.int .i64 l1) := Har10.out.cell 4); (have ya105 : wr10.cell? ⟨w.heap.size, 5, none⟩ = some (.int .i64 g1) := Har10.out.cell 5); (have la10 : w.heap.size < wr10.heap.size := Har10.out.lt)))
    have Hbr8 := Lib.hid (Hbz7.out.step kr8 rfl)
    have Hsr8 := Lib.hid (Hsz7.out.step kr8 rfl)
    have Hjr8 := Lib.hid (Hjz7.out.step kr8 rfl)
    have Hdr8 := Lib.hid (Hdz7.out.step kr8 rfl)
    have Hnoner8 := Lib.hid (Hnonez7.out.step kr8 rfl)
    have Hbr9 := Lib.hid (Hbr8.out.step kr9 rfl)
    have Hsr9 := Lib.hid (Hsr8.out.step kr9 rfl)
    have Hjr9 := Lib.hid (Hjr8.out.step kr9 rfl)
    have Hdr9 := Lib.hid (Hdr8.out.step kr9 rfl)
    have Hnoner9 := Lib.hid (Hnoner8.out.step kr9 rfl)
    have Hbr10 := Lib.hid (Hbr9.out.step kr10 rfl)
    have Hsr10 := Lib.hid (Hsr9.out.step kr10 rfl)
    have Hjr10 := Lib.hid (Hjr9.out.step kr10 rfl)
    have Hdr10 := Lib.hid (Hdr9.out.step kr10 rfl)
    have Hnoner10 := Lib.hid (Hnoner9.out.step kr10 rfl)
    clear kr8 kr9 kr10 ya80 ya81 ya82 ya83 ya84 ya85 ya90 ya91 ya92 ya93 ya94 ya95 ya100 ya101 ya102 ya103 ya104 ya105 la8 la9 la10 qa0_7 qa1_7 qa2_7 qa3_7 qa4_7 qa5_7 la_7
    clear hxx hxn
    have hcz11 := CIN.out wr10 HBr10.out
    go_wp2_with fail
    refine hcz11.mono ?_
    rintro e wz11 ⟨rfl, kz11⟩
    clear hcz11
    have HBz11 := Lib.hid (HBr10.out.trans (kz11.mono (Nat.le_trans hbase HBr10.out.size)))
    have Haz11 := Lib.hid (Har10.out.call kz11)
    have Hbz11 := Lib.hid (Hbr10.out.call kz11)
    have Hsz11 := Lib.hid (Hsr10.out.call kz11)
    have Hjz11 := Lib.hid (Hjr10.out.call kz11)
    have Hdz11 := Lib.hid (Hdr10.out.call kz11)
    have Hnonez11 := Lib.hid (Hnoner10.out.call kz11)
    clear kz11
    go_upto_if 48 with fail
    go_cut [] (fun wx => Hid (Has wx (w.heap.size) [.int .i64 n1, .int .i64 z1, .int .u64 h1, .int .u64 o1, .int .i64 l1, .int .i64 g1] 27) ∧ Hid (Has wx (w.heap.size + 1) [.int .i64 n2, .int .i64 z2, .int .u64 h2, .int .u64 o2, .int .i64 l2, .int .i64 g2] 27) ∧ Hid (Has wx (wz1.heap.size) [.int .i64 n3, .int .i64 z3, .int .u64 h3, .int .u64 o3, .int .i64 l3, .int .i64 g3] 27) ∧ Hid (Has wx (wz3.heap.size) [.int .i64 n4, .int .i64 z4, .int .u64 h4, .int .u64 o4, .int .i64 l4, .int .i64 g4] 27) ∧ Hid (Has wx (wz5.heap.size) [.int .u64 dh, .int .u64 dl] 25) ∧ Hid (Has wx (wz6.heap.size) [.int .i64 0, .int .i64 0, .int .u64 0, .int .u64 0, .int .i64 0, .int .i64 0] 27) ∧ Hid (Below w.heap.size w wx))
    case first =>
      cases XI with
      | false =>
        obtain ⟨rfl, rfl, rfl, rfl, rfl, rfl, rfl⟩ := HC1.out rfl
        have qs0_11 : wz11.cell? ⟨wz1.heap.size, 0, none⟩ = some (.int .i64 0) := Hsz11.out.cell 0
        have qs1_11 : wz11.cell? ⟨wz1.heap.size, 1, none⟩ = some (.int .i64 0) := Hsz11.out.cell 1
        have qs2_11 : wz11.cell? ⟨wz1.heap.size, 2, none⟩ = some (.int .u64 0) := Hsz11.out.cell 2
        have qs3_11 : wz11.cell? ⟨wz1.heap.size, 3, none⟩ = some (.int .u64 0) := Hsz11.out.cell 3
        have qs4_11 : wz11.cell? ⟨wz1.heap.size, 4, none⟩ = some (.int .i64 0) := Hsz11.out.cell 4
        have qs5_11 : wz11.cell? ⟨wz1.heap.size, 5, none⟩ = some (.int .i64 0) := Hsz11.out.cell 5
        have ls_11 : wz1.heap.size < wz11.heap.size := Hsz11.out.lt
        have qnone0_11 : wz11.cell? ⟨wz6.heap.size, 0, none⟩ = some (.int .i64 0) := Hnonez11.out.cell 0
        have qnone1_11 : wz11.cell? ⟨wz6.heap.size, 1, none⟩ = some (.int .i64 0) := Hnonez11.out.cell 1
        have qnone2_11 : wz11.cell? ⟨wz6.heap.size, 2, none⟩ = some (.int .u64 0) := Hnonez11.out.cell 2
        have qnone3_11 : wz11.cell? ⟨wz6.heap.size, 3, none⟩ = some (.int .u64 0) := Hnonez11.out.cell 3
        have qnone4_11 : wz11.cell? ⟨wz6.heap.size, 4, none⟩ = some (.int .i64 0) := Hnonez11.out.cell 4
        have qnone5_11 : wz11.cell? ⟨wz6.heap.size, 5, none⟩ = some (.int .i64 0) := Hnonez11.out.cell 5
        have lnone_11 : wz6.heap.size < wz11.heap.size := Hnonez11.out.lt
        have hez := eqStaZ sta0
        go_wp2_with fail
        go_meet
        exact ⟨by first | exact Haz11 | exact Lib.hid (Haz11.out.of rfl), by first | exact Hbz11 | exact Lib.hid (Hbz11.out.of rfl), by first | exact Hsz11 | exact Lib.hid (Hsz11.out.of rfl), by first | exact Hjz11 | exact Lib.hid (Hjz11.out.of rfl), by first | exact Hdz11 | exact Lib.hid (Hdz11.out.of rfl), by first | exact Hnonez11 | exact Lib.hid (Hnonez11.out.of rfl), by first | exact Lib.hid (HBz11.out) | exact Lib.hid (Below.drew (HBz11.out)) | exact Lib.hid (Below.drew (Below.drew (HBz11.out))) | exact Lib.hid (Below.drew (Below.drew (Below.drew (HBz11.out))))⟩
      | true =>
        obtain ⟨rfl, cro, crs⟩ := HC2.out rfl
        have CRO := Lib.hid cro
        have CRS := Lib.hid crs
        clear cro crs
        have hes : ∀ W, (Op.equalIn 10000 27 (.agg #[.int .i64 n3, .int .i64 z3, .int .u64 h3, .int .u64 o3, .int .i64 l3, .int .i64 g3]) (.agg #[.int .i64 n3, .int .i64 z3, .int .u64 h3, .int .u64 o3, .int .i64 l3, .int .i64 g3])).run Try.prog W = .ok true W := fun W => by rw [eqSta6, decide_eq_true ⟨rfl, rfl, rfl, rfl, rfl, rfl⟩]
        go_upto_region 11 with fail
        have qs0_11 : wz11.cell? ⟨wz1.heap.size, 0, none⟩ = some (.int .i64 n3) := Hsz11.out.cell 0
        have qs1_11 : wz11.cell? ⟨wz1.heap.size, 1, none⟩ = some (.int .i64 z3) := Hsz11.out.cell 1
        have qs2_11 : wz11.cell? ⟨wz1.heap.size, 2, none⟩ = some (.int .u64 h3) := Hsz11.out.cell 2
        have qs3_11 : wz11.cell? ⟨wz1.heap.size, 3, none⟩ = some (.int .u64 o3) := Hsz11.out.cell 3
        have qs4_11 : wz11.cell? ⟨wz1.heap.size, 4, none⟩ = some (.int .i64 l3) := Hsz11.out.cell 4
        have qs5_11 : wz11.cell? ⟨wz1.heap.size, 5, none⟩ = some (.int .i64 g3) := Hsz11.out.cell 5
        have ls_11 : wz1.heap.size < wz11.heap.size := Hsz11.out.lt
        go_region_held3 (fun W => W.cell? ⟨wz1.heap.size, 0, none⟩ = some (.int .i64 n3) ∧ W.cell? ⟨wz1.heap.size, 1, none⟩ = some (.int .i64 z3) ∧ W.cell? ⟨wz1.heap.size, 2, none⟩ = some (.int .u64 h3) ∧ W.cell? ⟨wz1.heap.size, 3, none⟩ = some (.int .u64 o3) ∧ W.cell? ⟨wz1.heap.size, 4, none⟩ = some (.int .i64 l3) ∧ W.cell? ⟨wz1.heap.size, 5, none⟩ = some (.int .i64 g3)) (first | exact ⟨ys130, ys131, ys132, ys133, ys134, ys135⟩ | exact ⟨ys120, ys121, ys122, ys123, ys124, ys125⟩ | exact ⟨qs0_11, qs1_11, qs2_11, qs3_11, qs4_11, qs5_11⟩ | simp [go_sem, *]) (first | (go_at_call 14; refine (CRO.out _ (by first | exact HBz11.out | exact Below.drew (HBz11.out) | exact Below.drew (Below.drew (HBz11.out)) | exact Below.drew (Below.drew (Below.drew (HBz11.out))))).mono ?_; rintro e wr12 ⟨rfl, kr12⟩; (have HBr12 := Lib.hid (show Below w.heap.size w wr12 by first | exact (HBz11.out).trans (kr12.mono (by have := HBz11.out.size; first | omega | (simp; omega) | simp)) | exact (Below.drew (HBz11.out)).trans (kr12.mono (by have := HBz11.out.size; first | omega | (simp; omega) | simp)) | exact (Below.drew (Below.drew (HBz11.out))).trans (kr12.mono (by have := HBz11.out.size; first | omega | (simp; omega) | simp)) | exact (Below.drew (Below.drew (Below.drew (HBz11.out)))).trans (kr12.mono (by have := HBz11.out.size; first | omega | (simp; omega) | simp)))); (have Hsr12 := Lib.hid (show Has wr12 (wz1.heap.size) [.int .i64 n3, .int .i64 z3, .int .u64 h3, .int .u64 o3, .int .i64 l3, .int .i64 g3] 27 from Hsz11.out.step kr12 rfl)); (have ys120 : wr12.cell? ⟨wz1.heap.size, 0, none⟩ = some (.int .i64 n3) := Hsr12.out.cell 0); (have ys121 : wr12.cell? ⟨wz1.heap.size, 1, none⟩ = some (.int .i64 z3) := Hsr12.out.cell 1); (have ys122 : wr12.cell? ⟨wz1.heap.size, 2, none⟩ = some (.int .u64 h3) := Hsr12.out.cell 2); (have ys123 : wr12.cell? ⟨wz1.heap.size, 3, none⟩ = some (.int .u64 o3) := Hsr12.out.cell 3); (have ys124 : wr12.cell? ⟨wz1.heap.size, 4, none⟩ = some (.int .i64 l3) := Hsr12.out.cell 4); (have ys125 : wr12.cell? ⟨wz1.heap.size, 5, none⟩ = some (.int .i64 g3) := Hsr12.out.cell 5); (have ls12 : wz1.heap.size < wr12.heap.size := Hsr12.out.lt)) | (go_at_call 10; refine (CRS.out _).mono ?_; rintro e wr13 ⟨rfl, kr13⟩; (have HBr13 := Lib.hid (show Below w.heap.size w wr13 by first | exact (HBr12.out).trans (kr13.mono (by have := HBr12.out.size; first | omega | (simp; omega) | simp)) | exact (Below.drew (HBr12.out)).trans (kr13.mono (by have := HBr12.out.size; first | omega | (simp; omega) | simp)) | exact (Below.drew (Below.drew (HBr12.out))).trans (kr13.mono (by have := HBr12.out.size; first | omega | (simp; omega) | simp)) | exact (Below.drew (Below.drew (Below.drew (HBr12.out)))).trans (kr13.mono (by have := HBr12.out.size; first | omega | (simp; omega) | simp)))); (have Hsr13 := Lib.hid (show Has wr13 (wz1.heap.size) [.int .i64 n3, .int .i64 z3, .int .u64 h3, .int .u64 o3, .int .i64 l3, .int .i64 g3] 27 from Hsr12.out.step kr13 rfl)); (have ys130 : wr13.cell? ⟨wz1.heap.size, 0, none⟩ = some (.int .i64 n3) := Hsr13.out.cell 0); (have ys131 : wr13.cell? ⟨wz1.heap.size, 1, none⟩ = some (.int .i64 z3) := Hsr13.out.cell 1); (have ys132 : wr13.cell? ⟨wz1.heap.size, 2, none⟩ = some (.int .u64 h3) := Hsr13.out.cell 2); (have ys133 : wr13.cell? ⟨wz1.heap.size, 3, none⟩ = some (.int .u64 o3) := Hsr13.out.cell 3); (have ys134 : wr13.cell? ⟨wz1.heap.size, 4, none⟩ = some (.int .i64 l3) := Hsr13.out.cell 4); (have ys135 : wr13.cell? ⟨wz1.heap.size, 5, none⟩ = some (.int .i64 g3) := Hsr13.out.cell 5); (have ls13 : wz1.heap.size < wr13.heap.size := Hsr13.out.lt)))
        have Har12 := Lib.hid (Haz11.out.step kr12 rfl)
        have Hbr12 := Lib.hid (Hbz11.out.step kr12 rfl)
        have Hjr12 := Lib.hid (Hjz11.out.step kr12 rfl)
        have Hdr12 := Lib.hid (Hdz11.out.step kr12 rfl)
        have Hnoner12 := Lib.hid (Hnonez11.out.step kr12 rfl)
        have Har13 := Lib.hid (Har12.out.step kr13 rfl)
        have Hbr13 := Lib.hid (Hbr12.out.step kr13 rfl)
        have Hjr13 := Lib.hid (Hjr12.out.step kr13 rfl)
        have Hdr13 := Lib.hid (Hdr12.out.step kr13 rfl)
        have Hnoner13 := Lib.hid (Hnoner12.out.step kr13 rfl)
        clear kr12 kr13 ys120 ys121 ys122 ys123 ys124 ys125 ys130 ys131 ys132 ys133 ys134 ys135 ls12 ls13 qs0_11 qs1_11 qs2_11 qs3_11 qs4_11 qs5_11 ls_11
        go_wp2_with fail
        go_meet
        exact ⟨by first | exact Har13 | exact Lib.hid (Har13.out.of rfl), by first | exact Hbr13 | exact Lib.hid (Hbr13.out.of rfl), by first | exact Hsr13 | exact Lib.hid (Hsr13.out.of rfl), by first | exact Hjr13 | exact Lib.hid (Hjr13.out.of rfl), by first | exact Hdr13 | exact Lib.hid (Hdr13.out.of rfl), by first | exact Hnoner13 | exact Lib.hid (Hnoner13.out.of rfl), by first | exact Lib.hid (HBr13.out) | exact Lib.hid (Below.drew (HBr13.out)) | exact Lib.hid (Below.drew (Below.drew (HBr13.out))) | exact Lib.hid (Below.drew (Below.drew (Below.drew (HBr13.out))))⟩
    case rest =>
      obtain ⟨Hac, Hbc, Hsc, Hjc, Hdc, Hnonec, HBc⟩ := hcut
      go_upto_region 13 with fail
      obtain ⟨wz21, hwz21⟩ : ∃ wz21, wc.alloc (.cells #[.int .u64 0, .int .u64 0] 25) = wz21 := ⟨_, rfl⟩
      have kz21 : Below wc.heap.size wc wz21 := by rw [← hwz21]; exact (Below.refl _ _).alloc (Nat.le_refl _) _
      have Hzeroz21 := Lib.hid (show Has wz21 wc.heap.size [.int .u64 0, .int .u64 0] 25 by rw [← hwz21]; exact Has.new _ _ _)
      have HWz21 := Lib.hid hwz21
      clear hwz21
      have HBz21 := Lib.hid (HBc.out.trans (kz21.mono (Nat.le_trans hbase HBc.out.size)))
      have Haz21 := Lib.hid (Hac.out.call kz21)
      have Hbz21 := Lib.hid (Hbc.out.call kz21)
      have Hsz21 := Lib.hid (Hsc.out.call kz21)
      have Hjz21 := Lib.hid (Hjc.out.call kz21)
      have Hdz21 := Lib.hid (Hdc.out.call kz21)
      have Hnonez21 := Lib.hid (Hnonec.out.call kz21)
      clear kz21
      go_upto_region 14 with fail
      rw [HWz21.out]
      have qa0_21 : wz21.cell? ⟨w.heap.size, 0, none⟩ = some (.int .i64 n1) := Haz21.out.cell 0
      have qa1_21 : wz21.cell? ⟨w.heap.size, 1, none⟩ = some (.int .i64 z1) := Haz21.out.cell 1
      have qa2_21 : wz21.cell? ⟨w.heap.size, 2, none⟩ = some (.int .u64 h1) := Haz21.out.cell 2
      have qa3_21 : wz21.cell? ⟨w.heap.size, 3, none⟩ = some (.int .u64 o1) := Haz21.out.cell 3
      have qa4_21 : wz21.cell? ⟨w.heap.size, 4, none⟩ = some (.int .i64 l1) := Haz21.out.cell 4
      have qa5_21 : wz21.cell? ⟨w.heap.size, 5, none⟩ = some (.int .i64 g1) := Haz21.out.cell 5
      have la_21 : w.heap.size < wz21.heap.size := Haz21.out.lt
      have hcz22 := CRR.out wz21
      go_wp2_with fail
      refine hcz22.mono ?_
      rintro e wz22 ⟨rfl, kz22⟩
      clear hcz22 qa0_21 qa1_21 qa2_21 qa3_21 qa4_21 qa5_21 la_21
      have HBz22 := Lib.hid (HBz21.out.trans (kz22.mono (Nat.le_trans hbase HBz21.out.size)))
      have Haz22 := Lib.hid (Haz21.out.call kz22)
      have Hbz22 := Lib.hid (Hbz21.out.call kz22)
      have Hsz22 := Lib.hid (Hsz21.out.call kz22)
      have Hjz22 := Lib.hid (Hjz21.out.call kz22)
      have Hdz22 := Lib.hid (Hdz21.out.call kz22)
      have Hnonez22 := Lib.hid (Hnonez21.out.call kz22)
      have Hzeroz22 := Lib.hid (Hzeroz21.out.call kz22)
      clear kz22
      cases XA with
      | false =>
        obtain ⟨rfl, ⟨rfl, rfl⟩, rfl, rfl, rfl, rfl, rfl, rfl, rfl⟩ := HD1.out rfl
        have qj0_22 : wz22.cell? ⟨wz3.heap.size, 0, none⟩ = some (.int .i64 0) := Hjz22.out.cell 0
        have qj1_22 : wz22.cell? ⟨wz3.heap.size, 1, none⟩ = some (.int .i64 0) := Hjz22.out.cell 1
        have qj2_22 : wz22.cell? ⟨wz3.heap.size, 2, none⟩ = some (.int .u64 0) := Hjz22.out.cell 2
        have qj3_22 : wz22.cell? ⟨wz3.heap.size, 3, none⟩ = some (.int .u64 0) := Hjz22.out.cell 3
        have qj4_22 : wz22.cell? ⟨wz3.heap.size, 4, none⟩ = some (.int .i64 0) := Hjz22.out.cell 4
        have qj5_22 : wz22.cell? ⟨wz3.heap.size, 5, none⟩ = some (.int .i64 0) := Hjz22.out.cell 5
        have lj_22 : wz3.heap.size < wz22.heap.size := Hjz22.out.lt
        have qnone0_22 : wz22.cell? ⟨wz6.heap.size, 0, none⟩ = some (.int .i64 0) := Hnonez22.out.cell 0
        have qnone1_22 : wz22.cell? ⟨wz6.heap.size, 1, none⟩ = some (.int .i64 0) := Hnonez22.out.cell 1
        have qnone2_22 : wz22.cell? ⟨wz6.heap.size, 2, none⟩ = some (.int .u64 0) := Hnonez22.out.cell 2
        have qnone3_22 : wz22.cell? ⟨wz6.heap.size, 3, none⟩ = some (.int .u64 0) := Hnonez22.out.cell 3
        have qnone4_22 : wz22.cell? ⟨wz6.heap.size, 4, none⟩ = some (.int .i64 0) := Hnonez22.out.cell 4
        have qnone5_22 : wz22.cell? ⟨wz6.heap.size, 5, none⟩ = some (.int .i64 0) := Hnonez22.out.cell 5
        have lnone_22 : wz6.heap.size < wz22.heap.size := Hnonez22.out.lt
        have qd0_22 : wz22.cell? ⟨wz5.heap.size, 0, none⟩ = some (.int .u64 0) := Hdz22.out.cell 0
        have qd1_22 : wz22.cell? ⟨wz5.heap.size, 1, none⟩ = some (.int .u64 0) := Hdz22.out.cell 1
        have ld_22 : wz5.heap.size < wz22.heap.size := Hdz22.out.lt
        have qzero0_22 : wz22.cell? ⟨wc.heap.size, 0, none⟩ = some (.int .u64 0) := Hzeroz22.out.cell 0
        have qzero1_22 : wz22.cell? ⟨wc.heap.size, 1, none⟩ = some (.int .u64 0) := Hzeroz22.out.cell 1
        have lzero_22 : wc.heap.size < wz22.heap.size := Hzeroz22.out.lt
        have hez := eqStaZ sta0
        have hezw := eqWords 0 0 0 0
        go_wp2
        go_ret
        exact ⟨rfl, HBz22.out⟩
      | true =>
        by_cases hn : n1 = 0
        · skip
          have qa0_22 : wz22.cell? ⟨w.heap.size, 0, none⟩ = some (.int .i64 n1) := Haz22.out.cell 0
          have qa1_22 : wz22.cell? ⟨w.heap.size, 1, none⟩ = some (.int .i64 z1) := Haz22.out.cell 1
          have qa2_22 : wz22.cell? ⟨w.heap.size, 2, none⟩ = some (.int .u64 h1) := Haz22.out.cell 2
          have qa3_22 : wz22.cell? ⟨w.heap.size, 3, none⟩ = some (.int .u64 o1) := Haz22.out.cell 3
          have qa4_22 : wz22.cell? ⟨w.heap.size, 4, none⟩ = some (.int .i64 l1) := Haz22.out.cell 4
          have qa5_22 : wz22.cell? ⟨w.heap.size, 5, none⟩ = some (.int .i64 g1) := Haz22.out.cell 5
          have la_22 : w.heap.size < wz22.heap.size := Haz22.out.lt
          obtain ⟨rfl, rfl, rfl⟩ := HD2.out rfl hn
          have en : (n1 == 0) = true := beq_iff_eq.2 hn
          clear hn
          have qd0_22 : wz22.cell? ⟨wz5.heap.size, 0, none⟩ = some (.int .u64 0) := Hdz22.out.cell 0
          have qd1_22 : wz22.cell? ⟨wz5.heap.size, 1, none⟩ = some (.int .u64 0) := Hdz22.out.cell 1
          have ld_22 : wz5.heap.size < wz22.heap.size := Hdz22.out.lt
          have qzero0_22 : wz22.cell? ⟨wc.heap.size, 0, none⟩ = some (.int .u64 0) := Hzeroz22.out.cell 0
          have qzero1_22 : wz22.cell? ⟨wc.heap.size, 1, none⟩ = some (.int .u64 0) := Hzeroz22.out.cell 1
          have lzero_22 : wc.heap.size < wz22.heap.size := Hzeroz22.out.lt
          have hez := eqStaZ sta0
          have hezw := eqWords 0 0 0 0
          have qb0_22 : wz22.cell? ⟨w.heap.size + 1, 0, none⟩ = some (.int .i64 n2) := Hbz22.out.cell 0
          have qb1_22 : wz22.cell? ⟨w.heap.size + 1, 1, none⟩ = some (.int .i64 z2) := Hbz22.out.cell 1
          have qb2_22 : wz22.cell? ⟨w.heap.size + 1, 2, none⟩ = some (.int .u64 h2) := Hbz22.out.cell 2
          have qb3_22 : wz22.cell? ⟨w.heap.size + 1, 3, none⟩ = some (.int .u64 o2) := Hbz22.out.cell 3
          have qb4_22 : wz22.cell? ⟨w.heap.size + 1, 4, none⟩ = some (.int .i64 l2) := Hbz22.out.cell 4
          have qb5_22 : wz22.cell? ⟨w.heap.size + 1, 5, none⟩ = some (.int .i64 g2) := Hbz22.out.cell 5
          have lb_22 : w.heap.size + 1 < wz22.heap.size := Hbz22.out.lt
          go_upto_region 21 with fail
          have hcz23 := CRB.out wz22
          go_wp2_with fail
          refine hcz23.mono ?_
          rintro e wz23 ⟨rfl, kz23⟩
          clear hcz23 qa0_22 qa1_22 qa2_22 qa3_22 qa4_22 qa5_22 la_22 qd0_22 qd1_22 ld_22 qzero0_22 qzero1_22 lzero_22 qb0_22 qb1_22 qb2_22 qb3_22 qb4_22 qb5_22 lb_22
          have HBz23 := Lib.hid (HBz22.out.trans (kz23.mono (Nat.le_trans hbase HBz22.out.size)))
          have Haz23 := Lib.hid (Haz22.out.call kz23)
          have Hbz23 := Lib.hid (Hbz22.out.call kz23)
          have Hsz23 := Lib.hid (Hsz22.out.call kz23)
          have Hjz23 := Lib.hid (Hjz22.out.call kz23)
          have Hdz23 := Lib.hid (Hdz22.out.call kz23)
          have Hnonez23 := Lib.hid (Hnonez22.out.call kz23)
          have Hzeroz23 := Lib.hid (Hzeroz22.out.call kz23)
          clear kz23
          cases XB with
          | false =>
            obtain ⟨rfl, rfl, rfl, rfl, rfl, rfl, rfl⟩ := HE1.out (by simp) (by simp)
            try clear hez hezw
            have qj0_23 : wz23.cell? ⟨wz3.heap.size, 0, none⟩ = some (.int .i64 0) := Hjz23.out.cell 0
            have qj1_23 : wz23.cell? ⟨wz3.heap.size, 1, none⟩ = some (.int .i64 0) := Hjz23.out.cell 1
            have qj2_23 : wz23.cell? ⟨wz3.heap.size, 2, none⟩ = some (.int .u64 0) := Hjz23.out.cell 2
            have qj3_23 : wz23.cell? ⟨wz3.heap.size, 3, none⟩ = some (.int .u64 0) := Hjz23.out.cell 3
            have qj4_23 : wz23.cell? ⟨wz3.heap.size, 4, none⟩ = some (.int .i64 0) := Hjz23.out.cell 4
            have qj5_23 : wz23.cell? ⟨wz3.heap.size, 5, none⟩ = some (.int .i64 0) := Hjz23.out.cell 5
            have lj_23 : wz3.heap.size < wz23.heap.size := Hjz23.out.lt
            have qnone0_23 : wz23.cell? ⟨wz6.heap.size, 0, none⟩ = some (.int .i64 0) := Hnonez23.out.cell 0
            have qnone1_23 : wz23.cell? ⟨wz6.heap.size, 1, none⟩ = some (.int .i64 0) := Hnonez23.out.cell 1
            have qnone2_23 : wz23.cell? ⟨wz6.heap.size, 2, none⟩ = some (.int .u64 0) := Hnonez23.out.cell 2
            have qnone3_23 : wz23.cell? ⟨wz6.heap.size, 3, none⟩ = some (.int .u64 0) := Hnonez23.out.cell 3
            have qnone4_23 : wz23.cell? ⟨wz6.heap.size, 4, none⟩ = some (.int .i64 0) := Hnonez23.out.cell 4
            have qnone5_23 : wz23.cell? ⟨wz6.heap.size, 5, none⟩ = some (.int .i64 0) := Hnonez23.out.cell 5
            have lnone_23 : wz6.heap.size < wz23.heap.size := Hnonez23.out.lt
            have hez := eqStaZ sta0
            have hezw := eqWords 0 0 0 0
            go_wp2
            go_ret
            exact ⟨rfl, HBz23.out⟩
          | true =>
            obtain ⟨hS, hf, hok⟩ := HE2.out (by simp) (by simp)
            have HF := Lib.hid hf
            have HOK := Lib.hid hok
            clear hf hok
            by_cases hc : 1000000000 < S
            · skip
              obtain ⟨rfl, rfl, rfl, rfl, rfl, rfl, rfl⟩ := HF.out (by omega)
              try clear hez hezw
              have qa0_23 : wz23.cell? ⟨w.heap.size, 0, none⟩ = some (.int .i64 n1) := Haz23.out.cell 0
              have qa1_23 : wz23.cell? ⟨w.heap.size, 1, none⟩ = some (.int .i64 z1) := Haz23.out.cell 1
              have qa2_23 : wz23.cell? ⟨w.heap.size, 2, none⟩ = some (.int .u64 h1) := Haz23.out.cell 2
              have qa3_23 : wz23.cell? ⟨w.heap.size, 3, none⟩ = some (.int .u64 o1) := Haz23.out.cell 3
              have qa4_23 : wz23.cell? ⟨w.heap.size, 4, none⟩ = some (.int .i64 l1) := Haz23.out.cell 4
              have qa5_23 : wz23.cell? ⟨w.heap.size, 5, none⟩ = some (.int .i64 g1) := Haz23.out.cell 5
              have la_23 : w.heap.size < wz23.heap.size := Haz23.out.lt
              have qb0_23 : wz23.cell? ⟨w.heap.size + 1, 0, none⟩ = some (.int .i64 n2) := Hbz23.out.cell 0
              have qb1_23 : wz23.cell? ⟨w.heap.size + 1, 1, none⟩ = some (.int .i64 z2) := Hbz23.out.cell 1
              have qb2_23 : wz23.cell? ⟨w.heap.size + 1, 2, none⟩ = some (.int .u64 h2) := Hbz23.out.cell 2
              have qb3_23 : wz23.cell? ⟨w.heap.size + 1, 3, none⟩ = some (.int .u64 o2) := Hbz23.out.cell 3
              have qb4_23 : wz23.cell? ⟨w.heap.size + 1, 4, none⟩ = some (.int .i64 l2) := Hbz23.out.cell 4
              have qb5_23 : wz23.cell? ⟨w.heap.size + 1, 5, none⟩ = some (.int .i64 g2) := Hbz23.out.cell 5
              have lb_23 : w.heap.size + 1 < wz23.heap.size := Hbz23.out.lt
              have qj0_23 : wz23.cell? ⟨wz3.heap.size, 0, none⟩ = some (.int .i64 0) := Hjz23.out.cell 0
              have qj1_23 : wz23.cell? ⟨wz3.heap.size, 1, none⟩ = some (.int .i64 0) := Hjz23.out.cell 1
              have qj2_23 : wz23.cell? ⟨wz3.heap.size, 2, none⟩ = some (.int .u64 0) := Hjz23.out.cell 2
              have qj3_23 : wz23.cell? ⟨wz3.heap.size, 3, none⟩ = some (.int .u64 0) := Hjz23.out.cell 3
              have qj4_23 : wz23.cell? ⟨wz3.heap.size, 4, none⟩ = some (.int .i64 0) := Hjz23.out.cell 4
              have qj5_23 : wz23.cell? ⟨wz3.heap.size, 5, none⟩ = some (.int .i64 0) := Hjz23.out.cell 5
              have lj_23 : wz3.heap.size < wz23.heap.size := Hjz23.out.lt
              have qnone0_23 : wz23.cell? ⟨wz6.heap.size, 0, none⟩ = some (.int .i64 0) := Hnonez23.out.cell 0
              have qnone1_23 : wz23.cell? ⟨wz6.heap.size, 1, none⟩ = some (.int .i64 0) := Hnonez23.out.cell 1
              have qnone2_23 : wz23.cell? ⟨wz6.heap.size, 2, none⟩ = some (.int .u64 0) := Hnonez23.out.cell 2
              have qnone3_23 : wz23.cell? ⟨wz6.heap.size, 3, none⟩ = some (.int .u64 0) := Hnonez23.out.cell 3
              have qnone4_23 : wz23.cell? ⟨wz6.heap.size, 4, none⟩ = some (.int .i64 0) := Hnonez23.out.cell 4
              have qnone5_23 : wz23.cell? ⟨wz6.heap.size, 5, none⟩ = some (.int .i64 0) := Hnonez23.out.cell 5
              have lnone_23 : wz6.heap.size < wz23.heap.size := Hnonez23.out.lt
              have hez := eqStaZ sta0
              have hezw := eqWords 0 0 0 0
              go_wp2
              go_ret
              exact ⟨rfl, HBz23.out⟩
            · skip
              obtain ⟨rfl, crj⟩ := HOK.out (by omega)
              have CRJ := Lib.hid crj
              clear crj
              try clear hes
              have hes : ∀ W, (Op.equalIn 10000 27 (.agg #[.int .i64 n4, .int .i64 z4, .int .u64 h4, .int .u64 o4, .int .i64 l4, .int .i64 g4]) (.agg #[.int .i64 n4, .int .i64 z4, .int .u64 h4, .int .u64 o4, .int .i64 l4, .int .i64 g4])).run Try.prog W = .ok true W := fun W => by rw [eqSta6, decide_eq_true ⟨rfl, rfl, rfl, rfl, rfl, rfl⟩]
              have qa0_23 : wz23.cell? ⟨w.heap.size, 0, none⟩ = some (.int .i64 n1) := Haz23.out.cell 0
              have qa1_23 : wz23.cell? ⟨w.heap.size, 1, none⟩ = some (.int .i64 z1) := Haz23.out.cell 1
              have qa2_23 : wz23.cell? ⟨w.heap.size, 2, none⟩ = some (.int .u64 h1) := Haz23.out.cell 2
              have qa3_23 : wz23.cell? ⟨w.heap.size, 3, none⟩ = some (.int .u64 o1) := Haz23.out.cell 3
              have qa4_23 : wz23.cell? ⟨w.heap.size, 4, none⟩ = some (.int .i64 l1) := Haz23.out.cell 4
              have qa5_23 : wz23.cell? ⟨w.heap.size, 5, none⟩ = some (.int .i64 g1) := Haz23.out.cell 5
              have la_23 : w.heap.size < wz23.heap.size := Haz23.out.lt
              have qb0_23 : wz23.cell? ⟨w.heap.size + 1, 0, none⟩ = some (.int .i64 n2) := Hbz23.out.cell 0
              have qb1_23 : wz23.cell? ⟨w.heap.size + 1, 1, none⟩ = some (.int .i64 z2) := Hbz23.out.cell 1
              have qb2_23 : wz23.cell? ⟨w.heap.size + 1, 2, none⟩ = some (.int .u64 h2) := Hbz23.out.cell 2
              have qb3_23 : wz23.cell? ⟨w.heap.size + 1, 3, none⟩ = some (.int .u64 o2) := Hbz23.out.cell 3
              have qb4_23 : wz23.cell? ⟨w.heap.size + 1, 4, none⟩ = some (.int .i64 l2) := Hbz23.out.cell 4
              have qb5_23 : wz23.cell? ⟨w.heap.size + 1, 5, none⟩ = some (.int .i64 g2) := Hbz23.out.cell 5
              have lb_23 : w.heap.size + 1 < wz23.heap.size := Hbz23.out.lt
              go_upto_region 25 with fail
              have qj0_23 : wz23.cell? ⟨wz3.heap.size, 0, none⟩ = some (.int .i64 n4) := Hjz23.out.cell 0
              have qj1_23 : wz23.cell? ⟨wz3.heap.size, 1, none⟩ = some (.int .i64 z4) := Hjz23.out.cell 1
              have qj2_23 : wz23.cell? ⟨wz3.heap.size, 2, none⟩ = some (.int .u64 h4) := Hjz23.out.cell 2
              have qj3_23 : wz23.cell? ⟨wz3.heap.size, 3, none⟩ = some (.int .u64 o4) := Hjz23.out.cell 3
              have qj4_23 : wz23.cell? ⟨wz3.heap.size, 4, none⟩ = some (.int .i64 l4) := Hjz23.out.cell 4
              have qj5_23 : wz23.cell? ⟨wz3.heap.size, 5, none⟩ = some (.int .i64 g4) := Hjz23.out.cell 5
              have lj_23 : wz3.heap.size < wz23.heap.size := Hjz23.out.lt
              go_region_held3 (fun W => W.cell? ⟨w.heap.size, 0, none⟩ = some (.int .i64 n1) ∧ W.cell? ⟨w.heap.size, 1, none⟩ = some (.int .i64 z1) ∧ W.cell? ⟨w.heap.size, 2, none⟩ = some (.int .u64 h1) ∧ W.cell? ⟨w.heap.size, 3, none⟩ = some (.int .u64 o1) ∧ W.cell? ⟨w.heap.size, 4, none⟩ = some (.int .i64 l1) ∧ W.cell? ⟨w.heap.size, 5, none⟩ = some (.int .i64 g1) ∧ W.cell? ⟨w.heap.size + 1, 0, none⟩ = some (.int .i64 n2) ∧ W.cell? ⟨w.heap.size + 1, 1, none⟩ = some (.int .i64 z2) ∧ W.cell? ⟨w.heap.size + 1, 2, none⟩ = some (.int .u64 h2) ∧ W.cell? ⟨w.heap.size + 1, 3, none⟩ = some (.int .u64 o2) ∧ W.cell? ⟨w.heap.size + 1, 4, none⟩ = some (.int .i64 l2) ∧ W.cell? ⟨w.heap.size + 1, 5, none⟩ = some (.int .i64 g2) ∧ W.cell? ⟨wz3.heap.size, 0, none⟩ = some (.int .i64 n4) ∧ W.cell? ⟨wz3.heap.size, 1, none⟩ = some (.int .i64 z4) ∧ W.cell? ⟨wz3.heap.size, 2, none⟩ = some (.int .u64 h4) ∧ W.cell? ⟨wz3.heap.size, 3, none⟩ = some (.int .u64 o4) ∧ W.cell? ⟨wz3.heap.size, 4, none⟩ = some (.int .i64 l4) ∧ W.cell? ⟨wz3.heap.size, 5, none⟩ = some (.int .i64 g4)) (first | exact ⟨ya240, ya241, ya242, ya243, ya244, ya245, yb240, yb241, yb242, yb243, yb244, yb245, yj240, yj241, yj242, yj243, yj244, yj245⟩ | exact ⟨qa0_23, qa1_23, qa2_23, qa3_23, qa4_23, qa5_23, qb0_23, qb1_23, qb2_23, qb3_23, qb4_23, qb5_23, qj0_23, qj1_23, qj2_23, qj3_23, qj4_23, qj5_23⟩ | simp [go_sem, *]) (first | (go_at_call 16; refine (CRJ.out _).mono ?_; rintro e wr24 ⟨rfl, kr24⟩; (have HBr24 := Lib.hid (show Below w.heap.size w wr24 by first | exact (HBz23.out).trans (kr24.mono (by have := HBz23.out.size; first | omega | (simp; omega) | simp)) | exact (Below.drew (HBz23.out)).trans (kr24.mono (by have := HBz23.out.size; first | omega | (simp; omega) | simp)) | exact (Below.drew (Below.drew (HBz23.out))).trans (kr24.mono (by have := HBz23.out.size; first | omega | (simp; omega) | simp)) | exact (Below.drew (Below.drew (Below.drew (HBz23.out)))).trans (kr24.mono (by have := HBz23.out.size; first | omega | (simp; omega) | simp)))); (have Har24 := Lib.hid (show Has wr24 (w.heap.size) [.int .i64 n1, .int .i64 z1, .int .u64 h1, .int .u64 o1, .int .i64 l1, .int .i64 g1] 27 from Haz23.out.step kr24 rfl)); (have ya240 : wr24.cell? ⟨w.heap.size, 0, none⟩ = some (.int .i64 n1) := Har24.out.cell 0); (have ya241 : wr24.cell? ⟨w.heap.size, 1, none⟩ = some (.int .i64 z1) := Har24.out.cell 1); (have ya242 : wr24.cell? ⟨w.heap.size, 2, none⟩ = some (.int .u64 h1) := Har24.out.cell 2); (have ya243 : wr24.cell? ⟨w.heap.size, 3, none⟩ = some (.int .u64 o1) := Har24.out.cell 3); (have ya244 : wr24.cell? ⟨w.heap.size, 4, none⟩ = some (.int .i64 l1) := Har24.out.cell 4); (have ya245 : wr24.cell? ⟨w.heap.size, 5, none⟩ = some (.int .i64 g1) := Har24.out.cell 5); (have la24 : w.heap.size < wr24.heap.size := Har24.out.lt); (have Hbr24 := Lib.hid (show Has wr24 (w.heap.size + 1) [.int .i64 n2, .int .i64 z2, .int .u64 h2, .int .u64 o2, .int .i64 l2, .int .i64 g2] 27 from Hbz23.out.step kr24 rfl)); (have yb240 : wr24.cell? ⟨w.heap.size + 1, 0, none⟩ = some (.int .i64 n2) := Hbr24.out.cell 0); (have yb241 : wr24.cell? ⟨w.heap.size + 1, 1, none⟩ = some (.int .i64 z2) := Hbr24.out.cell 1); (have yb242 : wr24.cell? ⟨w.heap.size + 1, 2, none⟩ = some (.int .u64 h2) := Hbr24.out.cell 2); (have yb243 : wr24.cell? ⟨w.heap.size + 1, 3, none⟩ = some (.int .u64 o2) := Hbr24.out.cell 3); (have yb244 : wr24.cell? ⟨w.heap.size + 1, 4, none⟩ = some (.int .i64 l2) := Hbr24.out.cell 4); (have yb245 : wr24.cell? ⟨w.heap.size + 1, 5, none⟩ = some (.int .i64 g2) := Hbr24.out.cell 5); (have lb24 : w.heap.size + 1 < wr24.heap.size := Hbr24.out.lt); (have Hjr24 := Lib.hid (show Has wr24 (wz3.heap.size) [.int .i64 n4, .int .i64 z4, .int .u64 h4, .int .u64 o4, .int .i64 l4, .int .i64 g4] 27 from Hjz23.out.step kr24 rfl)); (have yj240 : wr24.cell? ⟨wz3.heap.size, 0, none⟩ = some (.int .i64 n4) := Hjr24.out.cell 0); (have yj241 : wr24.cell? ⟨wz3.heap.size, 1, none⟩ = some (.int .i64 z4) := Hjr24.out.cell 1); (have yj242 : wr24.cell? ⟨wz3.heap.size, 2, none⟩ = some (.int .u64 h4) := Hjr24.out.cell 2); (have yj243 : wr24.cell? ⟨wz3.heap.size, 3, none⟩ = some (.int .u64 o4) := Hjr24.out.cell 3); (have yj244 : wr24.cell? ⟨wz3.heap.size, 4, none⟩ = some (.int .i64 l4) := Hjr24.out.cell 4); (have yj245 : wr24.cell? ⟨wz3.heap.size, 5, none⟩ = some (.int .i64 g4) := Hjr24.out.cell 5); (have lj24 : wz3.heap.size < wr24.heap.size := Hjr24.out.lt)))
              have Hsr24 := Lib.hid (Hsz23.out.step kr24 rfl)
              have Hdr24 := Lib.hid (Hdz23.out.step kr24 rfl)
              have Hnoner24 := Lib.hid (Hnonez23.out.step kr24 rfl)
              have Hzeror24 := Lib.hid (Hzeroz23.out.step kr24 rfl)
              clear kr24 ya240 ya241 ya242 ya243 ya244 ya245 yb240 yb241 yb242 yb243 yb244 yb245 yj240 yj241 yj242 yj243 yj244 yj245 la24 lb24 lj24 qa0_23 qa1_23 qa2_23 qa3_23 qa4_23 qa5_23 la_23 qb0_23 qb1_23 qb2_23 qb3_23 qb4_23 qb5_23 lb_23 qj0_23 qj1_23 qj2_23 qj3_23 qj4_23 qj5_23 lj_23
              go_wp2
              go_ret
              exact ⟨rfl, HBr24.out⟩
        · skip
          have qa0_22 : wz22.cell? ⟨w.heap.size, 0, none⟩ = some (.int .i64 n1) := Haz22.out.cell 0
          have qa1_22 : wz22.cell? ⟨w.heap.size, 1, none⟩ = some (.int .i64 z1) := Haz22.out.cell 1
          have qa2_22 : wz22.cell? ⟨w.heap.size, 2, none⟩ = some (.int .u64 h1) := Haz22.out.cell 2
          have qa3_22 : wz22.cell? ⟨w.heap.size, 3, none⟩ = some (.int .u64 o1) := Haz22.out.cell 3
          have qa4_22 : wz22.cell? ⟨w.heap.size, 4, none⟩ = some (.int .i64 l1) := Haz22.out.cell 4
          have qa5_22 : wz22.cell? ⟨w.heap.size, 5, none⟩ = some (.int .i64 g1) := Haz22.out.cell 5
          have la_22 : w.heap.size < wz22.heap.size := Haz22.out.lt
          obtain ⟨rfl, crs⟩ := HD3.out rfl hn
          have CRS := Lib.hid crs
          have en : (n1 == 0) = false := beq_false_of_ne hn
          clear hn crs
          have hes : ∀ W, (Op.equalIn 10000 25 (.agg #[.int .u64 dh, .int .u64 dl]) (.agg #[.int .u64 dh, .int .u64 dl])).run Try.prog W = .ok true W := fun W => eqWI dh dl W
          go_upto_region 19 with fail
          have qd0_22 : wz22.cell? ⟨wz5.heap.size, 0, none⟩ = some (.int .u64 dh) := Hdz22.out.cell 0
          have qd1_22 : wz22.cell? ⟨wz5.heap.size, 1, none⟩ = some (.int .u64 dl) := Hdz22.out.cell 1
          have ld_22 : wz5.heap.size < wz22.heap.size := Hdz22.out.lt
          go_region_held3 (fun W => W.cell? ⟨w.heap.size, 0, none⟩ = some (.int .i64 n1) ∧ W.cell? ⟨w.heap.size, 1, none⟩ = some (.int .i64 z1) ∧ W.cell? ⟨w.heap.size, 2, none⟩ = some (.int .u64 h1) ∧ W.cell? ⟨w.heap.size, 3, none⟩ = some (.int .u64 o1) ∧ W.cell? ⟨w.heap.size, 4, none⟩ = some (.int .i64 l1) ∧ W.cell? ⟨w.heap.size, 5, none⟩ = some (.int .i64 g1) ∧ W.cell? ⟨wz5.heap.size, 0, none⟩ = some (.int .u64 dh) ∧ W.cell? ⟨wz5.heap.size, 1, none⟩ = some (.int .u64 dl)) (first | exact ⟨ya230, ya231, ya232, ya233, ya234, ya235, yd230, yd231⟩ | exact ⟨qa0_22, qa1_22, qa2_22, qa3_22, qa4_22, qa5_22, qd0_22, qd1_22⟩ | simp [go_sem, *]) (first | (go_at_call 15; refine (CRS.out _).mono ?_; rintro e wr23 ⟨rfl, kr23⟩; (have HBr23 := Lib.hid (show Below w.heap.size w wr23 by first | exact (HBz22.out).trans (kr23.mono (by have := HBz22.out.size; first | omega | (simp; omega) | simp)) | exact (Below.drew (HBz22.out)).trans (kr23.mono (by have := HBz22.out.size; first | omega | (simp; omega) | simp)) | exact (Below.drew (Below.drew (HBz22.out))).trans (kr23.mono (by have := HBz22.out.size; first | omega | (simp; omega) | simp)) | exact (Below.drew (Below.drew (Below.drew (HBz22.out)))).trans (kr23.mono (by have := HBz22.out.size; first | omega | (simp; omega) | simp)))); (have Har23 := Lib.hid (show Has wr23 (w.heap.size) [.int .i64 n1, .int .i64 z1, .int .u64 h1, .int .u64 o1, .int .i64 l1, .int .i64 g1] 27 from Haz22.out.step kr23 rfl)); (have ya230 : wr23.cell? ⟨w.heap.size, 0, none⟩ = some (.int .i64 n1) := Har23.out.cell 0); (have ya231 : wr23.cell? ⟨w.heap.size, 1, none⟩ = some (.int .i64 z1) := Har23.out.cell 1); (have ya232 : wr23.cell? ⟨w.heap.size, 2, none⟩ = some (.int .u64 h1) := Har23.out.cell 2); (have ya233 : wr23.cell? ⟨w.heap.size, 3, none⟩ = some (.int .u64 o1) := Har23.out.cell 3); (have ya234 : wr23.cell? ⟨w.heap.size, 4, none⟩ = some (.int .i64 l1) := Har23.out.cell 4); (have ya235 : wr23.cell? ⟨w.heap.size, 5, none⟩ = some (.int .i64 g1) := Har23.out.cell 5); (have la23 : w.heap.size < wr23.heap.size := Har23.out.lt); (have Hdr23 := Lib.hid (show Has wr23 (wz5.heap.size) [.int .u64 dh, .int .u64 dl] 25 from Hdz22.out.step kr23 rfl)); (have yd230 : wr23.cell? ⟨wz5.heap.size, 0, none⟩ = some (.int .u64 dh) := Hdr23.out.cell 0); (have yd231 : wr23.cell? ⟨wz5.heap.size, 1, none⟩ = some (.int .u64 dl) := Hdr23.out.cell 1); (have ld23 : wz5.heap.size < wr23.heap.size := Hdr23.out.lt)))
          have Hbr23 := Lib.hid (Hbz22.out.step kr23 rfl)
          have Hsr23 := Lib.hid (Hsz22.out.step kr23 rfl)
          have Hjr23 := Lib.hid (Hjz22.out.step kr23 rfl)
          have Hnoner23 := Lib.hid (Hnonez22.out.step kr23 rfl)
          have Hzeror23 := Lib.hid (Hzeroz22.out.step kr23 rfl)
          clear kr23 ya230 ya231 ya232 ya233 ya234 ya235 yd230 yd231 la23 ld23 qa0_22 qa1_22 qa2_22 qa3_22 qa4_22 qa5_22 la_22 qd0_22 qd1_22 ld_22
          go_upto_region 21 with fail
          have qb0_23 : wr23.cell? ⟨w.heap.size + 1, 0, none⟩ = some (.int .i64 n2) := Hbr23.out.cell 0
          have qb1_23 : wr23.cell? ⟨w.heap.size + 1, 1, none⟩ = some (.int .i64 z2) := Hbr23.out.cell 1
          have qb2_23 : wr23.cell? ⟨w.heap.size + 1, 2, none⟩ = some (.int .u64 h2) := Hbr23.out.cell 2
          have qb3_23 : wr23.cell? ⟨w.heap.size + 1, 3, none⟩ = some (.int .u64 o2) := Hbr23.out.cell 3
          have qb4_23 : wr23.cell? ⟨w.heap.size + 1, 4, none⟩ = some (.int .i64 l2) := Hbr23.out.cell 4
          have qb5_23 : wr23.cell? ⟨w.heap.size + 1, 5, none⟩ = some (.int .i64 g2) := Hbr23.out.cell 5
          have lb_23 : w.heap.size + 1 < wr23.heap.size := Hbr23.out.lt
          have hcz24 := CRB.out wr23
          go_wp2_with fail
          refine hcz24.mono ?_
          rintro e wz24 ⟨rfl, kz24⟩
          clear hcz24 qb0_23 qb1_23 qb2_23 qb3_23 qb4_23 qb5_23 lb_23
          have HBz24 := Lib.hid (HBr23.out.trans (kz24.mono (Nat.le_trans hbase HBr23.out.size)))
          have Haz24 := Lib.hid (Har23.out.call kz24)
          have Hbz24 := Lib.hid (Hbr23.out.call kz24)
          have Hsz24 := Lib.hid (Hsr23.out.call kz24)
          have Hjz24 := Lib.hid (Hjr23.out.call kz24)
          have Hdz24 := Lib.hid (Hdr23.out.call kz24)
          have Hnonez24 := Lib.hid (Hnoner23.out.call kz24)
          have Hzeroz24 := Lib.hid (Hzeror23.out.call kz24)
          clear kz24
          cases XB with
          | false =>
            obtain ⟨rfl, rfl, rfl, rfl, rfl, rfl, rfl⟩ := HE1.out (by simp) (by simp)
            try clear hez hezw
            have qj0_24 : wz24.cell? ⟨wz3.heap.size, 0, none⟩ = some (.int .i64 0) := Hjz24.out.cell 0
            have qj1_24 : wz24.cell? ⟨wz3.heap.size, 1, none⟩ = some (.int .i64 0) := Hjz24.out.cell 1
            have qj2_24 : wz24.cell? ⟨wz3.heap.size, 2, none⟩ = some (.int .u64 0) := Hjz24.out.cell 2
            have qj3_24 : wz24.cell? ⟨wz3.heap.size, 3, none⟩ = some (.int .u64 0) := Hjz24.out.cell 3
            have qj4_24 : wz24.cell? ⟨wz3.heap.size, 4, none⟩ = some (.int .i64 0) := Hjz24.out.cell 4
            have qj5_24 : wz24.cell? ⟨wz3.heap.size, 5, none⟩ = some (.int .i64 0) := Hjz24.out.cell 5
            have lj_24 : wz3.heap.size < wz24.heap.size := Hjz24.out.lt
            have qnone0_24 : wz24.cell? ⟨wz6.heap.size, 0, none⟩ = some (.int .i64 0) := Hnonez24.out.cell 0
            have qnone1_24 : wz24.cell? ⟨wz6.heap.size, 1, none⟩ = some (.int .i64 0) := Hnonez24.out.cell 1
            have qnone2_24 : wz24.cell? ⟨wz6.heap.size, 2, none⟩ = some (.int .u64 0) := Hnonez24.out.cell 2
            have qnone3_24 : wz24.cell? ⟨wz6.heap.size, 3, none⟩ = some (.int .u64 0) := Hnonez24.out.cell 3
            have qnone4_24 : wz24.cell? ⟨wz6.heap.size, 4, none⟩ = some (.int .i64 0) := Hnonez24.out.cell 4
            have qnone5_24 : wz24.cell? ⟨wz6.heap.size, 5, none⟩ = some (.int .i64 0) := Hnonez24.out.cell 5
            have lnone_24 : wz6.heap.size < wz24.heap.size := Hnonez24.out.lt
            have hez := eqStaZ sta0
            have hezw := eqWords 0 0 0 0
            go_wp2
            go_ret
            exact ⟨rfl, HBz24.out⟩
          | true =>
            obtain ⟨hS, hf, hok⟩ := HE2.out (by simp) (by simp)
            have HF := Lib.hid hf
            have HOK := Lib.hid hok
            clear hf hok
            by_cases hc : 1000000000 < S
            · skip
              obtain ⟨rfl, rfl, rfl, rfl, rfl, rfl, rfl⟩ := HF.out (by omega)
              try clear hez hezw
              have qa0_24 : wz24.cell? ⟨w.heap.size, 0, none⟩ = some (.int .i64 n1) := Haz24.out.cell 0
              have qa1_24 : wz24.cell? ⟨w.heap.size, 1, none⟩ = some (.int .i64 z1) := Haz24.out.cell 1
              have qa2_24 : wz24.cell? ⟨w.heap.size, 2, none⟩ = some (.int .u64 h1) := Haz24.out.cell 2
              have qa3_24 : wz24.cell? ⟨w.heap.size, 3, none⟩ = some (.int .u64 o1) := Haz24.out.cell 3
              have qa4_24 : wz24.cell? ⟨w.heap.size, 4, none⟩ = some (.int .i64 l1) := Haz24.out.cell 4
              have qa5_24 : wz24.cell? ⟨w.heap.size, 5, none⟩ = some (.int .i64 g1) := Haz24.out.cell 5
              have la_24 : w.heap.size < wz24.heap.size := Haz24.out.lt
              have qb0_24 : wz24.cell? ⟨w.heap.size + 1, 0, none⟩ = some (.int .i64 n2) := Hbz24.out.cell 0
              have qb1_24 : wz24.cell? ⟨w.heap.size + 1, 1, none⟩ = some (.int .i64 z2) := Hbz24.out.cell 1
              have qb2_24 : wz24.cell? ⟨w.heap.size + 1, 2, none⟩ = some (.int .u64 h2) := Hbz24.out.cell 2
              have qb3_24 : wz24.cell? ⟨w.heap.size + 1, 3, none⟩ = some (.int .u64 o2) := Hbz24.out.cell 3
              have qb4_24 : wz24.cell? ⟨w.heap.size + 1, 4, none⟩ = some (.int .i64 l2) := Hbz24.out.cell 4
              have qb5_24 : wz24.cell? ⟨w.heap.size + 1, 5, none⟩ = some (.int .i64 g2) := Hbz24.out.cell 5
              have lb_24 : w.heap.size + 1 < wz24.heap.size := Hbz24.out.lt
              have qj0_24 : wz24.cell? ⟨wz3.heap.size, 0, none⟩ = some (.int .i64 0) := Hjz24.out.cell 0
              have qj1_24 : wz24.cell? ⟨wz3.heap.size, 1, none⟩ = some (.int .i64 0) := Hjz24.out.cell 1
              have qj2_24 : wz24.cell? ⟨wz3.heap.size, 2, none⟩ = some (.int .u64 0) := Hjz24.out.cell 2
              have qj3_24 : wz24.cell? ⟨wz3.heap.size, 3, none⟩ = some (.int .u64 0) := Hjz24.out.cell 3
              have qj4_24 : wz24.cell? ⟨wz3.heap.size, 4, none⟩ = some (.int .i64 0) := Hjz24.out.cell 4
              have qj5_24 : wz24.cell? ⟨wz3.heap.size, 5, none⟩ = some (.int .i64 0) := Hjz24.out.cell 5
              have lj_24 : wz3.heap.size < wz24.heap.size := Hjz24.out.lt
              have qnone0_24 : wz24.cell? ⟨wz6.heap.size, 0, none⟩ = some (.int .i64 0) := Hnonez24.out.cell 0
              have qnone1_24 : wz24.cell? ⟨wz6.heap.size, 1, none⟩ = some (.int .i64 0) := Hnonez24.out.cell 1
              have qnone2_24 : wz24.cell? ⟨wz6.heap.size, 2, none⟩ = some (.int .u64 0) := Hnonez24.out.cell 2
              have qnone3_24 : wz24.cell? ⟨wz6.heap.size, 3, none⟩ = some (.int .u64 0) := Hnonez24.out.cell 3
              have qnone4_24 : wz24.cell? ⟨wz6.heap.size, 4, none⟩ = some (.int .i64 0) := Hnonez24.out.cell 4
              have qnone5_24 : wz24.cell? ⟨wz6.heap.size, 5, none⟩ = some (.int .i64 0) := Hnonez24.out.cell 5
              have lnone_24 : wz6.heap.size < wz24.heap.size := Hnonez24.out.lt
              have hez := eqStaZ sta0
              have hezw := eqWords 0 0 0 0
              go_wp2
              go_ret
              exact ⟨rfl, HBz24.out⟩
            · skip
              obtain ⟨rfl, crj⟩ := HOK.out (by omega)
              have CRJ := Lib.hid crj
              clear crj
              try clear hes
              have hes : ∀ W, (Op.equalIn 10000 27 (.agg #[.int .i64 n4, .int .i64 z4, .int .u64 h4, .int .u64 o4, .int .i64 l4, .int .i64 g4]) (.agg #[.int .i64 n4, .int .i64 z4, .int .u64 h4, .int .u64 o4, .int .i64 l4, .int .i64 g4])).run Try.prog W = .ok true W := fun W => by rw [eqSta6, decide_eq_true ⟨rfl, rfl, rfl, rfl, rfl, rfl⟩]
              have qa0_24 : wz24.cell? ⟨w.heap.size, 0, none⟩ = some (.int .i64 n1) := Haz24.out.cell 0
              have qa1_24 : wz24.cell? ⟨w.heap.size, 1, none⟩ = some (.int .i64 z1) := Haz24.out.cell 1
              have qa2_24 : wz24.cell? ⟨w.heap.size, 2, none⟩ = some (.int .u64 h1) := Haz24.out.cell 2
              have qa3_24 : wz24.cell? ⟨w.heap.size, 3, none⟩ = some (.int .u64 o1) := Haz24.out.cell 3
              have qa4_24 : wz24.cell? ⟨w.heap.size, 4, none⟩ = some (.int .i64 l1) := Haz24.out.cell 4
              have qa5_24 : wz24.cell? ⟨w.heap.size, 5, none⟩ = some (.int .i64 g1) := Haz24.out.cell 5
              have la_24 : w.heap.size < wz24.heap.size := Haz24.out.lt
              have qb0_24 : wz24.cell? ⟨w.heap.size + 1, 0, none⟩ = some (.int .i64 n2) := Hbz24.out.cell 0
              have qb1_24 : wz24.cell? ⟨w.heap.size + 1, 1, none⟩ = some (.int .i64 z2) := Hbz24.out.cell 1
              have qb2_24 : wz24.cell? ⟨w.heap.size + 1, 2, none⟩ = some (.int .u64 h2) := Hbz24.out.cell 2
              have qb3_24 : wz24.cell? ⟨w.heap.size + 1, 3, none⟩ = some (.int .u64 o2) := Hbz24.out.cell 3
              have qb4_24 : wz24.cell? ⟨w.heap.size + 1, 4, none⟩ = some (.int .i64 l2) := Hbz24.out.cell 4
              have qb5_24 : wz24.cell? ⟨w.heap.size + 1, 5, none⟩ = some (.int .i64 g2) := Hbz24.out.cell 5
              have lb_24 : w.heap.size + 1 < wz24.heap.size := Hbz24.out.lt
              go_upto_region 25 with fail
              have qj0_24 : wz24.cell? ⟨wz3.heap.size, 0, none⟩ = some (.int .i64 n4) := Hjz24.out.cell 0
              have qj1_24 : wz24.cell? ⟨wz3.heap.size, 1, none⟩ = some (.int .i64 z4) := Hjz24.out.cell 1
              have qj2_24 : wz24.cell? ⟨wz3.heap.size, 2, none⟩ = some (.int .u64 h4) := Hjz24.out.cell 2
              have qj3_24 : wz24.cell? ⟨wz3.heap.size, 3, none⟩ = some (.int .u64 o4) := Hjz24.out.cell 3
              have qj4_24 : wz24.cell? ⟨wz3.heap.size, 4, none⟩ = some (.int .i64 l4) := Hjz24.out.cell 4
              have qj5_24 : wz24.cell? ⟨wz3.heap.size, 5, none⟩ = some (.int .i64 g4) := Hjz24.out.cell 5
              have lj_24 : wz3.heap.size < wz24.heap.size := Hjz24.out.lt
              go_region_held3 (fun W => W.cell? ⟨w.heap.size, 0, none⟩ = some (.int .i64 n1) ∧ W.cell? ⟨w.heap.size, 1, none⟩ = some (.int .i64 z1) ∧ W.cell? ⟨w.heap.size, 2, none⟩ = some (.int .u64 h1) ∧ W.cell? ⟨w.heap.size, 3, none⟩ = some (.int .u64 o1) ∧ W.cell? ⟨w.heap.size, 4, none⟩ = some (.int .i64 l1) ∧ W.cell? ⟨w.heap.size, 5, none⟩ = some (.int .i64 g1) ∧ W.cell? ⟨w.heap.size + 1, 0, none⟩ = some (.int .i64 n2) ∧ W.cell? ⟨w.heap.size + 1, 1, none⟩ = some (.int .i64 z2) ∧ W.cell? ⟨w.heap.size + 1, 2, none⟩ = some (.int .u64 h2) ∧ W.cell? ⟨w.heap.size + 1, 3, none⟩ = some (.int .u64 o2) ∧ W.cell? ⟨w.heap.size + 1, 4, none⟩ = some (.int .i64 l2) ∧ W.cell? ⟨w.heap.size + 1, 5, none⟩ = some (.int .i64 g2) ∧ W.cell? ⟨wz3.heap.size, 0, none⟩ = some (.int .i64 n4) ∧ W.cell? ⟨wz3.heap.size, 1, none⟩ = some (.int .i64 z4) ∧ W.cell? ⟨wz3.heap.size, 2, none⟩ = some (.int .u64 h4) ∧ W.cell? ⟨wz3.heap.size, 3, none⟩ = some (.int .u64 o4) ∧ W.cell? ⟨wz3.heap.size, 4, none⟩ = some (.int .i64 l4) ∧ W.cell? ⟨wz3.heap.size, 5, none⟩ = some (.int .i64 g4)) (first | exact ⟨ya250, ya251, ya252, ya253, ya254, ya255, yb250, yb251, yb252, yb253, yb254, yb255, yj250, yj251, yj252, yj253, yj254, yj255⟩ | exact ⟨qa0_24, qa1_24, qa2_24, qa3_24, qa4_24, qa5_24, qb0_24, qb1_24, qb2_24, qb3_24, qb4_24, qb5_24, qj0_24, qj1_24, qj2_24, qj3_24, qj4_24, qj5_24⟩ | simp [go_sem, *]) (first | (go_at_call 16; refine (CRJ.out _).mono ?_; rintro e wr25 ⟨rfl, kr25⟩; (have HBr25 := Lib.hid (show Below w.heap.size w wr25 by first | exact (HBz24.out).trans (kr25.mono (by have := HBz24.out.size; first | omega | (simp; omega) | simp)) | exact (Below.drew (HBz24.out)).trans (kr25.mono (by have := HBz24.out.size; first | omega | (simp; omega) | simp)) | exact (Below.drew (Below.drew (HBz24.out))).trans (kr25.mono (by have := HBz24.out.size; first | omega | (simp; omega) | simp)) | exact (Below.drew (Below.drew (Below.drew (HBz24.out)))).trans (kr25.mono (by have := HBz24.out.size; first | omega | (simp; omega) | simp)))); (have Har25 := Lib.hid (show Has wr25 (w.heap.size) [.int .i64 n1, .int .i64 z1, .int .u64 h1, .int .u64 o1, .int .i64 l1, .int .i64 g1] 27 from Haz24.out.step kr25 rfl)); (have ya250 : wr25.cell? ⟨w.heap.size, 0, none⟩ = some (.int .i64 n1) := Har25.out.cell 0); (have ya251 : wr25.cell? ⟨w.heap.size, 1, none⟩ = some (.int .i64 z1) := Har25.out.cell 1); (have ya252 : wr25.cell? ⟨w.heap.size, 2, none⟩ = some (.int .u64 h1) := Har25.out.cell 2); (have ya253 : wr25.cell? ⟨w.heap.size, 3, none⟩ = some (.int .u64 o1) := Har25.out.cell 3); (have ya254 : wr25.cell? ⟨w.heap.size, 4, none⟩ = some (.int .i64 l1) := Har25.out.cell 4); (have ya255 : wr25.cell? ⟨w.heap.size, 5, none⟩ = some (.int .i64 g1) := Har25.out.cell 5); (have la25 : w.heap.size < wr25.heap.size := Har25.out.lt); (have Hbr25 := Lib.hid (show Has wr25 (w.heap.size + 1) [.int .i64 n2, .int .i64 z2, .int .u64 h2, .int .u64 o2, .int .i64 l2, .int .i64 g2] 27 from Hbz24.out.step kr25 rfl)); (have yb250 : wr25.cell? ⟨w.heap.size + 1, 0, none⟩ = some (.int .i64 n2) := Hbr25.out.cell 0); (have yb251 : wr25.cell? ⟨w.heap.size + 1, 1, none⟩ = some (.int .i64 z2) := Hbr25.out.cell 1); (have yb252 : wr25.cell? ⟨w.heap.size + 1, 2, none⟩ = some (.int .u64 h2) := Hbr25.out.cell 2); (have yb253 : wr25.cell? ⟨w.heap.size + 1, 3, none⟩ = some (.int .u64 o2) := Hbr25.out.cell 3); (have yb254 : wr25.cell? ⟨w.heap.size + 1, 4, none⟩ = some (.int .i64 l2) := Hbr25.out.cell 4); (have yb255 : wr25.cell? ⟨w.heap.size + 1, 5, none⟩ = some (.int .i64 g2) := Hbr25.out.cell 5); (have lb25 : w.heap.size + 1 < wr25.heap.size := Hbr25.out.lt); (have Hjr25 := Lib.hid (show Has wr25 (wz3.heap.size) [.int .i64 n4, .int .i64 z4, .int .u64 h4, .int .u64 o4, .int .i64 l4, .int .i64 g4] 27 from Hjz24.out.step kr25 rfl)); (have yj250 : wr25.cell? ⟨wz3.heap.size, 0, none⟩ = some (.int .i64 n4) := Hjr25.out.cell 0); (have yj251 : wr25.cell? ⟨wz3.heap.size, 1, none⟩ = some (.int .i64 z4) := Hjr25.out.cell 1); (have yj252 : wr25.cell? ⟨wz3.heap.size, 2, none⟩ = some (.int .u64 h4) := Hjr25.out.cell 2); (have yj253 : wr25.cell? ⟨wz3.heap.size, 3, none⟩ = some (.int .u64 o4) := Hjr25.out.cell 3); (have yj254 : wr25.cell? ⟨wz3.heap.size, 4, none⟩ = some (.int .i64 l4) := Hjr25.out.cell 4); (have yj255 : wr25.cell? ⟨wz3.heap.size, 5, none⟩ = some (.int .i64 g4) := Hjr25.out.cell 5); (have lj25 : wz3.heap.size < wr25.heap.size := Hjr25.out.lt)))
              have Hsr25 := Lib.hid (Hsz24.out.step kr25 rfl)
              have Hdr25 := Lib.hid (Hdz24.out.step kr25 rfl)
              have Hnoner25 := Lib.hid (Hnonez24.out.step kr25 rfl)
              have Hzeror25 := Lib.hid (Hzeroz24.out.step kr25 rfl)
              clear kr25 ya250 ya251 ya252 ya253 ya254 ya255 yb250 yb251 yb252 yb253 yb254 yb255 yj250 yj251 yj252 yj253 yj254 yj255 la25 lb25 lj25 qa0_24 qa1_24 qa2_24 qa3_24 qa4_24 qa5_24 la_24 qb0_24 qb1_24 qb2_24 qb3_24 qb4_24 qb5_24 lb_24 qj0_24 qj1_24 qj2_24 qj3_24 qj4_24 qj5_24 lj_24
              go_wp2
              go_ret
              exact ⟨rfl, HBr25.out⟩
end Go.Proofs.Ytbpdapggdccmiaa
