/- The law TallyAlike: its walk. -/
import Derived.Test.YtgmifimpeefpcaaTalQ
import Derived.BigQuiet
import Derived.Deep.QuietTactic
namespace Go.Proofs.Ytgmifimpeefpcaa
open Go.RowKit

def AlkRel (cs : List Int) (k : Nat) (W1 : World) (sv iv : Value) (wr : World) : Prop :=
  ∃ j : Nat, j ≤ k ∧ iv = .int .i64 (j : Nat) ∧ sv = .int .i64 (ssum (cs.take j)) ∧ Below W1.heap.size W1 wr
theorem part_step {cs : List Int} {j : Nat} {c : Int} (h : cs[j]? = some c) : ssum (cs.take (j + 1)) = ssum (cs.take j) + c := by
  rw [List.take_add_one, h, ssum_append]
  simp [ssum]
set_option linter.unusedSimpArgs false in
set_option linter.unusedVariables false in
set_option maxHeartbeats 8000000 in
set_option maxRecDepth 100000 in
theorem alike16_z (size S s z d kk mm : Int) (k : Nat) (cs zs : List Int) (ao : Option Addr) (n cap : Nat) (w : World) (hck : cs.length = k) (hzk : zs.length = k) (hk25 : k ≤ 25) (hsum : ∀ j, 0 ≤ ssum (cs.take j) ∧ ssum (cs.take j) ≤ 25000000) (hs : ssum cs = s)
    (hsame : ∀ (j : Nat) (c e : Int), cs[j]? = some c → zs[j]? = some e → c = e ∨ (c ≠ e ∧ ¬ e ≤ S)) (hkk : min (max d 0) S = kk) (hmm : min (max d 0) 1000000 = mm) (hk0 : ((k : Int) == 0) = true) 
    (HM0 : Hid (∀ W, Below w.heap.size w W → Calls Try.prog 17 #[.int .i64 0, .int .i64 size, .slice ao n cap] W (MPost 2 S s k cs W)))
    (HP0 : Hid (∀ W, Calls Try.prog 15 #[.agg #[.int .i64 2, .int .i64 S, .int .i64 (k : Nat), .int .i64 s], .int .i64 kk] W fun e w' => e = .returned (.tuple #[.agg #[.int .i64 0, .int .i64 0, .int .i64 0, .int .u64 0, .int .u64 0], .int .i64 12]) ∧ Below W.heap.size W w'))
    (HM1 : Hid (∀ W, Below w.heap.size w W → Calls Try.prog 17 #[.int .i64 1, .int .i64 size, .slice ao n cap] W (MPost 3 S s k cs W)))
    (HP1 : Hid (∀ W, Calls Try.prog 15 #[.agg #[.int .i64 3, .int .i64 S, .int .i64 (k : Nat), .int .i64 s], .int .i64 kk] W fun e w' => e = .returned (.tuple #[.agg #[.int .i64 0, .int .i64 0, .int .i64 0, .int .u64 0, .int .u64 0], .int .i64 12]) ∧ Below W.heap.size W w'))
    (HM2 : Hid (∀ W, Below w.heap.size w W → Calls Try.prog 17 #[.int .i64 2, .int .i64 size, .slice ao n cap] W (MPost 4 1 z k zs W)))
    (HP2 : Hid (∀ W, Calls Try.prog 15 #[.agg #[.int .i64 4, .int .i64 1, .int .i64 (k : Nat), .int .i64 z], .int .i64 mm] W fun e w' => e = .returned (.tuple #[.agg #[.int .i64 0, .int .i64 0, .int .i64 0, .int .u64 0, .int .u64 0], .int .i64 12]) ∧ Below W.heap.size W w'))
    (HM3 : Hid (∀ W, Below w.heap.size w W → Calls Try.prog 17 #[.int .i64 3, .int .i64 size, .slice ao n cap] W (MPost 5 S z k zs W)))
    (HP3 : Hid (∀ W, Calls Try.prog 15 #[.agg #[.int .i64 5, .int .i64 S, .int .i64 (k : Nat), .int .i64 z], .int .i64 mm] W fun e w' => e = .returned (.tuple #[.agg #[.int .i64 0, .int .i64 0, .int .i64 0, .int .u64 0, .int .u64 0], .int .i64 12]) ∧ Below W.heap.size W w'))
    (HAL : Hid (∀ W, Calls Try.prog 11 #[] W fun e w' => e = .returned (.bool true) ∧ Below W.heap.size W w'))
    : Calls Try.prog 6 #[.int .i64 size, .slice ao n cap, .int .i64 d] w fun e w' => e = .returned (.bool true) ∧ Below w.heap.size w w' := by
  have HCK := Lib.hid hck; have HZK := Lib.hid hzk; have HSUM := Lib.hid hsum; have HSS := Lib.hid hs; have HSAME := Lib.hid hsame
  have hbase := Nat.le_refl w.heap.size
  have HB0 := Lib.hid (Below.refl w.heap.size w)
  clear hck hzk hsum hs hsame
  go_enter Try.func6, Try.ntmps6
  have hcz1 := HM0.out w HB0.out
  go_wp2_with fail
  refine hcz1.mono ?_
  rintro e wz1 ⟨ao0, cap0, rfl, hr0, kz1⟩
  clear hcz1
  have HBz1 := Lib.hid (HB0.out.trans (kz1.mono (Nat.le_trans hbase HB0.out.size)))
  clear kz1
  have HR0 := Lib.hid hr0
  clear hr0
  obtain ⟨wz2, hwz2⟩ : ∃ wz2, wz1.alloc (.cells #[.int .i64 2, .int .i64 S, .int .i64 (k : Nat), .int .i64 s] 23) = wz2 := ⟨_, rfl⟩
  have kz2 : Below wz1.heap.size wz1 wz2 := by rw [← hwz2]; exact (Below.refl _ _).alloc (Nat.le_refl _) _
  have Hpz2 := Lib.hid (show Has wz2 wz1.heap.size [.int .i64 2, .int .i64 S, .int .i64 (k : Nat), .int .i64 s] 23 by rw [← hwz2]; exact Has.new _ _ _)
  have HWz2 := Lib.hid hwz2
  clear hwz2
  have HBz2 := Lib.hid (HBz1.out.trans (kz2.mono (Nat.le_trans hbase HBz1.out.size)))
  have Hr0z2 := Lib.hid (HR0.out.below kz2)
  clear kz2
  go_upto_region 2 with fail
  rw [HWz2.out]
  have hcz3 := HM1.out wz2 HBz2.out
  go_wp2_with fail
  refine hcz3.mono ?_
  rintro e wz3 ⟨ao1, cap1, rfl, hr1, kz3⟩
  clear hcz3
  have HBz3 := Lib.hid (HBz2.out.trans (kz3.mono (Nat.le_trans hbase HBz2.out.size)))
  have Hpz3 := Lib.hid (Hpz2.out.call kz3)
  have Hr0z3 := Lib.hid (Hr0z2.out.below kz3)
  clear kz3
  have HR1 := Lib.hid hr1
  clear hr1
  obtain ⟨wz4, hwz4⟩ : ∃ wz4, wz3.alloc (.cells #[.int .i64 3, .int .i64 S, .int .i64 (k : Nat), .int .i64 s] 23) = wz4 := ⟨_, rfl⟩
  have kz4 : Below wz3.heap.size wz3 wz4 := by rw [← hwz4]; exact (Below.refl _ _).alloc (Nat.le_refl _) _
  have Hnz4 := Lib.hid (show Has wz4 wz3.heap.size [.int .i64 3, .int .i64 S, .int .i64 (k : Nat), .int .i64 s] 23 by rw [← hwz4]; exact Has.new _ _ _)
  have HWz4 := Lib.hid hwz4
  clear hwz4
  have HBz4 := Lib.hid (HBz3.out.trans (kz4.mono (Nat.le_trans hbase HBz3.out.size)))
  have Hpz4 := Lib.hid (Hpz3.out.call kz4)
  have Hr0z4 := Lib.hid (Hr0z3.out.below kz4)
  have Hr1z4 := Lib.hid (HR1.out.below kz4)
  clear kz4
  go_upto_region 3 with fail
  rw [HWz4.out]
  have hcz5 := HM2.out wz4 HBz4.out
  go_wp2_with fail
  refine hcz5.mono ?_
  rintro e wz5 ⟨ao2, cap2, rfl, hr2, kz5⟩
  clear hcz5
  have HBz5 := Lib.hid (HBz4.out.trans (kz5.mono (Nat.le_trans hbase HBz4.out.size)))
  have Hpz5 := Lib.hid (Hpz4.out.call kz5)
  have Hnz5 := Lib.hid (Hnz4.out.call kz5)
  have Hr0z5 := Lib.hid (Hr0z4.out.below kz5)
  have Hr1z5 := Lib.hid (Hr1z4.out.below kz5)
  clear kz5
  have HR2 := Lib.hid hr2
  clear hr2
  obtain ⟨wz6, hwz6⟩ : ∃ wz6, wz5.alloc (.cells #[.int .i64 4, .int .i64 1, .int .i64 (k : Nat), .int .i64 z] 23) = wz6 := ⟨_, rfl⟩
  have kz6 : Below wz5.heap.size wz5 wz6 := by rw [← hwz6]; exact (Below.refl _ _).alloc (Nat.le_refl _) _
  have Hcz6 := Lib.hid (show Has wz6 wz5.heap.size [.int .i64 4, .int .i64 1, .int .i64 (k : Nat), .int .i64 z] 23 by rw [← hwz6]; exact Has.new _ _ _)
  have HWz6 := Lib.hid hwz6
  clear hwz6
  have HBz6 := Lib.hid (HBz5.out.trans (kz6.mono (Nat.le_trans hbase HBz5.out.size)))
  have Hpz6 := Lib.hid (Hpz5.out.call kz6)
  have Hnz6 := Lib.hid (Hnz5.out.call kz6)
  have Hr0z6 := Lib.hid (Hr0z5.out.below kz6)
  have Hr1z6 := Lib.hid (Hr1z5.out.below kz6)
  have Hr2z6 := Lib.hid (HR2.out.below kz6)
  clear kz6
  go_upto_region 4 with fail
  rw [HWz6.out]
  have hcz7 := HM3.out wz6 HBz6.out
  go_wp2_with fail
  refine hcz7.mono ?_
  rintro e wz7 ⟨ao3, cap3, rfl, hr3, kz7⟩
  clear hcz7
  have HBz7 := Lib.hid (HBz6.out.trans (kz7.mono (Nat.le_trans hbase HBz6.out.size)))
  have Hpz7 := Lib.hid (Hpz6.out.call kz7)
  have Hnz7 := Lib.hid (Hnz6.out.call kz7)
  have Hcz7 := Lib.hid (Hcz6.out.call kz7)
  have Hr0z7 := Lib.hid (Hr0z6.out.below kz7)
  have Hr1z7 := Lib.hid (Hr1z6.out.below kz7)
  have Hr2z7 := Lib.hid (Hr2z6.out.below kz7)
  clear kz7
  have HR3 := Lib.hid hr3
  clear hr3
  obtain ⟨wz8, hwz8⟩ : ∃ wz8, wz7.alloc (.cells #[.int .i64 5, .int .i64 S, .int .i64 (k : Nat), .int .i64 z] 23) = wz8 := ⟨_, rfl⟩
  have kz8 : Below wz7.heap.size wz7 wz8 := by rw [← hwz8]; exact (Below.refl _ _).alloc (Nat.le_refl _) _
  have Huz8 := Lib.hid (show Has wz8 wz7.heap.size [.int .i64 5, .int .i64 S, .int .i64 (k : Nat), .int .i64 z] 23 by rw [← hwz8]; exact Has.new _ _ _)
  have HWz8 := Lib.hid hwz8
  clear hwz8
  have HBz8 := Lib.hid (HBz7.out.trans (kz8.mono (Nat.le_trans hbase HBz7.out.size)))
  have Hpz8 := Lib.hid (Hpz7.out.call kz8)
  have Hnz8 := Lib.hid (Hnz7.out.call kz8)
  have Hcz8 := Lib.hid (Hcz7.out.call kz8)
  have Hr0z8 := Lib.hid (Hr0z7.out.below kz8)
  have Hr1z8 := Lib.hid (Hr1z7.out.below kz8)
  have Hr2z8 := Lib.hid (Hr2z7.out.below kz8)
  have Hr3z8 := Lib.hid (HR3.out.below kz8)
  clear kz8
  go_upto_region 5 with fail
  rw [HWz8.out]
  have hcz9 := HAL.out wz8
  go_wp2_with fail
  refine hcz9.mono ?_
  rintro e wz9 ⟨rfl, kz9⟩
  clear hcz9
  have HBz9 := Lib.hid (HBz8.out.trans (kz9.mono (Nat.le_trans hbase HBz8.out.size)))
  have Hpz9 := Lib.hid (Hpz8.out.call kz9)
  have Hnz9 := Lib.hid (Hnz8.out.call kz9)
  have Hcz9 := Lib.hid (Hcz8.out.call kz9)
  have Huz9 := Lib.hid (Huz8.out.call kz9)
  have Hr0z9 := Lib.hid (Hr0z8.out.below kz9)
  have Hr1z9 := Lib.hid (Hr1z8.out.below kz9)
  have Hr2z9 := Lib.hid (Hr2z8.out.below kz9)
  have Hr3z9 := Lib.hid (Hr3z8.out.below kz9)
  clear kz9
  have qp0_9 : wz9.cell? ⟨wz1.heap.size, 0, none⟩ = some (.int .i64 2) := Hpz9.out.cell 0
  have qp1_9 : wz9.cell? ⟨wz1.heap.size, 1, none⟩ = some (.int .i64 S) := Hpz9.out.cell 1
  have qp2_9 : wz9.cell? ⟨wz1.heap.size, 2, none⟩ = some (.int .i64 (k : Nat)) := Hpz9.out.cell 2
  have qp3_9 : wz9.cell? ⟨wz1.heap.size, 3, none⟩ = some (.int .i64 s) := Hpz9.out.cell 3
  have lp_9 : wz1.heap.size < wz9.heap.size := Hpz9.out.lt
  have hcz10 := HP0.out wz9
  go_wp2_with fail
  refine hcz10.mono ?_
  rintro e wz10 ⟨rfl, kz10⟩
  clear hcz10 qp0_9 qp1_9 qp2_9 qp3_9 lp_9
  have HBz10 := Lib.hid (HBz9.out.trans (kz10.mono (Nat.le_trans hbase HBz9.out.size)))
  have Hpz10 := Lib.hid (Hpz9.out.call kz10)
  have Hnz10 := Lib.hid (Hnz9.out.call kz10)
  have Hcz10 := Lib.hid (Hcz9.out.call kz10)
  have Huz10 := Lib.hid (Huz9.out.call kz10)
  have Hr0z10 := Lib.hid (Hr0z9.out.below kz10)
  have Hr1z10 := Lib.hid (Hr1z9.out.below kz10)
  have Hr2z10 := Lib.hid (Hr2z9.out.below kz10)
  have Hr3z10 := Lib.hid (Hr3z9.out.below kz10)
  clear kz10
  obtain ⟨wz11, hwz11⟩ : ∃ wz11, wz10.alloc (.cells #[.int .i64 0, .int .i64 0, .int .i64 0, .int .u64 0, .int .u64 0] 38) = wz11 := ⟨_, rfl⟩
  have kz11 : Below wz10.heap.size wz10 wz11 := by rw [← hwz11]; exact (Below.refl _ _).alloc (Nat.le_refl _) _
  have Haz11 := Lib.hid (show Has wz11 wz10.heap.size [.int .i64 0, .int .i64 0, .int .i64 0, .int .u64 0, .int .u64 0] 38 by rw [← hwz11]; exact Has.new _ _ _)
  have HWz11 := Lib.hid hwz11
  clear hwz11
  have HBz11 := Lib.hid (HBz10.out.trans (kz11.mono (Nat.le_trans hbase HBz10.out.size)))
  have Hpz11 := Lib.hid (Hpz10.out.call kz11)
  have Hnz11 := Lib.hid (Hnz10.out.call kz11)
  have Hcz11 := Lib.hid (Hcz10.out.call kz11)
  have Huz11 := Lib.hid (Huz10.out.call kz11)
  have Hr0z11 := Lib.hid (Hr0z10.out.below kz11)
  have Hr1z11 := Lib.hid (Hr1z10.out.below kz11)
  have Hr2z11 := Lib.hid (Hr2z10.out.below kz11)
  have Hr3z11 := Lib.hid (Hr3z10.out.below kz11)
  clear kz11
  go_upto_region 10 with fail
  rw [HWz11.out]
  have qn0_11 : wz11.cell? ⟨wz3.heap.size, 0, none⟩ = some (.int .i64 3) := Hnz11.out.cell 0
  have qn1_11 : wz11.cell? ⟨wz3.heap.size, 1, none⟩ = some (.int .i64 S) := Hnz11.out.cell 1
  have qn2_11 : wz11.cell? ⟨wz3.heap.size, 2, none⟩ = some (.int .i64 (k : Nat)) := Hnz11.out.cell 2
  have qn3_11 : wz11.cell? ⟨wz3.heap.size, 3, none⟩ = some (.int .i64 s) := Hnz11.out.cell 3
  have ln_11 : wz3.heap.size < wz11.heap.size := Hnz11.out.lt
  have hcz12 := HP1.out wz11
  go_wp2_with fail
  refine hcz12.mono ?_
  rintro e wz12 ⟨rfl, kz12⟩
  clear hcz12 qn0_11 qn1_11 qn2_11 qn3_11 ln_11
  have HBz12 := Lib.hid (HBz11.out.trans (kz12.mono (Nat.le_trans hbase HBz11.out.size)))
  have Hpz12 := Lib.hid (Hpz11.out.call kz12)
  have Hnz12 := Lib.hid (Hnz11.out.call kz12)
  have Hcz12 := Lib.hid (Hcz11.out.call kz12)
  have Huz12 := Lib.hid (Huz11.out.call kz12)
  have Haz12 := Lib.hid (Haz11.out.call kz12)
  have Hr0z12 := Lib.hid (Hr0z11.out.below kz12)
  have Hr1z12 := Lib.hid (Hr1z11.out.below kz12)
  have Hr2z12 := Lib.hid (Hr2z11.out.below kz12)
  have Hr3z12 := Lib.hid (Hr3z11.out.below kz12)
  clear kz12
  obtain ⟨wz13, hwz13⟩ : ∃ wz13, wz12.alloc (.cells #[.int .i64 0, .int .i64 0, .int .i64 0, .int .u64 0, .int .u64 0] 38) = wz13 := ⟨_, rfl⟩
  have kz13 : Below wz12.heap.size wz12 wz13 := by rw [← hwz13]; exact (Below.refl _ _).alloc (Nat.le_refl _) _
  have Hbz13 := Lib.hid (show Has wz13 wz12.heap.size [.int .i64 0, .int .i64 0, .int .i64 0, .int .u64 0, .int .u64 0] 38 by rw [← hwz13]; exact Has.new _ _ _)
  have HWz13 := Lib.hid hwz13
  clear hwz13
  have HBz13 := Lib.hid (HBz12.out.trans (kz13.mono (Nat.le_trans hbase HBz12.out.size)))
  have Hpz13 := Lib.hid (Hpz12.out.call kz13)
  have Hnz13 := Lib.hid (Hnz12.out.call kz13)
  have Hcz13 := Lib.hid (Hcz12.out.call kz13)
  have Huz13 := Lib.hid (Huz12.out.call kz13)
  have Haz13 := Lib.hid (Haz12.out.call kz13)
  have Hr0z13 := Lib.hid (Hr0z12.out.below kz13)
  have Hr1z13 := Lib.hid (Hr1z12.out.below kz13)
  have Hr2z13 := Lib.hid (Hr2z12.out.below kz13)
  have Hr3z13 := Lib.hid (Hr3z12.out.below kz13)
  clear kz13
  go_upto_region 11 with fail
  rw [HWz13.out]
  have qc0_13 : wz13.cell? ⟨wz5.heap.size, 0, none⟩ = some (.int .i64 4) := Hcz13.out.cell 0
  have qc1_13 : wz13.cell? ⟨wz5.heap.size, 1, none⟩ = some (.int .i64 1) := Hcz13.out.cell 1
  have qc2_13 : wz13.cell? ⟨wz5.heap.size, 2, none⟩ = some (.int .i64 (k : Nat)) := Hcz13.out.cell 2
  have qc3_13 : wz13.cell? ⟨wz5.heap.size, 3, none⟩ = some (.int .i64 z) := Hcz13.out.cell 3
  have lc_13 : wz5.heap.size < wz13.heap.size := Hcz13.out.lt
  have hcz14 := HP2.out wz13
  go_wp2_with fail
  refine hcz14.mono ?_
  rintro e wz14 ⟨rfl, kz14⟩
  clear hcz14 qc0_13 qc1_13 qc2_13 qc3_13 lc_13
  have HBz14 := Lib.hid (HBz13.out.trans (kz14.mono (Nat.le_trans hbase HBz13.out.size)))
  have Hpz14 := Lib.hid (Hpz13.out.call kz14)
  have Hnz14 := Lib.hid (Hnz13.out.call kz14)
  have Hcz14 := Lib.hid (Hcz13.out.call kz14)
  have Huz14 := Lib.hid (Huz13.out.call kz14)
  have Haz14 := Lib.hid (Haz13.out.call kz14)
  have Hbz14 := Lib.hid (Hbz13.out.call kz14)
  have Hr0z14 := Lib.hid (Hr0z13.out.below kz14)
  have Hr1z14 := Lib.hid (Hr1z13.out.below kz14)
  have Hr2z14 := Lib.hid (Hr2z13.out.below kz14)
  have Hr3z14 := Lib.hid (Hr3z13.out.below kz14)
  clear kz14
  obtain ⟨wz15, hwz15⟩ : ∃ wz15, wz14.alloc (.cells #[.int .i64 0, .int .i64 0, .int .i64 0, .int .u64 0, .int .u64 0] 38) = wz15 := ⟨_, rfl⟩
  have kz15 : Below wz14.heap.size wz14 wz15 := by rw [← hwz15]; exact (Below.refl _ _).alloc (Nat.le_refl _) _
  have Hxz15 := Lib.hid (show Has wz15 wz14.heap.size [.int .i64 0, .int .i64 0, .int .i64 0, .int .u64 0, .int .u64 0] 38 by rw [← hwz15]; exact Has.new _ _ _)
  have HWz15 := Lib.hid hwz15
  clear hwz15
  have HBz15 := Lib.hid (HBz14.out.trans (kz15.mono (Nat.le_trans hbase HBz14.out.size)))
  have Hpz15 := Lib.hid (Hpz14.out.call kz15)
  have Hnz15 := Lib.hid (Hnz14.out.call kz15)
  have Hcz15 := Lib.hid (Hcz14.out.call kz15)
  have Huz15 := Lib.hid (Huz14.out.call kz15)
  have Haz15 := Lib.hid (Haz14.out.call kz15)
  have Hbz15 := Lib.hid (Hbz14.out.call kz15)
  have Hr0z15 := Lib.hid (Hr0z14.out.below kz15)
  have Hr1z15 := Lib.hid (Hr1z14.out.below kz15)
  have Hr2z15 := Lib.hid (Hr2z14.out.below kz15)
  have Hr3z15 := Lib.hid (Hr3z14.out.below kz15)
  clear kz15
  go_upto_region 12 with fail
  rw [HWz15.out]
  have qu0_15 : wz15.cell? ⟨wz7.heap.size, 0, none⟩ = some (.int .i64 5) := Huz15.out.cell 0
  have qu1_15 : wz15.cell? ⟨wz7.heap.size, 1, none⟩ = some (.int .i64 S) := Huz15.out.cell 1
  have qu2_15 : wz15.cell? ⟨wz7.heap.size, 2, none⟩ = some (.int .i64 (k : Nat)) := Huz15.out.cell 2
  have qu3_15 : wz15.cell? ⟨wz7.heap.size, 3, none⟩ = some (.int .i64 z) := Huz15.out.cell 3
  have lu_15 : wz7.heap.size < wz15.heap.size := Huz15.out.lt
  have hcz16 := HP3.out wz15
  go_wp2_with fail
  refine hcz16.mono ?_
  rintro e wz16 ⟨rfl, kz16⟩
  clear hcz16 qu0_15 qu1_15 qu2_15 qu3_15 lu_15
  have HBz16 := Lib.hid (HBz15.out.trans (kz16.mono (Nat.le_trans hbase HBz15.out.size)))
  have Hpz16 := Lib.hid (Hpz15.out.call kz16)
  have Hnz16 := Lib.hid (Hnz15.out.call kz16)
  have Hcz16 := Lib.hid (Hcz15.out.call kz16)
  have Huz16 := Lib.hid (Huz15.out.call kz16)
  have Haz16 := Lib.hid (Haz15.out.call kz16)
  have Hbz16 := Lib.hid (Hbz15.out.call kz16)
  have Hxz16 := Lib.hid (Hxz15.out.call kz16)
  have Hr0z16 := Lib.hid (Hr0z15.out.below kz16)
  have Hr1z16 := Lib.hid (Hr1z15.out.below kz16)
  have Hr2z16 := Lib.hid (Hr2z15.out.below kz16)
  have Hr3z16 := Lib.hid (Hr3z15.out.below kz16)
  clear kz16
  obtain ⟨wz17, hwz17⟩ : ∃ wz17, wz16.alloc (.cells #[.int .i64 0, .int .i64 0, .int .i64 0, .int .u64 0, .int .u64 0] 38) = wz17 := ⟨_, rfl⟩
  have kz17 : Below wz16.heap.size wz16 wz17 := by rw [← hwz17]; exact (Below.refl _ _).alloc (Nat.le_refl _) _
  have Hyz17 := Lib.hid (show Has wz17 wz16.heap.size [.int .i64 0, .int .i64 0, .int .i64 0, .int .u64 0, .int .u64 0] 38 by rw [← hwz17]; exact Has.new _ _ _)
  have HWz17 := Lib.hid hwz17
  clear hwz17
  have HBz17 := Lib.hid (HBz16.out.trans (kz17.mono (Nat.le_trans hbase HBz16.out.size)))
  have Hpz17 := Lib.hid (Hpz16.out.call kz17)
  have Hnz17 := Lib.hid (Hnz16.out.call kz17)
  have Hcz17 := Lib.hid (Hcz16.out.call kz17)
  have Huz17 := Lib.hid (Huz16.out.call kz17)
  have Haz17 := Lib.hid (Haz16.out.call kz17)
  have Hbz17 := Lib.hid (Hbz16.out.call kz17)
  have Hxz17 := Lib.hid (Hxz16.out.call kz17)
  have Hr0z17 := Lib.hid (Hr0z16.out.below kz17)
  have Hr1z17 := Lib.hid (Hr1z16.out.below kz17)
  have Hr2z17 := Lib.hid (Hr2z16.out.below kz17)
  have Hr3z17 := Lib.hid (Hr3z16.out.below kz17)
  clear kz17
  go_upto_region 13 with fail
  rw [HWz17.out]
  go_wp2
  go_ret
  exact ⟨rfl, HBz17.out⟩
set_option linter.unusedSimpArgs false in
set_option linter.unusedVariables false in
set_option maxHeartbeats 8000000 in
set_option maxRecDepth 100000 in
theorem alike16_a1 (size S s z d kk mm ac an ad ah al bc bn xc xn xd xh xl yc yn ci cr P : Int) (k : Nat) (cs zs : List Int) (ao : Option Addr) (n cap : Nat) (w : World) (hck : cs.length = k) (hzk : zs.length = k) (hk25 : k ≤ 25) (hsum : ∀ j, 0 ≤ ssum (cs.take j) ∧ ssum (cs.take j) ≤ 25000000) (hs : ssum cs = s)
    (hsame : ∀ (j : Nat) (c e : Int), cs[j]? = some c → zs[j]? = some e → c = e ∨ (c ≠ e ∧ ¬ e ≤ S)) (hkk : min (max d 0) S = kk) (hmm : min (max d 0) 1000000 = mm) (hk0 : ((k : Int) == 0) = false) (s0 : (s == 0) = true) (q1 : (ci == 0) = true) (q2 : (kk == 0) = true)
    (HM0 : Hid (∀ W, Below w.heap.size w W → Calls Try.prog 17 #[.int .i64 0, .int .i64 size, .slice ao n cap] W (MPost 2 S s k cs W)))
    (HP0 : Hid (∀ W, Calls Try.prog 15 #[.agg #[.int .i64 2, .int .i64 S, .int .i64 (k : Nat), .int .i64 s], .int .i64 kk] W fun e w' => e = .returned (.tuple #[.agg #[.int .i64 ac, .int .i64 an, .int .i64 ad, .int .u64 ah, .int .u64 al], .int .i64 0]) ∧ Below W.heap.size W w'))
    (HM1 : Hid (∀ W, Below w.heap.size w W → Calls Try.prog 17 #[.int .i64 1, .int .i64 size, .slice ao n cap] W (MPost 3 S s k cs W)))
    (HP1 : Hid (∀ W, Calls Try.prog 15 #[.agg #[.int .i64 3, .int .i64 S, .int .i64 (k : Nat), .int .i64 s], .int .i64 kk] W fun e w' => e = .returned (.tuple #[.agg #[.int .i64 bc, .int .i64 bn, .int .i64 ad, .int .u64 ah, .int .u64 al], .int .i64 0]) ∧ Below W.heap.size W w'))
    (HM2 : Hid (∀ W, Below w.heap.size w W → Calls Try.prog 17 #[.int .i64 2, .int .i64 size, .slice ao n cap] W (MPost 4 1 z k zs W)))
    (HP2 : Hid (∀ W, Calls Try.prog 15 #[.agg #[.int .i64 4, .int .i64 1, .int .i64 (k : Nat), .int .i64 z], .int .i64 mm] W fun e w' => e = .returned (.tuple #[.agg #[.int .i64 xc, .int .i64 xn, .int .i64 xd, .int .u64 xh, .int .u64 xl], .int .i64 0]) ∧ Below W.heap.size W w'))
    (HM3 : Hid (∀ W, Below w.heap.size w W → Calls Try.prog 17 #[.int .i64 3, .int .i64 size, .slice ao n cap] W (MPost 5 S z k zs W)))
    (HP3 : Hid (∀ W, Calls Try.prog 15 #[.agg #[.int .i64 5, .int .i64 S, .int .i64 (k : Nat), .int .i64 z], .int .i64 mm] W fun e w' => e = .returned (.tuple #[.agg #[.int .i64 yc, .int .i64 yn, .int .i64 xd, .int .u64 xh, .int .u64 xl], .int .i64 0]) ∧ Below W.heap.size W w'))
    (HAL : Hid (∀ W, Calls Try.prog 11 #[] W fun e w' => e = .returned (.bool true) ∧ Below W.heap.size W w'))
    (HZ0 : Hid (∀ W, Calls Try.prog 18 #[.int .i64 ad, .agg #[.int .u64 ah, .int .u64 al]] W fun e w' => e = .returned (.tuple #[.int .i64 ci, .int .i64 0]) ∧ Below W.heap.size W w'))
    (HZ1 : Hid (∀ W, Calls Try.prog 18 #[.int .i64 xd, .agg #[.int .u64 xh, .int .u64 xl]] W fun e w' => e = .returned (.tuple #[.int .i64 cr, .int .i64 0]) ∧ Below W.heap.size W w'))
    : Calls Try.prog 6 #[.int .i64 size, .slice ao n cap, .int .i64 d] w fun e w' => e = .returned (.bool true) ∧ Below w.heap.size w w' := by
  have HCK := Lib.hid hck; have HZK := Lib.hid hzk; have HSUM := Lib.hid hsum; have HSS := Lib.hid hs; have HSAME := Lib.hid hsame
  have Xs0 := Lib.hid s0; have Xq1 := Lib.hid q1; have Xq2 := Lib.hid q2
  clear s0 q1 q2
  have hbase := Nat.le_refl w.heap.size
  have HB0 := Lib.hid (Below.refl w.heap.size w)
  clear hck hzk hsum hs hsame
  go_enter Try.func6, Try.ntmps6
  have hcz1 := HM0.out w HB0.out
  go_wp2_with fail
  refine hcz1.mono ?_
  rintro e wz1 ⟨ao0, cap0, rfl, hr0, kz1⟩
  clear hcz1
  have HBz1 := Lib.hid (HB0.out.trans (kz1.mono (Nat.le_trans hbase HB0.out.size)))
  clear kz1
  have HR0 := Lib.hid hr0
  clear hr0
  obtain ⟨wz2, hwz2⟩ : ∃ wz2, wz1.alloc (.cells #[.int .i64 2, .int .i64 S, .int .i64 (k : Nat), .int .i64 s] 23) = wz2 := ⟨_, rfl⟩
  have kz2 : Below wz1.heap.size wz1 wz2 := by rw [← hwz2]; exact (Below.refl _ _).alloc (Nat.le_refl _) _
  have Hpz2 := Lib.hid (show Has wz2 wz1.heap.size [.int .i64 2, .int .i64 S, .int .i64 (k : Nat), .int .i64 s] 23 by rw [← hwz2]; exact Has.new _ _ _)
  have HWz2 := Lib.hid hwz2
  clear hwz2
  have HBz2 := Lib.hid (HBz1.out.trans (kz2.mono (Nat.le_trans hbase HBz1.out.size)))
  have Hr0z2 := Lib.hid (HR0.out.below kz2)
  clear kz2
  go_upto_region 2 with fail
  rw [HWz2.out]
  have hcz3 := HM1.out wz2 HBz2.out
  go_wp2_with fail
  refine hcz3.mono ?_
  rintro e wz3 ⟨ao1, cap1, rfl, hr1, kz3⟩
  clear hcz3
  have HBz3 := Lib.hid (HBz2.out.trans (kz3.mono (Nat.le_trans hbase HBz2.out.size)))
  have Hpz3 := Lib.hid (Hpz2.out.call kz3)
  have Hr0z3 := Lib.hid (Hr0z2.out.below kz3)
  clear kz3
  have HR1 := Lib.hid hr1
  clear hr1
  obtain ⟨wz4, hwz4⟩ : ∃ wz4, wz3.alloc (.cells #[.int .i64 3, .int .i64 S, .int .i64 (k : Nat), .int .i64 s] 23) = wz4 := ⟨_, rfl⟩
  have kz4 : Below wz3.heap.size wz3 wz4 := by rw [← hwz4]; exact (Below.refl _ _).alloc (Nat.le_refl _) _
  have Hnz4 := Lib.hid (show Has wz4 wz3.heap.size [.int .i64 3, .int .i64 S, .int .i64 (k : Nat), .int .i64 s] 23 by rw [← hwz4]; exact Has.new _ _ _)
  have HWz4 := Lib.hid hwz4
  clear hwz4
  have HBz4 := Lib.hid (HBz3.out.trans (kz4.mono (Nat.le_trans hbase HBz3.out.size)))
  have Hpz4 := Lib.hid (Hpz3.out.call kz4)
  have Hr0z4 := Lib.hid (Hr0z3.out.below kz4)
  have Hr1z4 := Lib.hid (HR1.out.below kz4)
  clear kz4
  go_upto_region 3 with fail
  rw [HWz4.out]
  have hcz5 := HM2.out wz4 HBz4.out
  go_wp2_with fail
  refine hcz5.mono ?_
  rintro e wz5 ⟨ao2, cap2, rfl, hr2, kz5⟩
  clear hcz5
  have HBz5 := Lib.hid (HBz4.out.trans (kz5.mono (Nat.le_trans hbase HBz4.out.size)))
  have Hpz5 := Lib.hid (Hpz4.out.call kz5)
  have Hnz5 := Lib.hid (Hnz4.out.call kz5)
  have Hr0z5 := Lib.hid (Hr0z4.out.below kz5)
  have Hr1z5 := Lib.hid (Hr1z4.out.below kz5)
  clear kz5
  have HR2 := Lib.hid hr2
  clear hr2
  obtain ⟨wz6, hwz6⟩ : ∃ wz6, wz5.alloc (.cells #[.int .i64 4, .int .i64 1, .int .i64 (k : Nat), .int .i64 z] 23) = wz6 := ⟨_, rfl⟩
  have kz6 : Below wz5.heap.size wz5 wz6 := by rw [← hwz6]; exact (Below.refl _ _).alloc (Nat.le_refl _) _
  have Hcz6 := Lib.hid (show Has wz6 wz5.heap.size [.int .i64 4, .int .i64 1, .int .i64 (k : Nat), .int .i64 z] 23 by rw [← hwz6]; exact Has.new _ _ _)
  have HWz6 := Lib.hid hwz6
  clear hwz6
  have HBz6 := Lib.hid (HBz5.out.trans (kz6.mono (Nat.le_trans hbase HBz5.out.size)))
  have Hpz6 := Lib.hid (Hpz5.out.call kz6)
  have Hnz6 := Lib.hid (Hnz5.out.call kz6)
  have Hr0z6 := Lib.hid (Hr0z5.out.below kz6)
  have Hr1z6 := Lib.hid (Hr1z5.out.below kz6)
  have Hr2z6 := Lib.hid (HR2.out.below kz6)
  clear kz6
  go_upto_region 4 with fail
  rw [HWz6.out]
  have hcz7 := HM3.out wz6 HBz6.out
  go_wp2_with fail
  refine hcz7.mono ?_
  rintro e wz7 ⟨ao3, cap3, rfl, hr3, kz7⟩
  clear hcz7
  have HBz7 := Lib.hid (HBz6.out.trans (kz7.mono (Nat.le_trans hbase HBz6.out.size)))
  have Hpz7 := Lib.hid (Hpz6.out.call kz7)
  have Hnz7 := Lib.hid (Hnz6.out.call kz7)
  have Hcz7 := Lib.hid (Hcz6.out.call kz7)
  have Hr0z7 := Lib.hid (Hr0z6.out.below kz7)
  have Hr1z7 := Lib.hid (Hr1z6.out.below kz7)
  have Hr2z7 := Lib.hid (Hr2z6.out.below kz7)
  clear kz7
  have HR3 := Lib.hid hr3
  clear hr3
  obtain ⟨wz8, hwz8⟩ : ∃ wz8, wz7.alloc (.cells #[.int .i64 5, .int .i64 S, .int .i64 (k : Nat), .int .i64 z] 23) = wz8 := ⟨_, rfl⟩
  have kz8 : Below wz7.heap.size wz7 wz8 := by rw [← hwz8]; exact (Below.refl _ _).alloc (Nat.le_refl _) _
  have Huz8 := Lib.hid (show Has wz8 wz7.heap.size [.int .i64 5, .int .i64 S, .int .i64 (k : Nat), .int .i64 z] 23 by rw [← hwz8]; exact Has.new _ _ _)
  have HWz8 := Lib.hid hwz8
  clear hwz8
  have HBz8 := Lib.hid (HBz7.out.trans (kz8.mono (Nat.le_trans hbase HBz7.out.size)))
  have Hpz8 := Lib.hid (Hpz7.out.call kz8)
  have Hnz8 := Lib.hid (Hnz7.out.call kz8)
  have Hcz8 := Lib.hid (Hcz7.out.call kz8)
  have Hr0z8 := Lib.hid (Hr0z7.out.below kz8)
  have Hr1z8 := Lib.hid (Hr1z7.out.below kz8)
  have Hr2z8 := Lib.hid (Hr2z7.out.below kz8)
  have Hr3z8 := Lib.hid (HR3.out.below kz8)
  clear kz8
  go_upto_region 5 with fail
  rw [HWz8.out]
  have hcz9 := HAL.out wz8
  go_wp2_with fail
  refine hcz9.mono ?_
  rintro e wz9 ⟨rfl, kz9⟩
  clear hcz9
  have HBz9 := Lib.hid (HBz8.out.trans (kz9.mono (Nat.le_trans hbase HBz8.out.size)))
  have Hpz9 := Lib.hid (Hpz8.out.call kz9)
  have Hnz9 := Lib.hid (Hnz8.out.call kz9)
  have Hcz9 := Lib.hid (Hcz8.out.call kz9)
  have Huz9 := Lib.hid (Huz8.out.call kz9)
  have Hr0z9 := Lib.hid (Hr0z8.out.below kz9)
  have Hr1z9 := Lib.hid (Hr1z8.out.below kz9)
  have Hr2z9 := Lib.hid (Hr2z8.out.below kz9)
  have Hr3z9 := Lib.hid (Hr3z8.out.below kz9)
  clear kz9
  have qp0_9 : wz9.cell? ⟨wz1.heap.size, 0, none⟩ = some (.int .i64 2) := Hpz9.out.cell 0
  have qp1_9 : wz9.cell? ⟨wz1.heap.size, 1, none⟩ = some (.int .i64 S) := Hpz9.out.cell 1
  have qp2_9 : wz9.cell? ⟨wz1.heap.size, 2, none⟩ = some (.int .i64 (k : Nat)) := Hpz9.out.cell 2
  have qp3_9 : wz9.cell? ⟨wz1.heap.size, 3, none⟩ = some (.int .i64 s) := Hpz9.out.cell 3
  have lp_9 : wz1.heap.size < wz9.heap.size := Hpz9.out.lt
  have hcz10 := HP0.out wz9
  go_wp2_with fail
  refine hcz10.mono ?_
  rintro e wz10 ⟨rfl, kz10⟩
  clear hcz10 qp0_9 qp1_9 qp2_9 qp3_9 lp_9
  have HBz10 := Lib.hid (HBz9.out.trans (kz10.mono (Nat.le_trans hbase HBz9.out.size)))
  have Hpz10 := Lib.hid (Hpz9.out.call kz10)
  have Hnz10 := Lib.hid (Hnz9.out.call kz10)
  have Hcz10 := Lib.hid (Hcz9.out.call kz10)
  have Huz10 := Lib.hid (Huz9.out.call kz10)
  have Hr0z10 := Lib.hid (Hr0z9.out.below kz10)
  have Hr1z10 := Lib.hid (Hr1z9.out.below kz10)
  have Hr2z10 := Lib.hid (Hr2z9.out.below kz10)
  have Hr3z10 := Lib.hid (Hr3z9.out.below kz10)
  clear kz10
  obtain ⟨wz11, hwz11⟩ : ∃ wz11, wz10.alloc (.cells #[.int .i64 ac, .int .i64 an, .int .i64 ad, .int .u64 ah, .int .u64 al] 38) = wz11 := ⟨_, rfl⟩
  have kz11 : Below wz10.heap.size wz10 wz11 := by rw [← hwz11]; exact (Below.refl _ _).alloc (Nat.le_refl _) _
  have Haz11 := Lib.hid (show Has wz11 wz10.heap.size [.int .i64 ac, .int .i64 an, .int .i64 ad, .int .u64 ah, .int .u64 al] 38 by rw [← hwz11]; exact Has.new _ _ _)
  have HWz11 := Lib.hid hwz11
  clear hwz11
  have HBz11 := Lib.hid (HBz10.out.trans (kz11.mono (Nat.le_trans hbase HBz10.out.size)))
  have Hpz11 := Lib.hid (Hpz10.out.call kz11)
  have Hnz11 := Lib.hid (Hnz10.out.call kz11)
  have Hcz11 := Lib.hid (Hcz10.out.call kz11)
  have Huz11 := Lib.hid (Huz10.out.call kz11)
  have Hr0z11 := Lib.hid (Hr0z10.out.below kz11)
  have Hr1z11 := Lib.hid (Hr1z10.out.below kz11)
  have Hr2z11 := Lib.hid (Hr2z10.out.below kz11)
  have Hr3z11 := Lib.hid (Hr3z10.out.below kz11)
  clear kz11
  go_upto_region 10 with fail
  rw [HWz11.out]
  have qn0_11 : wz11.cell? ⟨wz3.heap.size, 0, none⟩ = some (.int .i64 3) := Hnz11.out.cell 0
  have qn1_11 : wz11.cell? ⟨wz3.heap.size, 1, none⟩ = some (.int .i64 S) := Hnz11.out.cell 1
  have qn2_11 : wz11.cell? ⟨wz3.heap.size, 2, none⟩ = some (.int .i64 (k : Nat)) := Hnz11.out.cell 2
  have qn3_11 : wz11.cell? ⟨wz3.heap.size, 3, none⟩ = some (.int .i64 s) := Hnz11.out.cell 3
  have ln_11 : wz3.heap.size < wz11.heap.size := Hnz11.out.lt
  have hcz12 := HP1.out wz11
  go_wp2_with fail
  refine hcz12.mono ?_
  rintro e wz12 ⟨rfl, kz12⟩
  clear hcz12 qn0_11 qn1_11 qn2_11 qn3_11 ln_11
  have HBz12 := Lib.hid (HBz11.out.trans (kz12.mono (Nat.le_trans hbase HBz11.out.size)))
  have Hpz12 := Lib.hid (Hpz11.out.call kz12)
  have Hnz12 := Lib.hid (Hnz11.out.call kz12)
  have Hcz12 := Lib.hid (Hcz11.out.call kz12)
  have Huz12 := Lib.hid (Huz11.out.call kz12)
  have Haz12 := Lib.hid (Haz11.out.call kz12)
  have Hr0z12 := Lib.hid (Hr0z11.out.below kz12)
  have Hr1z12 := Lib.hid (Hr1z11.out.below kz12)
  have Hr2z12 := Lib.hid (Hr2z11.out.below kz12)
  have Hr3z12 := Lib.hid (Hr3z11.out.below kz12)
  clear kz12
  obtain ⟨wz13, hwz13⟩ : ∃ wz13, wz12.alloc (.cells #[.int .i64 bc, .int .i64 bn, .int .i64 ad, .int .u64 ah, .int .u64 al] 38) = wz13 := ⟨_, rfl⟩
  have kz13 : Below wz12.heap.size wz12 wz13 := by rw [← hwz13]; exact (Below.refl _ _).alloc (Nat.le_refl _) _
  have Hbz13 := Lib.hid (show Has wz13 wz12.heap.size [.int .i64 bc, .int .i64 bn, .int .i64 ad, .int .u64 ah, .int .u64 al] 38 by rw [← hwz13]; exact Has.new _ _ _)
  have HWz13 := Lib.hid hwz13
  clear hwz13
  have HBz13 := Lib.hid (HBz12.out.trans (kz13.mono (Nat.le_trans hbase HBz12.out.size)))
  have Hpz13 := Lib.hid (Hpz12.out.call kz13)
  have Hnz13 := Lib.hid (Hnz12.out.call kz13)
  have Hcz13 := Lib.hid (Hcz12.out.call kz13)
  have Huz13 := Lib.hid (Huz12.out.call kz13)
  have Haz13 := Lib.hid (Haz12.out.call kz13)
  have Hr0z13 := Lib.hid (Hr0z12.out.below kz13)
  have Hr1z13 := Lib.hid (Hr1z12.out.below kz13)
  have Hr2z13 := Lib.hid (Hr2z12.out.below kz13)
  have Hr3z13 := Lib.hid (Hr3z12.out.below kz13)
  clear kz13
  go_upto_region 11 with fail
  rw [HWz13.out]
  have qc0_13 : wz13.cell? ⟨wz5.heap.size, 0, none⟩ = some (.int .i64 4) := Hcz13.out.cell 0
  have qc1_13 : wz13.cell? ⟨wz5.heap.size, 1, none⟩ = some (.int .i64 1) := Hcz13.out.cell 1
  have qc2_13 : wz13.cell? ⟨wz5.heap.size, 2, none⟩ = some (.int .i64 (k : Nat)) := Hcz13.out.cell 2
  have qc3_13 : wz13.cell? ⟨wz5.heap.size, 3, none⟩ = some (.int .i64 z) := Hcz13.out.cell 3
  have lc_13 : wz5.heap.size < wz13.heap.size := Hcz13.out.lt
  have hcz14 := HP2.out wz13
  go_wp2_with fail
  refine hcz14.mono ?_
  rintro e wz14 ⟨rfl, kz14⟩
  clear hcz14 qc0_13 qc1_13 qc2_13 qc3_13 lc_13
  have HBz14 := Lib.hid (HBz13.out.trans (kz14.mono (Nat.le_trans hbase HBz13.out.size)))
  have Hpz14 := Lib.hid (Hpz13.out.call kz14)
  have Hnz14 := Lib.hid (Hnz13.out.call kz14)
  have Hcz14 := Lib.hid (Hcz13.out.call kz14)
  have Huz14 := Lib.hid (Huz13.out.call kz14)
  have Haz14 := Lib.hid (Haz13.out.call kz14)
  have Hbz14 := Lib.hid (Hbz13.out.call kz14)
  have Hr0z14 := Lib.hid (Hr0z13.out.below kz14)
  have Hr1z14 := Lib.hid (Hr1z13.out.below kz14)
  have Hr2z14 := Lib.hid (Hr2z13.out.below kz14)
  have Hr3z14 := Lib.hid (Hr3z13.out.below kz14)
  clear kz14
  obtain ⟨wz15, hwz15⟩ : ∃ wz15, wz14.alloc (.cells #[.int .i64 xc, .int .i64 xn, .int .i64 xd, .int .u64 xh, .int .u64 xl] 38) = wz15 := ⟨_, rfl⟩
  have kz15 : Below wz14.heap.size wz14 wz15 := by rw [← hwz15]; exact (Below.refl _ _).alloc (Nat.le_refl _) _
  have Hxz15 := Lib.hid (show Has wz15 wz14.heap.size [.int .i64 xc, .int .i64 xn, .int .i64 xd, .int .u64 xh, .int .u64 xl] 38 by rw [← hwz15]; exact Has.new _ _ _)
  have HWz15 := Lib.hid hwz15
  clear hwz15
  have HBz15 := Lib.hid (HBz14.out.trans (kz15.mono (Nat.le_trans hbase HBz14.out.size)))
  have Hpz15 := Lib.hid (Hpz14.out.call kz15)
  have Hnz15 := Lib.hid (Hnz14.out.call kz15)
  have Hcz15 := Lib.hid (Hcz14.out.call kz15)
  have Huz15 := Lib.hid (Huz14.out.call kz15)
  have Haz15 := Lib.hid (Haz14.out.call kz15)
  have Hbz15 := Lib.hid (Hbz14.out.call kz15)
  have Hr0z15 := Lib.hid (Hr0z14.out.below kz15)
  have Hr1z15 := Lib.hid (Hr1z14.out.below kz15)
  have Hr2z15 := Lib.hid (Hr2z14.out.below kz15)
  have Hr3z15 := Lib.hid (Hr3z14.out.below kz15)
  clear kz15
  go_upto_region 12 with fail
  rw [HWz15.out]
  have qu0_15 : wz15.cell? ⟨wz7.heap.size, 0, none⟩ = some (.int .i64 5) := Huz15.out.cell 0
  have qu1_15 : wz15.cell? ⟨wz7.heap.size, 1, none⟩ = some (.int .i64 S) := Huz15.out.cell 1
  have qu2_15 : wz15.cell? ⟨wz7.heap.size, 2, none⟩ = some (.int .i64 (k : Nat)) := Huz15.out.cell 2
  have qu3_15 : wz15.cell? ⟨wz7.heap.size, 3, none⟩ = some (.int .i64 z) := Huz15.out.cell 3
  have lu_15 : wz7.heap.size < wz15.heap.size := Huz15.out.lt
  have hcz16 := HP3.out wz15
  go_wp2_with fail
  refine hcz16.mono ?_
  rintro e wz16 ⟨rfl, kz16⟩
  clear hcz16 qu0_15 qu1_15 qu2_15 qu3_15 lu_15
  have HBz16 := Lib.hid (HBz15.out.trans (kz16.mono (Nat.le_trans hbase HBz15.out.size)))
  have Hpz16 := Lib.hid (Hpz15.out.call kz16)
  have Hnz16 := Lib.hid (Hnz15.out.call kz16)
  have Hcz16 := Lib.hid (Hcz15.out.call kz16)
  have Huz16 := Lib.hid (Huz15.out.call kz16)
  have Haz16 := Lib.hid (Haz15.out.call kz16)
  have Hbz16 := Lib.hid (Hbz15.out.call kz16)
  have Hxz16 := Lib.hid (Hxz15.out.call kz16)
  have Hr0z16 := Lib.hid (Hr0z15.out.below kz16)
  have Hr1z16 := Lib.hid (Hr1z15.out.below kz16)
  have Hr2z16 := Lib.hid (Hr2z15.out.below kz16)
  have Hr3z16 := Lib.hid (Hr3z15.out.below kz16)
  clear kz16
  obtain ⟨wz17, hwz17⟩ : ∃ wz17, wz16.alloc (.cells #[.int .i64 yc, .int .i64 yn, .int .i64 xd, .int .u64 xh, .int .u64 xl] 38) = wz17 := ⟨_, rfl⟩
  have kz17 : Below wz16.heap.size wz16 wz17 := by rw [← hwz17]; exact (Below.refl _ _).alloc (Nat.le_refl _) _
  have Hyz17 := Lib.hid (show Has wz17 wz16.heap.size [.int .i64 yc, .int .i64 yn, .int .i64 xd, .int .u64 xh, .int .u64 xl] 38 by rw [← hwz17]; exact Has.new _ _ _)
  have HWz17 := Lib.hid hwz17
  clear hwz17
  have HBz17 := Lib.hid (HBz16.out.trans (kz17.mono (Nat.le_trans hbase HBz16.out.size)))
  have Hpz17 := Lib.hid (Hpz16.out.call kz17)
  have Hnz17 := Lib.hid (Hnz16.out.call kz17)
  have Hcz17 := Lib.hid (Hcz16.out.call kz17)
  have Huz17 := Lib.hid (Huz16.out.call kz17)
  have Haz17 := Lib.hid (Haz16.out.call kz17)
  have Hbz17 := Lib.hid (Hbz16.out.call kz17)
  have Hxz17 := Lib.hid (Hxz16.out.call kz17)
  have Hr0z17 := Lib.hid (Hr0z16.out.below kz17)
  have Hr1z17 := Lib.hid (Hr1z16.out.below kz17)
  have Hr2z17 := Lib.hid (Hr2z16.out.below kz17)
  have Hr3z17 := Lib.hid (Hr3z16.out.below kz17)
  clear kz17
  go_upto_region 13 with fail
  rw [HWz17.out]
  clear hkk hmm
  go_wp2_with fail
  clear hk0
  have HJ := Lib.hid (show AlkRel cs k wz17 (.int .i64 0) (.int .i64 0) wz17 from ⟨0, Nat.zero_le _, rfl, by rw [List.take_zero]; rfl, Below.refl _ _⟩)
  go_loopw [29, 137] (AlkRel cs k wz17) (fun _ iv _ => k - (intOf iv).toNat)
  case atStart => exact HJ.out
  case round =>
    obtain ⟨j, hj, rfl, rfl, hb⟩ := hrel
    rename World => wr
    have HBI := Lib.hid hb
    clear HJ hb
    by_cases hlt : j < k
    · obtain ⟨c, hc⟩ : ∃ c, cs[j]? = some c := ⟨_, List.getElem?_eq_getElem (by rw [HCK.out]; exact hlt)⟩
      obtain ⟨e, he⟩ : ∃ e, zs[j]? = some e := ⟨_, List.getElem?_eq_getElem (by rw [HZK.out]; exact hlt)⟩
      obtain ⟨br, off, hao, hbr, hcc⟩ := (Hr0z17.out.below HBI.out).spot hc
      obtain ⟨bz, ofz, haz, hbz, hcz⟩ := (Hr2z17.out.below HBI.out).spot he
      have h1 := HSUM.out j
      have h2 := HSUM.out (j + 1)
      have hsp := part_step hc
      rw [hsp] at h2
      have hor := HSAME.out j c e hc he
      obtain ⟨a, ha⟩ : ∃ a, ssum (cs.take j) = a := ⟨_, rfl⟩
      rw [ha] at h1 h2 hsp ⊢
      have hw : wrap64 (a + c) = a + c := wrapJ6 (by omega)
      have HSP := Lib.hid hsp; have HLT := Lib.hid hlt; have HTp := Lib.hid (Hpz17.out.call HBI.out)
      have hjz : (j : Int) < (k : Int) := by omega
      have hjx : 0 ≤ (j : Int) ∧ (j : Int) < (k : Int) := by omega
      have c1 : wr.cell? ⟨wz1.heap.size, 1, none⟩ = some (.int .i64 S) := HTp.out.cell 1
      have cl : wz1.heap.size < wr.heap.size := HTp.out.lt
      have HQ := Lib.hid (fun (W : World) (hW : Below wz17.heap.size wz17 W) => show AlkRel cs k wz17 (.int .i64 (a + c)) (.int .i64 ((j : Int) + 1)) W from ⟨j + 1, HLT.out, rfl, by rw [HSP.out], hW⟩)
      subst hao haz
      clear hj hlt hc he h1 h2 hsp ha
      rcases hor with hce | ⟨hce, hes⟩
      · subst hce
        have hg : (c != c) = false := by simp
        go_wp2
        go_quiet (fail)
        go_wp2
        go_roundw
        case rel => rw [hw]; exact HQ.out _ ⟨HBI.out.os, HBI.out.tape, HBI.out.output, HBI.out.size, HBI.out.block⟩
        case measure => have := HLT.out; simp [intOf]; omega
      · have hg : (c != e) = true := by simp [hce]
        have hle : decide (e ≤ S) = false := decide_eq_false (by omega)
        clear hce
        go_wp2
        go_quiet (fail)
        go_wp2
        go_roundw
        case rel => rw [hw]; exact HQ.out _ ⟨HBI.out.os, HBI.out.tape, HBI.out.output, HBI.out.size, HBI.out.block⟩
        case measure => have := HLT.out; simp [intOf]; omega
    · obtain rfl : k = j := by omega
      have hle : cs.take k = cs := List.take_of_length_le (by rw [HCK.out]; exact Nat.le_refl _)
      rw [hle, HSS.out]
      have HBr := Lib.hid (HBz17.out.trans (HBI.out.mono (Nat.le_trans hbase HBz17.out.size)))
      have Hpr := Lib.hid (Hpz17.out.call HBI.out)
      have Hnr := Lib.hid (Hnz17.out.call HBI.out)
      have Hcr := Lib.hid (Hcz17.out.call HBI.out)
      have Hur := Lib.hid (Huz17.out.call HBI.out)
      have Har := Lib.hid (Haz17.out.call HBI.out)
      have Hbr := Lib.hid (Hbz17.out.call HBI.out)
      have Hxr := Lib.hid (Hxz17.out.call HBI.out)
      have Hyr := Lib.hid (Hyz17.out.call HBI.out)
      clear hle hj hlt
      have qa0_60 : wr.cell? ⟨wz10.heap.size, 0, none⟩ = some (.int .i64 ac) := Har.out.cell 0
      have qa1_60 : wr.cell? ⟨wz10.heap.size, 1, none⟩ = some (.int .i64 an) := Har.out.cell 1
      have qa2_60 : wr.cell? ⟨wz10.heap.size, 2, none⟩ = some (.int .i64 ad) := Har.out.cell 2
      have qa3_60 : wr.cell? ⟨wz10.heap.size, 3, none⟩ = some (.int .u64 ah) := Har.out.cell 3
      have qa4_60 : wr.cell? ⟨wz10.heap.size, 4, none⟩ = some (.int .u64 al) := Har.out.cell 4
      have la_60 : wz10.heap.size < wr.heap.size := Har.out.lt
      have hcz61 := HZ0.out wr
      go_wp2_with fail
      refine hcz61.mono ?_
      rintro e wz61 ⟨rfl, kz61⟩
      clear hcz61 qa0_60 qa1_60 qa2_60 qa3_60 qa4_60 la_60
      have HBz61 := Lib.hid (HBr.out.trans (kz61.mono (Nat.le_trans hbase HBr.out.size)))
      have Hpz61 := Lib.hid (Hpr.out.call kz61)
      have Hnz61 := Lib.hid (Hnr.out.call kz61)
      have Hcz61 := Lib.hid (Hcr.out.call kz61)
      have Huz61 := Lib.hid (Hur.out.call kz61)
      have Haz61 := Lib.hid (Har.out.call kz61)
      have Hbz61 := Lib.hid (Hbr.out.call kz61)
      have Hxz61 := Lib.hid (Hxr.out.call kz61)
      have Hyz61 := Lib.hid (Hyr.out.call kz61)
      clear kz61
      have qb0_61 : wz61.cell? ⟨wz12.heap.size, 0, none⟩ = some (.int .i64 bc) := Hbz61.out.cell 0
      have qb1_61 : wz61.cell? ⟨wz12.heap.size, 1, none⟩ = some (.int .i64 bn) := Hbz61.out.cell 1
      have qb2_61 : wz61.cell? ⟨wz12.heap.size, 2, none⟩ = some (.int .i64 ad) := Hbz61.out.cell 2
      have qb3_61 : wz61.cell? ⟨wz12.heap.size, 3, none⟩ = some (.int .u64 ah) := Hbz61.out.cell 3
      have qb4_61 : wz61.cell? ⟨wz12.heap.size, 4, none⟩ = some (.int .u64 al) := Hbz61.out.cell 4
      have lb_61 : wz12.heap.size < wz61.heap.size := Hbz61.out.lt
      have hcz62 := HZ0.out wz61
      go_wp2_with fail
      refine hcz62.mono ?_
      rintro e wz62 ⟨rfl, kz62⟩
      clear hcz62 qb0_61 qb1_61 qb2_61 qb3_61 qb4_61 lb_61
      have HBz62 := Lib.hid (HBz61.out.trans (kz62.mono (Nat.le_trans hbase HBz61.out.size)))
      have Hpz62 := Lib.hid (Hpz61.out.call kz62)
      have Hnz62 := Lib.hid (Hnz61.out.call kz62)
      have Hcz62 := Lib.hid (Hcz61.out.call kz62)
      have Huz62 := Lib.hid (Huz61.out.call kz62)
      have Haz62 := Lib.hid (Haz61.out.call kz62)
      have Hbz62 := Lib.hid (Hbz61.out.call kz62)
      have Hxz62 := Lib.hid (Hxz61.out.call kz62)
      have Hyz62 := Lib.hid (Hyz61.out.call kz62)
      clear kz62
      have qx0_62 : wz62.cell? ⟨wz14.heap.size, 0, none⟩ = some (.int .i64 xc) := Hxz62.out.cell 0
      have qx1_62 : wz62.cell? ⟨wz14.heap.size, 1, none⟩ = some (.int .i64 xn) := Hxz62.out.cell 1
      have qx2_62 : wz62.cell? ⟨wz14.heap.size, 2, none⟩ = some (.int .i64 xd) := Hxz62.out.cell 2
      have qx3_62 : wz62.cell? ⟨wz14.heap.size, 3, none⟩ = some (.int .u64 xh) := Hxz62.out.cell 3
      have qx4_62 : wz62.cell? ⟨wz14.heap.size, 4, none⟩ = some (.int .u64 xl) := Hxz62.out.cell 4
      have lx_62 : wz14.heap.size < wz62.heap.size := Hxz62.out.lt
      have hcz63 := HZ1.out wz62
      go_wp2_with fail
      refine hcz63.mono ?_
      rintro e wz63 ⟨rfl, kz63⟩
      clear hcz63 qx0_62 qx1_62 qx2_62 qx3_62 qx4_62 lx_62
      have HBz63 := Lib.hid (HBz62.out.trans (kz63.mono (Nat.le_trans hbase HBz62.out.size)))
      have Hpz63 := Lib.hid (Hpz62.out.call kz63)
      have Hnz63 := Lib.hid (Hnz62.out.call kz63)
      have Hcz63 := Lib.hid (Hcz62.out.call kz63)
      have Huz63 := Lib.hid (Huz62.out.call kz63)
      have Haz63 := Lib.hid (Haz62.out.call kz63)
      have Hbz63 := Lib.hid (Hbz62.out.call kz63)
      have Hxz63 := Lib.hid (Hxz62.out.call kz63)
      have Hyz63 := Lib.hid (Hyz62.out.call kz63)
      clear kz63
      have qy0_63 : wz63.cell? ⟨wz16.heap.size, 0, none⟩ = some (.int .i64 yc) := Hyz63.out.cell 0
      have qy1_63 : wz63.cell? ⟨wz16.heap.size, 1, none⟩ = some (.int .i64 yn) := Hyz63.out.cell 1
      have qy2_63 : wz63.cell? ⟨wz16.heap.size, 2, none⟩ = some (.int .i64 xd) := Hyz63.out.cell 2
      have qy3_63 : wz63.cell? ⟨wz16.heap.size, 3, none⟩ = some (.int .u64 xh) := Hyz63.out.cell 3
      have qy4_63 : wz63.cell? ⟨wz16.heap.size, 4, none⟩ = some (.int .u64 xl) := Hyz63.out.cell 4
      have ly_63 : wz16.heap.size < wz63.heap.size := Hyz63.out.lt
      have hcz64 := HZ1.out wz63
      go_wp2_with fail
      refine hcz64.mono ?_
      rintro e wz64 ⟨rfl, kz64⟩
      clear hcz64 qy0_63 qy1_63 qy2_63 qy3_63 qy4_63 ly_63
      have HBz64 := Lib.hid (HBz63.out.trans (kz64.mono (Nat.le_trans hbase HBz63.out.size)))
      have Hpz64 := Lib.hid (Hpz63.out.call kz64)
      have Hnz64 := Lib.hid (Hnz63.out.call kz64)
      have Hcz64 := Lib.hid (Hcz63.out.call kz64)
      have Huz64 := Lib.hid (Huz63.out.call kz64)
      have Haz64 := Lib.hid (Haz63.out.call kz64)
      have Hbz64 := Lib.hid (Hbz63.out.call kz64)
      have Hxz64 := Lib.hid (Hxz63.out.call kz64)
      have Hyz64 := Lib.hid (Hyz63.out.call kz64)
      clear kz64
      have qp0_64 : wz64.cell? ⟨wz1.heap.size, 0, none⟩ = some (.int .i64 2) := Hpz64.out.cell 0
      have qp1_64 : wz64.cell? ⟨wz1.heap.size, 1, none⟩ = some (.int .i64 S) := Hpz64.out.cell 1
      have qp2_64 : wz64.cell? ⟨wz1.heap.size, 2, none⟩ = some (.int .i64 (k : Nat)) := Hpz64.out.cell 2
      have qp3_64 : wz64.cell? ⟨wz1.heap.size, 3, none⟩ = some (.int .i64 s) := Hpz64.out.cell 3
      have lp_64 : wz1.heap.size < wz64.heap.size := Hpz64.out.lt
      have s0 := Xs0.out; have q1 := Xq1.out; have q2 := Xq2.out
      go_wp2
      go_ret
      exact ⟨rfl, HBz64.out⟩
set_option linter.unusedSimpArgs false in
set_option linter.unusedVariables false in
set_option maxHeartbeats 8000000 in
set_option maxRecDepth 100000 in
theorem alike16_a2 (size S s z d kk mm ac an ad ah al bc bn xc xn xd xh xl yc yn ci cr P : Int) (k : Nat) (cs zs : List Int) (ao : Option Addr) (n cap : Nat) (w : World) (hck : cs.length = k) (hzk : zs.length = k) (hk25 : k ≤ 25) (hsum : ∀ j, 0 ≤ ssum (cs.take j) ∧ ssum (cs.take j) ≤ 25000000) (hs : ssum cs = s)
    (hsame : ∀ (j : Nat) (c e : Int), cs[j]? = some c → zs[j]? = some e → c = e ∨ (c ≠ e ∧ ¬ e ≤ S)) (hkk : min (max d 0) S = kk) (hmm : min (max d 0) 1000000 = mm) (hk0 : ((k : Int) == 0) = false) (s0 : (s == 0) = true) (q1 : (ci == 0) = false) (q2 : (kk == 0) = false) (q3 : (ci == 4) = true)
    (HM0 : Hid (∀ W, Below w.heap.size w W → Calls Try.prog 17 #[.int .i64 0, .int .i64 size, .slice ao n cap] W (MPost 2 S s k cs W)))
    (HP0 : Hid (∀ W, Calls Try.prog 15 #[.agg #[.int .i64 2, .int .i64 S, .int .i64 (k : Nat), .int .i64 s], .int .i64 kk] W fun e w' => e = .returned (.tuple #[.agg #[.int .i64 ac, .int .i64 an, .int .i64 ad, .int .u64 ah, .int .u64 al], .int .i64 0]) ∧ Below W.heap.size W w'))
    (HM1 : Hid (∀ W, Below w.heap.size w W → Calls Try.prog 17 #[.int .i64 1, .int .i64 size, .slice ao n cap] W (MPost 3 S s k cs W)))
    (HP1 : Hid (∀ W, Calls Try.prog 15 #[.agg #[.int .i64 3, .int .i64 S, .int .i64 (k : Nat), .int .i64 s], .int .i64 kk] W fun e w' => e = .returned (.tuple #[.agg #[.int .i64 bc, .int .i64 bn, .int .i64 ad, .int .u64 ah, .int .u64 al], .int .i64 0]) ∧ Below W.heap.size W w'))
    (HM2 : Hid (∀ W, Below w.heap.size w W → Calls Try.prog 17 #[.int .i64 2, .int .i64 size, .slice ao n cap] W (MPost 4 1 z k zs W)))
    (HP2 : Hid (∀ W, Calls Try.prog 15 #[.agg #[.int .i64 4, .int .i64 1, .int .i64 (k : Nat), .int .i64 z], .int .i64 mm] W fun e w' => e = .returned (.tuple #[.agg #[.int .i64 xc, .int .i64 xn, .int .i64 xd, .int .u64 xh, .int .u64 xl], .int .i64 0]) ∧ Below W.heap.size W w'))
    (HM3 : Hid (∀ W, Below w.heap.size w W → Calls Try.prog 17 #[.int .i64 3, .int .i64 size, .slice ao n cap] W (MPost 5 S z k zs W)))
    (HP3 : Hid (∀ W, Calls Try.prog 15 #[.agg #[.int .i64 5, .int .i64 S, .int .i64 (k : Nat), .int .i64 z], .int .i64 mm] W fun e w' => e = .returned (.tuple #[.agg #[.int .i64 yc, .int .i64 yn, .int .i64 xd, .int .u64 xh, .int .u64 xl], .int .i64 0]) ∧ Below W.heap.size W w'))
    (HAL : Hid (∀ W, Calls Try.prog 11 #[] W fun e w' => e = .returned (.bool true) ∧ Below W.heap.size W w'))
    (HZ0 : Hid (∀ W, Calls Try.prog 18 #[.int .i64 ad, .agg #[.int .u64 ah, .int .u64 al]] W fun e w' => e = .returned (.tuple #[.int .i64 ci, .int .i64 0]) ∧ Below W.heap.size W w'))
    (HZ1 : Hid (∀ W, Calls Try.prog 18 #[.int .i64 xd, .agg #[.int .u64 xh, .int .u64 xl]] W fun e w' => e = .returned (.tuple #[.int .i64 cr, .int .i64 0]) ∧ Below W.heap.size W w'))
    : Calls Try.prog 6 #[.int .i64 size, .slice ao n cap, .int .i64 d] w fun e w' => e = .returned (.bool true) ∧ Below w.heap.size w w' := by
  have HCK := Lib.hid hck; have HZK := Lib.hid hzk; have HSUM := Lib.hid hsum; have HSS := Lib.hid hs; have HSAME := Lib.hid hsame
  have Xs0 := Lib.hid s0; have Xq1 := Lib.hid q1; have Xq2 := Lib.hid q2; have Xq3 := Lib.hid q3
  clear s0 q1 q2 q3
  have hbase := Nat.le_refl w.heap.size
  have HB0 := Lib.hid (Below.refl w.heap.size w)
  clear hck hzk hsum hs hsame
  go_enter Try.func6, Try.ntmps6
  have hcz1 := HM0.out w HB0.out
  go_wp2_with fail
  refine hcz1.mono ?_
  rintro e wz1 ⟨ao0, cap0, rfl, hr0, kz1⟩
  clear hcz1
  have HBz1 := Lib.hid (HB0.out.trans (kz1.mono (Nat.le_trans hbase HB0.out.size)))
  clear kz1
  have HR0 := Lib.hid hr0
  clear hr0
  obtain ⟨wz2, hwz2⟩ : ∃ wz2, wz1.alloc (.cells #[.int .i64 2, .int .i64 S, .int .i64 (k : Nat), .int .i64 s] 23) = wz2 := ⟨_, rfl⟩
  have kz2 : Below wz1.heap.size wz1 wz2 := by rw [← hwz2]; exact (Below.refl _ _).alloc (Nat.le_refl _) _
  have Hpz2 := Lib.hid (show Has wz2 wz1.heap.size [.int .i64 2, .int .i64 S, .int .i64 (k : Nat), .int .i64 s] 23 by rw [← hwz2]; exact Has.new _ _ _)
  have HWz2 := Lib.hid hwz2
  clear hwz2
  have HBz2 := Lib.hid (HBz1.out.trans (kz2.mono (Nat.le_trans hbase HBz1.out.size)))
  have Hr0z2 := Lib.hid (HR0.out.below kz2)
  clear kz2
  go_upto_region 2 with fail
  rw [HWz2.out]
  have hcz3 := HM1.out wz2 HBz2.out
  go_wp2_with fail
  refine hcz3.mono ?_
  rintro e wz3 ⟨ao1, cap1, rfl, hr1, kz3⟩
  clear hcz3
  have HBz3 := Lib.hid (HBz2.out.trans (kz3.mono (Nat.le_trans hbase HBz2.out.size)))
  have Hpz3 := Lib.hid (Hpz2.out.call kz3)
  have Hr0z3 := Lib.hid (Hr0z2.out.below kz3)
  clear kz3
  have HR1 := Lib.hid hr1
  clear hr1
  obtain ⟨wz4, hwz4⟩ : ∃ wz4, wz3.alloc (.cells #[.int .i64 3, .int .i64 S, .int .i64 (k : Nat), .int .i64 s] 23) = wz4 := ⟨_, rfl⟩
  have kz4 : Below wz3.heap.size wz3 wz4 := by rw [← hwz4]; exact (Below.refl _ _).alloc (Nat.le_refl _) _
  have Hnz4 := Lib.hid (show Has wz4 wz3.heap.size [.int .i64 3, .int .i64 S, .int .i64 (k : Nat), .int .i64 s] 23 by rw [← hwz4]; exact Has.new _ _ _)
  have HWz4 := Lib.hid hwz4
  clear hwz4
  have HBz4 := Lib.hid (HBz3.out.trans (kz4.mono (Nat.le_trans hbase HBz3.out.size)))
  have Hpz4 := Lib.hid (Hpz3.out.call kz4)
  have Hr0z4 := Lib.hid (Hr0z3.out.below kz4)
  have Hr1z4 := Lib.hid (HR1.out.below kz4)
  clear kz4
  go_upto_region 3 with fail
  rw [HWz4.out]
  have hcz5 := HM2.out wz4 HBz4.out
  go_wp2_with fail
  refine hcz5.mono ?_
  rintro e wz5 ⟨ao2, cap2, rfl, hr2, kz5⟩
  clear hcz5
  have HBz5 := Lib.hid (HBz4.out.trans (kz5.mono (Nat.le_trans hbase HBz4.out.size)))
  have Hpz5 := Lib.hid (Hpz4.out.call kz5)
  have Hnz5 := Lib.hid (Hnz4.out.call kz5)
  have Hr0z5 := Lib.hid (Hr0z4.out.below kz5)
  have Hr1z5 := Lib.hid (Hr1z4.out.below kz5)
  clear kz5
  have HR2 := Lib.hid hr2
  clear hr2
  obtain ⟨wz6, hwz6⟩ : ∃ wz6, wz5.alloc (.cells #[.int .i64 4, .int .i64 1, .int .i64 (k : Nat), .int .i64 z] 23) = wz6 := ⟨_, rfl⟩
  have kz6 : Below wz5.heap.size wz5 wz6 := by rw [← hwz6]; exact (Below.refl _ _).alloc (Nat.le_refl _) _
  have Hcz6 := Lib.hid (show Has wz6 wz5.heap.size [.int .i64 4, .int .i64 1, .int .i64 (k : Nat), .int .i64 z] 23 by rw [← hwz6]; exact Has.new _ _ _)
  have HWz6 := Lib.hid hwz6
  clear hwz6
  have HBz6 := Lib.hid (HBz5.out.trans (kz6.mono (Nat.le_trans hbase HBz5.out.size)))
  have Hpz6 := Lib.hid (Hpz5.out.call kz6)
  have Hnz6 := Lib.hid (Hnz5.out.call kz6)
  have Hr0z6 := Lib.hid (Hr0z5.out.below kz6)
  have Hr1z6 := Lib.hid (Hr1z5.out.below kz6)
  have Hr2z6 := Lib.hid (HR2.out.below kz6)
  clear kz6
  go_upto_region 4 with fail
  rw [HWz6.out]
  have hcz7 := HM3.out wz6 HBz6.out
  go_wp2_with fail
  refine hcz7.mono ?_
  rintro e wz7 ⟨ao3, cap3, rfl, hr3, kz7⟩
  clear hcz7
  have HBz7 := Lib.hid (HBz6.out.trans (kz7.mono (Nat.le_trans hbase HBz6.out.size)))
  have Hpz7 := Lib.hid (Hpz6.out.call kz7)
  have Hnz7 := Lib.hid (Hnz6.out.call kz7)
  have Hcz7 := Lib.hid (Hcz6.out.call kz7)
  have Hr0z7 := Lib.hid (Hr0z6.out.below kz7)
  have Hr1z7 := Lib.hid (Hr1z6.out.below kz7)
  have Hr2z7 := Lib.hid (Hr2z6.out.below kz7)
  clear kz7
  have HR3 := Lib.hid hr3
  clear hr3
  obtain ⟨wz8, hwz8⟩ : ∃ wz8, wz7.alloc (.cells #[.int .i64 5, .int .i64 S, .int .i64 (k : Nat), .int .i64 z] 23) = wz8 := ⟨_, rfl⟩
  have kz8 : Below wz7.heap.size wz7 wz8 := by rw [← hwz8]; exact (Below.refl _ _).alloc (Nat.le_refl _) _
  have Huz8 := Lib.hid (show Has wz8 wz7.heap.size [.int .i64 5, .int .i64 S, .int .i64 (k : Nat), .int .i64 z] 23 by rw [← hwz8]; exact Has.new _ _ _)
  have HWz8 := Lib.hid hwz8
  clear hwz8
  have HBz8 := Lib.hid (HBz7.out.trans (kz8.mono (Nat.le_trans hbase HBz7.out.size)))
  have Hpz8 := Lib.hid (Hpz7.out.call kz8)
  have Hnz8 := Lib.hid (Hnz7.out.call kz8)
  have Hcz8 := Lib.hid (Hcz7.out.call kz8)
  have Hr0z8 := Lib.hid (Hr0z7.out.below kz8)
  have Hr1z8 := Lib.hid (Hr1z7.out.below kz8)
  have Hr2z8 := Lib.hid (Hr2z7.out.below kz8)
  have Hr3z8 := Lib.hid (HR3.out.below kz8)
  clear kz8
  go_upto_region 5 with fail
  rw [HWz8.out]
  have hcz9 := HAL.out wz8
  go_wp2_with fail
  refine hcz9.mono ?_
  rintro e wz9 ⟨rfl, kz9⟩
  clear hcz9
  have HBz9 := Lib.hid (HBz8.out.trans (kz9.mono (Nat.le_trans hbase HBz8.out.size)))
  have Hpz9 := Lib.hid (Hpz8.out.call kz9)
  have Hnz9 := Lib.hid (Hnz8.out.call kz9)
  have Hcz9 := Lib.hid (Hcz8.out.call kz9)
  have Huz9 := Lib.hid (Huz8.out.call kz9)
  have Hr0z9 := Lib.hid (Hr0z8.out.below kz9)
  have Hr1z9 := Lib.hid (Hr1z8.out.below kz9)
  have Hr2z9 := Lib.hid (Hr2z8.out.below kz9)
  have Hr3z9 := Lib.hid (Hr3z8.out.below kz9)
  clear kz9
  have qp0_9 : wz9.cell? ⟨wz1.heap.size, 0, none⟩ = some (.int .i64 2) := Hpz9.out.cell 0
  have qp1_9 : wz9.cell? ⟨wz1.heap.size, 1, none⟩ = some (.int .i64 S) := Hpz9.out.cell 1
  have qp2_9 : wz9.cell? ⟨wz1.heap.size, 2, none⟩ = some (.int .i64 (k : Nat)) := Hpz9.out.cell 2
  have qp3_9 : wz9.cell? ⟨wz1.heap.size, 3, none⟩ = some (.int .i64 s) := Hpz9.out.cell 3
  have lp_9 : wz1.heap.size < wz9.heap.size := Hpz9.out.lt
  have hcz10 := HP0.out wz9
  go_wp2_with fail
  refine hcz10.mono ?_
  rintro e wz10 ⟨rfl, kz10⟩
  clear hcz10 qp0_9 qp1_9 qp2_9 qp3_9 lp_9
  have HBz10 := Lib.hid (HBz9.out.trans (kz10.mono (Nat.le_trans hbase HBz9.out.size)))
  have Hpz10 := Lib.hid (Hpz9.out.call kz10)
  have Hnz10 := Lib.hid (Hnz9.out.call kz10)
  have Hcz10 := Lib.hid (Hcz9.out.call kz10)
  have Huz10 := Lib.hid (Huz9.out.call kz10)
  have Hr0z10 := Lib.hid (Hr0z9.out.below kz10)
  have Hr1z10 := Lib.hid (Hr1z9.out.below kz10)
  have Hr2z10 := Lib.hid (Hr2z9.out.below kz10)
  have Hr3z10 := Lib.hid (Hr3z9.out.below kz10)
  clear kz10
  obtain ⟨wz11, hwz11⟩ : ∃ wz11, wz10.alloc (.cells #[.int .i64 ac, .int .i64 an, .int .i64 ad, .int .u64 ah, .int .u64 al] 38) = wz11 := ⟨_, rfl⟩
  have kz11 : Below wz10.heap.size wz10 wz11 := by rw [← hwz11]; exact (Below.refl _ _).alloc (Nat.le_refl _) _
  have Haz11 := Lib.hid (show Has wz11 wz10.heap.size [.int .i64 ac, .int .i64 an, .int .i64 ad, .int .u64 ah, .int .u64 al] 38 by rw [← hwz11]; exact Has.new _ _ _)
  have HWz11 := Lib.hid hwz11
  clear hwz11
  have HBz11 := Lib.hid (HBz10.out.trans (kz11.mono (Nat.le_trans hbase HBz10.out.size)))
  have Hpz11 := Lib.hid (Hpz10.out.call kz11)
  have Hnz11 := Lib.hid (Hnz10.out.call kz11)
  have Hcz11 := Lib.hid (Hcz10.out.call kz11)
  have Huz11 := Lib.hid (Huz10.out.call kz11)
  have Hr0z11 := Lib.hid (Hr0z10.out.below kz11)
  have Hr1z11 := Lib.hid (Hr1z10.out.below kz11)
  have Hr2z11 := Lib.hid (Hr2z10.out.below kz11)
  have Hr3z11 := Lib.hid (Hr3z10.out.below kz11)
  clear kz11
  go_upto_region 10 with fail
  rw [HWz11.out]
  have qn0_11 : wz11.cell? ⟨wz3.heap.size, 0, none⟩ = some (.int .i64 3) := Hnz11.out.cell 0
  have qn1_11 : wz11.cell? ⟨wz3.heap.size, 1, none⟩ = some (.int .i64 S) := Hnz11.out.cell 1
  have qn2_11 : wz11.cell? ⟨wz3.heap.size, 2, none⟩ = some (.int .i64 (k : Nat)) := Hnz11.out.cell 2
  have qn3_11 : wz11.cell? ⟨wz3.heap.size, 3, none⟩ = some (.int .i64 s) := Hnz11.out.cell 3
  have ln_11 : wz3.heap.size < wz11.heap.size := Hnz11.out.lt
  have hcz12 := HP1.out wz11
  go_wp2_with fail
  refine hcz12.mono ?_
  rintro e wz12 ⟨rfl, kz12⟩
  clear hcz12 qn0_11 qn1_11 qn2_11 qn3_11 ln_11
  have HBz12 := Lib.hid (HBz11.out.trans (kz12.mono (Nat.le_trans hbase HBz11.out.size)))
  have Hpz12 := Lib.hid (Hpz11.out.call kz12)
  have Hnz12 := Lib.hid (Hnz11.out.call kz12)
  have Hcz12 := Lib.hid (Hcz11.out.call kz12)
  have Huz12 := Lib.hid (Huz11.out.call kz12)
  have Haz12 := Lib.hid (Haz11.out.call kz12)
  have Hr0z12 := Lib.hid (Hr0z11.out.below kz12)
  have Hr1z12 := Lib.hid (Hr1z11.out.below kz12)
  have Hr2z12 := Lib.hid (Hr2z11.out.below kz12)
  have Hr3z12 := Lib.hid (Hr3z11.out.below kz12)
  clear kz12
  obtain ⟨wz13, hwz13⟩ : ∃ wz13, wz12.alloc (.cells #[.int .i64 bc, .int .i64 bn, .int .i64 ad, .int .u64 ah, .int .u64 al] 38) = wz13 := ⟨_, rfl⟩
  have kz13 : Below wz12.heap.size wz12 wz13 := by rw [← hwz13]; exact (Below.refl _ _).alloc (Nat.le_refl _) _
  have Hbz13 := Lib.hid (show Has wz13 wz12.heap.size [.int .i64 bc, .int .i64 bn, .int .i64 ad, .int .u64 ah, .int .u64 al] 38 by rw [← hwz13]; exact Has.new _ _ _)
  have HWz13 := Lib.hid hwz13
  clear hwz13
  have HBz13 := Lib.hid (HBz12.out.trans (kz13.mono (Nat.le_trans hbase HBz12.out.size)))
  have Hpz13 := Lib.hid (Hpz12.out.call kz13)
  have Hnz13 := Lib.hid (Hnz12.out.call kz13)
  have Hcz13 := Lib.hid (Hcz12.out.call kz13)
  have Huz13 := Lib.hid (Huz12.out.call kz13)
  have Haz13 := Lib.hid (Haz12.out.call kz13)
  have Hr0z13 := Lib.hid (Hr0z12.out.below kz13)
  have Hr1z13 := Lib.hid (Hr1z12.out.below kz13)
  have Hr2z13 := Lib.hid (Hr2z12.out.below kz13)
  have Hr3z13 := Lib.hid (Hr3z12.out.below kz13)
  clear kz13
  go_upto_region 11 with fail
  rw [HWz13.out]
  have qc0_13 : wz13.cell? ⟨wz5.heap.size, 0, none⟩ = some (.int .i64 4) := Hcz13.out.cell 0
  have qc1_13 : wz13.cell? ⟨wz5.heap.size, 1, none⟩ = some (.int .i64 1) := Hcz13.out.cell 1
  have qc2_13 : wz13.cell? ⟨wz5.heap.size, 2, none⟩ = some (.int .i64 (k : Nat)) := Hcz13.out.cell 2
  have qc3_13 : wz13.cell? ⟨wz5.heap.size, 3, none⟩ = some (.int .i64 z) := Hcz13.out.cell 3
  have lc_13 : wz5.heap.size < wz13.heap.size := Hcz13.out.lt
  have hcz14 := HP2.out wz13
  go_wp2_with fail
  refine hcz14.mono ?_
  rintro e wz14 ⟨rfl, kz14⟩
  clear hcz14 qc0_13 qc1_13 qc2_13 qc3_13 lc_13
  have HBz14 := Lib.hid (HBz13.out.trans (kz14.mono (Nat.le_trans hbase HBz13.out.size)))
  have Hpz14 := Lib.hid (Hpz13.out.call kz14)
  have Hnz14 := Lib.hid (Hnz13.out.call kz14)
  have Hcz14 := Lib.hid (Hcz13.out.call kz14)
  have Huz14 := Lib.hid (Huz13.out.call kz14)
  have Haz14 := Lib.hid (Haz13.out.call kz14)
  have Hbz14 := Lib.hid (Hbz13.out.call kz14)
  have Hr0z14 := Lib.hid (Hr0z13.out.below kz14)
  have Hr1z14 := Lib.hid (Hr1z13.out.below kz14)
  have Hr2z14 := Lib.hid (Hr2z13.out.below kz14)
  have Hr3z14 := Lib.hid (Hr3z13.out.below kz14)
  clear kz14
  obtain ⟨wz15, hwz15⟩ : ∃ wz15, wz14.alloc (.cells #[.int .i64 xc, .int .i64 xn, .int .i64 xd, .int .u64 xh, .int .u64 xl] 38) = wz15 := ⟨_, rfl⟩
  have kz15 : Below wz14.heap.size wz14 wz15 := by rw [← hwz15]; exact (Below.refl _ _).alloc (Nat.le_refl _) _
  have Hxz15 := Lib.hid (show Has wz15 wz14.heap.size [.int .i64 xc, .int .i64 xn, .int .i64 xd, .int .u64 xh, .int .u64 xl] 38 by rw [← hwz15]; exact Has.new _ _ _)
  have HWz15 := Lib.hid hwz15
  clear hwz15
  have HBz15 := Lib.hid (HBz14.out.trans (kz15.mono (Nat.le_trans hbase HBz14.out.size)))
  have Hpz15 := Lib.hid (Hpz14.out.call kz15)
  have Hnz15 := Lib.hid (Hnz14.out.call kz15)
  have Hcz15 := Lib.hid (Hcz14.out.call kz15)
  have Huz15 := Lib.hid (Huz14.out.call kz15)
  have Haz15 := Lib.hid (Haz14.out.call kz15)
  have Hbz15 := Lib.hid (Hbz14.out.call kz15)
  have Hr0z15 := Lib.hid (Hr0z14.out.below kz15)
  have Hr1z15 := Lib.hid (Hr1z14.out.below kz15)
  have Hr2z15 := Lib.hid (Hr2z14.out.below kz15)
  have Hr3z15 := Lib.hid (Hr3z14.out.below kz15)
  clear kz15
  go_upto_region 12 with fail
  rw [HWz15.out]
  have qu0_15 : wz15.cell? ⟨wz7.heap.size, 0, none⟩ = some (.int .i64 5) := Huz15.out.cell 0
  have qu1_15 : wz15.cell? ⟨wz7.heap.size, 1, none⟩ = some (.int .i64 S) := Huz15.out.cell 1
  have qu2_15 : wz15.cell? ⟨wz7.heap.size, 2, none⟩ = some (.int .i64 (k : Nat)) := Huz15.out.cell 2
  have qu3_15 : wz15.cell? ⟨wz7.heap.size, 3, none⟩ = some (.int .i64 z) := Huz15.out.cell 3
  have lu_15 : wz7.heap.size < wz15.heap.size := Huz15.out.lt
  have hcz16 := HP3.out wz15
  go_wp2_with fail
  refine hcz16.mono ?_
  rintro e wz16 ⟨rfl, kz16⟩
  clear hcz16 qu0_15 qu1_15 qu2_15 qu3_15 lu_15
  have HBz16 := Lib.hid (HBz15.out.trans (kz16.mono (Nat.le_trans hbase HBz15.out.size)))
  have Hpz16 := Lib.hid (Hpz15.out.call kz16)
  have Hnz16 := Lib.hid (Hnz15.out.call kz16)
  have Hcz16 := Lib.hid (Hcz15.out.call kz16)
  have Huz16 := Lib.hid (Huz15.out.call kz16)
  have Haz16 := Lib.hid (Haz15.out.call kz16)
  have Hbz16 := Lib.hid (Hbz15.out.call kz16)
  have Hxz16 := Lib.hid (Hxz15.out.call kz16)
  have Hr0z16 := Lib.hid (Hr0z15.out.below kz16)
  have Hr1z16 := Lib.hid (Hr1z15.out.below kz16)
  have Hr2z16 := Lib.hid (Hr2z15.out.below kz16)
  have Hr3z16 := Lib.hid (Hr3z15.out.below kz16)
  clear kz16
  obtain ⟨wz17, hwz17⟩ : ∃ wz17, wz16.alloc (.cells #[.int .i64 yc, .int .i64 yn, .int .i64 xd, .int .u64 xh, .int .u64 xl] 38) = wz17 := ⟨_, rfl⟩
  have kz17 : Below wz16.heap.size wz16 wz17 := by rw [← hwz17]; exact (Below.refl _ _).alloc (Nat.le_refl _) _
  have Hyz17 := Lib.hid (show Has wz17 wz16.heap.size [.int .i64 yc, .int .i64 yn, .int .i64 xd, .int .u64 xh, .int .u64 xl] 38 by rw [← hwz17]; exact Has.new _ _ _)
  have HWz17 := Lib.hid hwz17
  clear hwz17
  have HBz17 := Lib.hid (HBz16.out.trans (kz17.mono (Nat.le_trans hbase HBz16.out.size)))
  have Hpz17 := Lib.hid (Hpz16.out.call kz17)
  have Hnz17 := Lib.hid (Hnz16.out.call kz17)
  have Hcz17 := Lib.hid (Hcz16.out.call kz17)
  have Huz17 := Lib.hid (Huz16.out.call kz17)
  have Haz17 := Lib.hid (Haz16.out.call kz17)
  have Hbz17 := Lib.hid (Hbz16.out.call kz17)
  have Hxz17 := Lib.hid (Hxz16.out.call kz17)
  have Hr0z17 := Lib.hid (Hr0z16.out.below kz17)
  have Hr1z17 := Lib.hid (Hr1z16.out.below kz17)
  have Hr2z17 := Lib.hid (Hr2z16.out.below kz17)
  have Hr3z17 := Lib.hid (Hr3z16.out.below kz17)
  clear kz17
  go_upto_region 13 with fail
  rw [HWz17.out]
  clear hkk hmm
  go_wp2_with fail
  clear hk0
  have HJ := Lib.hid (show AlkRel cs k wz17 (.int .i64 0) (.int .i64 0) wz17 from ⟨0, Nat.zero_le _, rfl, by rw [List.take_zero]; rfl, Below.refl _ _⟩)
  go_loopw [29, 137] (AlkRel cs k wz17) (fun _ iv _ => k - (intOf iv).toNat)
  case atStart => exact HJ.out
  case round =>
    obtain ⟨j, hj, rfl, rfl, hb⟩ := hrel
    rename World => wr
    have HBI := Lib.hid hb
    clear HJ hb
    by_cases hlt : j < k
    · obtain ⟨c, hc⟩ : ∃ c, cs[j]? = some c := ⟨_, List.getElem?_eq_getElem (by rw [HCK.out]; exact hlt)⟩
      obtain ⟨e, he⟩ : ∃ e, zs[j]? = some e := ⟨_, List.getElem?_eq_getElem (by rw [HZK.out]; exact hlt)⟩
      obtain ⟨br, off, hao, hbr, hcc⟩ := (Hr0z17.out.below HBI.out).spot hc
      obtain ⟨bz, ofz, haz, hbz, hcz⟩ := (Hr2z17.out.below HBI.out).spot he
      have h1 := HSUM.out j
      have h2 := HSUM.out (j + 1)
      have hsp := part_step hc
      rw [hsp] at h2
      have hor := HSAME.out j c e hc he
      obtain ⟨a, ha⟩ : ∃ a, ssum (cs.take j) = a := ⟨_, rfl⟩
      rw [ha] at h1 h2 hsp ⊢
      have hw : wrap64 (a + c) = a + c := wrapJ6 (by omega)
      have HSP := Lib.hid hsp; have HLT := Lib.hid hlt; have HTp := Lib.hid (Hpz17.out.call HBI.out)
      have hjz : (j : Int) < (k : Int) := by omega
      have hjx : 0 ≤ (j : Int) ∧ (j : Int) < (k : Int) := by omega
      have c1 : wr.cell? ⟨wz1.heap.size, 1, none⟩ = some (.int .i64 S) := HTp.out.cell 1
      have cl : wz1.heap.size < wr.heap.size := HTp.out.lt
      have HQ := Lib.hid (fun (W : World) (hW : Below wz17.heap.size wz17 W) => show AlkRel cs k wz17 (.int .i64 (a + c)) (.int .i64 ((j : Int) + 1)) W from ⟨j + 1, HLT.out, rfl, by rw [HSP.out], hW⟩)
      subst hao haz
      clear hj hlt hc he h1 h2 hsp ha
      rcases hor with hce | ⟨hce, hes⟩
      · subst hce
        have hg : (c != c) = false := by simp
        go_wp2
        go_quiet (fail)
        go_wp2
        go_roundw
        case rel => rw [hw]; exact HQ.out _ ⟨HBI.out.os, HBI.out.tape, HBI.out.output, HBI.out.size, HBI.out.block⟩
        case measure => have := HLT.out; simp [intOf]; omega
      · have hg : (c != e) = true := by simp [hce]
        have hle : decide (e ≤ S) = false := decide_eq_false (by omega)
        clear hce
        go_wp2
        go_quiet (fail)
        go_wp2
        go_roundw
        case rel => rw [hw]; exact HQ.out _ ⟨HBI.out.os, HBI.out.tape, HBI.out.output, HBI.out.size, HBI.out.block⟩
        case measure => have := HLT.out; simp [intOf]; omega
    · obtain rfl : k = j := by omega
      have hle : cs.take k = cs := List.take_of_length_le (by rw [HCK.out]; exact Nat.le_refl _)
      rw [hle, HSS.out]
      have HBr := Lib.hid (HBz17.out.trans (HBI.out.mono (Nat.le_trans hbase HBz17.out.size)))
      have Hpr := Lib.hid (Hpz17.out.call HBI.out)
      have Hnr := Lib.hid (Hnz17.out.call HBI.out)
      have Hcr := Lib.hid (Hcz17.out.call HBI.out)
      have Hur := Lib.hid (Huz17.out.call HBI.out)
      have Har := Lib.hid (Haz17.out.call HBI.out)
      have Hbr := Lib.hid (Hbz17.out.call HBI.out)
      have Hxr := Lib.hid (Hxz17.out.call HBI.out)
      have Hyr := Lib.hid (Hyz17.out.call HBI.out)
      clear hle hj hlt
      have qa0_60 : wr.cell? ⟨wz10.heap.size, 0, none⟩ = some (.int .i64 ac) := Har.out.cell 0
      have qa1_60 : wr.cell? ⟨wz10.heap.size, 1, none⟩ = some (.int .i64 an) := Har.out.cell 1
      have qa2_60 : wr.cell? ⟨wz10.heap.size, 2, none⟩ = some (.int .i64 ad) := Har.out.cell 2
      have qa3_60 : wr.cell? ⟨wz10.heap.size, 3, none⟩ = some (.int .u64 ah) := Har.out.cell 3
      have qa4_60 : wr.cell? ⟨wz10.heap.size, 4, none⟩ = some (.int .u64 al) := Har.out.cell 4
      have la_60 : wz10.heap.size < wr.heap.size := Har.out.lt
      have hcz61 := HZ0.out wr
      go_wp2_with fail
      refine hcz61.mono ?_
      rintro e wz61 ⟨rfl, kz61⟩
      clear hcz61 qa0_60 qa1_60 qa2_60 qa3_60 qa4_60 la_60
      have HBz61 := Lib.hid (HBr.out.trans (kz61.mono (Nat.le_trans hbase HBr.out.size)))
      have Hpz61 := Lib.hid (Hpr.out.call kz61)
      have Hnz61 := Lib.hid (Hnr.out.call kz61)
      have Hcz61 := Lib.hid (Hcr.out.call kz61)
      have Huz61 := Lib.hid (Hur.out.call kz61)
      have Haz61 := Lib.hid (Har.out.call kz61)
      have Hbz61 := Lib.hid (Hbr.out.call kz61)
      have Hxz61 := Lib.hid (Hxr.out.call kz61)
      have Hyz61 := Lib.hid (Hyr.out.call kz61)
      clear kz61
      have qb0_61 : wz61.cell? ⟨wz12.heap.size, 0, none⟩ = some (.int .i64 bc) := Hbz61.out.cell 0
      have qb1_61 : wz61.cell? ⟨wz12.heap.size, 1, none⟩ = some (.int .i64 bn) := Hbz61.out.cell 1
      have qb2_61 : wz61.cell? ⟨wz12.heap.size, 2, none⟩ = some (.int .i64 ad) := Hbz61.out.cell 2
      have qb3_61 : wz61.cell? ⟨wz12.heap.size, 3, none⟩ = some (.int .u64 ah) := Hbz61.out.cell 3
      have qb4_61 : wz61.cell? ⟨wz12.heap.size, 4, none⟩ = some (.int .u64 al) := Hbz61.out.cell 4
      have lb_61 : wz12.heap.size < wz61.heap.size := Hbz61.out.lt
      have hcz62 := HZ0.out wz61
      go_wp2_with fail
      refine hcz62.mono ?_
      rintro e wz62 ⟨rfl, kz62⟩
      clear hcz62 qb0_61 qb1_61 qb2_61 qb3_61 qb4_61 lb_61
      have HBz62 := Lib.hid (HBz61.out.trans (kz62.mono (Nat.le_trans hbase HBz61.out.size)))
      have Hpz62 := Lib.hid (Hpz61.out.call kz62)
      have Hnz62 := Lib.hid (Hnz61.out.call kz62)
      have Hcz62 := Lib.hid (Hcz61.out.call kz62)
      have Huz62 := Lib.hid (Huz61.out.call kz62)
      have Haz62 := Lib.hid (Haz61.out.call kz62)
      have Hbz62 := Lib.hid (Hbz61.out.call kz62)
      have Hxz62 := Lib.hid (Hxz61.out.call kz62)
      have Hyz62 := Lib.hid (Hyz61.out.call kz62)
      clear kz62
      have qx0_62 : wz62.cell? ⟨wz14.heap.size, 0, none⟩ = some (.int .i64 xc) := Hxz62.out.cell 0
      have qx1_62 : wz62.cell? ⟨wz14.heap.size, 1, none⟩ = some (.int .i64 xn) := Hxz62.out.cell 1
      have qx2_62 : wz62.cell? ⟨wz14.heap.size, 2, none⟩ = some (.int .i64 xd) := Hxz62.out.cell 2
      have qx3_62 : wz62.cell? ⟨wz14.heap.size, 3, none⟩ = some (.int .u64 xh) := Hxz62.out.cell 3
      have qx4_62 : wz62.cell? ⟨wz14.heap.size, 4, none⟩ = some (.int .u64 xl) := Hxz62.out.cell 4
      have lx_62 : wz14.heap.size < wz62.heap.size := Hxz62.out.lt
      have hcz63 := HZ1.out wz62
      go_wp2_with fail
      refine hcz63.mono ?_
      rintro e wz63 ⟨rfl, kz63⟩
      clear hcz63 qx0_62 qx1_62 qx2_62 qx3_62 qx4_62 lx_62
      have HBz63 := Lib.hid (HBz62.out.trans (kz63.mono (Nat.le_trans hbase HBz62.out.size)))
      have Hpz63 := Lib.hid (Hpz62.out.call kz63)
      have Hnz63 := Lib.hid (Hnz62.out.call kz63)
      have Hcz63 := Lib.hid (Hcz62.out.call kz63)
      have Huz63 := Lib.hid (Huz62.out.call kz63)
      have Haz63 := Lib.hid (Haz62.out.call kz63)
      have Hbz63 := Lib.hid (Hbz62.out.call kz63)
      have Hxz63 := Lib.hid (Hxz62.out.call kz63)
      have Hyz63 := Lib.hid (Hyz62.out.call kz63)
      clear kz63
      have qy0_63 : wz63.cell? ⟨wz16.heap.size, 0, none⟩ = some (.int .i64 yc) := Hyz63.out.cell 0
      have qy1_63 : wz63.cell? ⟨wz16.heap.size, 1, none⟩ = some (.int .i64 yn) := Hyz63.out.cell 1
      have qy2_63 : wz63.cell? ⟨wz16.heap.size, 2, none⟩ = some (.int .i64 xd) := Hyz63.out.cell 2
      have qy3_63 : wz63.cell? ⟨wz16.heap.size, 3, none⟩ = some (.int .u64 xh) := Hyz63.out.cell 3
      have qy4_63 : wz63.cell? ⟨wz16.heap.size, 4, none⟩ = some (.int .u64 xl) := Hyz63.out.cell 4
      have ly_63 : wz16.heap.size < wz63.heap.size := Hyz63.out.lt
      have hcz64 := HZ1.out wz63
      go_wp2_with fail
      refine hcz64.mono ?_
      rintro e wz64 ⟨rfl, kz64⟩
      clear hcz64 qy0_63 qy1_63 qy2_63 qy3_63 qy4_63 ly_63
      have HBz64 := Lib.hid (HBz63.out.trans (kz64.mono (Nat.le_trans hbase HBz63.out.size)))
      have Hpz64 := Lib.hid (Hpz63.out.call kz64)
      have Hnz64 := Lib.hid (Hnz63.out.call kz64)
      have Hcz64 := Lib.hid (Hcz63.out.call kz64)
      have Huz64 := Lib.hid (Huz63.out.call kz64)
      have Haz64 := Lib.hid (Haz63.out.call kz64)
      have Hbz64 := Lib.hid (Hbz63.out.call kz64)
      have Hxz64 := Lib.hid (Hxz63.out.call kz64)
      have Hyz64 := Lib.hid (Hyz63.out.call kz64)
      clear kz64
      have qp0_64 : wz64.cell? ⟨wz1.heap.size, 0, none⟩ = some (.int .i64 2) := Hpz64.out.cell 0
      have qp1_64 : wz64.cell? ⟨wz1.heap.size, 1, none⟩ = some (.int .i64 S) := Hpz64.out.cell 1
      have qp2_64 : wz64.cell? ⟨wz1.heap.size, 2, none⟩ = some (.int .i64 (k : Nat)) := Hpz64.out.cell 2
      have qp3_64 : wz64.cell? ⟨wz1.heap.size, 3, none⟩ = some (.int .i64 s) := Hpz64.out.cell 3
      have lp_64 : wz1.heap.size < wz64.heap.size := Hpz64.out.lt
      have s0 := Xs0.out; have q1 := Xq1.out; have q2 := Xq2.out; have q3 := Xq3.out
      go_wp2
      go_ret
      exact ⟨rfl, HBz64.out⟩
set_option linter.unusedSimpArgs false in
set_option linter.unusedVariables false in
set_option maxHeartbeats 8000000 in
set_option maxRecDepth 100000 in
theorem alike16_b1 (size S s z d kk mm ac an ad ah al bc bn xc xn xd xh xl yc yn ci cr P : Int) (k : Nat) (cs zs : List Int) (ao : Option Addr) (n cap : Nat) (w : World) (hck : cs.length = k) (hzk : zs.length = k) (hk25 : k ≤ 25) (hsum : ∀ j, 0 ≤ ssum (cs.take j) ∧ ssum (cs.take j) ≤ 25000000) (hs : ssum cs = s)
    (hsame : ∀ (j : Nat) (c e : Int), cs[j]? = some c → zs[j]? = some e → c = e ∨ (c ≠ e ∧ ¬ e ≤ S)) (hkk : min (max d 0) S = kk) (hmm : min (max d 0) 1000000 = mm) (hk0 : ((k : Int) == 0) = false) (s0 : (s == 0) = false) (e1 : wrap64 ((k : Nat) * S) = P) (s1 : (s == P) = true) (q1 : (ci == 0) = true) (q2 : (kk == S) = true)
    (HM0 : Hid (∀ W, Below w.heap.size w W → Calls Try.prog 17 #[.int .i64 0, .int .i64 size, .slice ao n cap] W (MPost 2 S s k cs W)))
    (HP0 : Hid (∀ W, Calls Try.prog 15 #[.agg #[.int .i64 2, .int .i64 S, .int .i64 (k : Nat), .int .i64 s], .int .i64 kk] W fun e w' => e = .returned (.tuple #[.agg #[.int .i64 ac, .int .i64 an, .int .i64 ad, .int .u64 ah, .int .u64 al], .int .i64 0]) ∧ Below W.heap.size W w'))
    (HM1 : Hid (∀ W, Below w.heap.size w W → Calls Try.prog 17 #[.int .i64 1, .int .i64 size, .slice ao n cap] W (MPost 3 S s k cs W)))
    (HP1 : Hid (∀ W, Calls Try.prog 15 #[.agg #[.int .i64 3, .int .i64 S, .int .i64 (k : Nat), .int .i64 s], .int .i64 kk] W fun e w' => e = .returned (.tuple #[.agg #[.int .i64 bc, .int .i64 bn, .int .i64 ad, .int .u64 ah, .int .u64 al], .int .i64 0]) ∧ Below W.heap.size W w'))
    (HM2 : Hid (∀ W, Below w.heap.size w W → Calls Try.prog 17 #[.int .i64 2, .int .i64 size, .slice ao n cap] W (MPost 4 1 z k zs W)))
    (HP2 : Hid (∀ W, Calls Try.prog 15 #[.agg #[.int .i64 4, .int .i64 1, .int .i64 (k : Nat), .int .i64 z], .int .i64 mm] W fun e w' => e = .returned (.tuple #[.agg #[.int .i64 xc, .int .i64 xn, .int .i64 xd, .int .u64 xh, .int .u64 xl], .int .i64 0]) ∧ Below W.heap.size W w'))
    (HM3 : Hid (∀ W, Below w.heap.size w W → Calls Try.prog 17 #[.int .i64 3, .int .i64 size, .slice ao n cap] W (MPost 5 S z k zs W)))
    (HP3 : Hid (∀ W, Calls Try.prog 15 #[.agg #[.int .i64 5, .int .i64 S, .int .i64 (k : Nat), .int .i64 z], .int .i64 mm] W fun e w' => e = .returned (.tuple #[.agg #[.int .i64 yc, .int .i64 yn, .int .i64 xd, .int .u64 xh, .int .u64 xl], .int .i64 0]) ∧ Below W.heap.size W w'))
    (HAL : Hid (∀ W, Calls Try.prog 11 #[] W fun e w' => e = .returned (.bool true) ∧ Below W.heap.size W w'))
    (HZ0 : Hid (∀ W, Calls Try.prog 18 #[.int .i64 ad, .agg #[.int .u64 ah, .int .u64 al]] W fun e w' => e = .returned (.tuple #[.int .i64 ci, .int .i64 0]) ∧ Below W.heap.size W w'))
    (HZ1 : Hid (∀ W, Calls Try.prog 18 #[.int .i64 xd, .agg #[.int .u64 xh, .int .u64 xl]] W fun e w' => e = .returned (.tuple #[.int .i64 cr, .int .i64 0]) ∧ Below W.heap.size W w'))
    : Calls Try.prog 6 #[.int .i64 size, .slice ao n cap, .int .i64 d] w fun e w' => e = .returned (.bool true) ∧ Below w.heap.size w w' := by
  have HCK := Lib.hid hck; have HZK := Lib.hid hzk; have HSUM := Lib.hid hsum; have HSS := Lib.hid hs; have HSAME := Lib.hid hsame
  have Xs0 := Lib.hid s0; have Xe1 := Lib.hid e1; have Xs1 := Lib.hid s1; have Xq1 := Lib.hid q1; have Xq2 := Lib.hid q2
  clear s0 e1 s1 q1 q2
  have hbase := Nat.le_refl w.heap.size
  have HB0 := Lib.hid (Below.refl w.heap.size w)
  clear hck hzk hsum hs hsame
  go_enter Try.func6, Try.ntmps6
  have hcz1 := HM0.out w HB0.out
  go_wp2_with fail
  refine hcz1.mono ?_
  rintro e wz1 ⟨ao0, cap0, rfl, hr0, kz1⟩
  clear hcz1
  have HBz1 := Lib.hid (HB0.out.trans (kz1.mono (Nat.le_trans hbase HB0.out.size)))
  clear kz1
  have HR0 := Lib.hid hr0
  clear hr0
  obtain ⟨wz2, hwz2⟩ : ∃ wz2, wz1.alloc (.cells #[.int .i64 2, .int .i64 S, .int .i64 (k : Nat), .int .i64 s] 23) = wz2 := ⟨_, rfl⟩
  have kz2 : Below wz1.heap.size wz1 wz2 := by rw [← hwz2]; exact (Below.refl _ _).alloc (Nat.le_refl _) _
  have Hpz2 := Lib.hid (show Has wz2 wz1.heap.size [.int .i64 2, .int .i64 S, .int .i64 (k : Nat), .int .i64 s] 23 by rw [← hwz2]; exact Has.new _ _ _)
  have HWz2 := Lib.hid hwz2
  clear hwz2
  have HBz2 := Lib.hid (HBz1.out.trans (kz2.mono (Nat.le_trans hbase HBz1.out.size)))
  have Hr0z2 := Lib.hid (HR0.out.below kz2)
  clear kz2
  go_upto_region 2 with fail
  rw [HWz2.out]
  have hcz3 := HM1.out wz2 HBz2.out
  go_wp2_with fail
  refine hcz3.mono ?_
  rintro e wz3 ⟨ao1, cap1, rfl, hr1, kz3⟩
  clear hcz3
  have HBz3 := Lib.hid (HBz2.out.trans (kz3.mono (Nat.le_trans hbase HBz2.out.size)))
  have Hpz3 := Lib.hid (Hpz2.out.call kz3)
  have Hr0z3 := Lib.hid (Hr0z2.out.below kz3)
  clear kz3
  have HR1 := Lib.hid hr1
  clear hr1
  obtain ⟨wz4, hwz4⟩ : ∃ wz4, wz3.alloc (.cells #[.int .i64 3, .int .i64 S, .int .i64 (k : Nat), .int .i64 s] 23) = wz4 := ⟨_, rfl⟩
  have kz4 : Below wz3.heap.size wz3 wz4 := by rw [← hwz4]; exact (Below.refl _ _).alloc (Nat.le_refl _) _
  have Hnz4 := Lib.hid (show Has wz4 wz3.heap.size [.int .i64 3, .int .i64 S, .int .i64 (k : Nat), .int .i64 s] 23 by rw [← hwz4]; exact Has.new _ _ _)
  have HWz4 := Lib.hid hwz4
  clear hwz4
  have HBz4 := Lib.hid (HBz3.out.trans (kz4.mono (Nat.le_trans hbase HBz3.out.size)))
  have Hpz4 := Lib.hid (Hpz3.out.call kz4)
  have Hr0z4 := Lib.hid (Hr0z3.out.below kz4)
  have Hr1z4 := Lib.hid (HR1.out.below kz4)
  clear kz4
  go_upto_region 3 with fail
  rw [HWz4.out]
  have hcz5 := HM2.out wz4 HBz4.out
  go_wp2_with fail
  refine hcz5.mono ?_
  rintro e wz5 ⟨ao2, cap2, rfl, hr2, kz5⟩
  clear hcz5
  have HBz5 := Lib.hid (HBz4.out.trans (kz5.mono (Nat.le_trans hbase HBz4.out.size)))
  have Hpz5 := Lib.hid (Hpz4.out.call kz5)
  have Hnz5 := Lib.hid (Hnz4.out.call kz5)
  have Hr0z5 := Lib.hid (Hr0z4.out.below kz5)
  have Hr1z5 := Lib.hid (Hr1z4.out.below kz5)
  clear kz5
  have HR2 := Lib.hid hr2
  clear hr2
  obtain ⟨wz6, hwz6⟩ : ∃ wz6, wz5.alloc (.cells #[.int .i64 4, .int .i64 1, .int .i64 (k : Nat), .int .i64 z] 23) = wz6 := ⟨_, rfl⟩
  have kz6 : Below wz5.heap.size wz5 wz6 := by rw [← hwz6]; exact (Below.refl _ _).alloc (Nat.le_refl _) _
  have Hcz6 := Lib.hid (show Has wz6 wz5.heap.size [.int .i64 4, .int .i64 1, .int .i64 (k : Nat), .int .i64 z] 23 by rw [← hwz6]; exact Has.new _ _ _)
  have HWz6 := Lib.hid hwz6
  clear hwz6
  have HBz6 := Lib.hid (HBz5.out.trans (kz6.mono (Nat.le_trans hbase HBz5.out.size)))
  have Hpz6 := Lib.hid (Hpz5.out.call kz6)
  have Hnz6 := Lib.hid (Hnz5.out.call kz6)
  have Hr0z6 := Lib.hid (Hr0z5.out.below kz6)
  have Hr1z6 := Lib.hid (Hr1z5.out.below kz6)
  have Hr2z6 := Lib.hid (HR2.out.below kz6)
  clear kz6
  go_upto_region 4 with fail
  rw [HWz6.out]
  have hcz7 := HM3.out wz6 HBz6.out
  go_wp2_with fail
  refine hcz7.mono ?_
  rintro e wz7 ⟨ao3, cap3, rfl, hr3, kz7⟩
  clear hcz7
  have HBz7 := Lib.hid (HBz6.out.trans (kz7.mono (Nat.le_trans hbase HBz6.out.size)))
  have Hpz7 := Lib.hid (Hpz6.out.call kz7)
  have Hnz7 := Lib.hid (Hnz6.out.call kz7)
  have Hcz7 := Lib.hid (Hcz6.out.call kz7)
  have Hr0z7 := Lib.hid (Hr0z6.out.below kz7)
  have Hr1z7 := Lib.hid (Hr1z6.out.below kz7)
  have Hr2z7 := Lib.hid (Hr2z6.out.below kz7)
  clear kz7
  have HR3 := Lib.hid hr3
  clear hr3
  obtain ⟨wz8, hwz8⟩ : ∃ wz8, wz7.alloc (.cells #[.int .i64 5, .int .i64 S, .int .i64 (k : Nat), .int .i64 z] 23) = wz8 := ⟨_, rfl⟩
  have kz8 : Below wz7.heap.size wz7 wz8 := by rw [← hwz8]; exact (Below.refl _ _).alloc (Nat.le_refl _) _
  have Huz8 := Lib.hid (show Has wz8 wz7.heap.size [.int .i64 5, .int .i64 S, .int .i64 (k : Nat), .int .i64 z] 23 by rw [← hwz8]; exact Has.new _ _ _)
  have HWz8 := Lib.hid hwz8
  clear hwz8
  have HBz8 := Lib.hid (HBz7.out.trans (kz8.mono (Nat.le_trans hbase HBz7.out.size)))
  have Hpz8 := Lib.hid (Hpz7.out.call kz8)
  have Hnz8 := Lib.hid (Hnz7.out.call kz8)
  have Hcz8 := Lib.hid (Hcz7.out.call kz8)
  have Hr0z8 := Lib.hid (Hr0z7.out.below kz8)
  have Hr1z8 := Lib.hid (Hr1z7.out.below kz8)
  have Hr2z8 := Lib.hid (Hr2z7.out.below kz8)
  have Hr3z8 := Lib.hid (HR3.out.below kz8)
  clear kz8
  go_upto_region 5 with fail
  rw [HWz8.out]
  have hcz9 := HAL.out wz8
  go_wp2_with fail
  refine hcz9.mono ?_
  rintro e wz9 ⟨rfl, kz9⟩
  clear hcz9
  have HBz9 := Lib.hid (HBz8.out.trans (kz9.mono (Nat.le_trans hbase HBz8.out.size)))
  have Hpz9 := Lib.hid (Hpz8.out.call kz9)
  have Hnz9 := Lib.hid (Hnz8.out.call kz9)
  have Hcz9 := Lib.hid (Hcz8.out.call kz9)
  have Huz9 := Lib.hid (Huz8.out.call kz9)
  have Hr0z9 := Lib.hid (Hr0z8.out.below kz9)
  have Hr1z9 := Lib.hid (Hr1z8.out.below kz9)
  have Hr2z9 := Lib.hid (Hr2z8.out.below kz9)
  have Hr3z9 := Lib.hid (Hr3z8.out.below kz9)
  clear kz9
  have qp0_9 : wz9.cell? ⟨wz1.heap.size, 0, none⟩ = some (.int .i64 2) := Hpz9.out.cell 0
  have qp1_9 : wz9.cell? ⟨wz1.heap.size, 1, none⟩ = some (.int .i64 S) := Hpz9.out.cell 1
  have qp2_9 : wz9.cell? ⟨wz1.heap.size, 2, none⟩ = some (.int .i64 (k : Nat)) := Hpz9.out.cell 2
  have qp3_9 : wz9.cell? ⟨wz1.heap.size, 3, none⟩ = some (.int .i64 s) := Hpz9.out.cell 3
  have lp_9 : wz1.heap.size < wz9.heap.size := Hpz9.out.lt
  have hcz10 := HP0.out wz9
  go_wp2_with fail
  refine hcz10.mono ?_
  rintro e wz10 ⟨rfl, kz10⟩
  clear hcz10 qp0_9 qp1_9 qp2_9 qp3_9 lp_9
  have HBz10 := Lib.hid (HBz9.out.trans (kz10.mono (Nat.le_trans hbase HBz9.out.size)))
  have Hpz10 := Lib.hid (Hpz9.out.call kz10)
  have Hnz10 := Lib.hid (Hnz9.out.call kz10)
  have Hcz10 := Lib.hid (Hcz9.out.call kz10)
  have Huz10 := Lib.hid (Huz9.out.call kz10)
  have Hr0z10 := Lib.hid (Hr0z9.out.below kz10)
  have Hr1z10 := Lib.hid (Hr1z9.out.below kz10)
  have Hr2z10 := Lib.hid (Hr2z9.out.below kz10)
  have Hr3z10 := Lib.hid (Hr3z9.out.below kz10)
  clear kz10
  obtain ⟨wz11, hwz11⟩ : ∃ wz11, wz10.alloc (.cells #[.int .i64 ac, .int .i64 an, .int .i64 ad, .int .u64 ah, .int .u64 al] 38) = wz11 := ⟨_, rfl⟩
  have kz11 : Below wz10.heap.size wz10 wz11 := by rw [← hwz11]; exact (Below.refl _ _).alloc (Nat.le_refl _) _
  have Haz11 := Lib.hid (show Has wz11 wz10.heap.size [.int .i64 ac, .int .i64 an, .int .i64 ad, .int .u64 ah, .int .u64 al] 38 by rw [← hwz11]; exact Has.new _ _ _)
  have HWz11 := Lib.hid hwz11
  clear hwz11
  have HBz11 := Lib.hid (HBz10.out.trans (kz11.mono (Nat.le_trans hbase HBz10.out.size)))
  have Hpz11 := Lib.hid (Hpz10.out.call kz11)
  have Hnz11 := Lib.hid (Hnz10.out.call kz11)
  have Hcz11 := Lib.hid (Hcz10.out.call kz11)
  have Huz11 := Lib.hid (Huz10.out.call kz11)
  have Hr0z11 := Lib.hid (Hr0z10.out.below kz11)
  have Hr1z11 := Lib.hid (Hr1z10.out.below kz11)
  have Hr2z11 := Lib.hid (Hr2z10.out.below kz11)
  have Hr3z11 := Lib.hid (Hr3z10.out.below kz11)
  clear kz11
  go_upto_region 10 with fail
  rw [HWz11.out]
  have qn0_11 : wz11.cell? ⟨wz3.heap.size, 0, none⟩ = some (.int .i64 3) := Hnz11.out.cell 0
  have qn1_11 : wz11.cell? ⟨wz3.heap.size, 1, none⟩ = some (.int .i64 S) := Hnz11.out.cell 1
  have qn2_11 : wz11.cell? ⟨wz3.heap.size, 2, none⟩ = some (.int .i64 (k : Nat)) := Hnz11.out.cell 2
  have qn3_11 : wz11.cell? ⟨wz3.heap.size, 3, none⟩ = some (.int .i64 s) := Hnz11.out.cell 3
  have ln_11 : wz3.heap.size < wz11.heap.size := Hnz11.out.lt
  have hcz12 := HP1.out wz11
  go_wp2_with fail
  refine hcz12.mono ?_
  rintro e wz12 ⟨rfl, kz12⟩
  clear hcz12 qn0_11 qn1_11 qn2_11 qn3_11 ln_11
  have HBz12 := Lib.hid (HBz11.out.trans (kz12.mono (Nat.le_trans hbase HBz11.out.size)))
  have Hpz12 := Lib.hid (Hpz11.out.call kz12)
  have Hnz12 := Lib.hid (Hnz11.out.call kz12)
  have Hcz12 := Lib.hid (Hcz11.out.call kz12)
  have Huz12 := Lib.hid (Huz11.out.call kz12)
  have Haz12 := Lib.hid (Haz11.out.call kz12)
  have Hr0z12 := Lib.hid (Hr0z11.out.below kz12)
  have Hr1z12 := Lib.hid (Hr1z11.out.below kz12)
  have Hr2z12 := Lib.hid (Hr2z11.out.below kz12)
  have Hr3z12 := Lib.hid (Hr3z11.out.below kz12)
  clear kz12
  obtain ⟨wz13, hwz13⟩ : ∃ wz13, wz12.alloc (.cells #[.int .i64 bc, .int .i64 bn, .int .i64 ad, .int .u64 ah, .int .u64 al] 38) = wz13 := ⟨_, rfl⟩
  have kz13 : Below wz12.heap.size wz12 wz13 := by rw [← hwz13]; exact (Below.refl _ _).alloc (Nat.le_refl _) _
  have Hbz13 := Lib.hid (show Has wz13 wz12.heap.size [.int .i64 bc, .int .i64 bn, .int .i64 ad, .int .u64 ah, .int .u64 al] 38 by rw [← hwz13]; exact Has.new _ _ _)
  have HWz13 := Lib.hid hwz13
  clear hwz13
  have HBz13 := Lib.hid (HBz12.out.trans (kz13.mono (Nat.le_trans hbase HBz12.out.size)))
  have Hpz13 := Lib.hid (Hpz12.out.call kz13)
  have Hnz13 := Lib.hid (Hnz12.out.call kz13)
  have Hcz13 := Lib.hid (Hcz12.out.call kz13)
  have Huz13 := Lib.hid (Huz12.out.call kz13)
  have Haz13 := Lib.hid (Haz12.out.call kz13)
  have Hr0z13 := Lib.hid (Hr0z12.out.below kz13)
  have Hr1z13 := Lib.hid (Hr1z12.out.below kz13)
  have Hr2z13 := Lib.hid (Hr2z12.out.below kz13)
  have Hr3z13 := Lib.hid (Hr3z12.out.below kz13)
  clear kz13
  go_upto_region 11 with fail
  rw [HWz13.out]
  have qc0_13 : wz13.cell? ⟨wz5.heap.size, 0, none⟩ = some (.int .i64 4) := Hcz13.out.cell 0
  have qc1_13 : wz13.cell? ⟨wz5.heap.size, 1, none⟩ = some (.int .i64 1) := Hcz13.out.cell 1
  have qc2_13 : wz13.cell? ⟨wz5.heap.size, 2, none⟩ = some (.int .i64 (k : Nat)) := Hcz13.out.cell 2
  have qc3_13 : wz13.cell? ⟨wz5.heap.size, 3, none⟩ = some (.int .i64 z) := Hcz13.out.cell 3
  have lc_13 : wz5.heap.size < wz13.heap.size := Hcz13.out.lt
  have hcz14 := HP2.out wz13
  go_wp2_with fail
  refine hcz14.mono ?_
  rintro e wz14 ⟨rfl, kz14⟩
  clear hcz14 qc0_13 qc1_13 qc2_13 qc3_13 lc_13
  have HBz14 := Lib.hid (HBz13.out.trans (kz14.mono (Nat.le_trans hbase HBz13.out.size)))
  have Hpz14 := Lib.hid (Hpz13.out.call kz14)
  have Hnz14 := Lib.hid (Hnz13.out.call kz14)
  have Hcz14 := Lib.hid (Hcz13.out.call kz14)
  have Huz14 := Lib.hid (Huz13.out.call kz14)
  have Haz14 := Lib.hid (Haz13.out.call kz14)
  have Hbz14 := Lib.hid (Hbz13.out.call kz14)
  have Hr0z14 := Lib.hid (Hr0z13.out.below kz14)
  have Hr1z14 := Lib.hid (Hr1z13.out.below kz14)
  have Hr2z14 := Lib.hid (Hr2z13.out.below kz14)
  have Hr3z14 := Lib.hid (Hr3z13.out.below kz14)
  clear kz14
  obtain ⟨wz15, hwz15⟩ : ∃ wz15, wz14.alloc (.cells #[.int .i64 xc, .int .i64 xn, .int .i64 xd, .int .u64 xh, .int .u64 xl] 38) = wz15 := ⟨_, rfl⟩
  have kz15 : Below wz14.heap.size wz14 wz15 := by rw [← hwz15]; exact (Below.refl _ _).alloc (Nat.le_refl _) _
  have Hxz15 := Lib.hid (show Has wz15 wz14.heap.size [.int .i64 xc, .int .i64 xn, .int .i64 xd, .int .u64 xh, .int .u64 xl] 38 by rw [← hwz15]; exact Has.new _ _ _)
  have HWz15 := Lib.hid hwz15
  clear hwz15
  have HBz15 := Lib.hid (HBz14.out.trans (kz15.mono (Nat.le_trans hbase HBz14.out.size)))
  have Hpz15 := Lib.hid (Hpz14.out.call kz15)
  have Hnz15 := Lib.hid (Hnz14.out.call kz15)
  have Hcz15 := Lib.hid (Hcz14.out.call kz15)
  have Huz15 := Lib.hid (Huz14.out.call kz15)
  have Haz15 := Lib.hid (Haz14.out.call kz15)
  have Hbz15 := Lib.hid (Hbz14.out.call kz15)
  have Hr0z15 := Lib.hid (Hr0z14.out.below kz15)
  have Hr1z15 := Lib.hid (Hr1z14.out.below kz15)
  have Hr2z15 := Lib.hid (Hr2z14.out.below kz15)
  have Hr3z15 := Lib.hid (Hr3z14.out.below kz15)
  clear kz15
  go_upto_region 12 with fail
  rw [HWz15.out]
  have qu0_15 : wz15.cell? ⟨wz7.heap.size, 0, none⟩ = some (.int .i64 5) := Huz15.out.cell 0
  have qu1_15 : wz15.cell? ⟨wz7.heap.size, 1, none⟩ = some (.int .i64 S) := Huz15.out.cell 1
  have qu2_15 : wz15.cell? ⟨wz7.heap.size, 2, none⟩ = some (.int .i64 (k : Nat)) := Huz15.out.cell 2
  have qu3_15 : wz15.cell? ⟨wz7.heap.size, 3, none⟩ = some (.int .i64 z) := Huz15.out.cell 3
  have lu_15 : wz7.heap.size < wz15.heap.size := Huz15.out.lt
  have hcz16 := HP3.out wz15
  go_wp2_with fail
  refine hcz16.mono ?_
  rintro e wz16 ⟨rfl, kz16⟩
  clear hcz16 qu0_15 qu1_15 qu2_15 qu3_15 lu_15
  have HBz16 := Lib.hid (HBz15.out.trans (kz16.mono (Nat.le_trans hbase HBz15.out.size)))
  have Hpz16 := Lib.hid (Hpz15.out.call kz16)
  have Hnz16 := Lib.hid (Hnz15.out.call kz16)
  have Hcz16 := Lib.hid (Hcz15.out.call kz16)
  have Huz16 := Lib.hid (Huz15.out.call kz16)
  have Haz16 := Lib.hid (Haz15.out.call kz16)
  have Hbz16 := Lib.hid (Hbz15.out.call kz16)
  have Hxz16 := Lib.hid (Hxz15.out.call kz16)
  have Hr0z16 := Lib.hid (Hr0z15.out.below kz16)
  have Hr1z16 := Lib.hid (Hr1z15.out.below kz16)
  have Hr2z16 := Lib.hid (Hr2z15.out.below kz16)
  have Hr3z16 := Lib.hid (Hr3z15.out.below kz16)
  clear kz16
  obtain ⟨wz17, hwz17⟩ : ∃ wz17, wz16.alloc (.cells #[.int .i64 yc, .int .i64 yn, .int .i64 xd, .int .u64 xh, .int .u64 xl] 38) = wz17 := ⟨_, rfl⟩
  have kz17 : Below wz16.heap.size wz16 wz17 := by rw [← hwz17]; exact (Below.refl _ _).alloc (Nat.le_refl _) _
  have Hyz17 := Lib.hid (show Has wz17 wz16.heap.size [.int .i64 yc, .int .i64 yn, .int .i64 xd, .int .u64 xh, .int .u64 xl] 38 by rw [← hwz17]; exact Has.new _ _ _)
  have HWz17 := Lib.hid hwz17
  clear hwz17
  have HBz17 := Lib.hid (HBz16.out.trans (kz17.mono (Nat.le_trans hbase HBz16.out.size)))
  have Hpz17 := Lib.hid (Hpz16.out.call kz17)
  have Hnz17 := Lib.hid (Hnz16.out.call kz17)
  have Hcz17 := Lib.hid (Hcz16.out.call kz17)
  have Huz17 := Lib.hid (Huz16.out.call kz17)
  have Haz17 := Lib.hid (Haz16.out.call kz17)
  have Hbz17 := Lib.hid (Hbz16.out.call kz17)
  have Hxz17 := Lib.hid (Hxz16.out.call kz17)
  have Hr0z17 := Lib.hid (Hr0z16.out.below kz17)
  have Hr1z17 := Lib.hid (Hr1z16.out.below kz17)
  have Hr2z17 := Lib.hid (Hr2z16.out.below kz17)
  have Hr3z17 := Lib.hid (Hr3z16.out.below kz17)
  clear kz17
  go_upto_region 13 with fail
  rw [HWz17.out]
  clear hkk hmm
  go_wp2_with fail
  clear hk0
  have HJ := Lib.hid (show AlkRel cs k wz17 (.int .i64 0) (.int .i64 0) wz17 from ⟨0, Nat.zero_le _, rfl, by rw [List.take_zero]; rfl, Below.refl _ _⟩)
  go_loopw [29, 137] (AlkRel cs k wz17) (fun _ iv _ => k - (intOf iv).toNat)
  case atStart => exact HJ.out
  case round =>
    obtain ⟨j, hj, rfl, rfl, hb⟩ := hrel
    rename World => wr
    have HBI := Lib.hid hb
    clear HJ hb
    by_cases hlt : j < k
    · obtain ⟨c, hc⟩ : ∃ c, cs[j]? = some c := ⟨_, List.getElem?_eq_getElem (by rw [HCK.out]; exact hlt)⟩
      obtain ⟨e, he⟩ : ∃ e, zs[j]? = some e := ⟨_, List.getElem?_eq_getElem (by rw [HZK.out]; exact hlt)⟩
      obtain ⟨br, off, hao, hbr, hcc⟩ := (Hr0z17.out.below HBI.out).spot hc
      obtain ⟨bz, ofz, haz, hbz, hcz⟩ := (Hr2z17.out.below HBI.out).spot he
      have h1 := HSUM.out j
      have h2 := HSUM.out (j + 1)
      have hsp := part_step hc
      rw [hsp] at h2
      have hor := HSAME.out j c e hc he
      obtain ⟨a, ha⟩ : ∃ a, ssum (cs.take j) = a := ⟨_, rfl⟩
      rw [ha] at h1 h2 hsp ⊢
      have hw : wrap64 (a + c) = a + c := wrapJ6 (by omega)
      have HSP := Lib.hid hsp; have HLT := Lib.hid hlt; have HTp := Lib.hid (Hpz17.out.call HBI.out)
      have hjz : (j : Int) < (k : Int) := by omega
      have hjx : 0 ≤ (j : Int) ∧ (j : Int) < (k : Int) := by omega
      have c1 : wr.cell? ⟨wz1.heap.size, 1, none⟩ = some (.int .i64 S) := HTp.out.cell 1
      have cl : wz1.heap.size < wr.heap.size := HTp.out.lt
      have HQ := Lib.hid (fun (W : World) (hW : Below wz17.heap.size wz17 W) => show AlkRel cs k wz17 (.int .i64 (a + c)) (.int .i64 ((j : Int) + 1)) W from ⟨j + 1, HLT.out, rfl, by rw [HSP.out], hW⟩)
      subst hao haz
      clear hj hlt hc he h1 h2 hsp ha
      rcases hor with hce | ⟨hce, hes⟩
      · subst hce
        have hg : (c != c) = false := by simp
        go_wp2
        go_quiet (fail)
        go_wp2
        go_roundw
        case rel => rw [hw]; exact HQ.out _ ⟨HBI.out.os, HBI.out.tape, HBI.out.output, HBI.out.size, HBI.out.block⟩
        case measure => have := HLT.out; simp [intOf]; omega
      · have hg : (c != e) = true := by simp [hce]
        have hle : decide (e ≤ S) = false := decide_eq_false (by omega)
        clear hce
        go_wp2
        go_quiet (fail)
        go_wp2
        go_roundw
        case rel => rw [hw]; exact HQ.out _ ⟨HBI.out.os, HBI.out.tape, HBI.out.output, HBI.out.size, HBI.out.block⟩
        case measure => have := HLT.out; simp [intOf]; omega
    · obtain rfl : k = j := by omega
      have hle : cs.take k = cs := List.take_of_length_le (by rw [HCK.out]; exact Nat.le_refl _)
      rw [hle, HSS.out]
      have HBr := Lib.hid (HBz17.out.trans (HBI.out.mono (Nat.le_trans hbase HBz17.out.size)))
      have Hpr := Lib.hid (Hpz17.out.call HBI.out)
      have Hnr := Lib.hid (Hnz17.out.call HBI.out)
      have Hcr := Lib.hid (Hcz17.out.call HBI.out)
      have Hur := Lib.hid (Huz17.out.call HBI.out)
      have Har := Lib.hid (Haz17.out.call HBI.out)
      have Hbr := Lib.hid (Hbz17.out.call HBI.out)
      have Hxr := Lib.hid (Hxz17.out.call HBI.out)
      have Hyr := Lib.hid (Hyz17.out.call HBI.out)
      clear hle hj hlt
      have qa0_60 : wr.cell? ⟨wz10.heap.size, 0, none⟩ = some (.int .i64 ac) := Har.out.cell 0
      have qa1_60 : wr.cell? ⟨wz10.heap.size, 1, none⟩ = some (.int .i64 an) := Har.out.cell 1
      have qa2_60 : wr.cell? ⟨wz10.heap.size, 2, none⟩ = some (.int .i64 ad) := Har.out.cell 2
      have qa3_60 : wr.cell? ⟨wz10.heap.size, 3, none⟩ = some (.int .u64 ah) := Har.out.cell 3
      have qa4_60 : wr.cell? ⟨wz10.heap.size, 4, none⟩ = some (.int .u64 al) := Har.out.cell 4
      have la_60 : wz10.heap.size < wr.heap.size := Har.out.lt
      have hcz61 := HZ0.out wr
      go_wp2_with fail
      refine hcz61.mono ?_
      rintro e wz61 ⟨rfl, kz61⟩
      clear hcz61 qa0_60 qa1_60 qa2_60 qa3_60 qa4_60 la_60
      have HBz61 := Lib.hid (HBr.out.trans (kz61.mono (Nat.le_trans hbase HBr.out.size)))
      have Hpz61 := Lib.hid (Hpr.out.call kz61)
      have Hnz61 := Lib.hid (Hnr.out.call kz61)
      have Hcz61 := Lib.hid (Hcr.out.call kz61)
      have Huz61 := Lib.hid (Hur.out.call kz61)
      have Haz61 := Lib.hid (Har.out.call kz61)
      have Hbz61 := Lib.hid (Hbr.out.call kz61)
      have Hxz61 := Lib.hid (Hxr.out.call kz61)
      have Hyz61 := Lib.hid (Hyr.out.call kz61)
      clear kz61
      have qb0_61 : wz61.cell? ⟨wz12.heap.size, 0, none⟩ = some (.int .i64 bc) := Hbz61.out.cell 0
      have qb1_61 : wz61.cell? ⟨wz12.heap.size, 1, none⟩ = some (.int .i64 bn) := Hbz61.out.cell 1
      have qb2_61 : wz61.cell? ⟨wz12.heap.size, 2, none⟩ = some (.int .i64 ad) := Hbz61.out.cell 2
      have qb3_61 : wz61.cell? ⟨wz12.heap.size, 3, none⟩ = some (.int .u64 ah) := Hbz61.out.cell 3
      have qb4_61 : wz61.cell? ⟨wz12.heap.size, 4, none⟩ = some (.int .u64 al) := Hbz61.out.cell 4
      have lb_61 : wz12.heap.size < wz61.heap.size := Hbz61.out.lt
      have hcz62 := HZ0.out wz61
      go_wp2_with fail
      refine hcz62.mono ?_
      rintro e wz62 ⟨rfl, kz62⟩
      clear hcz62 qb0_61 qb1_61 qb2_61 qb3_61 qb4_61 lb_61
      have HBz62 := Lib.hid (HBz61.out.trans (kz62.mono (Nat.le_trans hbase HBz61.out.size)))
      have Hpz62 := Lib.hid (Hpz61.out.call kz62)
      have Hnz62 := Lib.hid (Hnz61.out.call kz62)
      have Hcz62 := Lib.hid (Hcz61.out.call kz62)
      have Huz62 := Lib.hid (Huz61.out.call kz62)
      have Haz62 := Lib.hid (Haz61.out.call kz62)
      have Hbz62 := Lib.hid (Hbz61.out.call kz62)
      have Hxz62 := Lib.hid (Hxz61.out.call kz62)
      have Hyz62 := Lib.hid (Hyz61.out.call kz62)
      clear kz62
      have qx0_62 : wz62.cell? ⟨wz14.heap.size, 0, none⟩ = some (.int .i64 xc) := Hxz62.out.cell 0
      have qx1_62 : wz62.cell? ⟨wz14.heap.size, 1, none⟩ = some (.int .i64 xn) := Hxz62.out.cell 1
      have qx2_62 : wz62.cell? ⟨wz14.heap.size, 2, none⟩ = some (.int .i64 xd) := Hxz62.out.cell 2
      have qx3_62 : wz62.cell? ⟨wz14.heap.size, 3, none⟩ = some (.int .u64 xh) := Hxz62.out.cell 3
      have qx4_62 : wz62.cell? ⟨wz14.heap.size, 4, none⟩ = some (.int .u64 xl) := Hxz62.out.cell 4
      have lx_62 : wz14.heap.size < wz62.heap.size := Hxz62.out.lt
      have hcz63 := HZ1.out wz62
      go_wp2_with fail
      refine hcz63.mono ?_
      rintro e wz63 ⟨rfl, kz63⟩
      clear hcz63 qx0_62 qx1_62 qx2_62 qx3_62 qx4_62 lx_62
      have HBz63 := Lib.hid (HBz62.out.trans (kz63.mono (Nat.le_trans hbase HBz62.out.size)))
      have Hpz63 := Lib.hid (Hpz62.out.call kz63)
      have Hnz63 := Lib.hid (Hnz62.out.call kz63)
      have Hcz63 := Lib.hid (Hcz62.out.call kz63)
      have Huz63 := Lib.hid (Huz62.out.call kz63)
      have Haz63 := Lib.hid (Haz62.out.call kz63)
      have Hbz63 := Lib.hid (Hbz62.out.call kz63)
      have Hxz63 := Lib.hid (Hxz62.out.call kz63)
      have Hyz63 := Lib.hid (Hyz62.out.call kz63)
      clear kz63
      have qy0_63 : wz63.cell? ⟨wz16.heap.size, 0, none⟩ = some (.int .i64 yc) := Hyz63.out.cell 0
      have qy1_63 : wz63.cell? ⟨wz16.heap.size, 1, none⟩ = some (.int .i64 yn) := Hyz63.out.cell 1
      have qy2_63 : wz63.cell? ⟨wz16.heap.size, 2, none⟩ = some (.int .i64 xd) := Hyz63.out.cell 2
      have qy3_63 : wz63.cell? ⟨wz16.heap.size, 3, none⟩ = some (.int .u64 xh) := Hyz63.out.cell 3
      have qy4_63 : wz63.cell? ⟨wz16.heap.size, 4, none⟩ = some (.int .u64 xl) := Hyz63.out.cell 4
      have ly_63 : wz16.heap.size < wz63.heap.size := Hyz63.out.lt
      have hcz64 := HZ1.out wz63
      go_wp2_with fail
      refine hcz64.mono ?_
      rintro e wz64 ⟨rfl, kz64⟩
      clear hcz64 qy0_63 qy1_63 qy2_63 qy3_63 qy4_63 ly_63
      have HBz64 := Lib.hid (HBz63.out.trans (kz64.mono (Nat.le_trans hbase HBz63.out.size)))
      have Hpz64 := Lib.hid (Hpz63.out.call kz64)
      have Hnz64 := Lib.hid (Hnz63.out.call kz64)
      have Hcz64 := Lib.hid (Hcz63.out.call kz64)
      have Huz64 := Lib.hid (Huz63.out.call kz64)
      have Haz64 := Lib.hid (Haz63.out.call kz64)
      have Hbz64 := Lib.hid (Hbz63.out.call kz64)
      have Hxz64 := Lib.hid (Hxz63.out.call kz64)
      have Hyz64 := Lib.hid (Hyz63.out.call kz64)
      clear kz64
      have qp0_64 : wz64.cell? ⟨wz1.heap.size, 0, none⟩ = some (.int .i64 2) := Hpz64.out.cell 0
      have qp1_64 : wz64.cell? ⟨wz1.heap.size, 1, none⟩ = some (.int .i64 S) := Hpz64.out.cell 1
      have qp2_64 : wz64.cell? ⟨wz1.heap.size, 2, none⟩ = some (.int .i64 (k : Nat)) := Hpz64.out.cell 2
      have qp3_64 : wz64.cell? ⟨wz1.heap.size, 3, none⟩ = some (.int .i64 s) := Hpz64.out.cell 3
      have lp_64 : wz1.heap.size < wz64.heap.size := Hpz64.out.lt
      have s0 := Xs0.out; have e1 := Xe1.out; have s1 := Xs1.out; have q1 := Xq1.out; have q2 := Xq2.out
      go_wp2
      go_ret
      exact ⟨rfl, HBz64.out⟩
set_option linter.unusedSimpArgs false in
set_option linter.unusedVariables false in
set_option maxHeartbeats 8000000 in
set_option maxRecDepth 100000 in
theorem alike16_b2 (size S s z d kk mm ac an ad ah al bc bn xc xn xd xh xl yc yn ci cr P : Int) (k : Nat) (cs zs : List Int) (ao : Option Addr) (n cap : Nat) (w : World) (hck : cs.length = k) (hzk : zs.length = k) (hk25 : k ≤ 25) (hsum : ∀ j, 0 ≤ ssum (cs.take j) ∧ ssum (cs.take j) ≤ 25000000) (hs : ssum cs = s)
    (hsame : ∀ (j : Nat) (c e : Int), cs[j]? = some c → zs[j]? = some e → c = e ∨ (c ≠ e ∧ ¬ e ≤ S)) (hkk : min (max d 0) S = kk) (hmm : min (max d 0) 1000000 = mm) (hk0 : ((k : Int) == 0) = false) (s0 : (s == 0) = false) (e1 : wrap64 ((k : Nat) * S) = P) (s1 : (s == P) = true) (q1 : (ci == 0) = false) (q2 : (kk == S) = false) (q3 : (ci == -4) = true)
    (HM0 : Hid (∀ W, Below w.heap.size w W → Calls Try.prog 17 #[.int .i64 0, .int .i64 size, .slice ao n cap] W (MPost 2 S s k cs W)))
    (HP0 : Hid (∀ W, Calls Try.prog 15 #[.agg #[.int .i64 2, .int .i64 S, .int .i64 (k : Nat), .int .i64 s], .int .i64 kk] W fun e w' => e = .returned (.tuple #[.agg #[.int .i64 ac, .int .i64 an, .int .i64 ad, .int .u64 ah, .int .u64 al], .int .i64 0]) ∧ Below W.heap.size W w'))
    (HM1 : Hid (∀ W, Below w.heap.size w W → Calls Try.prog 17 #[.int .i64 1, .int .i64 size, .slice ao n cap] W (MPost 3 S s k cs W)))
    (HP1 : Hid (∀ W, Calls Try.prog 15 #[.agg #[.int .i64 3, .int .i64 S, .int .i64 (k : Nat), .int .i64 s], .int .i64 kk] W fun e w' => e = .returned (.tuple #[.agg #[.int .i64 bc, .int .i64 bn, .int .i64 ad, .int .u64 ah, .int .u64 al], .int .i64 0]) ∧ Below W.heap.size W w'))
    (HM2 : Hid (∀ W, Below w.heap.size w W → Calls Try.prog 17 #[.int .i64 2, .int .i64 size, .slice ao n cap] W (MPost 4 1 z k zs W)))
    (HP2 : Hid (∀ W, Calls Try.prog 15 #[.agg #[.int .i64 4, .int .i64 1, .int .i64 (k : Nat), .int .i64 z], .int .i64 mm] W fun e w' => e = .returned (.tuple #[.agg #[.int .i64 xc, .int .i64 xn, .int .i64 xd, .int .u64 xh, .int .u64 xl], .int .i64 0]) ∧ Below W.heap.size W w'))
    (HM3 : Hid (∀ W, Below w.heap.size w W → Calls Try.prog 17 #[.int .i64 3, .int .i64 size, .slice ao n cap] W (MPost 5 S z k zs W)))
    (HP3 : Hid (∀ W, Calls Try.prog 15 #[.agg #[.int .i64 5, .int .i64 S, .int .i64 (k : Nat), .int .i64 z], .int .i64 mm] W fun e w' => e = .returned (.tuple #[.agg #[.int .i64 yc, .int .i64 yn, .int .i64 xd, .int .u64 xh, .int .u64 xl], .int .i64 0]) ∧ Below W.heap.size W w'))
    (HAL : Hid (∀ W, Calls Try.prog 11 #[] W fun e w' => e = .returned (.bool true) ∧ Below W.heap.size W w'))
    (HZ0 : Hid (∀ W, Calls Try.prog 18 #[.int .i64 ad, .agg #[.int .u64 ah, .int .u64 al]] W fun e w' => e = .returned (.tuple #[.int .i64 ci, .int .i64 0]) ∧ Below W.heap.size W w'))
    (HZ1 : Hid (∀ W, Calls Try.prog 18 #[.int .i64 xd, .agg #[.int .u64 xh, .int .u64 xl]] W fun e w' => e = .returned (.tuple #[.int .i64 cr, .int .i64 0]) ∧ Below W.heap.size W w'))
    : Calls Try.prog 6 #[.int .i64 size, .slice ao n cap, .int .i64 d] w fun e w' => e = .returned (.bool true) ∧ Below w.heap.size w w' := by
  have HCK := Lib.hid hck; have HZK := Lib.hid hzk; have HSUM := Lib.hid hsum; have HSS := Lib.hid hs; have HSAME := Lib.hid hsame
  have Xs0 := Lib.hid s0; have Xe1 := Lib.hid e1; have Xs1 := Lib.hid s1; have Xq1 := Lib.hid q1; have Xq2 := Lib.hid q2; have Xq3 := Lib.hid q3
  clear s0 e1 s1 q1 q2 q3
  have hbase := Nat.le_refl w.heap.size
  have HB0 := Lib.hid (Below.refl w.heap.size w)
  clear hck hzk hsum hs hsame
  go_enter Try.func6, Try.ntmps6
  have hcz1 := HM0.out w HB0.out
  go_wp2_with fail
  refine hcz1.mono ?_
  rintro e wz1 ⟨ao0, cap0, rfl, hr0, kz1⟩
  clear hcz1
  have HBz1 := Lib.hid (HB0.out.trans (kz1.mono (Nat.le_trans hbase HB0.out.size)))
  clear kz1
  have HR0 := Lib.hid hr0
  clear hr0
  obtain ⟨wz2, hwz2⟩ : ∃ wz2, wz1.alloc (.cells #[.int .i64 2, .int .i64 S, .int .i64 (k : Nat), .int .i64 s] 23) = wz2 := ⟨_, rfl⟩
  have kz2 : Below wz1.heap.size wz1 wz2 := by rw [← hwz2]; exact (Below.refl _ _).alloc (Nat.le_refl _) _
  have Hpz2 := Lib.hid (show Has wz2 wz1.heap.size [.int .i64 2, .int .i64 S, .int .i64 (k : Nat), .int .i64 s] 23 by rw [← hwz2]; exact Has.new _ _ _)
  have HWz2 := Lib.hid hwz2
  clear hwz2
  have HBz2 := Lib.hid (HBz1.out.trans (kz2.mono (Nat.le_trans hbase HBz1.out.size)))
  have Hr0z2 := Lib.hid (HR0.out.below kz2)
  clear kz2
  go_upto_region 2 with fail
  rw [HWz2.out]
  have hcz3 := HM1.out wz2 HBz2.out
  go_wp2_with fail
  refine hcz3.mono ?_
  rintro e wz3 ⟨ao1, cap1, rfl, hr1, kz3⟩
  clear hcz3
  have HBz3 := Lib.hid (HBz2.out.trans (kz3.mono (Nat.le_trans hbase HBz2.out.size)))
  have Hpz3 := Lib.hid (Hpz2.out.call kz3)
  have Hr0z3 := Lib.hid (Hr0z2.out.below kz3)
  clear kz3
  have HR1 := Lib.hid hr1
  clear hr1
  obtain ⟨wz4, hwz4⟩ : ∃ wz4, wz3.alloc (.cells #[.int .i64 3, .int .i64 S, .int .i64 (k : Nat), .int .i64 s] 23) = wz4 := ⟨_, rfl⟩
  have kz4 : Below wz3.heap.size wz3 wz4 := by rw [← hwz4]; exact (Below.refl _ _).alloc (Nat.le_refl _) _
  have Hnz4 := Lib.hid (show Has wz4 wz3.heap.size [.int .i64 3, .int .i64 S, .int .i64 (k : Nat), .int .i64 s] 23 by rw [← hwz4]; exact Has.new _ _ _)
  have HWz4 := Lib.hid hwz4
  clear hwz4
  have HBz4 := Lib.hid (HBz3.out.trans (kz4.mono (Nat.le_trans hbase HBz3.out.size)))
  have Hpz4 := Lib.hid (Hpz3.out.call kz4)
  have Hr0z4 := Lib.hid (Hr0z3.out.below kz4)
  have Hr1z4 := Lib.hid (HR1.out.below kz4)
  clear kz4
  go_upto_region 3 with fail
  rw [HWz4.out]
  have hcz5 := HM2.out wz4 HBz4.out
  go_wp2_with fail
  refine hcz5.mono ?_
  rintro e wz5 ⟨ao2, cap2, rfl, hr2, kz5⟩
  clear hcz5
  have HBz5 := Lib.hid (HBz4.out.trans (kz5.mono (Nat.le_trans hbase HBz4.out.size)))
  have Hpz5 := Lib.hid (Hpz4.out.call kz5)
  have Hnz5 := Lib.hid (Hnz4.out.call kz5)
  have Hr0z5 := Lib.hid (Hr0z4.out.below kz5)
  have Hr1z5 := Lib.hid (Hr1z4.out.below kz5)
  clear kz5
  have HR2 := Lib.hid hr2
  clear hr2
  obtain ⟨wz6, hwz6⟩ : ∃ wz6, wz5.alloc (.cells #[.int .i64 4, .int .i64 1, .int .i64 (k : Nat), .int .i64 z] 23) = wz6 := ⟨_, rfl⟩
  have kz6 : Below wz5.heap.size wz5 wz6 := by rw [← hwz6]; exact (Below.refl _ _).alloc (Nat.le_refl _) _
  have Hcz6 := Lib.hid (show Has wz6 wz5.heap.size [.int .i64 4, .int .i64 1, .int .i64 (k : Nat), .int .i64 z] 23 by rw [← hwz6]; exact Has.new _ _ _)
  have HWz6 := Lib.hid hwz6
  clear hwz6
  have HBz6 := Lib.hid (HBz5.out.trans (kz6.mono (Nat.le_trans hbase HBz5.out.size)))
  have Hpz6 := Lib.hid (Hpz5.out.call kz6)
  have Hnz6 := Lib.hid (Hnz5.out.call kz6)
  have Hr0z6 := Lib.hid (Hr0z5.out.below kz6)
  have Hr1z6 := Lib.hid (Hr1z5.out.below kz6)
  have Hr2z6 := Lib.hid (HR2.out.below kz6)
  clear kz6
  go_upto_region 4 with fail
  rw [HWz6.out]
  have hcz7 := HM3.out wz6 HBz6.out
  go_wp2_with fail
  refine hcz7.mono ?_
  rintro e wz7 ⟨ao3, cap3, rfl, hr3, kz7⟩
  clear hcz7
  have HBz7 := Lib.hid (HBz6.out.trans (kz7.mono (Nat.le_trans hbase HBz6.out.size)))
  have Hpz7 := Lib.hid (Hpz6.out.call kz7)
  have Hnz7 := Lib.hid (Hnz6.out.call kz7)
  have Hcz7 := Lib.hid (Hcz6.out.call kz7)
  have Hr0z7 := Lib.hid (Hr0z6.out.below kz7)
  have Hr1z7 := Lib.hid (Hr1z6.out.below kz7)
  have Hr2z7 := Lib.hid (Hr2z6.out.below kz7)
  clear kz7
  have HR3 := Lib.hid hr3
  clear hr3
  obtain ⟨wz8, hwz8⟩ : ∃ wz8, wz7.alloc (.cells #[.int .i64 5, .int .i64 S, .int .i64 (k : Nat), .int .i64 z] 23) = wz8 := ⟨_, rfl⟩
  have kz8 : Below wz7.heap.size wz7 wz8 := by rw [← hwz8]; exact (Below.refl _ _).alloc (Nat.le_refl _) _
  have Huz8 := Lib.hid (show Has wz8 wz7.heap.size [.int .i64 5, .int .i64 S, .int .i64 (k : Nat), .int .i64 z] 23 by rw [← hwz8]; exact Has.new _ _ _)
  have HWz8 := Lib.hid hwz8
  clear hwz8
  have HBz8 := Lib.hid (HBz7.out.trans (kz8.mono (Nat.le_trans hbase HBz7.out.size)))
  have Hpz8 := Lib.hid (Hpz7.out.call kz8)
  have Hnz8 := Lib.hid (Hnz7.out.call kz8)
  have Hcz8 := Lib.hid (Hcz7.out.call kz8)
  have Hr0z8 := Lib.hid (Hr0z7.out.below kz8)
  have Hr1z8 := Lib.hid (Hr1z7.out.below kz8)
  have Hr2z8 := Lib.hid (Hr2z7.out.below kz8)
  have Hr3z8 := Lib.hid (HR3.out.below kz8)
  clear kz8
  go_upto_region 5 with fail
  rw [HWz8.out]
  have hcz9 := HAL.out wz8
  go_wp2_with fail
  refine hcz9.mono ?_
  rintro e wz9 ⟨rfl, kz9⟩
  clear hcz9
  have HBz9 := Lib.hid (HBz8.out.trans (kz9.mono (Nat.le_trans hbase HBz8.out.size)))
  have Hpz9 := Lib.hid (Hpz8.out.call kz9)
  have Hnz9 := Lib.hid (Hnz8.out.call kz9)
  have Hcz9 := Lib.hid (Hcz8.out.call kz9)
  have Huz9 := Lib.hid (Huz8.out.call kz9)
  have Hr0z9 := Lib.hid (Hr0z8.out.below kz9)
  have Hr1z9 := Lib.hid (Hr1z8.out.below kz9)
  have Hr2z9 := Lib.hid (Hr2z8.out.below kz9)
  have Hr3z9 := Lib.hid (Hr3z8.out.below kz9)
  clear kz9
  have qp0_9 : wz9.cell? ⟨wz1.heap.size, 0, none⟩ = some (.int .i64 2) := Hpz9.out.cell 0
  have qp1_9 : wz9.cell? ⟨wz1.heap.size, 1, none⟩ = some (.int .i64 S) := Hpz9.out.cell 1
  have qp2_9 : wz9.cell? ⟨wz1.heap.size, 2, none⟩ = some (.int .i64 (k : Nat)) := Hpz9.out.cell 2
  have qp3_9 : wz9.cell? ⟨wz1.heap.size, 3, none⟩ = some (.int .i64 s) := Hpz9.out.cell 3
  have lp_9 : wz1.heap.size < wz9.heap.size := Hpz9.out.lt
  have hcz10 := HP0.out wz9
  go_wp2_with fail
  refine hcz10.mono ?_
  rintro e wz10 ⟨rfl, kz10⟩
  clear hcz10 qp0_9 qp1_9 qp2_9 qp3_9 lp_9
  have HBz10 := Lib.hid (HBz9.out.trans (kz10.mono (Nat.le_trans hbase HBz9.out.size)))
  have Hpz10 := Lib.hid (Hpz9.out.call kz10)
  have Hnz10 := Lib.hid (Hnz9.out.call kz10)
  have Hcz10 := Lib.hid (Hcz9.out.call kz10)
  have Huz10 := Lib.hid (Huz9.out.call kz10)
  have Hr0z10 := Lib.hid (Hr0z9.out.below kz10)
  have Hr1z10 := Lib.hid (Hr1z9.out.below kz10)
  have Hr2z10 := Lib.hid (Hr2z9.out.below kz10)
  have Hr3z10 := Lib.hid (Hr3z9.out.below kz10)
  clear kz10
  obtain ⟨wz11, hwz11⟩ : ∃ wz11, wz10.alloc (.cells #[.int .i64 ac, .int .i64 an, .int .i64 ad, .int .u64 ah, .int .u64 al] 38) = wz11 := ⟨_, rfl⟩
  have kz11 : Below wz10.heap.size wz10 wz11 := by rw [← hwz11]; exact (Below.refl _ _).alloc (Nat.le_refl _) _
  have Haz11 := Lib.hid (show Has wz11 wz10.heap.size [.int .i64 ac, .int .i64 an, .int .i64 ad, .int .u64 ah, .int .u64 al] 38 by rw [← hwz11]; exact Has.new _ _ _)
  have HWz11 := Lib.hid hwz11
  clear hwz11
  have HBz11 := Lib.hid (HBz10.out.trans (kz11.mono (Nat.le_trans hbase HBz10.out.size)))
  have Hpz11 := Lib.hid (Hpz10.out.call kz11)
  have Hnz11 := Lib.hid (Hnz10.out.call kz11)
  have Hcz11 := Lib.hid (Hcz10.out.call kz11)
  have Huz11 := Lib.hid (Huz10.out.call kz11)
  have Hr0z11 := Lib.hid (Hr0z10.out.below kz11)
  have Hr1z11 := Lib.hid (Hr1z10.out.below kz11)
  have Hr2z11 := Lib.hid (Hr2z10.out.below kz11)
  have Hr3z11 := Lib.hid (Hr3z10.out.below kz11)
  clear kz11
  go_upto_region 10 with fail
  rw [HWz11.out]
  have qn0_11 : wz11.cell? ⟨wz3.heap.size, 0, none⟩ = some (.int .i64 3) := Hnz11.out.cell 0
  have qn1_11 : wz11.cell? ⟨wz3.heap.size, 1, none⟩ = some (.int .i64 S) := Hnz11.out.cell 1
  have qn2_11 : wz11.cell? ⟨wz3.heap.size, 2, none⟩ = some (.int .i64 (k : Nat)) := Hnz11.out.cell 2
  have qn3_11 : wz11.cell? ⟨wz3.heap.size, 3, none⟩ = some (.int .i64 s) := Hnz11.out.cell 3
  have ln_11 : wz3.heap.size < wz11.heap.size := Hnz11.out.lt
  have hcz12 := HP1.out wz11
  go_wp2_with fail
  refine hcz12.mono ?_
  rintro e wz12 ⟨rfl, kz12⟩
  clear hcz12 qn0_11 qn1_11 qn2_11 qn3_11 ln_11
  have HBz12 := Lib.hid (HBz11.out.trans (kz12.mono (Nat.le_trans hbase HBz11.out.size)))
  have Hpz12 := Lib.hid (Hpz11.out.call kz12)
  have Hnz12 := Lib.hid (Hnz11.out.call kz12)
  have Hcz12 := Lib.hid (Hcz11.out.call kz12)
  have Huz12 := Lib.hid (Huz11.out.call kz12)
  have Haz12 := Lib.hid (Haz11.out.call kz12)
  have Hr0z12 := Lib.hid (Hr0z11.out.below kz12)
  have Hr1z12 := Lib.hid (Hr1z11.out.below kz12)
  have Hr2z12 := Lib.hid (Hr2z11.out.below kz12)
  have Hr3z12 := Lib.hid (Hr3z11.out.below kz12)
  clear kz12
  obtain ⟨wz13, hwz13⟩ : ∃ wz13, wz12.alloc (.cells #[.int .i64 bc, .int .i64 bn, .int .i64 ad, .int .u64 ah, .int .u64 al] 38) = wz13 := ⟨_, rfl⟩
  have kz13 : Below wz12.heap.size wz12 wz13 := by rw [← hwz13]; exact (Below.refl _ _).alloc (Nat.le_refl _) _
  have Hbz13 := Lib.hid (show Has wz13 wz12.heap.size [.int .i64 bc, .int .i64 bn, .int .i64 ad, .int .u64 ah, .int .u64 al] 38 by rw [← hwz13]; exact Has.new _ _ _)
  have HWz13 := Lib.hid hwz13
  clear hwz13
  have HBz13 := Lib.hid (HBz12.out.trans (kz13.mono (Nat.le_trans hbase HBz12.out.size)))
  have Hpz13 := Lib.hid (Hpz12.out.call kz13)
  have Hnz13 := Lib.hid (Hnz12.out.call kz13)
  have Hcz13 := Lib.hid (Hcz12.out.call kz13)
  have Huz13 := Lib.hid (Huz12.out.call kz13)
  have Haz13 := Lib.hid (Haz12.out.call kz13)
  have Hr0z13 := Lib.hid (Hr0z12.out.below kz13)
  have Hr1z13 := Lib.hid (Hr1z12.out.below kz13)
  have Hr2z13 := Lib.hid (Hr2z12.out.below kz13)
  have Hr3z13 := Lib.hid (Hr3z12.out.below kz13)
  clear kz13
  go_upto_region 11 with fail
  rw [HWz13.out]
  have qc0_13 : wz13.cell? ⟨wz5.heap.size, 0, none⟩ = some (.int .i64 4) := Hcz13.out.cell 0
  have qc1_13 : wz13.cell? ⟨wz5.heap.size, 1, none⟩ = some (.int .i64 1) := Hcz13.out.cell 1
  have qc2_13 : wz13.cell? ⟨wz5.heap.size, 2, none⟩ = some (.int .i64 (k : Nat)) := Hcz13.out.cell 2
  have qc3_13 : wz13.cell? ⟨wz5.heap.size, 3, none⟩ = some (.int .i64 z) := Hcz13.out.cell 3
  have lc_13 : wz5.heap.size < wz13.heap.size := Hcz13.out.lt
  have hcz14 := HP2.out wz13
  go_wp2_with fail
  refine hcz14.mono ?_
  rintro e wz14 ⟨rfl, kz14⟩
  clear hcz14 qc0_13 qc1_13 qc2_13 qc3_13 lc_13
  have HBz14 := Lib.hid (HBz13.out.trans (kz14.mono (Nat.le_trans hbase HBz13.out.size)))
  have Hpz14 := Lib.hid (Hpz13.out.call kz14)
  have Hnz14 := Lib.hid (Hnz13.out.call kz14)
  have Hcz14 := Lib.hid (Hcz13.out.call kz14)
  have Huz14 := Lib.hid (Huz13.out.call kz14)
  have Haz14 := Lib.hid (Haz13.out.call kz14)
  have Hbz14 := Lib.hid (Hbz13.out.call kz14)
  have Hr0z14 := Lib.hid (Hr0z13.out.below kz14)
  have Hr1z14 := Lib.hid (Hr1z13.out.below kz14)
  have Hr2z14 := Lib.hid (Hr2z13.out.below kz14)
  have Hr3z14 := Lib.hid (Hr3z13.out.below kz14)
  clear kz14
  obtain ⟨wz15, hwz15⟩ : ∃ wz15, wz14.alloc (.cells #[.int .i64 xc, .int .i64 xn, .int .i64 xd, .int .u64 xh, .int .u64 xl] 38) = wz15 := ⟨_, rfl⟩
  have kz15 : Below wz14.heap.size wz14 wz15 := by rw [← hwz15]; exact (Below.refl _ _).alloc (Nat.le_refl _) _
  have Hxz15 := Lib.hid (show Has wz15 wz14.heap.size [.int .i64 xc, .int .i64 xn, .int .i64 xd, .int .u64 xh, .int .u64 xl] 38 by rw [← hwz15]; exact Has.new _ _ _)
  have HWz15 := Lib.hid hwz15
  clear hwz15
  have HBz15 := Lib.hid (HBz14.out.trans (kz15.mono (Nat.le_trans hbase HBz14.out.size)))
  have Hpz15 := Lib.hid (Hpz14.out.call kz15)
  have Hnz15 := Lib.hid (Hnz14.out.call kz15)
  have Hcz15 := Lib.hid (Hcz14.out.call kz15)
  have Huz15 := Lib.hid (Huz14.out.call kz15)
  have Haz15 := Lib.hid (Haz14.out.call kz15)
  have Hbz15 := Lib.hid (Hbz14.out.call kz15)
  have Hr0z15 := Lib.hid (Hr0z14.out.below kz15)
  have Hr1z15 := Lib.hid (Hr1z14.out.below kz15)
  have Hr2z15 := Lib.hid (Hr2z14.out.below kz15)
  have Hr3z15 := Lib.hid (Hr3z14.out.below kz15)
  clear kz15
  go_upto_region 12 with fail
  rw [HWz15.out]
  have qu0_15 : wz15.cell? ⟨wz7.heap.size, 0, none⟩ = some (.int .i64 5) := Huz15.out.cell 0
  have qu1_15 : wz15.cell? ⟨wz7.heap.size, 1, none⟩ = some (.int .i64 S) := Huz15.out.cell 1
  have qu2_15 : wz15.cell? ⟨wz7.heap.size, 2, none⟩ = some (.int .i64 (k : Nat)) := Huz15.out.cell 2
  have qu3_15 : wz15.cell? ⟨wz7.heap.size, 3, none⟩ = some (.int .i64 z) := Huz15.out.cell 3
  have lu_15 : wz7.heap.size < wz15.heap.size := Huz15.out.lt
  have hcz16 := HP3.out wz15
  go_wp2_with fail
  refine hcz16.mono ?_
  rintro e wz16 ⟨rfl, kz16⟩
  clear hcz16 qu0_15 qu1_15 qu2_15 qu3_15 lu_15
  have HBz16 := Lib.hid (HBz15.out.trans (kz16.mono (Nat.le_trans hbase HBz15.out.size)))
  have Hpz16 := Lib.hid (Hpz15.out.call kz16)
  have Hnz16 := Lib.hid (Hnz15.out.call kz16)
  have Hcz16 := Lib.hid (Hcz15.out.call kz16)
  have Huz16 := Lib.hid (Huz15.out.call kz16)
  have Haz16 := Lib.hid (Haz15.out.call kz16)
  have Hbz16 := Lib.hid (Hbz15.out.call kz16)
  have Hxz16 := Lib.hid (Hxz15.out.call kz16)
  have Hr0z16 := Lib.hid (Hr0z15.out.below kz16)
  have Hr1z16 := Lib.hid (Hr1z15.out.below kz16)
  have Hr2z16 := Lib.hid (Hr2z15.out.below kz16)
  have Hr3z16 := Lib.hid (Hr3z15.out.below kz16)
  clear kz16
  obtain ⟨wz17, hwz17⟩ : ∃ wz17, wz16.alloc (.cells #[.int .i64 yc, .int .i64 yn, .int .i64 xd, .int .u64 xh, .int .u64 xl] 38) = wz17 := ⟨_, rfl⟩
  have kz17 : Below wz16.heap.size wz16 wz17 := by rw [← hwz17]; exact (Below.refl _ _).alloc (Nat.le_refl _) _
  have Hyz17 := Lib.hid (show Has wz17 wz16.heap.size [.int .i64 yc, .int .i64 yn, .int .i64 xd, .int .u64 xh, .int .u64 xl] 38 by rw [← hwz17]; exact Has.new _ _ _)
  have HWz17 := Lib.hid hwz17
  clear hwz17
  have HBz17 := Lib.hid (HBz16.out.trans (kz17.mono (Nat.le_trans hbase HBz16.out.size)))
  have Hpz17 := Lib.hid (Hpz16.out.call kz17)
  have Hnz17 := Lib.hid (Hnz16.out.call kz17)
  have Hcz17 := Lib.hid (Hcz16.out.call kz17)
  have Huz17 := Lib.hid (Huz16.out.call kz17)
  have Haz17 := Lib.hid (Haz16.out.call kz17)
  have Hbz17 := Lib.hid (Hbz16.out.call kz17)
  have Hxz17 := Lib.hid (Hxz16.out.call kz17)
  have Hr0z17 := Lib.hid (Hr0z16.out.below kz17)
  have Hr1z17 := Lib.hid (Hr1z16.out.below kz17)
  have Hr2z17 := Lib.hid (Hr2z16.out.below kz17)
  have Hr3z17 := Lib.hid (Hr3z16.out.below kz17)
  clear kz17
  go_upto_region 13 with fail
  rw [HWz17.out]
  clear hkk hmm
  go_wp2_with fail
  clear hk0
  have HJ := Lib.hid (show AlkRel cs k wz17 (.int .i64 0) (.int .i64 0) wz17 from ⟨0, Nat.zero_le _, rfl, by rw [List.take_zero]; rfl, Below.refl _ _⟩)
  go_loopw [29, 137] (AlkRel cs k wz17) (fun _ iv _ => k - (intOf iv).toNat)
  case atStart => exact HJ.out
  case round =>
    obtain ⟨j, hj, rfl, rfl, hb⟩ := hrel
    rename World => wr
    have HBI := Lib.hid hb
    clear HJ hb
    by_cases hlt : j < k
    · obtain ⟨c, hc⟩ : ∃ c, cs[j]? = some c := ⟨_, List.getElem?_eq_getElem (by rw [HCK.out]; exact hlt)⟩
      obtain ⟨e, he⟩ : ∃ e, zs[j]? = some e := ⟨_, List.getElem?_eq_getElem (by rw [HZK.out]; exact hlt)⟩
      obtain ⟨br, off, hao, hbr, hcc⟩ := (Hr0z17.out.below HBI.out).spot hc
      obtain ⟨bz, ofz, haz, hbz, hcz⟩ := (Hr2z17.out.below HBI.out).spot he
      have h1 := HSUM.out j
      have h2 := HSUM.out (j + 1)
      have hsp := part_step hc
      rw [hsp] at h2
      have hor := HSAME.out j c e hc he
      obtain ⟨a, ha⟩ : ∃ a, ssum (cs.take j) = a := ⟨_, rfl⟩
      rw [ha] at h1 h2 hsp ⊢
      have hw : wrap64 (a + c) = a + c := wrapJ6 (by omega)
      have HSP := Lib.hid hsp; have HLT := Lib.hid hlt; have HTp := Lib.hid (Hpz17.out.call HBI.out)
      have hjz : (j : Int) < (k : Int) := by omega
      have hjx : 0 ≤ (j : Int) ∧ (j : Int) < (k : Int) := by omega
      have c1 : wr.cell? ⟨wz1.heap.size, 1, none⟩ = some (.int .i64 S) := HTp.out.cell 1
      have cl : wz1.heap.size < wr.heap.size := HTp.out.lt
      have HQ := Lib.hid (fun (W : World) (hW : Below wz17.heap.size wz17 W) => show AlkRel cs k wz17 (.int .i64 (a + c)) (.int .i64 ((j : Int) + 1)) W from ⟨j + 1, HLT.out, rfl, by rw [HSP.out], hW⟩)
      subst hao haz
      clear hj hlt hc he h1 h2 hsp ha
      rcases hor with hce | ⟨hce, hes⟩
      · subst hce
        have hg : (c != c) = false := by simp
        go_wp2
        go_quiet (fail)
        go_wp2
        go_roundw
        case rel => rw [hw]; exact HQ.out _ ⟨HBI.out.os, HBI.out.tape, HBI.out.output, HBI.out.size, HBI.out.block⟩
        case measure => have := HLT.out; simp [intOf]; omega
      · have hg : (c != e) = true := by simp [hce]
        have hle : decide (e ≤ S) = false := decide_eq_false (by omega)
        clear hce
        go_wp2
        go_quiet (fail)
        go_wp2
        go_roundw
        case rel => rw [hw]; exact HQ.out _ ⟨HBI.out.os, HBI.out.tape, HBI.out.output, HBI.out.size, HBI.out.block⟩
        case measure => have := HLT.out; simp [intOf]; omega
    · obtain rfl : k = j := by omega
      have hle : cs.take k = cs := List.take_of_length_le (by rw [HCK.out]; exact Nat.le_refl _)
      rw [hle, HSS.out]
      have HBr := Lib.hid (HBz17.out.trans (HBI.out.mono (Nat.le_trans hbase HBz17.out.size)))
      have Hpr := Lib.hid (Hpz17.out.call HBI.out)
      have Hnr := Lib.hid (Hnz17.out.call HBI.out)
      have Hcr := Lib.hid (Hcz17.out.call HBI.out)
      have Hur := Lib.hid (Huz17.out.call HBI.out)
      have Har := Lib.hid (Haz17.out.call HBI.out)
      have Hbr := Lib.hid (Hbz17.out.call HBI.out)
      have Hxr := Lib.hid (Hxz17.out.call HBI.out)
      have Hyr := Lib.hid (Hyz17.out.call HBI.out)
      clear hle hj hlt
      have qa0_60 : wr.cell? ⟨wz10.heap.size, 0, none⟩ = some (.int .i64 ac) := Har.out.cell 0
      have qa1_60 : wr.cell? ⟨wz10.heap.size, 1, none⟩ = some (.int .i64 an) := Har.out.cell 1
      have qa2_60 : wr.cell? ⟨wz10.heap.size, 2, none⟩ = some (.int .i64 ad) := Har.out.cell 2
      have qa3_60 : wr.cell? ⟨wz10.heap.size, 3, none⟩ = some (.int .u64 ah) := Har.out.cell 3
      have qa4_60 : wr.cell? ⟨wz10.heap.size, 4, none⟩ = some (.int .u64 al) := Har.out.cell 4
      have la_60 : wz10.heap.size < wr.heap.size := Har.out.lt
      have hcz61 := HZ0.out wr
      go_wp2_with fail
      refine hcz61.mono ?_
      rintro e wz61 ⟨rfl, kz61⟩
      clear hcz61 qa0_60 qa1_60 qa2_60 qa3_60 qa4_60 la_60
      have HBz61 := Lib.hid (HBr.out.trans (kz61.mono (Nat.le_trans hbase HBr.out.size)))
      have Hpz61 := Lib.hid (Hpr.out.call kz61)
      have Hnz61 := Lib.hid (Hnr.out.call kz61)
      have Hcz61 := Lib.hid (Hcr.out.call kz61)
      have Huz61 := Lib.hid (Hur.out.call kz61)
      have Haz61 := Lib.hid (Har.out.call kz61)
      have Hbz61 := Lib.hid (Hbr.out.call kz61)
      have Hxz61 := Lib.hid (Hxr.out.call kz61)
      have Hyz61 := Lib.hid (Hyr.out.call kz61)
      clear kz61
      have qb0_61 : wz61.cell? ⟨wz12.heap.size, 0, none⟩ = some (.int .i64 bc) := Hbz61.out.cell 0
      have qb1_61 : wz61.cell? ⟨wz12.heap.size, 1, none⟩ = some (.int .i64 bn) := Hbz61.out.cell 1
      have qb2_61 : wz61.cell? ⟨wz12.heap.size, 2, none⟩ = some (.int .i64 ad) := Hbz61.out.cell 2
      have qb3_61 : wz61.cell? ⟨wz12.heap.size, 3, none⟩ = some (.int .u64 ah) := Hbz61.out.cell 3
      have qb4_61 : wz61.cell? ⟨wz12.heap.size, 4, none⟩ = some (.int .u64 al) := Hbz61.out.cell 4
      have lb_61 : wz12.heap.size < wz61.heap.size := Hbz61.out.lt
      have hcz62 := HZ0.out wz61
      go_wp2_with fail
      refine hcz62.mono ?_
      rintro e wz62 ⟨rfl, kz62⟩
      clear hcz62 qb0_61 qb1_61 qb2_61 qb3_61 qb4_61 lb_61
      have HBz62 := Lib.hid (HBz61.out.trans (kz62.mono (Nat.le_trans hbase HBz61.out.size)))
      have Hpz62 := Lib.hid (Hpz61.out.call kz62)
      have Hnz62 := Lib.hid (Hnz61.out.call kz62)
      have Hcz62 := Lib.hid (Hcz61.out.call kz62)
      have Huz62 := Lib.hid (Huz61.out.call kz62)
      have Haz62 := Lib.hid (Haz61.out.call kz62)
      have Hbz62 := Lib.hid (Hbz61.out.call kz62)
      have Hxz62 := Lib.hid (Hxz61.out.call kz62)
      have Hyz62 := Lib.hid (Hyz61.out.call kz62)
      clear kz62
      have qx0_62 : wz62.cell? ⟨wz14.heap.size, 0, none⟩ = some (.int .i64 xc) := Hxz62.out.cell 0
      have qx1_62 : wz62.cell? ⟨wz14.heap.size, 1, none⟩ = some (.int .i64 xn) := Hxz62.out.cell 1
      have qx2_62 : wz62.cell? ⟨wz14.heap.size, 2, none⟩ = some (.int .i64 xd) := Hxz62.out.cell 2
      have qx3_62 : wz62.cell? ⟨wz14.heap.size, 3, none⟩ = some (.int .u64 xh) := Hxz62.out.cell 3
      have qx4_62 : wz62.cell? ⟨wz14.heap.size, 4, none⟩ = some (.int .u64 xl) := Hxz62.out.cell 4
      have lx_62 : wz14.heap.size < wz62.heap.size := Hxz62.out.lt
      have hcz63 := HZ1.out wz62
      go_wp2_with fail
      refine hcz63.mono ?_
      rintro e wz63 ⟨rfl, kz63⟩
      clear hcz63 qx0_62 qx1_62 qx2_62 qx3_62 qx4_62 lx_62
      have HBz63 := Lib.hid (HBz62.out.trans (kz63.mono (Nat.le_trans hbase HBz62.out.size)))
      have Hpz63 := Lib.hid (Hpz62.out.call kz63)
      have Hnz63 := Lib.hid (Hnz62.out.call kz63)
      have Hcz63 := Lib.hid (Hcz62.out.call kz63)
      have Huz63 := Lib.hid (Huz62.out.call kz63)
      have Haz63 := Lib.hid (Haz62.out.call kz63)
      have Hbz63 := Lib.hid (Hbz62.out.call kz63)
      have Hxz63 := Lib.hid (Hxz62.out.call kz63)
      have Hyz63 := Lib.hid (Hyz62.out.call kz63)
      clear kz63
      have qy0_63 : wz63.cell? ⟨wz16.heap.size, 0, none⟩ = some (.int .i64 yc) := Hyz63.out.cell 0
      have qy1_63 : wz63.cell? ⟨wz16.heap.size, 1, none⟩ = some (.int .i64 yn) := Hyz63.out.cell 1
      have qy2_63 : wz63.cell? ⟨wz16.heap.size, 2, none⟩ = some (.int .i64 xd) := Hyz63.out.cell 2
      have qy3_63 : wz63.cell? ⟨wz16.heap.size, 3, none⟩ = some (.int .u64 xh) := Hyz63.out.cell 3
      have qy4_63 : wz63.cell? ⟨wz16.heap.size, 4, none⟩ = some (.int .u64 xl) := Hyz63.out.cell 4
      have ly_63 : wz16.heap.size < wz63.heap.size := Hyz63.out.lt
      have hcz64 := HZ1.out wz63
      go_wp2_with fail
      refine hcz64.mono ?_
      rintro e wz64 ⟨rfl, kz64⟩
      clear hcz64 qy0_63 qy1_63 qy2_63 qy3_63 qy4_63 ly_63
      have HBz64 := Lib.hid (HBz63.out.trans (kz64.mono (Nat.le_trans hbase HBz63.out.size)))
      have Hpz64 := Lib.hid (Hpz63.out.call kz64)
      have Hnz64 := Lib.hid (Hnz63.out.call kz64)
      have Hcz64 := Lib.hid (Hcz63.out.call kz64)
      have Huz64 := Lib.hid (Huz63.out.call kz64)
      have Haz64 := Lib.hid (Haz63.out.call kz64)
      have Hbz64 := Lib.hid (Hbz63.out.call kz64)
      have Hxz64 := Lib.hid (Hxz63.out.call kz64)
      have Hyz64 := Lib.hid (Hyz63.out.call kz64)
      clear kz64
      have qp0_64 : wz64.cell? ⟨wz1.heap.size, 0, none⟩ = some (.int .i64 2) := Hpz64.out.cell 0
      have qp1_64 : wz64.cell? ⟨wz1.heap.size, 1, none⟩ = some (.int .i64 S) := Hpz64.out.cell 1
      have qp2_64 : wz64.cell? ⟨wz1.heap.size, 2, none⟩ = some (.int .i64 (k : Nat)) := Hpz64.out.cell 2
      have qp3_64 : wz64.cell? ⟨wz1.heap.size, 3, none⟩ = some (.int .i64 s) := Hpz64.out.cell 3
      have lp_64 : wz1.heap.size < wz64.heap.size := Hpz64.out.lt
      have s0 := Xs0.out; have e1 := Xe1.out; have s1 := Xs1.out; have q1 := Xq1.out; have q2 := Xq2.out; have q3 := Xq3.out
      go_wp2
      go_ret
      exact ⟨rfl, HBz64.out⟩
set_option linter.unusedSimpArgs false in
set_option linter.unusedVariables false in
set_option maxHeartbeats 8000000 in
set_option maxRecDepth 100000 in
theorem alike16_c (size S s z d kk mm ac an ad ah al bc bn xc xn xd xh xl yc yn ci cr P : Int) (k : Nat) (cs zs : List Int) (ao : Option Addr) (n cap : Nat) (w : World) (hck : cs.length = k) (hzk : zs.length = k) (hk25 : k ≤ 25) (hsum : ∀ j, 0 ≤ ssum (cs.take j) ∧ ssum (cs.take j) ≤ 25000000) (hs : ssum cs = s)
    (hsame : ∀ (j : Nat) (c e : Int), cs[j]? = some c → zs[j]? = some e → c = e ∨ (c ≠ e ∧ ¬ e ≤ S)) (hkk : min (max d 0) S = kk) (hmm : min (max d 0) 1000000 = mm) (hk0 : ((k : Int) == 0) = false) (s0 : (s == 0) = false) (e1 : wrap64 ((k : Nat) * S) = P) (s1 : (s == P) = false)
    (HM0 : Hid (∀ W, Below w.heap.size w W → Calls Try.prog 17 #[.int .i64 0, .int .i64 size, .slice ao n cap] W (MPost 2 S s k cs W)))
    (HP0 : Hid (∀ W, Calls Try.prog 15 #[.agg #[.int .i64 2, .int .i64 S, .int .i64 (k : Nat), .int .i64 s], .int .i64 kk] W fun e w' => e = .returned (.tuple #[.agg #[.int .i64 ac, .int .i64 an, .int .i64 ad, .int .u64 ah, .int .u64 al], .int .i64 0]) ∧ Below W.heap.size W w'))
    (HM1 : Hid (∀ W, Below w.heap.size w W → Calls Try.prog 17 #[.int .i64 1, .int .i64 size, .slice ao n cap] W (MPost 3 S s k cs W)))
    (HP1 : Hid (∀ W, Calls Try.prog 15 #[.agg #[.int .i64 3, .int .i64 S, .int .i64 (k : Nat), .int .i64 s], .int .i64 kk] W fun e w' => e = .returned (.tuple #[.agg #[.int .i64 bc, .int .i64 bn, .int .i64 ad, .int .u64 ah, .int .u64 al], .int .i64 0]) ∧ Below W.heap.size W w'))
    (HM2 : Hid (∀ W, Below w.heap.size w W → Calls Try.prog 17 #[.int .i64 2, .int .i64 size, .slice ao n cap] W (MPost 4 1 z k zs W)))
    (HP2 : Hid (∀ W, Calls Try.prog 15 #[.agg #[.int .i64 4, .int .i64 1, .int .i64 (k : Nat), .int .i64 z], .int .i64 mm] W fun e w' => e = .returned (.tuple #[.agg #[.int .i64 xc, .int .i64 xn, .int .i64 xd, .int .u64 xh, .int .u64 xl], .int .i64 0]) ∧ Below W.heap.size W w'))
    (HM3 : Hid (∀ W, Below w.heap.size w W → Calls Try.prog 17 #[.int .i64 3, .int .i64 size, .slice ao n cap] W (MPost 5 S z k zs W)))
    (HP3 : Hid (∀ W, Calls Try.prog 15 #[.agg #[.int .i64 5, .int .i64 S, .int .i64 (k : Nat), .int .i64 z], .int .i64 mm] W fun e w' => e = .returned (.tuple #[.agg #[.int .i64 yc, .int .i64 yn, .int .i64 xd, .int .u64 xh, .int .u64 xl], .int .i64 0]) ∧ Below W.heap.size W w'))
    (HAL : Hid (∀ W, Calls Try.prog 11 #[] W fun e w' => e = .returned (.bool true) ∧ Below W.heap.size W w'))
    (HZ0 : Hid (∀ W, Calls Try.prog 18 #[.int .i64 ad, .agg #[.int .u64 ah, .int .u64 al]] W fun e w' => e = .returned (.tuple #[.int .i64 ci, .int .i64 0]) ∧ Below W.heap.size W w'))
    (HZ1 : Hid (∀ W, Calls Try.prog 18 #[.int .i64 xd, .agg #[.int .u64 xh, .int .u64 xl]] W fun e w' => e = .returned (.tuple #[.int .i64 cr, .int .i64 0]) ∧ Below W.heap.size W w'))
    : Calls Try.prog 6 #[.int .i64 size, .slice ao n cap, .int .i64 d] w fun e w' => e = .returned (.bool true) ∧ Below w.heap.size w w' := by
  have HCK := Lib.hid hck; have HZK := Lib.hid hzk; have HSUM := Lib.hid hsum; have HSS := Lib.hid hs; have HSAME := Lib.hid hsame
  have Xs0 := Lib.hid s0; have Xe1 := Lib.hid e1; have Xs1 := Lib.hid s1
  clear s0 e1 s1
  have hbase := Nat.le_refl w.heap.size
  have HB0 := Lib.hid (Below.refl w.heap.size w)
  clear hck hzk hsum hs hsame
  go_enter Try.func6, Try.ntmps6
  have hcz1 := HM0.out w HB0.out
  go_wp2_with fail
  refine hcz1.mono ?_
  rintro e wz1 ⟨ao0, cap0, rfl, hr0, kz1⟩
  clear hcz1
  have HBz1 := Lib.hid (HB0.out.trans (kz1.mono (Nat.le_trans hbase HB0.out.size)))
  clear kz1
  have HR0 := Lib.hid hr0
  clear hr0
  obtain ⟨wz2, hwz2⟩ : ∃ wz2, wz1.alloc (.cells #[.int .i64 2, .int .i64 S, .int .i64 (k : Nat), .int .i64 s] 23) = wz2 := ⟨_, rfl⟩
  have kz2 : Below wz1.heap.size wz1 wz2 := by rw [← hwz2]; exact (Below.refl _ _).alloc (Nat.le_refl _) _
  have Hpz2 := Lib.hid (show Has wz2 wz1.heap.size [.int .i64 2, .int .i64 S, .int .i64 (k : Nat), .int .i64 s] 23 by rw [← hwz2]; exact Has.new _ _ _)
  have HWz2 := Lib.hid hwz2
  clear hwz2
  have HBz2 := Lib.hid (HBz1.out.trans (kz2.mono (Nat.le_trans hbase HBz1.out.size)))
  have Hr0z2 := Lib.hid (HR0.out.below kz2)
  clear kz2
  go_upto_region 2 with fail
  rw [HWz2.out]
  have hcz3 := HM1.out wz2 HBz2.out
  go_wp2_with fail
  refine hcz3.mono ?_
  rintro e wz3 ⟨ao1, cap1, rfl, hr1, kz3⟩
  clear hcz3
  have HBz3 := Lib.hid (HBz2.out.trans (kz3.mono (Nat.le_trans hbase HBz2.out.size)))
  have Hpz3 := Lib.hid (Hpz2.out.call kz3)
  have Hr0z3 := Lib.hid (Hr0z2.out.below kz3)
  clear kz3
  have HR1 := Lib.hid hr1
  clear hr1
  obtain ⟨wz4, hwz4⟩ : ∃ wz4, wz3.alloc (.cells #[.int .i64 3, .int .i64 S, .int .i64 (k : Nat), .int .i64 s] 23) = wz4 := ⟨_, rfl⟩
  have kz4 : Below wz3.heap.size wz3 wz4 := by rw [← hwz4]; exact (Below.refl _ _).alloc (Nat.le_refl _) _
  have Hnz4 := Lib.hid (show Has wz4 wz3.heap.size [.int .i64 3, .int .i64 S, .int .i64 (k : Nat), .int .i64 s] 23 by rw [← hwz4]; exact Has.new _ _ _)
  have HWz4 := Lib.hid hwz4
  clear hwz4
  have HBz4 := Lib.hid (HBz3.out.trans (kz4.mono (Nat.le_trans hbase HBz3.out.size)))
  have Hpz4 := Lib.hid (Hpz3.out.call kz4)
  have Hr0z4 := Lib.hid (Hr0z3.out.below kz4)
  have Hr1z4 := Lib.hid (HR1.out.below kz4)
  clear kz4
  go_upto_region 3 with fail
  rw [HWz4.out]
  have hcz5 := HM2.out wz4 HBz4.out
  go_wp2_with fail
  refine hcz5.mono ?_
  rintro e wz5 ⟨ao2, cap2, rfl, hr2, kz5⟩
  clear hcz5
  have HBz5 := Lib.hid (HBz4.out.trans (kz5.mono (Nat.le_trans hbase HBz4.out.size)))
  have Hpz5 := Lib.hid (Hpz4.out.call kz5)
  have Hnz5 := Lib.hid (Hnz4.out.call kz5)
  have Hr0z5 := Lib.hid (Hr0z4.out.below kz5)
  have Hr1z5 := Lib.hid (Hr1z4.out.below kz5)
  clear kz5
  have HR2 := Lib.hid hr2
  clear hr2
  obtain ⟨wz6, hwz6⟩ : ∃ wz6, wz5.alloc (.cells #[.int .i64 4, .int .i64 1, .int .i64 (k : Nat), .int .i64 z] 23) = wz6 := ⟨_, rfl⟩
  have kz6 : Below wz5.heap.size wz5 wz6 := by rw [← hwz6]; exact (Below.refl _ _).alloc (Nat.le_refl _) _
  have Hcz6 := Lib.hid (show Has wz6 wz5.heap.size [.int .i64 4, .int .i64 1, .int .i64 (k : Nat), .int .i64 z] 23 by rw [← hwz6]; exact Has.new _ _ _)
  have HWz6 := Lib.hid hwz6
  clear hwz6
  have HBz6 := Lib.hid (HBz5.out.trans (kz6.mono (Nat.le_trans hbase HBz5.out.size)))
  have Hpz6 := Lib.hid (Hpz5.out.call kz6)
  have Hnz6 := Lib.hid (Hnz5.out.call kz6)
  have Hr0z6 := Lib.hid (Hr0z5.out.below kz6)
  have Hr1z6 := Lib.hid (Hr1z5.out.below kz6)
  have Hr2z6 := Lib.hid (HR2.out.below kz6)
  clear kz6
  go_upto_region 4 with fail
  rw [HWz6.out]
  have hcz7 := HM3.out wz6 HBz6.out
  go_wp2_with fail
  refine hcz7.mono ?_
  rintro e wz7 ⟨ao3, cap3, rfl, hr3, kz7⟩
  clear hcz7
  have HBz7 := Lib.hid (HBz6.out.trans (kz7.mono (Nat.le_trans hbase HBz6.out.size)))
  have Hpz7 := Lib.hid (Hpz6.out.call kz7)
  have Hnz7 := Lib.hid (Hnz6.out.call kz7)
  have Hcz7 := Lib.hid (Hcz6.out.call kz7)
  have Hr0z7 := Lib.hid (Hr0z6.out.below kz7)
  have Hr1z7 := Lib.hid (Hr1z6.out.below kz7)
  have Hr2z7 := Lib.hid (Hr2z6.out.below kz7)
  clear kz7
  have HR3 := Lib.hid hr3
  clear hr3
  obtain ⟨wz8, hwz8⟩ : ∃ wz8, wz7.alloc (.cells #[.int .i64 5, .int .i64 S, .int .i64 (k : Nat), .int .i64 z] 23) = wz8 := ⟨_, rfl⟩
  have kz8 : Below wz7.heap.size wz7 wz8 := by rw [← hwz8]; exact (Below.refl _ _).alloc (Nat.le_refl _) _
  have Huz8 := Lib.hid (show Has wz8 wz7.heap.size [.int .i64 5, .int .i64 S, .int .i64 (k : Nat), .int .i64 z] 23 by rw [← hwz8]; exact Has.new _ _ _)
  have HWz8 := Lib.hid hwz8
  clear hwz8
  have HBz8 := Lib.hid (HBz7.out.trans (kz8.mono (Nat.le_trans hbase HBz7.out.size)))
  have Hpz8 := Lib.hid (Hpz7.out.call kz8)
  have Hnz8 := Lib.hid (Hnz7.out.call kz8)
  have Hcz8 := Lib.hid (Hcz7.out.call kz8)
  have Hr0z8 := Lib.hid (Hr0z7.out.below kz8)
  have Hr1z8 := Lib.hid (Hr1z7.out.below kz8)
  have Hr2z8 := Lib.hid (Hr2z7.out.below kz8)
  have Hr3z8 := Lib.hid (HR3.out.below kz8)
  clear kz8
  go_upto_region 5 with fail
  rw [HWz8.out]
  have hcz9 := HAL.out wz8
  go_wp2_with fail
  refine hcz9.mono ?_
  rintro e wz9 ⟨rfl, kz9⟩
  clear hcz9
  have HBz9 := Lib.hid (HBz8.out.trans (kz9.mono (Nat.le_trans hbase HBz8.out.size)))
  have Hpz9 := Lib.hid (Hpz8.out.call kz9)
  have Hnz9 := Lib.hid (Hnz8.out.call kz9)
  have Hcz9 := Lib.hid (Hcz8.out.call kz9)
  have Huz9 := Lib.hid (Huz8.out.call kz9)
  have Hr0z9 := Lib.hid (Hr0z8.out.below kz9)
  have Hr1z9 := Lib.hid (Hr1z8.out.below kz9)
  have Hr2z9 := Lib.hid (Hr2z8.out.below kz9)
  have Hr3z9 := Lib.hid (Hr3z8.out.below kz9)
  clear kz9
  have qp0_9 : wz9.cell? ⟨wz1.heap.size, 0, none⟩ = some (.int .i64 2) := Hpz9.out.cell 0
  have qp1_9 : wz9.cell? ⟨wz1.heap.size, 1, none⟩ = some (.int .i64 S) := Hpz9.out.cell 1
  have qp2_9 : wz9.cell? ⟨wz1.heap.size, 2, none⟩ = some (.int .i64 (k : Nat)) := Hpz9.out.cell 2
  have qp3_9 : wz9.cell? ⟨wz1.heap.size, 3, none⟩ = some (.int .i64 s) := Hpz9.out.cell 3
  have lp_9 : wz1.heap.size < wz9.heap.size := Hpz9.out.lt
  have hcz10 := HP0.out wz9
  go_wp2_with fail
  refine hcz10.mono ?_
  rintro e wz10 ⟨rfl, kz10⟩
  clear hcz10 qp0_9 qp1_9 qp2_9 qp3_9 lp_9
  have HBz10 := Lib.hid (HBz9.out.trans (kz10.mono (Nat.le_trans hbase HBz9.out.size)))
  have Hpz10 := Lib.hid (Hpz9.out.call kz10)
  have Hnz10 := Lib.hid (Hnz9.out.call kz10)
  have Hcz10 := Lib.hid (Hcz9.out.call kz10)
  have Huz10 := Lib.hid (Huz9.out.call kz10)
  have Hr0z10 := Lib.hid (Hr0z9.out.below kz10)
  have Hr1z10 := Lib.hid (Hr1z9.out.below kz10)
  have Hr2z10 := Lib.hid (Hr2z9.out.below kz10)
  have Hr3z10 := Lib.hid (Hr3z9.out.below kz10)
  clear kz10
  obtain ⟨wz11, hwz11⟩ : ∃ wz11, wz10.alloc (.cells #[.int .i64 ac, .int .i64 an, .int .i64 ad, .int .u64 ah, .int .u64 al] 38) = wz11 := ⟨_, rfl⟩
  have kz11 : Below wz10.heap.size wz10 wz11 := by rw [← hwz11]; exact (Below.refl _ _).alloc (Nat.le_refl _) _
  have Haz11 := Lib.hid (show Has wz11 wz10.heap.size [.int .i64 ac, .int .i64 an, .int .i64 ad, .int .u64 ah, .int .u64 al] 38 by rw [← hwz11]; exact Has.new _ _ _)
  have HWz11 := Lib.hid hwz11
  clear hwz11
  have HBz11 := Lib.hid (HBz10.out.trans (kz11.mono (Nat.le_trans hbase HBz10.out.size)))
  have Hpz11 := Lib.hid (Hpz10.out.call kz11)
  have Hnz11 := Lib.hid (Hnz10.out.call kz11)
  have Hcz11 := Lib.hid (Hcz10.out.call kz11)
  have Huz11 := Lib.hid (Huz10.out.call kz11)
  have Hr0z11 := Lib.hid (Hr0z10.out.below kz11)
  have Hr1z11 := Lib.hid (Hr1z10.out.below kz11)
  have Hr2z11 := Lib.hid (Hr2z10.out.below kz11)
  have Hr3z11 := Lib.hid (Hr3z10.out.below kz11)
  clear kz11
  go_upto_region 10 with fail
  rw [HWz11.out]
  have qn0_11 : wz11.cell? ⟨wz3.heap.size, 0, none⟩ = some (.int .i64 3) := Hnz11.out.cell 0
  have qn1_11 : wz11.cell? ⟨wz3.heap.size, 1, none⟩ = some (.int .i64 S) := Hnz11.out.cell 1
  have qn2_11 : wz11.cell? ⟨wz3.heap.size, 2, none⟩ = some (.int .i64 (k : Nat)) := Hnz11.out.cell 2
  have qn3_11 : wz11.cell? ⟨wz3.heap.size, 3, none⟩ = some (.int .i64 s) := Hnz11.out.cell 3
  have ln_11 : wz3.heap.size < wz11.heap.size := Hnz11.out.lt
  have hcz12 := HP1.out wz11
  go_wp2_with fail
  refine hcz12.mono ?_
  rintro e wz12 ⟨rfl, kz12⟩
  clear hcz12 qn0_11 qn1_11 qn2_11 qn3_11 ln_11
  have HBz12 := Lib.hid (HBz11.out.trans (kz12.mono (Nat.le_trans hbase HBz11.out.size)))
  have Hpz12 := Lib.hid (Hpz11.out.call kz12)
  have Hnz12 := Lib.hid (Hnz11.out.call kz12)
  have Hcz12 := Lib.hid (Hcz11.out.call kz12)
  have Huz12 := Lib.hid (Huz11.out.call kz12)
  have Haz12 := Lib.hid (Haz11.out.call kz12)
  have Hr0z12 := Lib.hid (Hr0z11.out.below kz12)
  have Hr1z12 := Lib.hid (Hr1z11.out.below kz12)
  have Hr2z12 := Lib.hid (Hr2z11.out.below kz12)
  have Hr3z12 := Lib.hid (Hr3z11.out.below kz12)
  clear kz12
  obtain ⟨wz13, hwz13⟩ : ∃ wz13, wz12.alloc (.cells #[.int .i64 bc, .int .i64 bn, .int .i64 ad, .int .u64 ah, .int .u64 al] 38) = wz13 := ⟨_, rfl⟩
  have kz13 : Below wz12.heap.size wz12 wz13 := by rw [← hwz13]; exact (Below.refl _ _).alloc (Nat.le_refl _) _
  have Hbz13 := Lib.hid (show Has wz13 wz12.heap.size [.int .i64 bc, .int .i64 bn, .int .i64 ad, .int .u64 ah, .int .u64 al] 38 by rw [← hwz13]; exact Has.new _ _ _)
  have HWz13 := Lib.hid hwz13
  clear hwz13
  have HBz13 := Lib.hid (HBz12.out.trans (kz13.mono (Nat.le_trans hbase HBz12.out.size)))
  have Hpz13 := Lib.hid (Hpz12.out.call kz13)
  have Hnz13 := Lib.hid (Hnz12.out.call kz13)
  have Hcz13 := Lib.hid (Hcz12.out.call kz13)
  have Huz13 := Lib.hid (Huz12.out.call kz13)
  have Haz13 := Lib.hid (Haz12.out.call kz13)
  have Hr0z13 := Lib.hid (Hr0z12.out.below kz13)
  have Hr1z13 := Lib.hid (Hr1z12.out.below kz13)
  have Hr2z13 := Lib.hid (Hr2z12.out.below kz13)
  have Hr3z13 := Lib.hid (Hr3z12.out.below kz13)
  clear kz13
  go_upto_region 11 with fail
  rw [HWz13.out]
  have qc0_13 : wz13.cell? ⟨wz5.heap.size, 0, none⟩ = some (.int .i64 4) := Hcz13.out.cell 0
  have qc1_13 : wz13.cell? ⟨wz5.heap.size, 1, none⟩ = some (.int .i64 1) := Hcz13.out.cell 1
  have qc2_13 : wz13.cell? ⟨wz5.heap.size, 2, none⟩ = some (.int .i64 (k : Nat)) := Hcz13.out.cell 2
  have qc3_13 : wz13.cell? ⟨wz5.heap.size, 3, none⟩ = some (.int .i64 z) := Hcz13.out.cell 3
  have lc_13 : wz5.heap.size < wz13.heap.size := Hcz13.out.lt
  have hcz14 := HP2.out wz13
  go_wp2_with fail
  refine hcz14.mono ?_
  rintro e wz14 ⟨rfl, kz14⟩
  clear hcz14 qc0_13 qc1_13 qc2_13 qc3_13 lc_13
  have HBz14 := Lib.hid (HBz13.out.trans (kz14.mono (Nat.le_trans hbase HBz13.out.size)))
  have Hpz14 := Lib.hid (Hpz13.out.call kz14)
  have Hnz14 := Lib.hid (Hnz13.out.call kz14)
  have Hcz14 := Lib.hid (Hcz13.out.call kz14)
  have Huz14 := Lib.hid (Huz13.out.call kz14)
  have Haz14 := Lib.hid (Haz13.out.call kz14)
  have Hbz14 := Lib.hid (Hbz13.out.call kz14)
  have Hr0z14 := Lib.hid (Hr0z13.out.below kz14)
  have Hr1z14 := Lib.hid (Hr1z13.out.below kz14)
  have Hr2z14 := Lib.hid (Hr2z13.out.below kz14)
  have Hr3z14 := Lib.hid (Hr3z13.out.below kz14)
  clear kz14
  obtain ⟨wz15, hwz15⟩ : ∃ wz15, wz14.alloc (.cells #[.int .i64 xc, .int .i64 xn, .int .i64 xd, .int .u64 xh, .int .u64 xl] 38) = wz15 := ⟨_, rfl⟩
  have kz15 : Below wz14.heap.size wz14 wz15 := by rw [← hwz15]; exact (Below.refl _ _).alloc (Nat.le_refl _) _
  have Hxz15 := Lib.hid (show Has wz15 wz14.heap.size [.int .i64 xc, .int .i64 xn, .int .i64 xd, .int .u64 xh, .int .u64 xl] 38 by rw [← hwz15]; exact Has.new _ _ _)
  have HWz15 := Lib.hid hwz15
  clear hwz15
  have HBz15 := Lib.hid (HBz14.out.trans (kz15.mono (Nat.le_trans hbase HBz14.out.size)))
  have Hpz15 := Lib.hid (Hpz14.out.call kz15)
  have Hnz15 := Lib.hid (Hnz14.out.call kz15)
  have Hcz15 := Lib.hid (Hcz14.out.call kz15)
  have Huz15 := Lib.hid (Huz14.out.call kz15)
  have Haz15 := Lib.hid (Haz14.out.call kz15)
  have Hbz15 := Lib.hid (Hbz14.out.call kz15)
  have Hr0z15 := Lib.hid (Hr0z14.out.below kz15)
  have Hr1z15 := Lib.hid (Hr1z14.out.below kz15)
  have Hr2z15 := Lib.hid (Hr2z14.out.below kz15)
  have Hr3z15 := Lib.hid (Hr3z14.out.below kz15)
  clear kz15
  go_upto_region 12 with fail
  rw [HWz15.out]
  have qu0_15 : wz15.cell? ⟨wz7.heap.size, 0, none⟩ = some (.int .i64 5) := Huz15.out.cell 0
  have qu1_15 : wz15.cell? ⟨wz7.heap.size, 1, none⟩ = some (.int .i64 S) := Huz15.out.cell 1
  have qu2_15 : wz15.cell? ⟨wz7.heap.size, 2, none⟩ = some (.int .i64 (k : Nat)) := Huz15.out.cell 2
  have qu3_15 : wz15.cell? ⟨wz7.heap.size, 3, none⟩ = some (.int .i64 z) := Huz15.out.cell 3
  have lu_15 : wz7.heap.size < wz15.heap.size := Huz15.out.lt
  have hcz16 := HP3.out wz15
  go_wp2_with fail
  refine hcz16.mono ?_
  rintro e wz16 ⟨rfl, kz16⟩
  clear hcz16 qu0_15 qu1_15 qu2_15 qu3_15 lu_15
  have HBz16 := Lib.hid (HBz15.out.trans (kz16.mono (Nat.le_trans hbase HBz15.out.size)))
  have Hpz16 := Lib.hid (Hpz15.out.call kz16)
  have Hnz16 := Lib.hid (Hnz15.out.call kz16)
  have Hcz16 := Lib.hid (Hcz15.out.call kz16)
  have Huz16 := Lib.hid (Huz15.out.call kz16)
  have Haz16 := Lib.hid (Haz15.out.call kz16)
  have Hbz16 := Lib.hid (Hbz15.out.call kz16)
  have Hxz16 := Lib.hid (Hxz15.out.call kz16)
  have Hr0z16 := Lib.hid (Hr0z15.out.below kz16)
  have Hr1z16 := Lib.hid (Hr1z15.out.below kz16)
  have Hr2z16 := Lib.hid (Hr2z15.out.below kz16)
  have Hr3z16 := Lib.hid (Hr3z15.out.below kz16)
  clear kz16
  obtain ⟨wz17, hwz17⟩ : ∃ wz17, wz16.alloc (.cells #[.int .i64 yc, .int .i64 yn, .int .i64 xd, .int .u64 xh, .int .u64 xl] 38) = wz17 := ⟨_, rfl⟩
  have kz17 : Below wz16.heap.size wz16 wz17 := by rw [← hwz17]; exact (Below.refl _ _).alloc (Nat.le_refl _) _
  have Hyz17 := Lib.hid (show Has wz17 wz16.heap.size [.int .i64 yc, .int .i64 yn, .int .i64 xd, .int .u64 xh, .int .u64 xl] 38 by rw [← hwz17]; exact Has.new _ _ _)
  have HWz17 := Lib.hid hwz17
  clear hwz17
  have HBz17 := Lib.hid (HBz16.out.trans (kz17.mono (Nat.le_trans hbase HBz16.out.size)))
  have Hpz17 := Lib.hid (Hpz16.out.call kz17)
  have Hnz17 := Lib.hid (Hnz16.out.call kz17)
  have Hcz17 := Lib.hid (Hcz16.out.call kz17)
  have Huz17 := Lib.hid (Huz16.out.call kz17)
  have Haz17 := Lib.hid (Haz16.out.call kz17)
  have Hbz17 := Lib.hid (Hbz16.out.call kz17)
  have Hxz17 := Lib.hid (Hxz16.out.call kz17)
  have Hr0z17 := Lib.hid (Hr0z16.out.below kz17)
  have Hr1z17 := Lib.hid (Hr1z16.out.below kz17)
  have Hr2z17 := Lib.hid (Hr2z16.out.below kz17)
  have Hr3z17 := Lib.hid (Hr3z16.out.below kz17)
  clear kz17
  go_upto_region 13 with fail
  rw [HWz17.out]
  clear hkk hmm
  go_wp2_with fail
  clear hk0
  have HJ := Lib.hid (show AlkRel cs k wz17 (.int .i64 0) (.int .i64 0) wz17 from ⟨0, Nat.zero_le _, rfl, by rw [List.take_zero]; rfl, Below.refl _ _⟩)
  go_loopw [29, 137] (AlkRel cs k wz17) (fun _ iv _ => k - (intOf iv).toNat)
  case atStart => exact HJ.out
  case round =>
    obtain ⟨j, hj, rfl, rfl, hb⟩ := hrel
    rename World => wr
    have HBI := Lib.hid hb
    clear HJ hb
    by_cases hlt : j < k
    · obtain ⟨c, hc⟩ : ∃ c, cs[j]? = some c := ⟨_, List.getElem?_eq_getElem (by rw [HCK.out]; exact hlt)⟩
      obtain ⟨e, he⟩ : ∃ e, zs[j]? = some e := ⟨_, List.getElem?_eq_getElem (by rw [HZK.out]; exact hlt)⟩
      obtain ⟨br, off, hao, hbr, hcc⟩ := (Hr0z17.out.below HBI.out).spot hc
      obtain ⟨bz, ofz, haz, hbz, hcz⟩ := (Hr2z17.out.below HBI.out).spot he
      have h1 := HSUM.out j
      have h2 := HSUM.out (j + 1)
      have hsp := part_step hc
      rw [hsp] at h2
      have hor := HSAME.out j c e hc he
      obtain ⟨a, ha⟩ : ∃ a, ssum (cs.take j) = a := ⟨_, rfl⟩
      rw [ha] at h1 h2 hsp ⊢
      have hw : wrap64 (a + c) = a + c := wrapJ6 (by omega)
      have HSP := Lib.hid hsp; have HLT := Lib.hid hlt; have HTp := Lib.hid (Hpz17.out.call HBI.out)
      have hjz : (j : Int) < (k : Int) := by omega
      have hjx : 0 ≤ (j : Int) ∧ (j : Int) < (k : Int) := by omega
      have c1 : wr.cell? ⟨wz1.heap.size, 1, none⟩ = some (.int .i64 S) := HTp.out.cell 1
      have cl : wz1.heap.size < wr.heap.size := HTp.out.lt
      have HQ := Lib.hid (fun (W : World) (hW : Below wz17.heap.size wz17 W) => show AlkRel cs k wz17 (.int .i64 (a + c)) (.int .i64 ((j : Int) + 1)) W from ⟨j + 1, HLT.out, rfl, by rw [HSP.out], hW⟩)
      subst hao haz
      clear hj hlt hc he h1 h2 hsp ha
      rcases hor with hce | ⟨hce, hes⟩
      · subst hce
        have hg : (c != c) = false := by simp
        go_wp2
        go_quiet (fail)
        go_wp2
        go_roundw
        case rel => rw [hw]; exact HQ.out _ ⟨HBI.out.os, HBI.out.tape, HBI.out.output, HBI.out.size, HBI.out.block⟩
        case measure => have := HLT.out; simp [intOf]; omega
      · have hg : (c != e) = true := by simp [hce]
        have hle : decide (e ≤ S) = false := decide_eq_false (by omega)
        clear hce
        go_wp2
        go_quiet (fail)
        go_wp2
        go_roundw
        case rel => rw [hw]; exact HQ.out _ ⟨HBI.out.os, HBI.out.tape, HBI.out.output, HBI.out.size, HBI.out.block⟩
        case measure => have := HLT.out; simp [intOf]; omega
    · obtain rfl : k = j := by omega
      have hle : cs.take k = cs := List.take_of_length_le (by rw [HCK.out]; exact Nat.le_refl _)
      rw [hle, HSS.out]
      have HBr := Lib.hid (HBz17.out.trans (HBI.out.mono (Nat.le_trans hbase HBz17.out.size)))
      have Hpr := Lib.hid (Hpz17.out.call HBI.out)
      have Hnr := Lib.hid (Hnz17.out.call HBI.out)
      have Hcr := Lib.hid (Hcz17.out.call HBI.out)
      have Hur := Lib.hid (Huz17.out.call HBI.out)
      have Har := Lib.hid (Haz17.out.call HBI.out)
      have Hbr := Lib.hid (Hbz17.out.call HBI.out)
      have Hxr := Lib.hid (Hxz17.out.call HBI.out)
      have Hyr := Lib.hid (Hyz17.out.call HBI.out)
      clear hle hj hlt
      have qa0_60 : wr.cell? ⟨wz10.heap.size, 0, none⟩ = some (.int .i64 ac) := Har.out.cell 0
      have qa1_60 : wr.cell? ⟨wz10.heap.size, 1, none⟩ = some (.int .i64 an) := Har.out.cell 1
      have qa2_60 : wr.cell? ⟨wz10.heap.size, 2, none⟩ = some (.int .i64 ad) := Har.out.cell 2
      have qa3_60 : wr.cell? ⟨wz10.heap.size, 3, none⟩ = some (.int .u64 ah) := Har.out.cell 3
      have qa4_60 : wr.cell? ⟨wz10.heap.size, 4, none⟩ = some (.int .u64 al) := Har.out.cell 4
      have la_60 : wz10.heap.size < wr.heap.size := Har.out.lt
      have hcz61 := HZ0.out wr
      go_wp2_with fail
      refine hcz61.mono ?_
      rintro e wz61 ⟨rfl, kz61⟩
      clear hcz61 qa0_60 qa1_60 qa2_60 qa3_60 qa4_60 la_60
      have HBz61 := Lib.hid (HBr.out.trans (kz61.mono (Nat.le_trans hbase HBr.out.size)))
      have Hpz61 := Lib.hid (Hpr.out.call kz61)
      have Hnz61 := Lib.hid (Hnr.out.call kz61)
      have Hcz61 := Lib.hid (Hcr.out.call kz61)
      have Huz61 := Lib.hid (Hur.out.call kz61)
      have Haz61 := Lib.hid (Har.out.call kz61)
      have Hbz61 := Lib.hid (Hbr.out.call kz61)
      have Hxz61 := Lib.hid (Hxr.out.call kz61)
      have Hyz61 := Lib.hid (Hyr.out.call kz61)
      clear kz61
      have qb0_61 : wz61.cell? ⟨wz12.heap.size, 0, none⟩ = some (.int .i64 bc) := Hbz61.out.cell 0
      have qb1_61 : wz61.cell? ⟨wz12.heap.size, 1, none⟩ = some (.int .i64 bn) := Hbz61.out.cell 1
      have qb2_61 : wz61.cell? ⟨wz12.heap.size, 2, none⟩ = some (.int .i64 ad) := Hbz61.out.cell 2
      have qb3_61 : wz61.cell? ⟨wz12.heap.size, 3, none⟩ = some (.int .u64 ah) := Hbz61.out.cell 3
      have qb4_61 : wz61.cell? ⟨wz12.heap.size, 4, none⟩ = some (.int .u64 al) := Hbz61.out.cell 4
      have lb_61 : wz12.heap.size < wz61.heap.size := Hbz61.out.lt
      have hcz62 := HZ0.out wz61
      go_wp2_with fail
      refine hcz62.mono ?_
      rintro e wz62 ⟨rfl, kz62⟩
      clear hcz62 qb0_61 qb1_61 qb2_61 qb3_61 qb4_61 lb_61
      have HBz62 := Lib.hid (HBz61.out.trans (kz62.mono (Nat.le_trans hbase HBz61.out.size)))
      have Hpz62 := Lib.hid (Hpz61.out.call kz62)
      have Hnz62 := Lib.hid (Hnz61.out.call kz62)
      have Hcz62 := Lib.hid (Hcz61.out.call kz62)
      have Huz62 := Lib.hid (Huz61.out.call kz62)
      have Haz62 := Lib.hid (Haz61.out.call kz62)
      have Hbz62 := Lib.hid (Hbz61.out.call kz62)
      have Hxz62 := Lib.hid (Hxz61.out.call kz62)
      have Hyz62 := Lib.hid (Hyz61.out.call kz62)
      clear kz62
      have qx0_62 : wz62.cell? ⟨wz14.heap.size, 0, none⟩ = some (.int .i64 xc) := Hxz62.out.cell 0
      have qx1_62 : wz62.cell? ⟨wz14.heap.size, 1, none⟩ = some (.int .i64 xn) := Hxz62.out.cell 1
      have qx2_62 : wz62.cell? ⟨wz14.heap.size, 2, none⟩ = some (.int .i64 xd) := Hxz62.out.cell 2
      have qx3_62 : wz62.cell? ⟨wz14.heap.size, 3, none⟩ = some (.int .u64 xh) := Hxz62.out.cell 3
      have qx4_62 : wz62.cell? ⟨wz14.heap.size, 4, none⟩ = some (.int .u64 xl) := Hxz62.out.cell 4
      have lx_62 : wz14.heap.size < wz62.heap.size := Hxz62.out.lt
      have hcz63 := HZ1.out wz62
      go_wp2_with fail
      refine hcz63.mono ?_
      rintro e wz63 ⟨rfl, kz63⟩
      clear hcz63 qx0_62 qx1_62 qx2_62 qx3_62 qx4_62 lx_62
      have HBz63 := Lib.hid (HBz62.out.trans (kz63.mono (Nat.le_trans hbase HBz62.out.size)))
      have Hpz63 := Lib.hid (Hpz62.out.call kz63)
      have Hnz63 := Lib.hid (Hnz62.out.call kz63)
      have Hcz63 := Lib.hid (Hcz62.out.call kz63)
      have Huz63 := Lib.hid (Huz62.out.call kz63)
      have Haz63 := Lib.hid (Haz62.out.call kz63)
      have Hbz63 := Lib.hid (Hbz62.out.call kz63)
      have Hxz63 := Lib.hid (Hxz62.out.call kz63)
      have Hyz63 := Lib.hid (Hyz62.out.call kz63)
      clear kz63
      have qy0_63 : wz63.cell? ⟨wz16.heap.size, 0, none⟩ = some (.int .i64 yc) := Hyz63.out.cell 0
      have qy1_63 : wz63.cell? ⟨wz16.heap.size, 1, none⟩ = some (.int .i64 yn) := Hyz63.out.cell 1
      have qy2_63 : wz63.cell? ⟨wz16.heap.size, 2, none⟩ = some (.int .i64 xd) := Hyz63.out.cell 2
      have qy3_63 : wz63.cell? ⟨wz16.heap.size, 3, none⟩ = some (.int .u64 xh) := Hyz63.out.cell 3
      have qy4_63 : wz63.cell? ⟨wz16.heap.size, 4, none⟩ = some (.int .u64 xl) := Hyz63.out.cell 4
      have ly_63 : wz16.heap.size < wz63.heap.size := Hyz63.out.lt
      have hcz64 := HZ1.out wz63
      go_wp2_with fail
      refine hcz64.mono ?_
      rintro e wz64 ⟨rfl, kz64⟩
      clear hcz64 qy0_63 qy1_63 qy2_63 qy3_63 qy4_63 ly_63
      have HBz64 := Lib.hid (HBz63.out.trans (kz64.mono (Nat.le_trans hbase HBz63.out.size)))
      have Hpz64 := Lib.hid (Hpz63.out.call kz64)
      have Hnz64 := Lib.hid (Hnz63.out.call kz64)
      have Hcz64 := Lib.hid (Hcz63.out.call kz64)
      have Huz64 := Lib.hid (Huz63.out.call kz64)
      have Haz64 := Lib.hid (Haz63.out.call kz64)
      have Hbz64 := Lib.hid (Hbz63.out.call kz64)
      have Hxz64 := Lib.hid (Hxz63.out.call kz64)
      have Hyz64 := Lib.hid (Hyz63.out.call kz64)
      clear kz64
      have qp0_64 : wz64.cell? ⟨wz1.heap.size, 0, none⟩ = some (.int .i64 2) := Hpz64.out.cell 0
      have qp1_64 : wz64.cell? ⟨wz1.heap.size, 1, none⟩ = some (.int .i64 S) := Hpz64.out.cell 1
      have qp2_64 : wz64.cell? ⟨wz1.heap.size, 2, none⟩ = some (.int .i64 (k : Nat)) := Hpz64.out.cell 2
      have qp3_64 : wz64.cell? ⟨wz1.heap.size, 3, none⟩ = some (.int .i64 s) := Hpz64.out.cell 3
      have lp_64 : wz1.heap.size < wz64.heap.size := Hpz64.out.lt
      have s0 := Xs0.out; have e1 := Xe1.out; have s1 := Xs1.out
      go_wp2
      go_ret
      exact ⟨rfl, HBz64.out⟩
end Go.Proofs.Ytgmifimpeefpcaa
