/- The law TallyMean: its walk. -/
import Derived.Test.YtgmifimpeefpcaaTalM
namespace Go.Proofs.Ytgmifimpeefpcaa
open Go.RowKit

def MPost (K N s : Int) (k : Nat) (cs : List Int) (W : World) (e : Ending) (w' : World) : Prop := ∃ ao cap, e = .returned (.tuple #[.agg #[.int .i64 K, .int .i64 N, .int .i64 (k : Nat), .int .i64 s], .slice ao k cap, .bool true]) ∧ ReadsI w' (.slice ao k cap) cs ∧ Below W.heap.size W w'
def RevRel (cs : List Int) (k : Nat) (W1 : World) (tv sv iv : Value) (wr : World) : Prop :=
  ∃ j : Nat, j ≤ k ∧ iv = .int .i64 ((k : Int) - 1 - (j : Nat)) ∧ sv = .int .i64 (ssum (cs.reverse.take j)) ∧ IRow W1.heap.size tv (cs.reverse.take j) wr ∧ Below W1.heap.size W1 wr
theorem rev_at {cs : List Int} {k j : Nat} (hk : cs.length = k) (hj : j < k) : ∃ c, cs[k - 1 - j]? = some c ∧ cs.reverse.take (j + 1) = cs.reverse.take j ++ [c] := by
  obtain ⟨c, hc⟩ : ∃ c, cs[k - 1 - j]? = some c := ⟨_, List.getElem?_eq_getElem (by omega)⟩
  refine ⟨c, hc, ?_⟩
  rw [List.take_add_one, List.getElem?_reverse (by omega), hk, hc]
  rfl
theorem cnts_part {M : Int} {cs : List Int} (h : cntsOk M cs) (hM : 0 ≤ M ∧ M ≤ 1000000) (hl : cs.length ≤ 25) (j : Nat) : 0 ≤ ssum (cs.reverse.take j) ∧ ssum (cs.reverse.take j) ≤ 25000000 := by
  have h1 := cnts_sum (M := M) (cs := cs.reverse.take j) (fun c hc => h c (List.mem_reverse.1 (List.mem_of_mem_take hc)))
  have h2 : (cs.reverse.take j).length ≤ 25 := by rw [List.length_take, List.length_reverse]; omega
  have h3 := Int.mul_le_mul (show ((cs.reverse.take j).length : Int) ≤ 25 by omega) hM.2 hM.1 (by omega)
  omega
set_option linter.unusedSimpArgs false in
set_option linter.unusedVariables false in
set_option maxHeartbeats 8000000 in
set_option maxRecDepth 100000 in
theorem mean16_21 (kind size N s d D d1 : Int) (k : Nat) (cs : List Int) (ao : Option Addr) (n cap : Nat) (w : World) (hck : cs.length = k) (hk25 : k ≤ 25) (hsum : ∀ j, 0 ≤ ssum (cs.reverse.take j) ∧ ssum (cs.reverse.take j) ≤ 25000000) (hs : ssum cs = s) (hd1 : min (max d 0) N = d1) (hd2 : min (max d1 0) 1000000 = D) (hk0 : ((k : Int) == 0) = true)
    (HM1 : Hid (∀ W, Below w.heap.size w W → Calls Try.prog 17 #[.int .i64 kind, .int .i64 size, .slice ao n cap] W (MPost 2 N s k cs W)))
    (HM2 : Hid (∀ v W, ReadsI W v cs.reverse → Calls Try.prog 17 #[.int .i64 kind, .int .i64 size, v] W (MPost 2 N s k cs.reverse W)))
    (HAL : Hid (∀ W, Calls Try.prog 11 #[] W fun e w' => e = .returned (.bool true) ∧ Below W.heap.size W w'))
    (HPO : Hid (∀ W, Calls Try.prog 15 #[.agg #[.int .i64 2, .int .i64 N, .int .i64 (k : Nat), .int .i64 s], .int .i64 D] W fun e w' => e = .returned (.tuple #[.agg #[.int .i64 0, .int .i64 0, .int .i64 0, .int .u64 0, .int .u64 0], .int .i64 12]) ∧ Below W.heap.size W w')) :
    Calls Try.prog 5 #[.int .i64 kind, .int .i64 size, .slice ao n cap, .int .i64 d] w fun e w' => e = .returned (.bool true) ∧ Below w.heap.size w w' := by
  have HCK := Lib.hid hck; have HSUM := Lib.hid hsum; have HSS := Lib.hid hs
  have hbase := Nat.le_refl w.heap.size
  have HB0 := Lib.hid (Below.refl w.heap.size w)
  have hkm : wrap64 ((k : Nat) - 1 : Int) = (k : Int) - 1 := by rw [wrapJ6 (by omega)]
  have HKM := Lib.hid hkm
  have Xhk0 := Lib.hid hk0
  clear hk0
  clear hck hsum hs hkm
  have hqt := eqTal
  have hqp := eqPntT
  go_enter Try.func5, Try.ntmps5
  have hcz1 := HM1.out w (Below.refl _ _)
  go_wp2_with fail
  refine hcz1.mono ?_
  rintro e wz1 ⟨aoC, capC, rfl, hrc, kz1⟩
  clear hcz1
  have HBz1 := Lib.hid (HB0.out.trans (kz1.mono (Nat.le_trans hbase HB0.out.size)))
  clear kz1
  have HRC := Lib.hid hrc
  clear hrc
  obtain ⟨wz2, hwz2⟩ : ∃ wz2, wz1.alloc (.cells #[.int .i64 2, .int .i64 N, .int .i64 (k : Nat), .int .i64 s] 23) = wz2 := ⟨_, rfl⟩
  have kz2 : Below wz1.heap.size wz1 wz2 := by rw [← hwz2]; exact (Below.refl _ _).alloc (Nat.le_refl _) _
  have Htz2 := Lib.hid (show Has wz2 wz1.heap.size [.int .i64 2, .int .i64 N, .int .i64 (k : Nat), .int .i64 s] 23 by rw [← hwz2]; exact Has.new _ _ _)
  have HWz2 := Lib.hid hwz2
  clear hwz2
  have HBz2 := Lib.hid (HBz1.out.trans (kz2.mono (Nat.le_trans hbase HBz1.out.size)))
  have Hcz2 := Lib.hid (HRC.out.below kz2)
  clear kz2
  go_upto_region 2 with fail
  rw [HWz2.out]
  have hcz3 := HAL.out wz2
  go_wp2_with fail
  refine hcz3.mono ?_
  rintro e wz3 ⟨rfl, kz3⟩
  clear hcz3
  have HBz3 := Lib.hid (HBz2.out.trans (kz3.mono (Nat.le_trans hbase HBz2.out.size)))
  have Htz3 := Lib.hid (Htz2.out.call kz3)
  have Hcz3 := Lib.hid (Hcz2.out.below kz3)
  clear kz3
  have qt0_3 : wz3.cell? ⟨wz1.heap.size, 0, none⟩ = some (.int .i64 2) := Htz3.out.cell 0
  have qt1_3 : wz3.cell? ⟨wz1.heap.size, 1, none⟩ = some (.int .i64 N) := Htz3.out.cell 1
  have qt2_3 : wz3.cell? ⟨wz1.heap.size, 2, none⟩ = some (.int .i64 (k : Nat)) := Htz3.out.cell 2
  have qt3_3 : wz3.cell? ⟨wz1.heap.size, 3, none⟩ = some (.int .i64 s) := Htz3.out.cell 3
  have lt_3 : wz1.heap.size < wz3.heap.size := Htz3.out.lt
  go_upto_region 9 with fail
  clear qt0_3 qt1_3 qt2_3 qt3_3 lt_3
  have hkm := HKM.out
  go_wp2_with fail
  clear hkm
  have HJ := Lib.hid (show RevRel cs k wz3 (.slice none 0 0) (.int .i64 0) (.int .i64 ((k : Int) - 1)) wz3 from ⟨0, Nat.zero_le _, by simp, by rw [List.take_zero]; rfl, IRow.nil _ _, Below.refl _ _⟩)
  go_loopw [12, 13, 14] (RevRel cs k wz3) (fun _ _ iv _ => (intOf iv + 1).toNat)
  case atStart => exact HJ.out
  case round =>
    obtain ⟨j, hj, rfl, rfl, hI, hb⟩ := hrel
    rename World => wr
    have HI := Lib.hid hI; have HBI := Lib.hid hb
    clear HJ hI hb
    by_cases hlt : j < k
    · obtain ⟨c, hc, he⟩ := rev_at HCK.out hlt
      obtain ⟨q, hq⟩ : ∃ q, k - 1 - j = q := ⟨_, rfl⟩
      have hqi : (k : Int) - 1 - (j : Nat) = (q : Nat) := by omega
      rw [hq] at hc
      rw [hqi]
      obtain ⟨br, off, hao, hbr, hcc⟩ := (Hcz3.out.below HBI.out).spot hc
      have h1 := HSUM.out j
      have h2 := HSUM.out (j + 1)
      have hsp : ssum (cs.reverse.take (j + 1)) = ssum (cs.reverse.take j) + c := by rw [he, ssum_append]; simp [ssum]
      rw [hsp] at h2
      obtain ⟨a, ha⟩ : ∃ a, ssum (cs.reverse.take j) = a := ⟨_, rfl⟩
      rw [ha] at h1 h2 ⊢
      have hw : wrap64 (a + c) = a + c := wrapJ6 (by omega)
      have hw2 : wrap64 ((q : Nat) - 1 : Int) = (q : Int) - 1 := wrapJ6 (by omega)
      have HE := Lib.hid he; have HSP := Lib.hid (hsp.trans (by rw [ha])); have HQI := Lib.hid hqi; have HLT := Lib.hid hlt; have HCQ := Lib.hid hc; have HK25 := Lib.hid hk25
      have HKL := Lib.hid (show (cs.reverse.take j).length ≤ 25 by rw [List.length_take, List.length_reverse, HCK.out]; omega)
      have hq0 : 0 ≤ (q : Int) := by omega
      have hqx : 0 ≤ (q : Int) ∧ (q : Int) < (k : Int) := by omega
      obtain ⟨acc, hacc⟩ : ∃ acc, cs.reverse.take j = acc := ⟨_, rfl⟩
      rw [hacc] at HI HKL HE
      have HO := Lib.hid (ReadsI.one wr c)
      have HWA := Lib.hid (HI.out.alloc (.cells #[.int .i64 c] 3))
      have HBA := Lib.hid (HBI.out.alloc HBI.out.size (.cells #[.int .i64 c] 3))
      have HSA := Lib.hid (show (wr.alloc (.cells #[.int .i64 c] 3)).heap.size = wr.heap.size + 1 by simp)
      have HW1S := Lib.hid HBI.out.size
      obtain ⟨aoI, capI, hiv⟩ := HI.out.reads.shape
      subst hao
      subst hiv
      clear hj hlt hc he hq hqi h1 h2 hsp ha hacc hk25
      go_wp2_with (at_builtin; refine wpList_append_ints rfl (.tmp 52) (.tmp 57) rfl wz3.heap.size _ acc [c] rfl HWA.out (some ⟨wr.heap.size, 0, none⟩) 1 1 rfl HO.out (by have := HKL.out; rw [List.length_singleton]; omega) (by have := HW1S.out; rw [HSA.out]; omega) ?_)
      intro v' w8 g3 g4
      have hb8 := HBA.out.grown g4 (by have := HW1S.out; rw [HSA.out]; omega) (fun i hi => (HWA.out.lt' i hi).1)
      obtain ⟨b8, o8, hao8, hbr8, hcc8⟩ := (Hcz3.out.below hb8).spot HCQ.out
      injection hao8 with hao8
      injection hao8 with z1 z2 _
      subst z1 z2
      have HQ := Lib.hid (show RevRel cs k wz3 v' (.int .i64 (a + c)) (.int .i64 ((q : Int) - 1)) w8 from ⟨j + 1, HLT.out, by have := HQI.out; rw [show (q : Int) - 1 = (k : Int) - 1 - ((j + 1 : Nat) : Int) by omega], by rw [HSP.out], by rw [HE.out]; exact g3, hb8⟩)
      clear hcc hb8 g3 g4
      go_wp2
      go_roundw
      case rel => rw [hw, hw2]; exact HQ.out
      case measure => rw [hw2]; (simp [intOf] <;> omega)
    · obtain rfl : k = j := by omega
      have hle : cs.reverse.take k = cs.reverse := List.take_of_length_le (by rw [List.length_reverse, HCK.out]; exact Nat.le_refl _)
      rw [hle] at HI
      rw [hle, ssum_rev, HSS.out, show (k : Int) - 1 - (k : Nat) = -1 by omega]
      obtain ⟨aoT, capT, hiv⟩ := HI.out.reads.shape
      rw [List.length_reverse, HCK.out] at hiv
      have HR := Lib.hid HI.out.reads
      subst hiv
      have HTr := Lib.hid (Htz3.out.call HBI.out)
      have HBr := Lib.hid (HBz3.out.trans (HBI.out.mono (Nat.le_trans hbase HBz3.out.size)))
      clear hle hj hlt
      have hcz41 := HM2.out _ wr HR.out
      go_wp2_with fail
      refine hcz41.mono ?_
      rintro e wz41 ⟨aoU, capU, rfl, hru, kz41⟩
      clear hcz41
      have HBz41 := Lib.hid (HBr.out.trans (kz41.mono (Nat.le_trans hbase HBr.out.size)))
      have Htz41 := Lib.hid (HTr.out.call kz41)
      clear kz41
      clear hru
      obtain ⟨wz42, hwz42⟩ : ∃ wz42, wz41.alloc (.cells #[.int .i64 2, .int .i64 N, .int .i64 (k : Nat), .int .i64 s] 23) = wz42 := ⟨_, rfl⟩
      have kz42 : Below wz41.heap.size wz41 wz42 := by rw [← hwz42]; exact (Below.refl _ _).alloc (Nat.le_refl _) _
      have Huz42 := Lib.hid (show Has wz42 wz41.heap.size [.int .i64 2, .int .i64 N, .int .i64 (k : Nat), .int .i64 s] 23 by rw [← hwz42]; exact Has.new _ _ _)
      have HWz42 := Lib.hid hwz42
      clear hwz42
      have HBz42 := Lib.hid (HBz41.out.trans (kz42.mono (Nat.le_trans hbase HBz41.out.size)))
      have Htz42 := Lib.hid (Htz41.out.call kz42)
      clear kz42
      go_upto_region 15 with fail
      rw [HWz42.out]
      have qt0_42 : wz42.cell? ⟨wz1.heap.size, 0, none⟩ = some (.int .i64 2) := Htz42.out.cell 0
      have qt1_42 : wz42.cell? ⟨wz1.heap.size, 1, none⟩ = some (.int .i64 N) := Htz42.out.cell 1
      have qt2_42 : wz42.cell? ⟨wz1.heap.size, 2, none⟩ = some (.int .i64 (k : Nat)) := Htz42.out.cell 2
      have qt3_42 : wz42.cell? ⟨wz1.heap.size, 3, none⟩ = some (.int .i64 s) := Htz42.out.cell 3
      have lt_42 : wz1.heap.size < wz42.heap.size := Htz42.out.lt
      have hcz43 := HPO.out wz42
      go_wp2_with fail
      refine hcz43.mono ?_
      rintro e wz43 ⟨rfl, kz43⟩
      clear hcz43 qt0_42 qt1_42 qt2_42 qt3_42 lt_42
      have HBz43 := Lib.hid (HBz42.out.trans (kz43.mono (Nat.le_trans hbase HBz42.out.size)))
      have Htz43 := Lib.hid (Htz42.out.call kz43)
      have Huz43 := Lib.hid (Huz42.out.call kz43)
      clear kz43
      obtain ⟨wz44, hwz44⟩ : ∃ wz44, wz43.alloc (.cells #[.int .i64 0, .int .i64 0, .int .i64 0, .int .u64 0, .int .u64 0] 38) = wz44 := ⟨_, rfl⟩
      have kz44 : Below wz43.heap.size wz43 wz44 := by rw [← hwz44]; exact (Below.refl _ _).alloc (Nat.le_refl _) _
      have Hpz44 := Lib.hid (show Has wz44 wz43.heap.size [.int .i64 0, .int .i64 0, .int .i64 0, .int .u64 0, .int .u64 0] 38 by rw [← hwz44]; exact Has.new _ _ _)
      have HWz44 := Lib.hid hwz44
      clear hwz44
      have HBz44 := Lib.hid (HBz43.out.trans (kz44.mono (Nat.le_trans hbase HBz43.out.size)))
      have Htz44 := Lib.hid (Htz43.out.call kz44)
      have Huz44 := Lib.hid (Huz43.out.call kz44)
      clear kz44
      go_upto_region 16 with fail
      rw [HWz44.out]
      have qt0_44 : wz44.cell? ⟨wz1.heap.size, 0, none⟩ = some (.int .i64 2) := Htz44.out.cell 0
      have qt1_44 : wz44.cell? ⟨wz1.heap.size, 1, none⟩ = some (.int .i64 N) := Htz44.out.cell 1
      have qt2_44 : wz44.cell? ⟨wz1.heap.size, 2, none⟩ = some (.int .i64 (k : Nat)) := Htz44.out.cell 2
      have qt3_44 : wz44.cell? ⟨wz1.heap.size, 3, none⟩ = some (.int .i64 s) := Htz44.out.cell 3
      have lt_44 : wz1.heap.size < wz44.heap.size := Htz44.out.lt
      have qu0_44 : wz44.cell? ⟨wz41.heap.size, 0, none⟩ = some (.int .i64 2) := Huz44.out.cell 0
      have qu1_44 : wz44.cell? ⟨wz41.heap.size, 1, none⟩ = some (.int .i64 N) := Huz44.out.cell 1
      have qu2_44 : wz44.cell? ⟨wz41.heap.size, 2, none⟩ = some (.int .i64 (k : Nat)) := Huz44.out.cell 2
      have qu3_44 : wz44.cell? ⟨wz41.heap.size, 3, none⟩ = some (.int .i64 s) := Huz44.out.cell 3
      have lu_44 : wz41.heap.size < wz44.heap.size := Huz44.out.lt
      have qp0_44 : wz44.cell? ⟨wz43.heap.size, 0, none⟩ = some (.int .i64 0) := Hpz44.out.cell 0
      have qp1_44 : wz44.cell? ⟨wz43.heap.size, 1, none⟩ = some (.int .i64 0) := Hpz44.out.cell 1
      have qp2_44 : wz44.cell? ⟨wz43.heap.size, 2, none⟩ = some (.int .i64 0) := Hpz44.out.cell 2
      have qp3_44 : wz44.cell? ⟨wz43.heap.size, 3, none⟩ = some (.int .u64 0) := Hpz44.out.cell 3
      have qp4_44 : wz44.cell? ⟨wz43.heap.size, 4, none⟩ = some (.int .u64 0) := Hpz44.out.cell 4
      have lp_44 : wz43.heap.size < wz44.heap.size := Hpz44.out.lt
      have hk0 := Xhk0.out
      go_wp2
      go_ret
      exact ⟨rfl, HBz44.out⟩
set_option linter.unusedSimpArgs false in
set_option linter.unusedVariables false in
set_option maxHeartbeats 8000000 in
set_option maxRecDepth 100000 in
theorem mean16_20 (kind size N s d D d1 pc pn pd ph pl q1 q2 q3 q4 q5 : Int) (k : Nat) (cs : List Int) (ao : Option Addr) (n cap : Nat) (w : World) (Z : Bool) (hck : cs.length = k) (hk25 : k ≤ 25) (hsum : ∀ j, 0 ≤ ssum (cs.reverse.take j) ∧ ssum (cs.reverse.take j) ≤ 25000000) (hs : ssum cs = s) (hd1 : min (max d 0) N = d1) (hd2 : min (max d1 0) 1000000 = D) (hk0 : ((k : Int) == 0) = false) (hp1 : 1 ≤ pn) (e1 : wrap64 (pc + pd) = q1) (e2 : wrap64 (q1 * N) = q2) (e3 : wrap64 (D * pn) = q2) (e4 : wrap64 (pc * (k : Nat)) = q3) (e5 : wrap64 (q3 * N) = q4) (e6 : wrap64 (s * pn) = q4) (e7 : wrap64 (D * (k : Nat)) = q5) (e8 : (pd == 0) = Z) (e9 : (q5 == s) = Z)
    (HM1 : Hid (∀ W, Below w.heap.size w W → Calls Try.prog 17 #[.int .i64 kind, .int .i64 size, .slice ao n cap] W (MPost 2 N s k cs W)))
    (HM2 : Hid (∀ v W, ReadsI W v cs.reverse → Calls Try.prog 17 #[.int .i64 kind, .int .i64 size, v] W (MPost 2 N s k cs.reverse W)))
    (HAL : Hid (∀ W, Calls Try.prog 11 #[] W fun e w' => e = .returned (.bool true) ∧ Below W.heap.size W w'))
    (HPO : Hid (∀ W, Calls Try.prog 15 #[.agg #[.int .i64 2, .int .i64 N, .int .i64 (k : Nat), .int .i64 s], .int .i64 D] W fun e w' => e = .returned (.tuple #[.agg #[.int .i64 pc, .int .i64 pn, .int .i64 pd, .int .u64 ph, .int .u64 pl], .int .i64 0]) ∧ Below W.heap.size W w')) :
    Calls Try.prog 5 #[.int .i64 kind, .int .i64 size, .slice ao n cap, .int .i64 d] w fun e w' => e = .returned (.bool true) ∧ Below w.heap.size w w' := by
  have HCK := Lib.hid hck; have HSUM := Lib.hid hsum; have HSS := Lib.hid hs
  have hbase := Nat.le_refl w.heap.size
  have HB0 := Lib.hid (Below.refl w.heap.size w)
  have hkm : wrap64 ((k : Nat) - 1 : Int) = (k : Int) - 1 := by rw [wrapJ6 (by omega)]
  have HKM := Lib.hid hkm
  have Xe1 := Lib.hid e1; have Xe2 := Lib.hid e2; have Xe3 := Lib.hid e3; have Xe4 := Lib.hid e4; have Xe5 := Lib.hid e5; have Xe6 := Lib.hid e6; have Xe7 := Lib.hid e7; have Xe8 := Lib.hid e8; have Xe9 := Lib.hid e9; have Xhp1 := Lib.hid hp1; have Xhk0 := Lib.hid hk0
  clear e1 e2 e3 e4 e5 e6 e7 e8 e9 hp1 hk0
  clear hck hsum hs hkm
  have hqt := eqTal
  have hqp := eqPntT
  go_enter Try.func5, Try.ntmps5
  have hcz1 := HM1.out w (Below.refl _ _)
  go_wp2_with fail
  refine hcz1.mono ?_
  rintro e wz1 ⟨aoC, capC, rfl, hrc, kz1⟩
  clear hcz1
  have HBz1 := Lib.hid (HB0.out.trans (kz1.mono (Nat.le_trans hbase HB0.out.size)))
  clear kz1
  have HRC := Lib.hid hrc
  clear hrc
  obtain ⟨wz2, hwz2⟩ : ∃ wz2, wz1.alloc (.cells #[.int .i64 2, .int .i64 N, .int .i64 (k : Nat), .int .i64 s] 23) = wz2 := ⟨_, rfl⟩
  have kz2 : Below wz1.heap.size wz1 wz2 := by rw [← hwz2]; exact (Below.refl _ _).alloc (Nat.le_refl _) _
  have Htz2 := Lib.hid (show Has wz2 wz1.heap.size [.int .i64 2, .int .i64 N, .int .i64 (k : Nat), .int .i64 s] 23 by rw [← hwz2]; exact Has.new _ _ _)
  have HWz2 := Lib.hid hwz2
  clear hwz2
  have HBz2 := Lib.hid (HBz1.out.trans (kz2.mono (Nat.le_trans hbase HBz1.out.size)))
  have Hcz2 := Lib.hid (HRC.out.below kz2)
  clear kz2
  go_upto_region 2 with fail
  rw [HWz2.out]
  have hcz3 := HAL.out wz2
  go_wp2_with fail
  refine hcz3.mono ?_
  rintro e wz3 ⟨rfl, kz3⟩
  clear hcz3
  have HBz3 := Lib.hid (HBz2.out.trans (kz3.mono (Nat.le_trans hbase HBz2.out.size)))
  have Htz3 := Lib.hid (Htz2.out.call kz3)
  have Hcz3 := Lib.hid (Hcz2.out.below kz3)
  clear kz3
  have qt0_3 : wz3.cell? ⟨wz1.heap.size, 0, none⟩ = some (.int .i64 2) := Htz3.out.cell 0
  have qt1_3 : wz3.cell? ⟨wz1.heap.size, 1, none⟩ = some (.int .i64 N) := Htz3.out.cell 1
  have qt2_3 : wz3.cell? ⟨wz1.heap.size, 2, none⟩ = some (.int .i64 (k : Nat)) := Htz3.out.cell 2
  have qt3_3 : wz3.cell? ⟨wz1.heap.size, 3, none⟩ = some (.int .i64 s) := Htz3.out.cell 3
  have lt_3 : wz1.heap.size < wz3.heap.size := Htz3.out.lt
  go_upto_region 9 with fail
  clear qt0_3 qt1_3 qt2_3 qt3_3 lt_3
  have hkm := HKM.out
  go_wp2_with fail
  clear hkm
  have HJ := Lib.hid (show RevRel cs k wz3 (.slice none 0 0) (.int .i64 0) (.int .i64 ((k : Int) - 1)) wz3 from ⟨0, Nat.zero_le _, by simp, by rw [List.take_zero]; rfl, IRow.nil _ _, Below.refl _ _⟩)
  go_loopw [12, 13, 14] (RevRel cs k wz3) (fun _ _ iv _ => (intOf iv + 1).toNat)
  case atStart => exact HJ.out
  case round =>
    obtain ⟨j, hj, rfl, rfl, hI, hb⟩ := hrel
    rename World => wr
    have HI := Lib.hid hI; have HBI := Lib.hid hb
    clear HJ hI hb
    by_cases hlt : j < k
    · obtain ⟨c, hc, he⟩ := rev_at HCK.out hlt
      obtain ⟨q, hq⟩ : ∃ q, k - 1 - j = q := ⟨_, rfl⟩
      have hqi : (k : Int) - 1 - (j : Nat) = (q : Nat) := by omega
      rw [hq] at hc
      rw [hqi]
      obtain ⟨br, off, hao, hbr, hcc⟩ := (Hcz3.out.below HBI.out).spot hc
      have h1 := HSUM.out j
      have h2 := HSUM.out (j + 1)
      have hsp : ssum (cs.reverse.take (j + 1)) = ssum (cs.reverse.take j) + c := by rw [he, ssum_append]; simp [ssum]
      rw [hsp] at h2
      obtain ⟨a, ha⟩ : ∃ a, ssum (cs.reverse.take j) = a := ⟨_, rfl⟩
      rw [ha] at h1 h2 ⊢
      have hw : wrap64 (a + c) = a + c := wrapJ6 (by omega)
      have hw2 : wrap64 ((q : Nat) - 1 : Int) = (q : Int) - 1 := wrapJ6 (by omega)
      have HE := Lib.hid he; have HSP := Lib.hid (hsp.trans (by rw [ha])); have HQI := Lib.hid hqi; have HLT := Lib.hid hlt; have HCQ := Lib.hid hc; have HK25 := Lib.hid hk25
      have HKL := Lib.hid (show (cs.reverse.take j).length ≤ 25 by rw [List.length_take, List.length_reverse, HCK.out]; omega)
      have hq0 : 0 ≤ (q : Int) := by omega
      have hqx : 0 ≤ (q : Int) ∧ (q : Int) < (k : Int) := by omega
      obtain ⟨acc, hacc⟩ : ∃ acc, cs.reverse.take j = acc := ⟨_, rfl⟩
      rw [hacc] at HI HKL HE
      have HO := Lib.hid (ReadsI.one wr c)
      have HWA := Lib.hid (HI.out.alloc (.cells #[.int .i64 c] 3))
      have HBA := Lib.hid (HBI.out.alloc HBI.out.size (.cells #[.int .i64 c] 3))
      have HSA := Lib.hid (show (wr.alloc (.cells #[.int .i64 c] 3)).heap.size = wr.heap.size + 1 by simp)
      have HW1S := Lib.hid HBI.out.size
      obtain ⟨aoI, capI, hiv⟩ := HI.out.reads.shape
      subst hao
      subst hiv
      clear hj hlt hc he hq hqi h1 h2 hsp ha hacc hk25
      go_wp2_with (at_builtin; refine wpList_append_ints rfl (.tmp 52) (.tmp 57) rfl wz3.heap.size _ acc [c] rfl HWA.out (some ⟨wr.heap.size, 0, none⟩) 1 1 rfl HO.out (by have := HKL.out; rw [List.length_singleton]; omega) (by have := HW1S.out; rw [HSA.out]; omega) ?_)
      intro v' w8 g3 g4
      have hb8 := HBA.out.grown g4 (by have := HW1S.out; rw [HSA.out]; omega) (fun i hi => (HWA.out.lt' i hi).1)
      obtain ⟨b8, o8, hao8, hbr8, hcc8⟩ := (Hcz3.out.below hb8).spot HCQ.out
      injection hao8 with hao8
      injection hao8 with z1 z2 _
      subst z1 z2
      have HQ := Lib.hid (show RevRel cs k wz3 v' (.int .i64 (a + c)) (.int .i64 ((q : Int) - 1)) w8 from ⟨j + 1, HLT.out, by have := HQI.out; rw [show (q : Int) - 1 = (k : Int) - 1 - ((j + 1 : Nat) : Int) by omega], by rw [HSP.out], by rw [HE.out]; exact g3, hb8⟩)
      clear hcc hb8 g3 g4
      go_wp2
      go_roundw
      case rel => rw [hw, hw2]; exact HQ.out
      case measure => rw [hw2]; (simp [intOf] <;> omega)
    · obtain rfl : k = j := by omega
      have hle : cs.reverse.take k = cs.reverse := List.take_of_length_le (by rw [List.length_reverse, HCK.out]; exact Nat.le_refl _)
      rw [hle] at HI
      rw [hle, ssum_rev, HSS.out, show (k : Int) - 1 - (k : Nat) = -1 by omega]
      obtain ⟨aoT, capT, hiv⟩ := HI.out.reads.shape
      rw [List.length_reverse, HCK.out] at hiv
      have HR := Lib.hid HI.out.reads
      subst hiv
      have HTr := Lib.hid (Htz3.out.call HBI.out)
      have HBr := Lib.hid (HBz3.out.trans (HBI.out.mono (Nat.le_trans hbase HBz3.out.size)))
      clear hle hj hlt
      have hcz41 := HM2.out _ wr HR.out
      go_wp2_with fail
      refine hcz41.mono ?_
      rintro e wz41 ⟨aoU, capU, rfl, hru, kz41⟩
      clear hcz41
      have HBz41 := Lib.hid (HBr.out.trans (kz41.mono (Nat.le_trans hbase HBr.out.size)))
      have Htz41 := Lib.hid (HTr.out.call kz41)
      clear kz41
      clear hru
      obtain ⟨wz42, hwz42⟩ : ∃ wz42, wz41.alloc (.cells #[.int .i64 2, .int .i64 N, .int .i64 (k : Nat), .int .i64 s] 23) = wz42 := ⟨_, rfl⟩
      have kz42 : Below wz41.heap.size wz41 wz42 := by rw [← hwz42]; exact (Below.refl _ _).alloc (Nat.le_refl _) _
      have Huz42 := Lib.hid (show Has wz42 wz41.heap.size [.int .i64 2, .int .i64 N, .int .i64 (k : Nat), .int .i64 s] 23 by rw [← hwz42]; exact Has.new _ _ _)
      have HWz42 := Lib.hid hwz42
      clear hwz42
      have HBz42 := Lib.hid (HBz41.out.trans (kz42.mono (Nat.le_trans hbase HBz41.out.size)))
      have Htz42 := Lib.hid (Htz41.out.call kz42)
      clear kz42
      go_upto_region 15 with fail
      rw [HWz42.out]
      have qt0_42 : wz42.cell? ⟨wz1.heap.size, 0, none⟩ = some (.int .i64 2) := Htz42.out.cell 0
      have qt1_42 : wz42.cell? ⟨wz1.heap.size, 1, none⟩ = some (.int .i64 N) := Htz42.out.cell 1
      have qt2_42 : wz42.cell? ⟨wz1.heap.size, 2, none⟩ = some (.int .i64 (k : Nat)) := Htz42.out.cell 2
      have qt3_42 : wz42.cell? ⟨wz1.heap.size, 3, none⟩ = some (.int .i64 s) := Htz42.out.cell 3
      have lt_42 : wz1.heap.size < wz42.heap.size := Htz42.out.lt
      have hcz43 := HPO.out wz42
      go_wp2_with fail
      refine hcz43.mono ?_
      rintro e wz43 ⟨rfl, kz43⟩
      clear hcz43 qt0_42 qt1_42 qt2_42 qt3_42 lt_42
      have HBz43 := Lib.hid (HBz42.out.trans (kz43.mono (Nat.le_trans hbase HBz42.out.size)))
      have Htz43 := Lib.hid (Htz42.out.call kz43)
      have Huz43 := Lib.hid (Huz42.out.call kz43)
      clear kz43
      obtain ⟨wz44, hwz44⟩ : ∃ wz44, wz43.alloc (.cells #[.int .i64 pc, .int .i64 pn, .int .i64 pd, .int .u64 ph, .int .u64 pl] 38) = wz44 := ⟨_, rfl⟩
      have kz44 : Below wz43.heap.size wz43 wz44 := by rw [← hwz44]; exact (Below.refl _ _).alloc (Nat.le_refl _) _
      have Hpz44 := Lib.hid (show Has wz44 wz43.heap.size [.int .i64 pc, .int .i64 pn, .int .i64 pd, .int .u64 ph, .int .u64 pl] 38 by rw [← hwz44]; exact Has.new _ _ _)
      have HWz44 := Lib.hid hwz44
      clear hwz44
      have HBz44 := Lib.hid (HBz43.out.trans (kz44.mono (Nat.le_trans hbase HBz43.out.size)))
      have Htz44 := Lib.hid (Htz43.out.call kz44)
      have Huz44 := Lib.hid (Huz43.out.call kz44)
      clear kz44
      go_upto_region 16 with fail
      rw [HWz44.out]
      have qt0_44 : wz44.cell? ⟨wz1.heap.size, 0, none⟩ = some (.int .i64 2) := Htz44.out.cell 0
      have qt1_44 : wz44.cell? ⟨wz1.heap.size, 1, none⟩ = some (.int .i64 N) := Htz44.out.cell 1
      have qt2_44 : wz44.cell? ⟨wz1.heap.size, 2, none⟩ = some (.int .i64 (k : Nat)) := Htz44.out.cell 2
      have qt3_44 : wz44.cell? ⟨wz1.heap.size, 3, none⟩ = some (.int .i64 s) := Htz44.out.cell 3
      have lt_44 : wz1.heap.size < wz44.heap.size := Htz44.out.lt
      have qu0_44 : wz44.cell? ⟨wz41.heap.size, 0, none⟩ = some (.int .i64 2) := Huz44.out.cell 0
      have qu1_44 : wz44.cell? ⟨wz41.heap.size, 1, none⟩ = some (.int .i64 N) := Huz44.out.cell 1
      have qu2_44 : wz44.cell? ⟨wz41.heap.size, 2, none⟩ = some (.int .i64 (k : Nat)) := Huz44.out.cell 2
      have qu3_44 : wz44.cell? ⟨wz41.heap.size, 3, none⟩ = some (.int .i64 s) := Huz44.out.cell 3
      have lu_44 : wz41.heap.size < wz44.heap.size := Huz44.out.lt
      have qp0_44 : wz44.cell? ⟨wz43.heap.size, 0, none⟩ = some (.int .i64 pc) := Hpz44.out.cell 0
      have qp1_44 : wz44.cell? ⟨wz43.heap.size, 1, none⟩ = some (.int .i64 pn) := Hpz44.out.cell 1
      have qp2_44 : wz44.cell? ⟨wz43.heap.size, 2, none⟩ = some (.int .i64 pd) := Hpz44.out.cell 2
      have qp3_44 : wz44.cell? ⟨wz43.heap.size, 3, none⟩ = some (.int .u64 ph) := Hpz44.out.cell 3
      have qp4_44 : wz44.cell? ⟨wz43.heap.size, 4, none⟩ = some (.int .u64 pl) := Hpz44.out.cell 4
      have lp_44 : wz43.heap.size < wz44.heap.size := Hpz44.out.lt
      have e1 := Xe1.out; have e2 := Xe2.out; have e3 := Xe3.out; have e4 := Xe4.out; have e5 := Xe5.out; have e6 := Xe6.out; have e7 := Xe7.out; have e8 := Xe8.out; have e9 := Xe9.out; have hp1 := Xhp1.out; have hk0 := Xhk0.out
      go_wp2
      go_ret
      exact ⟨rfl, HBz44.out⟩
set_option linter.unusedSimpArgs false in
set_option linter.unusedVariables false in
set_option maxHeartbeats 8000000 in
set_option maxRecDepth 100000 in
theorem mean16_31 (kind size N s d D d1 : Int) (k : Nat) (cs : List Int) (ao : Option Addr) (n cap : Nat) (w : World) (hck : cs.length = k) (hk25 : k ≤ 25) (hsum : ∀ j, 0 ≤ ssum (cs.reverse.take j) ∧ ssum (cs.reverse.take j) ≤ 25000000) (hs : ssum cs = s) (hd1 : min (max d 0) N = d1) (hd2 : min (max d1 0) 1000000 = D) (hk0 : ((k : Int) == 0) = true)
    (HM1 : Hid (∀ W, Below w.heap.size w W → Calls Try.prog 17 #[.int .i64 kind, .int .i64 size, .slice ao n cap] W (MPost 3 N s k cs W)))
    (HM2 : Hid (∀ v W, ReadsI W v cs.reverse → Calls Try.prog 17 #[.int .i64 kind, .int .i64 size, v] W (MPost 3 N s k cs.reverse W)))
    (HAL : Hid (∀ W, Calls Try.prog 11 #[] W fun e w' => e = .returned (.bool true) ∧ Below W.heap.size W w'))
    (HPO : Hid (∀ W, Calls Try.prog 15 #[.agg #[.int .i64 3, .int .i64 N, .int .i64 (k : Nat), .int .i64 s], .int .i64 D] W fun e w' => e = .returned (.tuple #[.agg #[.int .i64 0, .int .i64 0, .int .i64 0, .int .u64 0, .int .u64 0], .int .i64 12]) ∧ Below W.heap.size W w')) :
    Calls Try.prog 5 #[.int .i64 kind, .int .i64 size, .slice ao n cap, .int .i64 d] w fun e w' => e = .returned (.bool true) ∧ Below w.heap.size w w' := by
  have HCK := Lib.hid hck; have HSUM := Lib.hid hsum; have HSS := Lib.hid hs
  have hbase := Nat.le_refl w.heap.size
  have HB0 := Lib.hid (Below.refl w.heap.size w)
  have hkm : wrap64 ((k : Nat) - 1 : Int) = (k : Int) - 1 := by rw [wrapJ6 (by omega)]
  have HKM := Lib.hid hkm
  have Xhk0 := Lib.hid hk0
  clear hk0
  clear hck hsum hs hkm
  have hqt := eqTal
  have hqp := eqPntT
  go_enter Try.func5, Try.ntmps5
  have hcz1 := HM1.out w (Below.refl _ _)
  go_wp2_with fail
  refine hcz1.mono ?_
  rintro e wz1 ⟨aoC, capC, rfl, hrc, kz1⟩
  clear hcz1
  have HBz1 := Lib.hid (HB0.out.trans (kz1.mono (Nat.le_trans hbase HB0.out.size)))
  clear kz1
  have HRC := Lib.hid hrc
  clear hrc
  obtain ⟨wz2, hwz2⟩ : ∃ wz2, wz1.alloc (.cells #[.int .i64 3, .int .i64 N, .int .i64 (k : Nat), .int .i64 s] 23) = wz2 := ⟨_, rfl⟩
  have kz2 : Below wz1.heap.size wz1 wz2 := by rw [← hwz2]; exact (Below.refl _ _).alloc (Nat.le_refl _) _
  have Htz2 := Lib.hid (show Has wz2 wz1.heap.size [.int .i64 3, .int .i64 N, .int .i64 (k : Nat), .int .i64 s] 23 by rw [← hwz2]; exact Has.new _ _ _)
  have HWz2 := Lib.hid hwz2
  clear hwz2
  have HBz2 := Lib.hid (HBz1.out.trans (kz2.mono (Nat.le_trans hbase HBz1.out.size)))
  have Hcz2 := Lib.hid (HRC.out.below kz2)
  clear kz2
  go_upto_region 2 with fail
  rw [HWz2.out]
  have hcz3 := HAL.out wz2
  go_wp2_with fail
  refine hcz3.mono ?_
  rintro e wz3 ⟨rfl, kz3⟩
  clear hcz3
  have HBz3 := Lib.hid (HBz2.out.trans (kz3.mono (Nat.le_trans hbase HBz2.out.size)))
  have Htz3 := Lib.hid (Htz2.out.call kz3)
  have Hcz3 := Lib.hid (Hcz2.out.below kz3)
  clear kz3
  have qt0_3 : wz3.cell? ⟨wz1.heap.size, 0, none⟩ = some (.int .i64 3) := Htz3.out.cell 0
  have qt1_3 : wz3.cell? ⟨wz1.heap.size, 1, none⟩ = some (.int .i64 N) := Htz3.out.cell 1
  have qt2_3 : wz3.cell? ⟨wz1.heap.size, 2, none⟩ = some (.int .i64 (k : Nat)) := Htz3.out.cell 2
  have qt3_3 : wz3.cell? ⟨wz1.heap.size, 3, none⟩ = some (.int .i64 s) := Htz3.out.cell 3
  have lt_3 : wz1.heap.size < wz3.heap.size := Htz3.out.lt
  go_upto_region 9 with fail
  clear qt0_3 qt1_3 qt2_3 qt3_3 lt_3
  have hkm := HKM.out
  go_wp2_with fail
  clear hkm
  have HJ := Lib.hid (show RevRel cs k wz3 (.slice none 0 0) (.int .i64 0) (.int .i64 ((k : Int) - 1)) wz3 from ⟨0, Nat.zero_le _, by simp, by rw [List.take_zero]; rfl, IRow.nil _ _, Below.refl _ _⟩)
  go_loopw [12, 13, 14] (RevRel cs k wz3) (fun _ _ iv _ => (intOf iv + 1).toNat)
  case atStart => exact HJ.out
  case round =>
    obtain ⟨j, hj, rfl, rfl, hI, hb⟩ := hrel
    rename World => wr
    have HI := Lib.hid hI; have HBI := Lib.hid hb
    clear HJ hI hb
    by_cases hlt : j < k
    · obtain ⟨c, hc, he⟩ := rev_at HCK.out hlt
      obtain ⟨q, hq⟩ : ∃ q, k - 1 - j = q := ⟨_, rfl⟩
      have hqi : (k : Int) - 1 - (j : Nat) = (q : Nat) := by omega
      rw [hq] at hc
      rw [hqi]
      obtain ⟨br, off, hao, hbr, hcc⟩ := (Hcz3.out.below HBI.out).spot hc
      have h1 := HSUM.out j
      have h2 := HSUM.out (j + 1)
      have hsp : ssum (cs.reverse.take (j + 1)) = ssum (cs.reverse.take j) + c := by rw [he, ssum_append]; simp [ssum]
      rw [hsp] at h2
      obtain ⟨a, ha⟩ : ∃ a, ssum (cs.reverse.take j) = a := ⟨_, rfl⟩
      rw [ha] at h1 h2 ⊢
      have hw : wrap64 (a + c) = a + c := wrapJ6 (by omega)
      have hw2 : wrap64 ((q : Nat) - 1 : Int) = (q : Int) - 1 := wrapJ6 (by omega)
      have HE := Lib.hid he; have HSP := Lib.hid (hsp.trans (by rw [ha])); have HQI := Lib.hid hqi; have HLT := Lib.hid hlt; have HCQ := Lib.hid hc; have HK25 := Lib.hid hk25
      have HKL := Lib.hid (show (cs.reverse.take j).length ≤ 25 by rw [List.length_take, List.length_reverse, HCK.out]; omega)
      have hq0 : 0 ≤ (q : Int) := by omega
      have hqx : 0 ≤ (q : Int) ∧ (q : Int) < (k : Int) := by omega
      obtain ⟨acc, hacc⟩ : ∃ acc, cs.reverse.take j = acc := ⟨_, rfl⟩
      rw [hacc] at HI HKL HE
      have HO := Lib.hid (ReadsI.one wr c)
      have HWA := Lib.hid (HI.out.alloc (.cells #[.int .i64 c] 3))
      have HBA := Lib.hid (HBI.out.alloc HBI.out.size (.cells #[.int .i64 c] 3))
      have HSA := Lib.hid (show (wr.alloc (.cells #[.int .i64 c] 3)).heap.size = wr.heap.size + 1 by simp)
      have HW1S := Lib.hid HBI.out.size
      obtain ⟨aoI, capI, hiv⟩ := HI.out.reads.shape
      subst hao
      subst hiv
      clear hj hlt hc he hq hqi h1 h2 hsp ha hacc hk25
      go_wp2_with (at_builtin; refine wpList_append_ints rfl (.tmp 52) (.tmp 57) rfl wz3.heap.size _ acc [c] rfl HWA.out (some ⟨wr.heap.size, 0, none⟩) 1 1 rfl HO.out (by have := HKL.out; rw [List.length_singleton]; omega) (by have := HW1S.out; rw [HSA.out]; omega) ?_)
      intro v' w8 g3 g4
      have hb8 := HBA.out.grown g4 (by have := HW1S.out; rw [HSA.out]; omega) (fun i hi => (HWA.out.lt' i hi).1)
      obtain ⟨b8, o8, hao8, hbr8, hcc8⟩ := (Hcz3.out.below hb8).spot HCQ.out
      injection hao8 with hao8
      injection hao8 with z1 z2 _
      subst z1 z2
      have HQ := Lib.hid (show RevRel cs k wz3 v' (.int .i64 (a + c)) (.int .i64 ((q : Int) - 1)) w8 from ⟨j + 1, HLT.out, by have := HQI.out; rw [show (q : Int) - 1 = (k : Int) - 1 - ((j + 1 : Nat) : Int) by omega], by rw [HSP.out], by rw [HE.out]; exact g3, hb8⟩)
      clear hcc hb8 g3 g4
      go_wp2
      go_roundw
      case rel => rw [hw, hw2]; exact HQ.out
      case measure => rw [hw2]; (simp [intOf] <;> omega)
    · obtain rfl : k = j := by omega
      have hle : cs.reverse.take k = cs.reverse := List.take_of_length_le (by rw [List.length_reverse, HCK.out]; exact Nat.le_refl _)
      rw [hle] at HI
      rw [hle, ssum_rev, HSS.out, show (k : Int) - 1 - (k : Nat) = -1 by omega]
      obtain ⟨aoT, capT, hiv⟩ := HI.out.reads.shape
      rw [List.length_reverse, HCK.out] at hiv
      have HR := Lib.hid HI.out.reads
      subst hiv
      have HTr := Lib.hid (Htz3.out.call HBI.out)
      have HBr := Lib.hid (HBz3.out.trans (HBI.out.mono (Nat.le_trans hbase HBz3.out.size)))
      clear hle hj hlt
      have hcz41 := HM2.out _ wr HR.out
      go_wp2_with fail
      refine hcz41.mono ?_
      rintro e wz41 ⟨aoU, capU, rfl, hru, kz41⟩
      clear hcz41
      have HBz41 := Lib.hid (HBr.out.trans (kz41.mono (Nat.le_trans hbase HBr.out.size)))
      have Htz41 := Lib.hid (HTr.out.call kz41)
      clear kz41
      clear hru
      obtain ⟨wz42, hwz42⟩ : ∃ wz42, wz41.alloc (.cells #[.int .i64 3, .int .i64 N, .int .i64 (k : Nat), .int .i64 s] 23) = wz42 := ⟨_, rfl⟩
      have kz42 : Below wz41.heap.size wz41 wz42 := by rw [← hwz42]; exact (Below.refl _ _).alloc (Nat.le_refl _) _
      have Huz42 := Lib.hid (show Has wz42 wz41.heap.size [.int .i64 3, .int .i64 N, .int .i64 (k : Nat), .int .i64 s] 23 by rw [← hwz42]; exact Has.new _ _ _)
      have HWz42 := Lib.hid hwz42
      clear hwz42
      have HBz42 := Lib.hid (HBz41.out.trans (kz42.mono (Nat.le_trans hbase HBz41.out.size)))
      have Htz42 := Lib.hid (Htz41.out.call kz42)
      clear kz42
      go_upto_region 15 with fail
      rw [HWz42.out]
      have qt0_42 : wz42.cell? ⟨wz1.heap.size, 0, none⟩ = some (.int .i64 3) := Htz42.out.cell 0
      have qt1_42 : wz42.cell? ⟨wz1.heap.size, 1, none⟩ = some (.int .i64 N) := Htz42.out.cell 1
      have qt2_42 : wz42.cell? ⟨wz1.heap.size, 2, none⟩ = some (.int .i64 (k : Nat)) := Htz42.out.cell 2
      have qt3_42 : wz42.cell? ⟨wz1.heap.size, 3, none⟩ = some (.int .i64 s) := Htz42.out.cell 3
      have lt_42 : wz1.heap.size < wz42.heap.size := Htz42.out.lt
      have hcz43 := HPO.out wz42
      go_wp2_with fail
      refine hcz43.mono ?_
      rintro e wz43 ⟨rfl, kz43⟩
      clear hcz43 qt0_42 qt1_42 qt2_42 qt3_42 lt_42
      have HBz43 := Lib.hid (HBz42.out.trans (kz43.mono (Nat.le_trans hbase HBz42.out.size)))
      have Htz43 := Lib.hid (Htz42.out.call kz43)
      have Huz43 := Lib.hid (Huz42.out.call kz43)
      clear kz43
      obtain ⟨wz44, hwz44⟩ : ∃ wz44, wz43.alloc (.cells #[.int .i64 0, .int .i64 0, .int .i64 0, .int .u64 0, .int .u64 0] 38) = wz44 := ⟨_, rfl⟩
      have kz44 : Below wz43.heap.size wz43 wz44 := by rw [← hwz44]; exact (Below.refl _ _).alloc (Nat.le_refl _) _
      have Hpz44 := Lib.hid (show Has wz44 wz43.heap.size [.int .i64 0, .int .i64 0, .int .i64 0, .int .u64 0, .int .u64 0] 38 by rw [← hwz44]; exact Has.new _ _ _)
      have HWz44 := Lib.hid hwz44
      clear hwz44
      have HBz44 := Lib.hid (HBz43.out.trans (kz44.mono (Nat.le_trans hbase HBz43.out.size)))
      have Htz44 := Lib.hid (Htz43.out.call kz44)
      have Huz44 := Lib.hid (Huz43.out.call kz44)
      clear kz44
      go_upto_region 16 with fail
      rw [HWz44.out]
      have qt0_44 : wz44.cell? ⟨wz1.heap.size, 0, none⟩ = some (.int .i64 3) := Htz44.out.cell 0
      have qt1_44 : wz44.cell? ⟨wz1.heap.size, 1, none⟩ = some (.int .i64 N) := Htz44.out.cell 1
      have qt2_44 : wz44.cell? ⟨wz1.heap.size, 2, none⟩ = some (.int .i64 (k : Nat)) := Htz44.out.cell 2
      have qt3_44 : wz44.cell? ⟨wz1.heap.size, 3, none⟩ = some (.int .i64 s) := Htz44.out.cell 3
      have lt_44 : wz1.heap.size < wz44.heap.size := Htz44.out.lt
      have qu0_44 : wz44.cell? ⟨wz41.heap.size, 0, none⟩ = some (.int .i64 3) := Huz44.out.cell 0
      have qu1_44 : wz44.cell? ⟨wz41.heap.size, 1, none⟩ = some (.int .i64 N) := Huz44.out.cell 1
      have qu2_44 : wz44.cell? ⟨wz41.heap.size, 2, none⟩ = some (.int .i64 (k : Nat)) := Huz44.out.cell 2
      have qu3_44 : wz44.cell? ⟨wz41.heap.size, 3, none⟩ = some (.int .i64 s) := Huz44.out.cell 3
      have lu_44 : wz41.heap.size < wz44.heap.size := Huz44.out.lt
      have qp0_44 : wz44.cell? ⟨wz43.heap.size, 0, none⟩ = some (.int .i64 0) := Hpz44.out.cell 0
      have qp1_44 : wz44.cell? ⟨wz43.heap.size, 1, none⟩ = some (.int .i64 0) := Hpz44.out.cell 1
      have qp2_44 : wz44.cell? ⟨wz43.heap.size, 2, none⟩ = some (.int .i64 0) := Hpz44.out.cell 2
      have qp3_44 : wz44.cell? ⟨wz43.heap.size, 3, none⟩ = some (.int .u64 0) := Hpz44.out.cell 3
      have qp4_44 : wz44.cell? ⟨wz43.heap.size, 4, none⟩ = some (.int .u64 0) := Hpz44.out.cell 4
      have lp_44 : wz43.heap.size < wz44.heap.size := Hpz44.out.lt
      have hk0 := Xhk0.out
      go_wp2
      go_ret
      exact ⟨rfl, HBz44.out⟩
set_option linter.unusedSimpArgs false in
set_option linter.unusedVariables false in
set_option maxHeartbeats 8000000 in
set_option maxRecDepth 100000 in
theorem mean16_30 (kind size N s d D d1 pc pn pd ph pl q1 q2 q3 q4 q5 : Int) (k : Nat) (cs : List Int) (ao : Option Addr) (n cap : Nat) (w : World) (Z : Bool) (hck : cs.length = k) (hk25 : k ≤ 25) (hsum : ∀ j, 0 ≤ ssum (cs.reverse.take j) ∧ ssum (cs.reverse.take j) ≤ 25000000) (hs : ssum cs = s) (hd1 : min (max d 0) N = d1) (hd2 : min (max d1 0) 1000000 = D) (hk0 : ((k : Int) == 0) = false) (hp1 : 1 ≤ pn) (e1 : wrap64 (pc + pd) = q1) (e2 : wrap64 q1 = q2) (e3 : wrap64 (D * pn) = q2) (e4 : wrap64 (pc * (k : Nat)) = q3) (e5 : wrap64 q3 = q4) (e6 : wrap64 (s * pn) = q4) (e7 : wrap64 (D * (k : Nat)) = q5) (e8 : (pd == 0) = Z) (e9 : (q5 == s) = Z)
    (HM1 : Hid (∀ W, Below w.heap.size w W → Calls Try.prog 17 #[.int .i64 kind, .int .i64 size, .slice ao n cap] W (MPost 3 N s k cs W)))
    (HM2 : Hid (∀ v W, ReadsI W v cs.reverse → Calls Try.prog 17 #[.int .i64 kind, .int .i64 size, v] W (MPost 3 N s k cs.reverse W)))
    (HAL : Hid (∀ W, Calls Try.prog 11 #[] W fun e w' => e = .returned (.bool true) ∧ Below W.heap.size W w'))
    (HPO : Hid (∀ W, Calls Try.prog 15 #[.agg #[.int .i64 3, .int .i64 N, .int .i64 (k : Nat), .int .i64 s], .int .i64 D] W fun e w' => e = .returned (.tuple #[.agg #[.int .i64 pc, .int .i64 pn, .int .i64 pd, .int .u64 ph, .int .u64 pl], .int .i64 0]) ∧ Below W.heap.size W w')) :
    Calls Try.prog 5 #[.int .i64 kind, .int .i64 size, .slice ao n cap, .int .i64 d] w fun e w' => e = .returned (.bool true) ∧ Below w.heap.size w w' := by
  have HCK := Lib.hid hck; have HSUM := Lib.hid hsum; have HSS := Lib.hid hs
  have hbase := Nat.le_refl w.heap.size
  have HB0 := Lib.hid (Below.refl w.heap.size w)
  have hkm : wrap64 ((k : Nat) - 1 : Int) = (k : Int) - 1 := by rw [wrapJ6 (by omega)]
  have HKM := Lib.hid hkm
  have Xe1 := Lib.hid e1; have Xe2 := Lib.hid e2; have Xe3 := Lib.hid e3; have Xe4 := Lib.hid e4; have Xe5 := Lib.hid e5; have Xe6 := Lib.hid e6; have Xe7 := Lib.hid e7; have Xe8 := Lib.hid e8; have Xe9 := Lib.hid e9; have Xhp1 := Lib.hid hp1; have Xhk0 := Lib.hid hk0
  clear e1 e2 e3 e4 e5 e6 e7 e8 e9 hp1 hk0
  clear hck hsum hs hkm
  have hqt := eqTal
  have hqp := eqPntT
  go_enter Try.func5, Try.ntmps5
  have hcz1 := HM1.out w (Below.refl _ _)
  go_wp2_with fail
  refine hcz1.mono ?_
  rintro e wz1 ⟨aoC, capC, rfl, hrc, kz1⟩
  clear hcz1
  have HBz1 := Lib.hid (HB0.out.trans (kz1.mono (Nat.le_trans hbase HB0.out.size)))
  clear kz1
  have HRC := Lib.hid hrc
  clear hrc
  obtain ⟨wz2, hwz2⟩ : ∃ wz2, wz1.alloc (.cells #[.int .i64 3, .int .i64 N, .int .i64 (k : Nat), .int .i64 s] 23) = wz2 := ⟨_, rfl⟩
  have kz2 : Below wz1.heap.size wz1 wz2 := by rw [← hwz2]; exact (Below.refl _ _).alloc (Nat.le_refl _) _
  have Htz2 := Lib.hid (show Has wz2 wz1.heap.size [.int .i64 3, .int .i64 N, .int .i64 (k : Nat), .int .i64 s] 23 by rw [← hwz2]; exact Has.new _ _ _)
  have HWz2 := Lib.hid hwz2
  clear hwz2
  have HBz2 := Lib.hid (HBz1.out.trans (kz2.mono (Nat.le_trans hbase HBz1.out.size)))
  have Hcz2 := Lib.hid (HRC.out.below kz2)
  clear kz2
  go_upto_region 2 with fail
  rw [HWz2.out]
  have hcz3 := HAL.out wz2
  go_wp2_with fail
  refine hcz3.mono ?_
  rintro e wz3 ⟨rfl, kz3⟩
  clear hcz3
  have HBz3 := Lib.hid (HBz2.out.trans (kz3.mono (Nat.le_trans hbase HBz2.out.size)))
  have Htz3 := Lib.hid (Htz2.out.call kz3)
  have Hcz3 := Lib.hid (Hcz2.out.below kz3)
  clear kz3
  have qt0_3 : wz3.cell? ⟨wz1.heap.size, 0, none⟩ = some (.int .i64 3) := Htz3.out.cell 0
  have qt1_3 : wz3.cell? ⟨wz1.heap.size, 1, none⟩ = some (.int .i64 N) := Htz3.out.cell 1
  have qt2_3 : wz3.cell? ⟨wz1.heap.size, 2, none⟩ = some (.int .i64 (k : Nat)) := Htz3.out.cell 2
  have qt3_3 : wz3.cell? ⟨wz1.heap.size, 3, none⟩ = some (.int .i64 s) := Htz3.out.cell 3
  have lt_3 : wz1.heap.size < wz3.heap.size := Htz3.out.lt
  go_upto_region 9 with fail
  clear qt0_3 qt1_3 qt2_3 qt3_3 lt_3
  have hkm := HKM.out
  go_wp2_with fail
  clear hkm
  have HJ := Lib.hid (show RevRel cs k wz3 (.slice none 0 0) (.int .i64 0) (.int .i64 ((k : Int) - 1)) wz3 from ⟨0, Nat.zero_le _, by simp, by rw [List.take_zero]; rfl, IRow.nil _ _, Below.refl _ _⟩)
  go_loopw [12, 13, 14] (RevRel cs k wz3) (fun _ _ iv _ => (intOf iv + 1).toNat)
  case atStart => exact HJ.out
  case round =>
    obtain ⟨j, hj, rfl, rfl, hI, hb⟩ := hrel
    rename World => wr
    have HI := Lib.hid hI; have HBI := Lib.hid hb
    clear HJ hI hb
    by_cases hlt : j < k
    · obtain ⟨c, hc, he⟩ := rev_at HCK.out hlt
      obtain ⟨q, hq⟩ : ∃ q, k - 1 - j = q := ⟨_, rfl⟩
      have hqi : (k : Int) - 1 - (j : Nat) = (q : Nat) := by omega
      rw [hq] at hc
      rw [hqi]
      obtain ⟨br, off, hao, hbr, hcc⟩ := (Hcz3.out.below HBI.out).spot hc
      have h1 := HSUM.out j
      have h2 := HSUM.out (j + 1)
      have hsp : ssum (cs.reverse.take (j + 1)) = ssum (cs.reverse.take j) + c := by rw [he, ssum_append]; simp [ssum]
      rw [hsp] at h2
      obtain ⟨a, ha⟩ : ∃ a, ssum (cs.reverse.take j) = a := ⟨_, rfl⟩
      rw [ha] at h1 h2 ⊢
      have hw : wrap64 (a + c) = a + c := wrapJ6 (by omega)
      have hw2 : wrap64 ((q : Nat) - 1 : Int) = (q : Int) - 1 := wrapJ6 (by omega)
      have HE := Lib.hid he; have HSP := Lib.hid (hsp.trans (by rw [ha])); have HQI := Lib.hid hqi; have HLT := Lib.hid hlt; have HCQ := Lib.hid hc; have HK25 := Lib.hid hk25
      have HKL := Lib.hid (show (cs.reverse.take j).length ≤ 25 by rw [List.length_take, List.length_reverse, HCK.out]; omega)
      have hq0 : 0 ≤ (q : Int) := by omega
      have hqx : 0 ≤ (q : Int) ∧ (q : Int) < (k : Int) := by omega
      obtain ⟨acc, hacc⟩ : ∃ acc, cs.reverse.take j = acc := ⟨_, rfl⟩
      rw [hacc] at HI HKL HE
      have HO := Lib.hid (ReadsI.one wr c)
      have HWA := Lib.hid (HI.out.alloc (.cells #[.int .i64 c] 3))
      have HBA := Lib.hid (HBI.out.alloc HBI.out.size (.cells #[.int .i64 c] 3))
      have HSA := Lib.hid (show (wr.alloc (.cells #[.int .i64 c] 3)).heap.size = wr.heap.size + 1 by simp)
      have HW1S := Lib.hid HBI.out.size
      obtain ⟨aoI, capI, hiv⟩ := HI.out.reads.shape
      subst hao
      subst hiv
      clear hj hlt hc he hq hqi h1 h2 hsp ha hacc hk25
      go_wp2_with (at_builtin; refine wpList_append_ints rfl (.tmp 52) (.tmp 57) rfl wz3.heap.size _ acc [c] rfl HWA.out (some ⟨wr.heap.size, 0, none⟩) 1 1 rfl HO.out (by have := HKL.out; rw [List.length_singleton]; omega) (by have := HW1S.out; rw [HSA.out]; omega) ?_)
      intro v' w8 g3 g4
      have hb8 := HBA.out.grown g4 (by have := HW1S.out; rw [HSA.out]; omega) (fun i hi => (HWA.out.lt' i hi).1)
      obtain ⟨b8, o8, hao8, hbr8, hcc8⟩ := (Hcz3.out.below hb8).spot HCQ.out
      injection hao8 with hao8
      injection hao8 with z1 z2 _
      subst z1 z2
      have HQ := Lib.hid (show RevRel cs k wz3 v' (.int .i64 (a + c)) (.int .i64 ((q : Int) - 1)) w8 from ⟨j + 1, HLT.out, by have := HQI.out; rw [show (q : Int) - 1 = (k : Int) - 1 - ((j + 1 : Nat) : Int) by omega], by rw [HSP.out], by rw [HE.out]; exact g3, hb8⟩)
      clear hcc hb8 g3 g4
      go_wp2
      go_roundw
      case rel => rw [hw, hw2]; exact HQ.out
      case measure => rw [hw2]; (simp [intOf] <;> omega)
    · obtain rfl : k = j := by omega
      have hle : cs.reverse.take k = cs.reverse := List.take_of_length_le (by rw [List.length_reverse, HCK.out]; exact Nat.le_refl _)
      rw [hle] at HI
      rw [hle, ssum_rev, HSS.out, show (k : Int) - 1 - (k : Nat) = -1 by omega]
      obtain ⟨aoT, capT, hiv⟩ := HI.out.reads.shape
      rw [List.length_reverse, HCK.out] at hiv
      have HR := Lib.hid HI.out.reads
      subst hiv
      have HTr := Lib.hid (Htz3.out.call HBI.out)
      have HBr := Lib.hid (HBz3.out.trans (HBI.out.mono (Nat.le_trans hbase HBz3.out.size)))
      clear hle hj hlt
      have hcz41 := HM2.out _ wr HR.out
      go_wp2_with fail
      refine hcz41.mono ?_
      rintro e wz41 ⟨aoU, capU, rfl, hru, kz41⟩
      clear hcz41
      have HBz41 := Lib.hid (HBr.out.trans (kz41.mono (Nat.le_trans hbase HBr.out.size)))
      have Htz41 := Lib.hid (HTr.out.call kz41)
      clear kz41
      clear hru
      obtain ⟨wz42, hwz42⟩ : ∃ wz42, wz41.alloc (.cells #[.int .i64 3, .int .i64 N, .int .i64 (k : Nat), .int .i64 s] 23) = wz42 := ⟨_, rfl⟩
      have kz42 : Below wz41.heap.size wz41 wz42 := by rw [← hwz42]; exact (Below.refl _ _).alloc (Nat.le_refl _) _
      have Huz42 := Lib.hid (show Has wz42 wz41.heap.size [.int .i64 3, .int .i64 N, .int .i64 (k : Nat), .int .i64 s] 23 by rw [← hwz42]; exact Has.new _ _ _)
      have HWz42 := Lib.hid hwz42
      clear hwz42
      have HBz42 := Lib.hid (HBz41.out.trans (kz42.mono (Nat.le_trans hbase HBz41.out.size)))
      have Htz42 := Lib.hid (Htz41.out.call kz42)
      clear kz42
      go_upto_region 15 with fail
      rw [HWz42.out]
      have qt0_42 : wz42.cell? ⟨wz1.heap.size, 0, none⟩ = some (.int .i64 3) := Htz42.out.cell 0
      have qt1_42 : wz42.cell? ⟨wz1.heap.size, 1, none⟩ = some (.int .i64 N) := Htz42.out.cell 1
      have qt2_42 : wz42.cell? ⟨wz1.heap.size, 2, none⟩ = some (.int .i64 (k : Nat)) := Htz42.out.cell 2
      have qt3_42 : wz42.cell? ⟨wz1.heap.size, 3, none⟩ = some (.int .i64 s) := Htz42.out.cell 3
      have lt_42 : wz1.heap.size < wz42.heap.size := Htz42.out.lt
      have hcz43 := HPO.out wz42
      go_wp2_with fail
      refine hcz43.mono ?_
      rintro e wz43 ⟨rfl, kz43⟩
      clear hcz43 qt0_42 qt1_42 qt2_42 qt3_42 lt_42
      have HBz43 := Lib.hid (HBz42.out.trans (kz43.mono (Nat.le_trans hbase HBz42.out.size)))
      have Htz43 := Lib.hid (Htz42.out.call kz43)
      have Huz43 := Lib.hid (Huz42.out.call kz43)
      clear kz43
      obtain ⟨wz44, hwz44⟩ : ∃ wz44, wz43.alloc (.cells #[.int .i64 pc, .int .i64 pn, .int .i64 pd, .int .u64 ph, .int .u64 pl] 38) = wz44 := ⟨_, rfl⟩
      have kz44 : Below wz43.heap.size wz43 wz44 := by rw [← hwz44]; exact (Below.refl _ _).alloc (Nat.le_refl _) _
      have Hpz44 := Lib.hid (show Has wz44 wz43.heap.size [.int .i64 pc, .int .i64 pn, .int .i64 pd, .int .u64 ph, .int .u64 pl] 38 by rw [← hwz44]; exact Has.new _ _ _)
      have HWz44 := Lib.hid hwz44
      clear hwz44
      have HBz44 := Lib.hid (HBz43.out.trans (kz44.mono (Nat.le_trans hbase HBz43.out.size)))
      have Htz44 := Lib.hid (Htz43.out.call kz44)
      have Huz44 := Lib.hid (Huz43.out.call kz44)
      clear kz44
      go_upto_region 16 with fail
      rw [HWz44.out]
      have qt0_44 : wz44.cell? ⟨wz1.heap.size, 0, none⟩ = some (.int .i64 3) := Htz44.out.cell 0
      have qt1_44 : wz44.cell? ⟨wz1.heap.size, 1, none⟩ = some (.int .i64 N) := Htz44.out.cell 1
      have qt2_44 : wz44.cell? ⟨wz1.heap.size, 2, none⟩ = some (.int .i64 (k : Nat)) := Htz44.out.cell 2
      have qt3_44 : wz44.cell? ⟨wz1.heap.size, 3, none⟩ = some (.int .i64 s) := Htz44.out.cell 3
      have lt_44 : wz1.heap.size < wz44.heap.size := Htz44.out.lt
      have qu0_44 : wz44.cell? ⟨wz41.heap.size, 0, none⟩ = some (.int .i64 3) := Huz44.out.cell 0
      have qu1_44 : wz44.cell? ⟨wz41.heap.size, 1, none⟩ = some (.int .i64 N) := Huz44.out.cell 1
      have qu2_44 : wz44.cell? ⟨wz41.heap.size, 2, none⟩ = some (.int .i64 (k : Nat)) := Huz44.out.cell 2
      have qu3_44 : wz44.cell? ⟨wz41.heap.size, 3, none⟩ = some (.int .i64 s) := Huz44.out.cell 3
      have lu_44 : wz41.heap.size < wz44.heap.size := Huz44.out.lt
      have qp0_44 : wz44.cell? ⟨wz43.heap.size, 0, none⟩ = some (.int .i64 pc) := Hpz44.out.cell 0
      have qp1_44 : wz44.cell? ⟨wz43.heap.size, 1, none⟩ = some (.int .i64 pn) := Hpz44.out.cell 1
      have qp2_44 : wz44.cell? ⟨wz43.heap.size, 2, none⟩ = some (.int .i64 pd) := Hpz44.out.cell 2
      have qp3_44 : wz44.cell? ⟨wz43.heap.size, 3, none⟩ = some (.int .u64 ph) := Hpz44.out.cell 3
      have qp4_44 : wz44.cell? ⟨wz43.heap.size, 4, none⟩ = some (.int .u64 pl) := Hpz44.out.cell 4
      have lp_44 : wz43.heap.size < wz44.heap.size := Hpz44.out.lt
      have e1 := Xe1.out; have e2 := Xe2.out; have e3 := Xe3.out; have e4 := Xe4.out; have e5 := Xe5.out; have e6 := Xe6.out; have e7 := Xe7.out; have e8 := Xe8.out; have e9 := Xe9.out; have hp1 := Xhp1.out; have hk0 := Xhk0.out
      go_wp2
      go_ret
      exact ⟨rfl, HBz44.out⟩
set_option linter.unusedSimpArgs false in
set_option linter.unusedVariables false in
set_option maxHeartbeats 8000000 in
set_option maxRecDepth 100000 in
theorem mean16_41 (kind size N s d D : Int) (k : Nat) (cs : List Int) (ao : Option Addr) (n cap : Nat) (w : World) (hck : cs.length = k) (hk25 : k ≤ 25) (hsum : ∀ j, 0 ≤ ssum (cs.reverse.take j) ∧ ssum (cs.reverse.take j) ≤ 25000000) (hs : ssum cs = s) (hd2 : min (max d 0) 1000000 = D) (hk0 : ((k : Int) == 0) = true)
    (HM1 : Hid (∀ W, Below w.heap.size w W → Calls Try.prog 17 #[.int .i64 kind, .int .i64 size, .slice ao n cap] W (MPost 4 N s k cs W)))
    (HM2 : Hid (∀ v W, ReadsI W v cs.reverse → Calls Try.prog 17 #[.int .i64 kind, .int .i64 size, v] W (MPost 4 N s k cs.reverse W)))
    (HAL : Hid (∀ W, Calls Try.prog 11 #[] W fun e w' => e = .returned (.bool true) ∧ Below W.heap.size W w'))
    (HPO : Hid (∀ W, Calls Try.prog 15 #[.agg #[.int .i64 4, .int .i64 N, .int .i64 (k : Nat), .int .i64 s], .int .i64 D] W fun e w' => e = .returned (.tuple #[.agg #[.int .i64 0, .int .i64 0, .int .i64 0, .int .u64 0, .int .u64 0], .int .i64 12]) ∧ Below W.heap.size W w')) :
    Calls Try.prog 5 #[.int .i64 kind, .int .i64 size, .slice ao n cap, .int .i64 d] w fun e w' => e = .returned (.bool true) ∧ Below w.heap.size w w' := by
  have HCK := Lib.hid hck; have HSUM := Lib.hid hsum; have HSS := Lib.hid hs
  have hbase := Nat.le_refl w.heap.size
  have HB0 := Lib.hid (Below.refl w.heap.size w)
  have hkm : wrap64 ((k : Nat) - 1 : Int) = (k : Int) - 1 := by rw [wrapJ6 (by omega)]
  have HKM := Lib.hid hkm
  have Xhk0 := Lib.hid hk0
  clear hk0
  clear hck hsum hs hkm
  have hqt := eqTal
  have hqp := eqPntT
  go_enter Try.func5, Try.ntmps5
  have hcz1 := HM1.out w (Below.refl _ _)
  go_wp2_with fail
  refine hcz1.mono ?_
  rintro e wz1 ⟨aoC, capC, rfl, hrc, kz1⟩
  clear hcz1
  have HBz1 := Lib.hid (HB0.out.trans (kz1.mono (Nat.le_trans hbase HB0.out.size)))
  clear kz1
  have HRC := Lib.hid hrc
  clear hrc
  obtain ⟨wz2, hwz2⟩ : ∃ wz2, wz1.alloc (.cells #[.int .i64 4, .int .i64 N, .int .i64 (k : Nat), .int .i64 s] 23) = wz2 := ⟨_, rfl⟩
  have kz2 : Below wz1.heap.size wz1 wz2 := by rw [← hwz2]; exact (Below.refl _ _).alloc (Nat.le_refl _) _
  have Htz2 := Lib.hid (show Has wz2 wz1.heap.size [.int .i64 4, .int .i64 N, .int .i64 (k : Nat), .int .i64 s] 23 by rw [← hwz2]; exact Has.new _ _ _)
  have HWz2 := Lib.hid hwz2
  clear hwz2
  have HBz2 := Lib.hid (HBz1.out.trans (kz2.mono (Nat.le_trans hbase HBz1.out.size)))
  have Hcz2 := Lib.hid (HRC.out.below kz2)
  clear kz2
  go_upto_region 2 with fail
  rw [HWz2.out]
  have hcz3 := HAL.out wz2
  go_wp2_with fail
  refine hcz3.mono ?_
  rintro e wz3 ⟨rfl, kz3⟩
  clear hcz3
  have HBz3 := Lib.hid (HBz2.out.trans (kz3.mono (Nat.le_trans hbase HBz2.out.size)))
  have Htz3 := Lib.hid (Htz2.out.call kz3)
  have Hcz3 := Lib.hid (Hcz2.out.below kz3)
  clear kz3
  have qt0_3 : wz3.cell? ⟨wz1.heap.size, 0, none⟩ = some (.int .i64 4) := Htz3.out.cell 0
  have qt1_3 : wz3.cell? ⟨wz1.heap.size, 1, none⟩ = some (.int .i64 N) := Htz3.out.cell 1
  have qt2_3 : wz3.cell? ⟨wz1.heap.size, 2, none⟩ = some (.int .i64 (k : Nat)) := Htz3.out.cell 2
  have qt3_3 : wz3.cell? ⟨wz1.heap.size, 3, none⟩ = some (.int .i64 s) := Htz3.out.cell 3
  have lt_3 : wz1.heap.size < wz3.heap.size := Htz3.out.lt
  go_upto_region 9 with fail
  clear qt0_3 qt1_3 qt2_3 qt3_3 lt_3
  have hkm := HKM.out
  go_wp2_with fail
  clear hkm
  have HJ := Lib.hid (show RevRel cs k wz3 (.slice none 0 0) (.int .i64 0) (.int .i64 ((k : Int) - 1)) wz3 from ⟨0, Nat.zero_le _, by simp, by rw [List.take_zero]; rfl, IRow.nil _ _, Below.refl _ _⟩)
  go_loopw [12, 13, 14] (RevRel cs k wz3) (fun _ _ iv _ => (intOf iv + 1).toNat)
  case atStart => exact HJ.out
  case round =>
    obtain ⟨j, hj, rfl, rfl, hI, hb⟩ := hrel
    rename World => wr
    have HI := Lib.hid hI; have HBI := Lib.hid hb
    clear HJ hI hb
    by_cases hlt : j < k
    · obtain ⟨c, hc, he⟩ := rev_at HCK.out hlt
      obtain ⟨q, hq⟩ : ∃ q, k - 1 - j = q := ⟨_, rfl⟩
      have hqi : (k : Int) - 1 - (j : Nat) = (q : Nat) := by omega
      rw [hq] at hc
      rw [hqi]
      obtain ⟨br, off, hao, hbr, hcc⟩ := (Hcz3.out.below HBI.out).spot hc
      have h1 := HSUM.out j
      have h2 := HSUM.out (j + 1)
      have hsp : ssum (cs.reverse.take (j + 1)) = ssum (cs.reverse.take j) + c := by rw [he, ssum_append]; simp [ssum]
      rw [hsp] at h2
      obtain ⟨a, ha⟩ : ∃ a, ssum (cs.reverse.take j) = a := ⟨_, rfl⟩
      rw [ha] at h1 h2 ⊢
      have hw : wrap64 (a + c) = a + c := wrapJ6 (by omega)
      have hw2 : wrap64 ((q : Nat) - 1 : Int) = (q : Int) - 1 := wrapJ6 (by omega)
      have HE := Lib.hid he; have HSP := Lib.hid (hsp.trans (by rw [ha])); have HQI := Lib.hid hqi; have HLT := Lib.hid hlt; have HCQ := Lib.hid hc; have HK25 := Lib.hid hk25
      have HKL := Lib.hid (show (cs.reverse.take j).length ≤ 25 by rw [List.length_take, List.length_reverse, HCK.out]; omega)
      have hq0 : 0 ≤ (q : Int) := by omega
      have hqx : 0 ≤ (q : Int) ∧ (q : Int) < (k : Int) := by omega
      obtain ⟨acc, hacc⟩ : ∃ acc, cs.reverse.take j = acc := ⟨_, rfl⟩
      rw [hacc] at HI HKL HE
      have HO := Lib.hid (ReadsI.one wr c)
      have HWA := Lib.hid (HI.out.alloc (.cells #[.int .i64 c] 3))
      have HBA := Lib.hid (HBI.out.alloc HBI.out.size (.cells #[.int .i64 c] 3))
      have HSA := Lib.hid (show (wr.alloc (.cells #[.int .i64 c] 3)).heap.size = wr.heap.size + 1 by simp)
      have HW1S := Lib.hid HBI.out.size
      obtain ⟨aoI, capI, hiv⟩ := HI.out.reads.shape
      subst hao
      subst hiv
      clear hj hlt hc he hq hqi h1 h2 hsp ha hacc hk25
      go_wp2_with (at_builtin; refine wpList_append_ints rfl (.tmp 52) (.tmp 57) rfl wz3.heap.size _ acc [c] rfl HWA.out (some ⟨wr.heap.size, 0, none⟩) 1 1 rfl HO.out (by have := HKL.out; rw [List.length_singleton]; omega) (by have := HW1S.out; rw [HSA.out]; omega) ?_)
      intro v' w8 g3 g4
      have hb8 := HBA.out.grown g4 (by have := HW1S.out; rw [HSA.out]; omega) (fun i hi => (HWA.out.lt' i hi).1)
      obtain ⟨b8, o8, hao8, hbr8, hcc8⟩ := (Hcz3.out.below hb8).spot HCQ.out
      injection hao8 with hao8
      injection hao8 with z1 z2 _
      subst z1 z2
      have HQ := Lib.hid (show RevRel cs k wz3 v' (.int .i64 (a + c)) (.int .i64 ((q : Int) - 1)) w8 from ⟨j + 1, HLT.out, by have := HQI.out; rw [show (q : Int) - 1 = (k : Int) - 1 - ((j + 1 : Nat) : Int) by omega], by rw [HSP.out], by rw [HE.out]; exact g3, hb8⟩)
      clear hcc hb8 g3 g4
      go_wp2
      go_roundw
      case rel => rw [hw, hw2]; exact HQ.out
      case measure => rw [hw2]; (simp [intOf] <;> omega)
    · obtain rfl : k = j := by omega
      have hle : cs.reverse.take k = cs.reverse := List.take_of_length_le (by rw [List.length_reverse, HCK.out]; exact Nat.le_refl _)
      rw [hle] at HI
      rw [hle, ssum_rev, HSS.out, show (k : Int) - 1 - (k : Nat) = -1 by omega]
      obtain ⟨aoT, capT, hiv⟩ := HI.out.reads.shape
      rw [List.length_reverse, HCK.out] at hiv
      have HR := Lib.hid HI.out.reads
      subst hiv
      have HTr := Lib.hid (Htz3.out.call HBI.out)
      have HBr := Lib.hid (HBz3.out.trans (HBI.out.mono (Nat.le_trans hbase HBz3.out.size)))
      clear hle hj hlt
      have hcz41 := HM2.out _ wr HR.out
      go_wp2_with fail
      refine hcz41.mono ?_
      rintro e wz41 ⟨aoU, capU, rfl, hru, kz41⟩
      clear hcz41
      have HBz41 := Lib.hid (HBr.out.trans (kz41.mono (Nat.le_trans hbase HBr.out.size)))
      have Htz41 := Lib.hid (HTr.out.call kz41)
      clear kz41
      clear hru
      obtain ⟨wz42, hwz42⟩ : ∃ wz42, wz41.alloc (.cells #[.int .i64 4, .int .i64 N, .int .i64 (k : Nat), .int .i64 s] 23) = wz42 := ⟨_, rfl⟩
      have kz42 : Below wz41.heap.size wz41 wz42 := by rw [← hwz42]; exact (Below.refl _ _).alloc (Nat.le_refl _) _
      have Huz42 := Lib.hid (show Has wz42 wz41.heap.size [.int .i64 4, .int .i64 N, .int .i64 (k : Nat), .int .i64 s] 23 by rw [← hwz42]; exact Has.new _ _ _)
      have HWz42 := Lib.hid hwz42
      clear hwz42
      have HBz42 := Lib.hid (HBz41.out.trans (kz42.mono (Nat.le_trans hbase HBz41.out.size)))
      have Htz42 := Lib.hid (Htz41.out.call kz42)
      clear kz42
      go_upto_region 15 with fail
      rw [HWz42.out]
      have qt0_42 : wz42.cell? ⟨wz1.heap.size, 0, none⟩ = some (.int .i64 4) := Htz42.out.cell 0
      have qt1_42 : wz42.cell? ⟨wz1.heap.size, 1, none⟩ = some (.int .i64 N) := Htz42.out.cell 1
      have qt2_42 : wz42.cell? ⟨wz1.heap.size, 2, none⟩ = some (.int .i64 (k : Nat)) := Htz42.out.cell 2
      have qt3_42 : wz42.cell? ⟨wz1.heap.size, 3, none⟩ = some (.int .i64 s) := Htz42.out.cell 3
      have lt_42 : wz1.heap.size < wz42.heap.size := Htz42.out.lt
      have hcz43 := HPO.out wz42
      go_wp2_with fail
      refine hcz43.mono ?_
      rintro e wz43 ⟨rfl, kz43⟩
      clear hcz43 qt0_42 qt1_42 qt2_42 qt3_42 lt_42
      have HBz43 := Lib.hid (HBz42.out.trans (kz43.mono (Nat.le_trans hbase HBz42.out.size)))
      have Htz43 := Lib.hid (Htz42.out.call kz43)
      have Huz43 := Lib.hid (Huz42.out.call kz43)
      clear kz43
      obtain ⟨wz44, hwz44⟩ : ∃ wz44, wz43.alloc (.cells #[.int .i64 0, .int .i64 0, .int .i64 0, .int .u64 0, .int .u64 0] 38) = wz44 := ⟨_, rfl⟩
      have kz44 : Below wz43.heap.size wz43 wz44 := by rw [← hwz44]; exact (Below.refl _ _).alloc (Nat.le_refl _) _
      have Hpz44 := Lib.hid (show Has wz44 wz43.heap.size [.int .i64 0, .int .i64 0, .int .i64 0, .int .u64 0, .int .u64 0] 38 by rw [← hwz44]; exact Has.new _ _ _)
      have HWz44 := Lib.hid hwz44
      clear hwz44
      have HBz44 := Lib.hid (HBz43.out.trans (kz44.mono (Nat.le_trans hbase HBz43.out.size)))
      have Htz44 := Lib.hid (Htz43.out.call kz44)
      have Huz44 := Lib.hid (Huz43.out.call kz44)
      clear kz44
      go_upto_region 16 with fail
      rw [HWz44.out]
      have qt0_44 : wz44.cell? ⟨wz1.heap.size, 0, none⟩ = some (.int .i64 4) := Htz44.out.cell 0
      have qt1_44 : wz44.cell? ⟨wz1.heap.size, 1, none⟩ = some (.int .i64 N) := Htz44.out.cell 1
      have qt2_44 : wz44.cell? ⟨wz1.heap.size, 2, none⟩ = some (.int .i64 (k : Nat)) := Htz44.out.cell 2
      have qt3_44 : wz44.cell? ⟨wz1.heap.size, 3, none⟩ = some (.int .i64 s) := Htz44.out.cell 3
      have lt_44 : wz1.heap.size < wz44.heap.size := Htz44.out.lt
      have qu0_44 : wz44.cell? ⟨wz41.heap.size, 0, none⟩ = some (.int .i64 4) := Huz44.out.cell 0
      have qu1_44 : wz44.cell? ⟨wz41.heap.size, 1, none⟩ = some (.int .i64 N) := Huz44.out.cell 1
      have qu2_44 : wz44.cell? ⟨wz41.heap.size, 2, none⟩ = some (.int .i64 (k : Nat)) := Huz44.out.cell 2
      have qu3_44 : wz44.cell? ⟨wz41.heap.size, 3, none⟩ = some (.int .i64 s) := Huz44.out.cell 3
      have lu_44 : wz41.heap.size < wz44.heap.size := Huz44.out.lt
      have qp0_44 : wz44.cell? ⟨wz43.heap.size, 0, none⟩ = some (.int .i64 0) := Hpz44.out.cell 0
      have qp1_44 : wz44.cell? ⟨wz43.heap.size, 1, none⟩ = some (.int .i64 0) := Hpz44.out.cell 1
      have qp2_44 : wz44.cell? ⟨wz43.heap.size, 2, none⟩ = some (.int .i64 0) := Hpz44.out.cell 2
      have qp3_44 : wz44.cell? ⟨wz43.heap.size, 3, none⟩ = some (.int .u64 0) := Hpz44.out.cell 3
      have qp4_44 : wz44.cell? ⟨wz43.heap.size, 4, none⟩ = some (.int .u64 0) := Hpz44.out.cell 4
      have lp_44 : wz43.heap.size < wz44.heap.size := Hpz44.out.lt
      have hk0 := Xhk0.out
      go_wp2
      go_ret
      exact ⟨rfl, HBz44.out⟩
set_option linter.unusedSimpArgs false in
set_option linter.unusedVariables false in
set_option maxHeartbeats 8000000 in
set_option maxRecDepth 100000 in
theorem mean16_40 (kind size N s d D pc pn pd ph pl q1 q2 q3 q4 q5 : Int) (k : Nat) (cs : List Int) (ao : Option Addr) (n cap : Nat) (w : World) (Z : Bool) (hck : cs.length = k) (hk25 : k ≤ 25) (hsum : ∀ j, 0 ≤ ssum (cs.reverse.take j) ∧ ssum (cs.reverse.take j) ≤ 25000000) (hs : ssum cs = s) (hd2 : min (max d 0) 1000000 = D) (hk0 : ((k : Int) == 0) = false) (hp1 : 1 ≤ pn) (e1 : wrap64 (pc + pd) = q1) (e2 : wrap64 q1 = q2) (e3 : wrap64 (D * pn) = q2) (e4 : wrap64 (pc * (k : Nat)) = q3) (e5 : wrap64 q3 = q4) (e6 : wrap64 (s * pn) = q4) (e7 : wrap64 (D * (k : Nat)) = q5) (e8 : (pd == 0) = Z) (e9 : (q5 == s) = Z)
    (HM1 : Hid (∀ W, Below w.heap.size w W → Calls Try.prog 17 #[.int .i64 kind, .int .i64 size, .slice ao n cap] W (MPost 4 N s k cs W)))
    (HM2 : Hid (∀ v W, ReadsI W v cs.reverse → Calls Try.prog 17 #[.int .i64 kind, .int .i64 size, v] W (MPost 4 N s k cs.reverse W)))
    (HAL : Hid (∀ W, Calls Try.prog 11 #[] W fun e w' => e = .returned (.bool true) ∧ Below W.heap.size W w'))
    (HPO : Hid (∀ W, Calls Try.prog 15 #[.agg #[.int .i64 4, .int .i64 N, .int .i64 (k : Nat), .int .i64 s], .int .i64 D] W fun e w' => e = .returned (.tuple #[.agg #[.int .i64 pc, .int .i64 pn, .int .i64 pd, .int .u64 ph, .int .u64 pl], .int .i64 0]) ∧ Below W.heap.size W w')) :
    Calls Try.prog 5 #[.int .i64 kind, .int .i64 size, .slice ao n cap, .int .i64 d] w fun e w' => e = .returned (.bool true) ∧ Below w.heap.size w w' := by
  have HCK := Lib.hid hck; have HSUM := Lib.hid hsum; have HSS := Lib.hid hs
  have hbase := Nat.le_refl w.heap.size
  have HB0 := Lib.hid (Below.refl w.heap.size w)
  have hkm : wrap64 ((k : Nat) - 1 : Int) = (k : Int) - 1 := by rw [wrapJ6 (by omega)]
  have HKM := Lib.hid hkm
  have Xe1 := Lib.hid e1; have Xe2 := Lib.hid e2; have Xe3 := Lib.hid e3; have Xe4 := Lib.hid e4; have Xe5 := Lib.hid e5; have Xe6 := Lib.hid e6; have Xe7 := Lib.hid e7; have Xe8 := Lib.hid e8; have Xe9 := Lib.hid e9; have Xhp1 := Lib.hid hp1; have Xhk0 := Lib.hid hk0
  clear e1 e2 e3 e4 e5 e6 e7 e8 e9 hp1 hk0
  clear hck hsum hs hkm
  have hqt := eqTal
  have hqp := eqPntT
  go_enter Try.func5, Try.ntmps5
  have hcz1 := HM1.out w (Below.refl _ _)
  go_wp2_with fail
  refine hcz1.mono ?_
  rintro e wz1 ⟨aoC, capC, rfl, hrc, kz1⟩
  clear hcz1
  have HBz1 := Lib.hid (HB0.out.trans (kz1.mono (Nat.le_trans hbase HB0.out.size)))
  clear kz1
  have HRC := Lib.hid hrc
  clear hrc
  obtain ⟨wz2, hwz2⟩ : ∃ wz2, wz1.alloc (.cells #[.int .i64 4, .int .i64 N, .int .i64 (k : Nat), .int .i64 s] 23) = wz2 := ⟨_, rfl⟩
  have kz2 : Below wz1.heap.size wz1 wz2 := by rw [← hwz2]; exact (Below.refl _ _).alloc (Nat.le_refl _) _
  have Htz2 := Lib.hid (show Has wz2 wz1.heap.size [.int .i64 4, .int .i64 N, .int .i64 (k : Nat), .int .i64 s] 23 by rw [← hwz2]; exact Has.new _ _ _)
  have HWz2 := Lib.hid hwz2
  clear hwz2
  have HBz2 := Lib.hid (HBz1.out.trans (kz2.mono (Nat.le_trans hbase HBz1.out.size)))
  have Hcz2 := Lib.hid (HRC.out.below kz2)
  clear kz2
  go_upto_region 2 with fail
  rw [HWz2.out]
  have hcz3 := HAL.out wz2
  go_wp2_with fail
  refine hcz3.mono ?_
  rintro e wz3 ⟨rfl, kz3⟩
  clear hcz3
  have HBz3 := Lib.hid (HBz2.out.trans (kz3.mono (Nat.le_trans hbase HBz2.out.size)))
  have Htz3 := Lib.hid (Htz2.out.call kz3)
  have Hcz3 := Lib.hid (Hcz2.out.below kz3)
  clear kz3
  have qt0_3 : wz3.cell? ⟨wz1.heap.size, 0, none⟩ = some (.int .i64 4) := Htz3.out.cell 0
  have qt1_3 : wz3.cell? ⟨wz1.heap.size, 1, none⟩ = some (.int .i64 N) := Htz3.out.cell 1
  have qt2_3 : wz3.cell? ⟨wz1.heap.size, 2, none⟩ = some (.int .i64 (k : Nat)) := Htz3.out.cell 2
  have qt3_3 : wz3.cell? ⟨wz1.heap.size, 3, none⟩ = some (.int .i64 s) := Htz3.out.cell 3
  have lt_3 : wz1.heap.size < wz3.heap.size := Htz3.out.lt
  go_upto_region 9 with fail
  clear qt0_3 qt1_3 qt2_3 qt3_3 lt_3
  have hkm := HKM.out
  go_wp2_with fail
  clear hkm
  have HJ := Lib.hid (show RevRel cs k wz3 (.slice none 0 0) (.int .i64 0) (.int .i64 ((k : Int) - 1)) wz3 from ⟨0, Nat.zero_le _, by simp, by rw [List.take_zero]; rfl, IRow.nil _ _, Below.refl _ _⟩)
  go_loopw [12, 13, 14] (RevRel cs k wz3) (fun _ _ iv _ => (intOf iv + 1).toNat)
  case atStart => exact HJ.out
  case round =>
    obtain ⟨j, hj, rfl, rfl, hI, hb⟩ := hrel
    rename World => wr
    have HI := Lib.hid hI; have HBI := Lib.hid hb
    clear HJ hI hb
    by_cases hlt : j < k
    · obtain ⟨c, hc, he⟩ := rev_at HCK.out hlt
      obtain ⟨q, hq⟩ : ∃ q, k - 1 - j = q := ⟨_, rfl⟩
      have hqi : (k : Int) - 1 - (j : Nat) = (q : Nat) := by omega
      rw [hq] at hc
      rw [hqi]
      obtain ⟨br, off, hao, hbr, hcc⟩ := (Hcz3.out.below HBI.out).spot hc
      have h1 := HSUM.out j
      have h2 := HSUM.out (j + 1)
      have hsp : ssum (cs.reverse.take (j + 1)) = ssum (cs.reverse.take j) + c := by rw [he, ssum_append]; simp [ssum]
      rw [hsp] at h2
      obtain ⟨a, ha⟩ : ∃ a, ssum (cs.reverse.take j) = a := ⟨_, rfl⟩
      rw [ha] at h1 h2 ⊢
      have hw : wrap64 (a + c) = a + c := wrapJ6 (by omega)
      have hw2 : wrap64 ((q : Nat) - 1 : Int) = (q : Int) - 1 := wrapJ6 (by omega)
      have HE := Lib.hid he; have HSP := Lib.hid (hsp.trans (by rw [ha])); have HQI := Lib.hid hqi; have HLT := Lib.hid hlt; have HCQ := Lib.hid hc; have HK25 := Lib.hid hk25
      have HKL := Lib.hid (show (cs.reverse.take j).length ≤ 25 by rw [List.length_take, List.length_reverse, HCK.out]; omega)
      have hq0 : 0 ≤ (q : Int) := by omega
      have hqx : 0 ≤ (q : Int) ∧ (q : Int) < (k : Int) := by omega
      obtain ⟨acc, hacc⟩ : ∃ acc, cs.reverse.take j = acc := ⟨_, rfl⟩
      rw [hacc] at HI HKL HE
      have HO := Lib.hid (ReadsI.one wr c)
      have HWA := Lib.hid (HI.out.alloc (.cells #[.int .i64 c] 3))
      have HBA := Lib.hid (HBI.out.alloc HBI.out.size (.cells #[.int .i64 c] 3))
      have HSA := Lib.hid (show (wr.alloc (.cells #[.int .i64 c] 3)).heap.size = wr.heap.size + 1 by simp)
      have HW1S := Lib.hid HBI.out.size
      obtain ⟨aoI, capI, hiv⟩ := HI.out.reads.shape
      subst hao
      subst hiv
      clear hj hlt hc he hq hqi h1 h2 hsp ha hacc hk25
      go_wp2_with (at_builtin; refine wpList_append_ints rfl (.tmp 52) (.tmp 57) rfl wz3.heap.size _ acc [c] rfl HWA.out (some ⟨wr.heap.size, 0, none⟩) 1 1 rfl HO.out (by have := HKL.out; rw [List.length_singleton]; omega) (by have := HW1S.out; rw [HSA.out]; omega) ?_)
      intro v' w8 g3 g4
      have hb8 := HBA.out.grown g4 (by have := HW1S.out; rw [HSA.out]; omega) (fun i hi => (HWA.out.lt' i hi).1)
      obtain ⟨b8, o8, hao8, hbr8, hcc8⟩ := (Hcz3.out.below hb8).spot HCQ.out
      injection hao8 with hao8
      injection hao8 with z1 z2 _
      subst z1 z2
      have HQ := Lib.hid (show RevRel cs k wz3 v' (.int .i64 (a + c)) (.int .i64 ((q : Int) - 1)) w8 from ⟨j + 1, HLT.out, by have := HQI.out; rw [show (q : Int) - 1 = (k : Int) - 1 - ((j + 1 : Nat) : Int) by omega], by rw [HSP.out], by rw [HE.out]; exact g3, hb8⟩)
      clear hcc hb8 g3 g4
      go_wp2
      go_roundw
      case rel => rw [hw, hw2]; exact HQ.out
      case measure => rw [hw2]; (simp [intOf] <;> omega)
    · obtain rfl : k = j := by omega
      have hle : cs.reverse.take k = cs.reverse := List.take_of_length_le (by rw [List.length_reverse, HCK.out]; exact Nat.le_refl _)
      rw [hle] at HI
      rw [hle, ssum_rev, HSS.out, show (k : Int) - 1 - (k : Nat) = -1 by omega]
      obtain ⟨aoT, capT, hiv⟩ := HI.out.reads.shape
      rw [List.length_reverse, HCK.out] at hiv
      have HR := Lib.hid HI.out.reads
      subst hiv
      have HTr := Lib.hid (Htz3.out.call HBI.out)
      have HBr := Lib.hid (HBz3.out.trans (HBI.out.mono (Nat.le_trans hbase HBz3.out.size)))
      clear hle hj hlt
      have hcz41 := HM2.out _ wr HR.out
      go_wp2_with fail
      refine hcz41.mono ?_
      rintro e wz41 ⟨aoU, capU, rfl, hru, kz41⟩
      clear hcz41
      have HBz41 := Lib.hid (HBr.out.trans (kz41.mono (Nat.le_trans hbase HBr.out.size)))
      have Htz41 := Lib.hid (HTr.out.call kz41)
      clear kz41
      clear hru
      obtain ⟨wz42, hwz42⟩ : ∃ wz42, wz41.alloc (.cells #[.int .i64 4, .int .i64 N, .int .i64 (k : Nat), .int .i64 s] 23) = wz42 := ⟨_, rfl⟩
      have kz42 : Below wz41.heap.size wz41 wz42 := by rw [← hwz42]; exact (Below.refl _ _).alloc (Nat.le_refl _) _
      have Huz42 := Lib.hid (show Has wz42 wz41.heap.size [.int .i64 4, .int .i64 N, .int .i64 (k : Nat), .int .i64 s] 23 by rw [← hwz42]; exact Has.new _ _ _)
      have HWz42 := Lib.hid hwz42
      clear hwz42
      have HBz42 := Lib.hid (HBz41.out.trans (kz42.mono (Nat.le_trans hbase HBz41.out.size)))
      have Htz42 := Lib.hid (Htz41.out.call kz42)
      clear kz42
      go_upto_region 15 with fail
      rw [HWz42.out]
      have qt0_42 : wz42.cell? ⟨wz1.heap.size, 0, none⟩ = some (.int .i64 4) := Htz42.out.cell 0
      have qt1_42 : wz42.cell? ⟨wz1.heap.size, 1, none⟩ = some (.int .i64 N) := Htz42.out.cell 1
      have qt2_42 : wz42.cell? ⟨wz1.heap.size, 2, none⟩ = some (.int .i64 (k : Nat)) := Htz42.out.cell 2
      have qt3_42 : wz42.cell? ⟨wz1.heap.size, 3, none⟩ = some (.int .i64 s) := Htz42.out.cell 3
      have lt_42 : wz1.heap.size < wz42.heap.size := Htz42.out.lt
      have hcz43 := HPO.out wz42
      go_wp2_with fail
      refine hcz43.mono ?_
      rintro e wz43 ⟨rfl, kz43⟩
      clear hcz43 qt0_42 qt1_42 qt2_42 qt3_42 lt_42
      have HBz43 := Lib.hid (HBz42.out.trans (kz43.mono (Nat.le_trans hbase HBz42.out.size)))
      have Htz43 := Lib.hid (Htz42.out.call kz43)
      have Huz43 := Lib.hid (Huz42.out.call kz43)
      clear kz43
      obtain ⟨wz44, hwz44⟩ : ∃ wz44, wz43.alloc (.cells #[.int .i64 pc, .int .i64 pn, .int .i64 pd, .int .u64 ph, .int .u64 pl] 38) = wz44 := ⟨_, rfl⟩
      have kz44 : Below wz43.heap.size wz43 wz44 := by rw [← hwz44]; exact (Below.refl _ _).alloc (Nat.le_refl _) _
      have Hpz44 := Lib.hid (show Has wz44 wz43.heap.size [.int .i64 pc, .int .i64 pn, .int .i64 pd, .int .u64 ph, .int .u64 pl] 38 by rw [← hwz44]; exact Has.new _ _ _)
      have HWz44 := Lib.hid hwz44
      clear hwz44
      have HBz44 := Lib.hid (HBz43.out.trans (kz44.mono (Nat.le_trans hbase HBz43.out.size)))
      have Htz44 := Lib.hid (Htz43.out.call kz44)
      have Huz44 := Lib.hid (Huz43.out.call kz44)
      clear kz44
      go_upto_region 16 with fail
      rw [HWz44.out]
      have qt0_44 : wz44.cell? ⟨wz1.heap.size, 0, none⟩ = some (.int .i64 4) := Htz44.out.cell 0
      have qt1_44 : wz44.cell? ⟨wz1.heap.size, 1, none⟩ = some (.int .i64 N) := Htz44.out.cell 1
      have qt2_44 : wz44.cell? ⟨wz1.heap.size, 2, none⟩ = some (.int .i64 (k : Nat)) := Htz44.out.cell 2
      have qt3_44 : wz44.cell? ⟨wz1.heap.size, 3, none⟩ = some (.int .i64 s) := Htz44.out.cell 3
      have lt_44 : wz1.heap.size < wz44.heap.size := Htz44.out.lt
      have qu0_44 : wz44.cell? ⟨wz41.heap.size, 0, none⟩ = some (.int .i64 4) := Huz44.out.cell 0
      have qu1_44 : wz44.cell? ⟨wz41.heap.size, 1, none⟩ = some (.int .i64 N) := Huz44.out.cell 1
      have qu2_44 : wz44.cell? ⟨wz41.heap.size, 2, none⟩ = some (.int .i64 (k : Nat)) := Huz44.out.cell 2
      have qu3_44 : wz44.cell? ⟨wz41.heap.size, 3, none⟩ = some (.int .i64 s) := Huz44.out.cell 3
      have lu_44 : wz41.heap.size < wz44.heap.size := Huz44.out.lt
      have qp0_44 : wz44.cell? ⟨wz43.heap.size, 0, none⟩ = some (.int .i64 pc) := Hpz44.out.cell 0
      have qp1_44 : wz44.cell? ⟨wz43.heap.size, 1, none⟩ = some (.int .i64 pn) := Hpz44.out.cell 1
      have qp2_44 : wz44.cell? ⟨wz43.heap.size, 2, none⟩ = some (.int .i64 pd) := Hpz44.out.cell 2
      have qp3_44 : wz44.cell? ⟨wz43.heap.size, 3, none⟩ = some (.int .u64 ph) := Hpz44.out.cell 3
      have qp4_44 : wz44.cell? ⟨wz43.heap.size, 4, none⟩ = some (.int .u64 pl) := Hpz44.out.cell 4
      have lp_44 : wz43.heap.size < wz44.heap.size := Hpz44.out.lt
      have e1 := Xe1.out; have e2 := Xe2.out; have e3 := Xe3.out; have e4 := Xe4.out; have e5 := Xe5.out; have e6 := Xe6.out; have e7 := Xe7.out; have e8 := Xe8.out; have e9 := Xe9.out; have hp1 := Xhp1.out; have hk0 := Xhk0.out
      go_wp2
      go_ret
      exact ⟨rfl, HBz44.out⟩
set_option linter.unusedSimpArgs false in
set_option linter.unusedVariables false in
set_option maxHeartbeats 8000000 in
set_option maxRecDepth 100000 in
theorem mean16_51 (kind size N s d D : Int) (k : Nat) (cs : List Int) (ao : Option Addr) (n cap : Nat) (w : World) (hck : cs.length = k) (hk25 : k ≤ 25) (hsum : ∀ j, 0 ≤ ssum (cs.reverse.take j) ∧ ssum (cs.reverse.take j) ≤ 25000000) (hs : ssum cs = s) (hd2 : min (max d 0) 1000000 = D) (hk0 : ((k : Int) == 0) = true)
    (HM1 : Hid (∀ W, Below w.heap.size w W → Calls Try.prog 17 #[.int .i64 kind, .int .i64 size, .slice ao n cap] W (MPost 5 N s k cs W)))
    (HM2 : Hid (∀ v W, ReadsI W v cs.reverse → Calls Try.prog 17 #[.int .i64 kind, .int .i64 size, v] W (MPost 5 N s k cs.reverse W)))
    (HAL : Hid (∀ W, Calls Try.prog 11 #[] W fun e w' => e = .returned (.bool true) ∧ Below W.heap.size W w'))
    (HPO : Hid (∀ W, Calls Try.prog 15 #[.agg #[.int .i64 5, .int .i64 N, .int .i64 (k : Nat), .int .i64 s], .int .i64 D] W fun e w' => e = .returned (.tuple #[.agg #[.int .i64 0, .int .i64 0, .int .i64 0, .int .u64 0, .int .u64 0], .int .i64 12]) ∧ Below W.heap.size W w')) :
    Calls Try.prog 5 #[.int .i64 kind, .int .i64 size, .slice ao n cap, .int .i64 d] w fun e w' => e = .returned (.bool true) ∧ Below w.heap.size w w' := by
  have HCK := Lib.hid hck; have HSUM := Lib.hid hsum; have HSS := Lib.hid hs
  have hbase := Nat.le_refl w.heap.size
  have HB0 := Lib.hid (Below.refl w.heap.size w)
  have hkm : wrap64 ((k : Nat) - 1 : Int) = (k : Int) - 1 := by rw [wrapJ6 (by omega)]
  have HKM := Lib.hid hkm
  have Xhk0 := Lib.hid hk0
  clear hk0
  clear hck hsum hs hkm
  have hqt := eqTal
  have hqp := eqPntT
  go_enter Try.func5, Try.ntmps5
  have hcz1 := HM1.out w (Below.refl _ _)
  go_wp2_with fail
  refine hcz1.mono ?_
  rintro e wz1 ⟨aoC, capC, rfl, hrc, kz1⟩
  clear hcz1
  have HBz1 := Lib.hid (HB0.out.trans (kz1.mono (Nat.le_trans hbase HB0.out.size)))
  clear kz1
  have HRC := Lib.hid hrc
  clear hrc
  obtain ⟨wz2, hwz2⟩ : ∃ wz2, wz1.alloc (.cells #[.int .i64 5, .int .i64 N, .int .i64 (k : Nat), .int .i64 s] 23) = wz2 := ⟨_, rfl⟩
  have kz2 : Below wz1.heap.size wz1 wz2 := by rw [← hwz2]; exact (Below.refl _ _).alloc (Nat.le_refl _) _
  have Htz2 := Lib.hid (show Has wz2 wz1.heap.size [.int .i64 5, .int .i64 N, .int .i64 (k : Nat), .int .i64 s] 23 by rw [← hwz2]; exact Has.new _ _ _)
  have HWz2 := Lib.hid hwz2
  clear hwz2
  have HBz2 := Lib.hid (HBz1.out.trans (kz2.mono (Nat.le_trans hbase HBz1.out.size)))
  have Hcz2 := Lib.hid (HRC.out.below kz2)
  clear kz2
  go_upto_region 2 with fail
  rw [HWz2.out]
  have hcz3 := HAL.out wz2
  go_wp2_with fail
  refine hcz3.mono ?_
  rintro e wz3 ⟨rfl, kz3⟩
  clear hcz3
  have HBz3 := Lib.hid (HBz2.out.trans (kz3.mono (Nat.le_trans hbase HBz2.out.size)))
  have Htz3 := Lib.hid (Htz2.out.call kz3)
  have Hcz3 := Lib.hid (Hcz2.out.below kz3)
  clear kz3
  have qt0_3 : wz3.cell? ⟨wz1.heap.size, 0, none⟩ = some (.int .i64 5) := Htz3.out.cell 0
  have qt1_3 : wz3.cell? ⟨wz1.heap.size, 1, none⟩ = some (.int .i64 N) := Htz3.out.cell 1
  have qt2_3 : wz3.cell? ⟨wz1.heap.size, 2, none⟩ = some (.int .i64 (k : Nat)) := Htz3.out.cell 2
  have qt3_3 : wz3.cell? ⟨wz1.heap.size, 3, none⟩ = some (.int .i64 s) := Htz3.out.cell 3
  have lt_3 : wz1.heap.size < wz3.heap.size := Htz3.out.lt
  go_upto_region 9 with fail
  clear qt0_3 qt1_3 qt2_3 qt3_3 lt_3
  have hkm := HKM.out
  go_wp2_with fail
  clear hkm
  have HJ := Lib.hid (show RevRel cs k wz3 (.slice none 0 0) (.int .i64 0) (.int .i64 ((k : Int) - 1)) wz3 from ⟨0, Nat.zero_le _, by simp, by rw [List.take_zero]; rfl, IRow.nil _ _, Below.refl _ _⟩)
  go_loopw [12, 13, 14] (RevRel cs k wz3) (fun _ _ iv _ => (intOf iv + 1).toNat)
  case atStart => exact HJ.out
  case round =>
    obtain ⟨j, hj, rfl, rfl, hI, hb⟩ := hrel
    rename World => wr
    have HI := Lib.hid hI; have HBI := Lib.hid hb
    clear HJ hI hb
    by_cases hlt : j < k
    · obtain ⟨c, hc, he⟩ := rev_at HCK.out hlt
      obtain ⟨q, hq⟩ : ∃ q, k - 1 - j = q := ⟨_, rfl⟩
      have hqi : (k : Int) - 1 - (j : Nat) = (q : Nat) := by omega
      rw [hq] at hc
      rw [hqi]
      obtain ⟨br, off, hao, hbr, hcc⟩ := (Hcz3.out.below HBI.out).spot hc
      have h1 := HSUM.out j
      have h2 := HSUM.out (j + 1)
      have hsp : ssum (cs.reverse.take (j + 1)) = ssum (cs.reverse.take j) + c := by rw [he, ssum_append]; simp [ssum]
      rw [hsp] at h2
      obtain ⟨a, ha⟩ : ∃ a, ssum (cs.reverse.take j) = a := ⟨_, rfl⟩
      rw [ha] at h1 h2 ⊢
      have hw : wrap64 (a + c) = a + c := wrapJ6 (by omega)
      have hw2 : wrap64 ((q : Nat) - 1 : Int) = (q : Int) - 1 := wrapJ6 (by omega)
      have HE := Lib.hid he; have HSP := Lib.hid (hsp.trans (by rw [ha])); have HQI := Lib.hid hqi; have HLT := Lib.hid hlt; have HCQ := Lib.hid hc; have HK25 := Lib.hid hk25
      have HKL := Lib.hid (show (cs.reverse.take j).length ≤ 25 by rw [List.length_take, List.length_reverse, HCK.out]; omega)
      have hq0 : 0 ≤ (q : Int) := by omega
      have hqx : 0 ≤ (q : Int) ∧ (q : Int) < (k : Int) := by omega
      obtain ⟨acc, hacc⟩ : ∃ acc, cs.reverse.take j = acc := ⟨_, rfl⟩
      rw [hacc] at HI HKL HE
      have HO := Lib.hid (ReadsI.one wr c)
      have HWA := Lib.hid (HI.out.alloc (.cells #[.int .i64 c] 3))
      have HBA := Lib.hid (HBI.out.alloc HBI.out.size (.cells #[.int .i64 c] 3))
      have HSA := Lib.hid (show (wr.alloc (.cells #[.int .i64 c] 3)).heap.size = wr.heap.size + 1 by simp)
      have HW1S := Lib.hid HBI.out.size
      obtain ⟨aoI, capI, hiv⟩ := HI.out.reads.shape
      subst hao
      subst hiv
      clear hj hlt hc he hq hqi h1 h2 hsp ha hacc hk25
      go_wp2_with (at_builtin; refine wpList_append_ints rfl (.tmp 52) (.tmp 57) rfl wz3.heap.size _ acc [c] rfl HWA.out (some ⟨wr.heap.size, 0, none⟩) 1 1 rfl HO.out (by have := HKL.out; rw [List.length_singleton]; omega) (by have := HW1S.out; rw [HSA.out]; omega) ?_)
      intro v' w8 g3 g4
      have hb8 := HBA.out.grown g4 (by have := HW1S.out; rw [HSA.out]; omega) (fun i hi => (HWA.out.lt' i hi).1)
      obtain ⟨b8, o8, hao8, hbr8, hcc8⟩ := (Hcz3.out.below hb8).spot HCQ.out
      injection hao8 with hao8
      injection hao8 with z1 z2 _
      subst z1 z2
      have HQ := Lib.hid (show RevRel cs k wz3 v' (.int .i64 (a + c)) (.int .i64 ((q : Int) - 1)) w8 from ⟨j + 1, HLT.out, by have := HQI.out; rw [show (q : Int) - 1 = (k : Int) - 1 - ((j + 1 : Nat) : Int) by omega], by rw [HSP.out], by rw [HE.out]; exact g3, hb8⟩)
      clear hcc hb8 g3 g4
      go_wp2
      go_roundw
      case rel => rw [hw, hw2]; exact HQ.out
      case measure => rw [hw2]; (simp [intOf] <;> omega)
    · obtain rfl : k = j := by omega
      have hle : cs.reverse.take k = cs.reverse := List.take_of_length_le (by rw [List.length_reverse, HCK.out]; exact Nat.le_refl _)
      rw [hle] at HI
      rw [hle, ssum_rev, HSS.out, show (k : Int) - 1 - (k : Nat) = -1 by omega]
      obtain ⟨aoT, capT, hiv⟩ := HI.out.reads.shape
      rw [List.length_reverse, HCK.out] at hiv
      have HR := Lib.hid HI.out.reads
      subst hiv
      have HTr := Lib.hid (Htz3.out.call HBI.out)
      have HBr := Lib.hid (HBz3.out.trans (HBI.out.mono (Nat.le_trans hbase HBz3.out.size)))
      clear hle hj hlt
      have hcz41 := HM2.out _ wr HR.out
      go_wp2_with fail
      refine hcz41.mono ?_
      rintro e wz41 ⟨aoU, capU, rfl, hru, kz41⟩
      clear hcz41
      have HBz41 := Lib.hid (HBr.out.trans (kz41.mono (Nat.le_trans hbase HBr.out.size)))
      have Htz41 := Lib.hid (HTr.out.call kz41)
      clear kz41
      clear hru
      obtain ⟨wz42, hwz42⟩ : ∃ wz42, wz41.alloc (.cells #[.int .i64 5, .int .i64 N, .int .i64 (k : Nat), .int .i64 s] 23) = wz42 := ⟨_, rfl⟩
      have kz42 : Below wz41.heap.size wz41 wz42 := by rw [← hwz42]; exact (Below.refl _ _).alloc (Nat.le_refl _) _
      have Huz42 := Lib.hid (show Has wz42 wz41.heap.size [.int .i64 5, .int .i64 N, .int .i64 (k : Nat), .int .i64 s] 23 by rw [← hwz42]; exact Has.new _ _ _)
      have HWz42 := Lib.hid hwz42
      clear hwz42
      have HBz42 := Lib.hid (HBz41.out.trans (kz42.mono (Nat.le_trans hbase HBz41.out.size)))
      have Htz42 := Lib.hid (Htz41.out.call kz42)
      clear kz42
      go_upto_region 15 with fail
      rw [HWz42.out]
      have qt0_42 : wz42.cell? ⟨wz1.heap.size, 0, none⟩ = some (.int .i64 5) := Htz42.out.cell 0
      have qt1_42 : wz42.cell? ⟨wz1.heap.size, 1, none⟩ = some (.int .i64 N) := Htz42.out.cell 1
      have qt2_42 : wz42.cell? ⟨wz1.heap.size, 2, none⟩ = some (.int .i64 (k : Nat)) := Htz42.out.cell 2
      have qt3_42 : wz42.cell? ⟨wz1.heap.size, 3, none⟩ = some (.int .i64 s) := Htz42.out.cell 3
      have lt_42 : wz1.heap.size < wz42.heap.size := Htz42.out.lt
      have hcz43 := HPO.out wz42
      go_wp2_with fail
      refine hcz43.mono ?_
      rintro e wz43 ⟨rfl, kz43⟩
      clear hcz43 qt0_42 qt1_42 qt2_42 qt3_42 lt_42
      have HBz43 := Lib.hid (HBz42.out.trans (kz43.mono (Nat.le_trans hbase HBz42.out.size)))
      have Htz43 := Lib.hid (Htz42.out.call kz43)
      have Huz43 := Lib.hid (Huz42.out.call kz43)
      clear kz43
      obtain ⟨wz44, hwz44⟩ : ∃ wz44, wz43.alloc (.cells #[.int .i64 0, .int .i64 0, .int .i64 0, .int .u64 0, .int .u64 0] 38) = wz44 := ⟨_, rfl⟩
      have kz44 : Below wz43.heap.size wz43 wz44 := by rw [← hwz44]; exact (Below.refl _ _).alloc (Nat.le_refl _) _
      have Hpz44 := Lib.hid (show Has wz44 wz43.heap.size [.int .i64 0, .int .i64 0, .int .i64 0, .int .u64 0, .int .u64 0] 38 by rw [← hwz44]; exact Has.new _ _ _)
      have HWz44 := Lib.hid hwz44
      clear hwz44
      have HBz44 := Lib.hid (HBz43.out.trans (kz44.mono (Nat.le_trans hbase HBz43.out.size)))
      have Htz44 := Lib.hid (Htz43.out.call kz44)
      have Huz44 := Lib.hid (Huz43.out.call kz44)
      clear kz44
      go_upto_region 16 with fail
      rw [HWz44.out]
      have qt0_44 : wz44.cell? ⟨wz1.heap.size, 0, none⟩ = some (.int .i64 5) := Htz44.out.cell 0
      have qt1_44 : wz44.cell? ⟨wz1.heap.size, 1, none⟩ = some (.int .i64 N) := Htz44.out.cell 1
      have qt2_44 : wz44.cell? ⟨wz1.heap.size, 2, none⟩ = some (.int .i64 (k : Nat)) := Htz44.out.cell 2
      have qt3_44 : wz44.cell? ⟨wz1.heap.size, 3, none⟩ = some (.int .i64 s) := Htz44.out.cell 3
      have lt_44 : wz1.heap.size < wz44.heap.size := Htz44.out.lt
      have qu0_44 : wz44.cell? ⟨wz41.heap.size, 0, none⟩ = some (.int .i64 5) := Huz44.out.cell 0
      have qu1_44 : wz44.cell? ⟨wz41.heap.size, 1, none⟩ = some (.int .i64 N) := Huz44.out.cell 1
      have qu2_44 : wz44.cell? ⟨wz41.heap.size, 2, none⟩ = some (.int .i64 (k : Nat)) := Huz44.out.cell 2
      have qu3_44 : wz44.cell? ⟨wz41.heap.size, 3, none⟩ = some (.int .i64 s) := Huz44.out.cell 3
      have lu_44 : wz41.heap.size < wz44.heap.size := Huz44.out.lt
      have qp0_44 : wz44.cell? ⟨wz43.heap.size, 0, none⟩ = some (.int .i64 0) := Hpz44.out.cell 0
      have qp1_44 : wz44.cell? ⟨wz43.heap.size, 1, none⟩ = some (.int .i64 0) := Hpz44.out.cell 1
      have qp2_44 : wz44.cell? ⟨wz43.heap.size, 2, none⟩ = some (.int .i64 0) := Hpz44.out.cell 2
      have qp3_44 : wz44.cell? ⟨wz43.heap.size, 3, none⟩ = some (.int .u64 0) := Hpz44.out.cell 3
      have qp4_44 : wz44.cell? ⟨wz43.heap.size, 4, none⟩ = some (.int .u64 0) := Hpz44.out.cell 4
      have lp_44 : wz43.heap.size < wz44.heap.size := Hpz44.out.lt
      have hk0 := Xhk0.out
      go_wp2
      go_ret
      exact ⟨rfl, HBz44.out⟩
set_option linter.unusedSimpArgs false in
set_option linter.unusedVariables false in
set_option maxHeartbeats 8000000 in
set_option maxRecDepth 100000 in
theorem mean16_50 (kind size N s d D pc pn pd ph pl q1 q2 q3 q4 q5 : Int) (k : Nat) (cs : List Int) (ao : Option Addr) (n cap : Nat) (w : World) (Z : Bool) (hck : cs.length = k) (hk25 : k ≤ 25) (hsum : ∀ j, 0 ≤ ssum (cs.reverse.take j) ∧ ssum (cs.reverse.take j) ≤ 25000000) (hs : ssum cs = s) (hd2 : min (max d 0) 1000000 = D) (hk0 : ((k : Int) == 0) = false) (hp1 : 1 ≤ pn) (e1 : wrap64 (pc + pd) = q1) (e2 : wrap64 (q1 * N) = q2) (e3 : wrap64 (D * pn) = q2) (e4 : wrap64 (pc * (k : Nat)) = q3) (e5 : wrap64 (q3 * N) = q4) (e6 : wrap64 (s * pn) = q4) (e7 : wrap64 (D * (k : Nat)) = q5) (e8 : (pd == 0) = Z) (e9 : (q5 == s) = Z)
    (HM1 : Hid (∀ W, Below w.heap.size w W → Calls Try.prog 17 #[.int .i64 kind, .int .i64 size, .slice ao n cap] W (MPost 5 N s k cs W)))
    (HM2 : Hid (∀ v W, ReadsI W v cs.reverse → Calls Try.prog 17 #[.int .i64 kind, .int .i64 size, v] W (MPost 5 N s k cs.reverse W)))
    (HAL : Hid (∀ W, Calls Try.prog 11 #[] W fun e w' => e = .returned (.bool true) ∧ Below W.heap.size W w'))
    (HPO : Hid (∀ W, Calls Try.prog 15 #[.agg #[.int .i64 5, .int .i64 N, .int .i64 (k : Nat), .int .i64 s], .int .i64 D] W fun e w' => e = .returned (.tuple #[.agg #[.int .i64 pc, .int .i64 pn, .int .i64 pd, .int .u64 ph, .int .u64 pl], .int .i64 0]) ∧ Below W.heap.size W w')) :
    Calls Try.prog 5 #[.int .i64 kind, .int .i64 size, .slice ao n cap, .int .i64 d] w fun e w' => e = .returned (.bool true) ∧ Below w.heap.size w w' := by
  have HCK := Lib.hid hck; have HSUM := Lib.hid hsum; have HSS := Lib.hid hs
  have hbase := Nat.le_refl w.heap.size
  have HB0 := Lib.hid (Below.refl w.heap.size w)
  have hkm : wrap64 ((k : Nat) - 1 : Int) = (k : Int) - 1 := by rw [wrapJ6 (by omega)]
  have HKM := Lib.hid hkm
  have Xe1 := Lib.hid e1; have Xe2 := Lib.hid e2; have Xe3 := Lib.hid e3; have Xe4 := Lib.hid e4; have Xe5 := Lib.hid e5; have Xe6 := Lib.hid e6; have Xe7 := Lib.hid e7; have Xe8 := Lib.hid e8; have Xe9 := Lib.hid e9; have Xhp1 := Lib.hid hp1; have Xhk0 := Lib.hid hk0
  clear e1 e2 e3 e4 e5 e6 e7 e8 e9 hp1 hk0
  clear hck hsum hs hkm
  have hqt := eqTal
  have hqp := eqPntT
  go_enter Try.func5, Try.ntmps5
  have hcz1 := HM1.out w (Below.refl _ _)
  go_wp2_with fail
  refine hcz1.mono ?_
  rintro e wz1 ⟨aoC, capC, rfl, hrc, kz1⟩
  clear hcz1
  have HBz1 := Lib.hid (HB0.out.trans (kz1.mono (Nat.le_trans hbase HB0.out.size)))
  clear kz1
  have HRC := Lib.hid hrc
  clear hrc
  obtain ⟨wz2, hwz2⟩ : ∃ wz2, wz1.alloc (.cells #[.int .i64 5, .int .i64 N, .int .i64 (k : Nat), .int .i64 s] 23) = wz2 := ⟨_, rfl⟩
  have kz2 : Below wz1.heap.size wz1 wz2 := by rw [← hwz2]; exact (Below.refl _ _).alloc (Nat.le_refl _) _
  have Htz2 := Lib.hid (show Has wz2 wz1.heap.size [.int .i64 5, .int .i64 N, .int .i64 (k : Nat), .int .i64 s] 23 by rw [← hwz2]; exact Has.new _ _ _)
  have HWz2 := Lib.hid hwz2
  clear hwz2
  have HBz2 := Lib.hid (HBz1.out.trans (kz2.mono (Nat.le_trans hbase HBz1.out.size)))
  have Hcz2 := Lib.hid (HRC.out.below kz2)
  clear kz2
  go_upto_region 2 with fail
  rw [HWz2.out]
  have hcz3 := HAL.out wz2
  go_wp2_with fail
  refine hcz3.mono ?_
  rintro e wz3 ⟨rfl, kz3⟩
  clear hcz3
  have HBz3 := Lib.hid (HBz2.out.trans (kz3.mono (Nat.le_trans hbase HBz2.out.size)))
  have Htz3 := Lib.hid (Htz2.out.call kz3)
  have Hcz3 := Lib.hid (Hcz2.out.below kz3)
  clear kz3
  have qt0_3 : wz3.cell? ⟨wz1.heap.size, 0, none⟩ = some (.int .i64 5) := Htz3.out.cell 0
  have qt1_3 : wz3.cell? ⟨wz1.heap.size, 1, none⟩ = some (.int .i64 N) := Htz3.out.cell 1
  have qt2_3 : wz3.cell? ⟨wz1.heap.size, 2, none⟩ = some (.int .i64 (k : Nat)) := Htz3.out.cell 2
  have qt3_3 : wz3.cell? ⟨wz1.heap.size, 3, none⟩ = some (.int .i64 s) := Htz3.out.cell 3
  have lt_3 : wz1.heap.size < wz3.heap.size := Htz3.out.lt
  go_upto_region 9 with fail
  clear qt0_3 qt1_3 qt2_3 qt3_3 lt_3
  have hkm := HKM.out
  go_wp2_with fail
  clear hkm
  have HJ := Lib.hid (show RevRel cs k wz3 (.slice none 0 0) (.int .i64 0) (.int .i64 ((k : Int) - 1)) wz3 from ⟨0, Nat.zero_le _, by simp, by rw [List.take_zero]; rfl, IRow.nil _ _, Below.refl _ _⟩)
  go_loopw [12, 13, 14] (RevRel cs k wz3) (fun _ _ iv _ => (intOf iv + 1).toNat)
  case atStart => exact HJ.out
  case round =>
    obtain ⟨j, hj, rfl, rfl, hI, hb⟩ := hrel
    rename World => wr
    have HI := Lib.hid hI; have HBI := Lib.hid hb
    clear HJ hI hb
    by_cases hlt : j < k
    · obtain ⟨c, hc, he⟩ := rev_at HCK.out hlt
      obtain ⟨q, hq⟩ : ∃ q, k - 1 - j = q := ⟨_, rfl⟩
      have hqi : (k : Int) - 1 - (j : Nat) = (q : Nat) := by omega
      rw [hq] at hc
      rw [hqi]
      obtain ⟨br, off, hao, hbr, hcc⟩ := (Hcz3.out.below HBI.out).spot hc
      have h1 := HSUM.out j
      have h2 := HSUM.out (j + 1)
      have hsp : ssum (cs.reverse.take (j + 1)) = ssum (cs.reverse.take j) + c := by rw [he, ssum_append]; simp [ssum]
      rw [hsp] at h2
      obtain ⟨a, ha⟩ : ∃ a, ssum (cs.reverse.take j) = a := ⟨_, rfl⟩
      rw [ha] at h1 h2 ⊢
      have hw : wrap64 (a + c) = a + c := wrapJ6 (by omega)
      have hw2 : wrap64 ((q : Nat) - 1 : Int) = (q : Int) - 1 := wrapJ6 (by omega)
      have HE := Lib.hid he; have HSP := Lib.hid (hsp.trans (by rw [ha])); have HQI := Lib.hid hqi; have HLT := Lib.hid hlt; have HCQ := Lib.hid hc; have HK25 := Lib.hid hk25
      have HKL := Lib.hid (show (cs.reverse.take j).length ≤ 25 by rw [List.length_take, List.length_reverse, HCK.out]; omega)
      have hq0 : 0 ≤ (q : Int) := by omega
      have hqx : 0 ≤ (q : Int) ∧ (q : Int) < (k : Int) := by omega
      obtain ⟨acc, hacc⟩ : ∃ acc, cs.reverse.take j = acc := ⟨_, rfl⟩
      rw [hacc] at HI HKL HE
      have HO := Lib.hid (ReadsI.one wr c)
      have HWA := Lib.hid (HI.out.alloc (.cells #[.int .i64 c] 3))
      have HBA := Lib.hid (HBI.out.alloc HBI.out.size (.cells #[.int .i64 c] 3))
      have HSA := Lib.hid (show (wr.alloc (.cells #[.int .i64 c] 3)).heap.size = wr.heap.size + 1 by simp)
      have HW1S := Lib.hid HBI.out.size
      obtain ⟨aoI, capI, hiv⟩ := HI.out.reads.shape
      subst hao
      subst hiv
      clear hj hlt hc he hq hqi h1 h2 hsp ha hacc hk25
      go_wp2_with (at_builtin; refine wpList_append_ints rfl (.tmp 52) (.tmp 57) rfl wz3.heap.size _ acc [c] rfl HWA.out (some ⟨wr.heap.size, 0, none⟩) 1 1 rfl HO.out (by have := HKL.out; rw [List.length_singleton]; omega) (by have := HW1S.out; rw [HSA.out]; omega) ?_)
      intro v' w8 g3 g4
      have hb8 := HBA.out.grown g4 (by have := HW1S.out; rw [HSA.out]; omega) (fun i hi => (HWA.out.lt' i hi).1)
      obtain ⟨b8, o8, hao8, hbr8, hcc8⟩ := (Hcz3.out.below hb8).spot HCQ.out
      injection hao8 with hao8
      injection hao8 with z1 z2 _
      subst z1 z2
      have HQ := Lib.hid (show RevRel cs k wz3 v' (.int .i64 (a + c)) (.int .i64 ((q : Int) - 1)) w8 from ⟨j + 1, HLT.out, by have := HQI.out; rw [show (q : Int) - 1 = (k : Int) - 1 - ((j + 1 : Nat) : Int) by omega], by rw [HSP.out], by rw [HE.out]; exact g3, hb8⟩)
      clear hcc hb8 g3 g4
      go_wp2
      go_roundw
      case rel => rw [hw, hw2]; exact HQ.out
      case measure => rw [hw2]; (simp [intOf] <;> omega)
    · obtain rfl : k = j := by omega
      have hle : cs.reverse.take k = cs.reverse := List.take_of_length_le (by rw [List.length_reverse, HCK.out]; exact Nat.le_refl _)
      rw [hle] at HI
      rw [hle, ssum_rev, HSS.out, show (k : Int) - 1 - (k : Nat) = -1 by omega]
      obtain ⟨aoT, capT, hiv⟩ := HI.out.reads.shape
      rw [List.length_reverse, HCK.out] at hiv
      have HR := Lib.hid HI.out.reads
      subst hiv
      have HTr := Lib.hid (Htz3.out.call HBI.out)
      have HBr := Lib.hid (HBz3.out.trans (HBI.out.mono (Nat.le_trans hbase HBz3.out.size)))
      clear hle hj hlt
      have hcz41 := HM2.out _ wr HR.out
      go_wp2_with fail
      refine hcz41.mono ?_
      rintro e wz41 ⟨aoU, capU, rfl, hru, kz41⟩
      clear hcz41
      have HBz41 := Lib.hid (HBr.out.trans (kz41.mono (Nat.le_trans hbase HBr.out.size)))
      have Htz41 := Lib.hid (HTr.out.call kz41)
      clear kz41
      clear hru
      obtain ⟨wz42, hwz42⟩ : ∃ wz42, wz41.alloc (.cells #[.int .i64 5, .int .i64 N, .int .i64 (k : Nat), .int .i64 s] 23) = wz42 := ⟨_, rfl⟩
      have kz42 : Below wz41.heap.size wz41 wz42 := by rw [← hwz42]; exact (Below.refl _ _).alloc (Nat.le_refl _) _
      have Huz42 := Lib.hid (show Has wz42 wz41.heap.size [.int .i64 5, .int .i64 N, .int .i64 (k : Nat), .int .i64 s] 23 by rw [← hwz42]; exact Has.new _ _ _)
      have HWz42 := Lib.hid hwz42
      clear hwz42
      have HBz42 := Lib.hid (HBz41.out.trans (kz42.mono (Nat.le_trans hbase HBz41.out.size)))
      have Htz42 := Lib.hid (Htz41.out.call kz42)
      clear kz42
      go_upto_region 15 with fail
      rw [HWz42.out]
      have qt0_42 : wz42.cell? ⟨wz1.heap.size, 0, none⟩ = some (.int .i64 5) := Htz42.out.cell 0
      have qt1_42 : wz42.cell? ⟨wz1.heap.size, 1, none⟩ = some (.int .i64 N) := Htz42.out.cell 1
      have qt2_42 : wz42.cell? ⟨wz1.heap.size, 2, none⟩ = some (.int .i64 (k : Nat)) := Htz42.out.cell 2
      have qt3_42 : wz42.cell? ⟨wz1.heap.size, 3, none⟩ = some (.int .i64 s) := Htz42.out.cell 3
      have lt_42 : wz1.heap.size < wz42.heap.size := Htz42.out.lt
      have hcz43 := HPO.out wz42
      go_wp2_with fail
      refine hcz43.mono ?_
      rintro e wz43 ⟨rfl, kz43⟩
      clear hcz43 qt0_42 qt1_42 qt2_42 qt3_42 lt_42
      have HBz43 := Lib.hid (HBz42.out.trans (kz43.mono (Nat.le_trans hbase HBz42.out.size)))
      have Htz43 := Lib.hid (Htz42.out.call kz43)
      have Huz43 := Lib.hid (Huz42.out.call kz43)
      clear kz43
      obtain ⟨wz44, hwz44⟩ : ∃ wz44, wz43.alloc (.cells #[.int .i64 pc, .int .i64 pn, .int .i64 pd, .int .u64 ph, .int .u64 pl] 38) = wz44 := ⟨_, rfl⟩
      have kz44 : Below wz43.heap.size wz43 wz44 := by rw [← hwz44]; exact (Below.refl _ _).alloc (Nat.le_refl _) _
      have Hpz44 := Lib.hid (show Has wz44 wz43.heap.size [.int .i64 pc, .int .i64 pn, .int .i64 pd, .int .u64 ph, .int .u64 pl] 38 by rw [← hwz44]; exact Has.new _ _ _)
      have HWz44 := Lib.hid hwz44
      clear hwz44
      have HBz44 := Lib.hid (HBz43.out.trans (kz44.mono (Nat.le_trans hbase HBz43.out.size)))
      have Htz44 := Lib.hid (Htz43.out.call kz44)
      have Huz44 := Lib.hid (Huz43.out.call kz44)
      clear kz44
      go_upto_region 16 with fail
      rw [HWz44.out]
      have qt0_44 : wz44.cell? ⟨wz1.heap.size, 0, none⟩ = some (.int .i64 5) := Htz44.out.cell 0
      have qt1_44 : wz44.cell? ⟨wz1.heap.size, 1, none⟩ = some (.int .i64 N) := Htz44.out.cell 1
      have qt2_44 : wz44.cell? ⟨wz1.heap.size, 2, none⟩ = some (.int .i64 (k : Nat)) := Htz44.out.cell 2
      have qt3_44 : wz44.cell? ⟨wz1.heap.size, 3, none⟩ = some (.int .i64 s) := Htz44.out.cell 3
      have lt_44 : wz1.heap.size < wz44.heap.size := Htz44.out.lt
      have qu0_44 : wz44.cell? ⟨wz41.heap.size, 0, none⟩ = some (.int .i64 5) := Huz44.out.cell 0
      have qu1_44 : wz44.cell? ⟨wz41.heap.size, 1, none⟩ = some (.int .i64 N) := Huz44.out.cell 1
      have qu2_44 : wz44.cell? ⟨wz41.heap.size, 2, none⟩ = some (.int .i64 (k : Nat)) := Huz44.out.cell 2
      have qu3_44 : wz44.cell? ⟨wz41.heap.size, 3, none⟩ = some (.int .i64 s) := Huz44.out.cell 3
      have lu_44 : wz41.heap.size < wz44.heap.size := Huz44.out.lt
      have qp0_44 : wz44.cell? ⟨wz43.heap.size, 0, none⟩ = some (.int .i64 pc) := Hpz44.out.cell 0
      have qp1_44 : wz44.cell? ⟨wz43.heap.size, 1, none⟩ = some (.int .i64 pn) := Hpz44.out.cell 1
      have qp2_44 : wz44.cell? ⟨wz43.heap.size, 2, none⟩ = some (.int .i64 pd) := Hpz44.out.cell 2
      have qp3_44 : wz44.cell? ⟨wz43.heap.size, 3, none⟩ = some (.int .u64 ph) := Hpz44.out.cell 3
      have qp4_44 : wz44.cell? ⟨wz43.heap.size, 4, none⟩ = some (.int .u64 pl) := Hpz44.out.cell 4
      have lp_44 : wz43.heap.size < wz44.heap.size := Hpz44.out.lt
      have e1 := Xe1.out; have e2 := Xe2.out; have e3 := Xe3.out; have e4 := Xe4.out; have e5 := Xe5.out; have e6 := Xe6.out; have e7 := Xe7.out; have e8 := Xe8.out; have e9 := Xe9.out; have hp1 := Xhp1.out; have hk0 := Xhk0.out
      go_wp2
      go_ret
      exact ⟨rfl, HBz44.out⟩
end Go.Proofs.Ytgmifimpeefpcaa
