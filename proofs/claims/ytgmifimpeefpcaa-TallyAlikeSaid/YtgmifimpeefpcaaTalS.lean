/- The law TallyAlike, of any arguments. -/
import Derived.Test.YtgmifimpeefpcaaTalR
import Derived.Test.YtgmifimpeefpcaaZonLC
namespace Go.Proofs.Ytgmifimpeefpcaa
open Go.RowKit

theorem tpoint_at (H : TalCode) {t : Tal} (ho : talOk t) {d : Int} (hc : cntB t d = true) (hd : IsInt d) (W : World) :
    Calls Try.prog 15 #[talV t, .int .i64 d] W fun e w' => e = .returned (.tuple #[pntV (if t.m = 0 then pnt0 else pntT t d), .int .i64 (if t.m = 0 then 12 else 0)]) ∧ Below W.heap.size W w' := by
  have h := H.point t (talI_ok ho) d hd W
  have hE : tpoiE t d = if t.m = 0 then 12 else 0 := by unfold tpoiE; rw [show talB t = true from decide_eq_true ho, hc]; rfl
  have hA : tpoiA t d = if t.m = 0 then pnt0 else pntT t d := by
    unfold tpoiA
    rw [hE]
    by_cases k : t.m = 0
    · rw [if_pos k, if_pos k]; rfl
    · rw [if_neg k, if_neg k]; rfl
  rw [hE, hA] at h
  exact h
theorem cnts_len (M : Int) (l : List Int) : (cntsN M l).length = min 25 l.length := by unfold cntsN; rw [List.length_map, List.length_take]
theorem cnts_at {M : Int} {l : List Int} {j : Nat} {c : Int} (h : (cntsN M l)[j]? = some c) : ∃ u, (l.take 25)[j]? = some u ∧ c = clampT M u := by
  unfold cntsN at h
  rw [List.getElem?_map] at h
  cases hu : (l.take 25)[j]? with
  | none => rw [hu] at h; cases h
  | some u => rw [hu] at h; exact ⟨u, rfl, (by simpa using h : clampT M u = c).symm⟩
theorem cls_out {d : Int} (h : d ≠ 0) : clsN d 0 = if d < 0 then -4 else 4 := by
  have hs : 0 < sqN d := Nat.mul_pos (by omega) (by omega)
  have hc : cntN (sqN d) 0 = 3 := by unfold cntN; simp only [Nat.mul_zero, if_pos hs]
  unfold clsN
  rw [if_neg h, hc]
  rfl
theorem cnts_pre {M : Int} {cs : List Int} (h : cntsOk M cs) (hM : 0 ≤ M ∧ M ≤ 1000000) (hl : cs.length ≤ 25) (j : Nat) : 0 ≤ ssum (cs.take j) ∧ ssum (cs.take j) ≤ 25000000 := by
  have h1 := cnts_sum (M := M) (cs := cs.take j) (fun c hc => h c (List.mem_of_mem_take hc))
  have h2 : (cs.take j).length ≤ 25 := by rw [List.length_take]; omega
  have h3 := Int.mul_le_mul (show ((cs.take j).length : Int) ≤ 25 by omega) hM.2 hM.1 (by omega)
  omega
theorem alike16_walk (H : TalCode) (size d : Int) (l : List Int) (v : Value) (w : World) (hr : ReadsI w v l) :
    Calls Try.prog 6 #[.int .i64 size, v, .int .i64 d] w fun e w' => e = .returned (.bool true) ∧ Below w.heap.size w w' := by
  obtain ⟨K0, S, hK0, hP0, hS0, hm0⟩ := made16_all H 0 size
  obtain ⟨K1, S1, hK1, hP1, hS1, hm1⟩ := made16_all H 1 size
  obtain ⟨K2, S2, hK2, hP2, hS2, hm2⟩ := made16_all H 2 size
  obtain ⟨K3, S3, hK3, hP3, hS3, hm3⟩ := made16_all H 3 size
  obtain rfl : K0 = 2 := hK0.trans (by decide)
  obtain rfl : K1 = 3 := hK1.trans (by decide)
  obtain rfl : K2 = 4 := hK2.trans (by decide)
  obtain rfl : K3 = 5 := hK3.trans (by decide)
  obtain rfl : S1 = S := (hS1 (by decide)).trans (hS0 (by decide)).symm
  obtain rfl : S3 = S1 := (hS3 (by decide)).trans (hS0 (by decide)).symm
  obtain rfl : S2 = 1 := hP2.2.2.2.2 rfl
  obtain ⟨S, hSS⟩ : ∃ S, S = S3 := ⟨_, rfl⟩
  rw [← hSS] at hm0 hm1 hm3 hP0 hP1 hP3
  clear hK0 hK1 hK2 hK3 hS0 hS1 hS2 hS3 hSS
  rw [show mostT ⟨2, S, 0, 0⟩ = S from rfl] at hm0
  rw [show mostT ⟨3, S, 0, 0⟩ = S from rfl] at hm1
  rw [show mostT ⟨4, 1, 0, 0⟩ = 1000000 from rfl] at hm2
  rw [show mostT ⟨5, S, 0, 0⟩ = 1000000 from rfl] at hm3
  have hSb : 1 ≤ S ∧ S ≤ 1000 := ⟨hP0.2.2.1, hP0.2.2.2.1⟩
  obtain ⟨hco, hcl⟩ := cntsN_ok (show 0 ≤ S by omega) l
  obtain ⟨hzo, hzl⟩ := cntsN_ok (show (0 : Int) ≤ 1000000 by omega) l
  obtain ⟨k, hk⟩ : ∃ k, (cntsN S l).length = k := ⟨_, rfl⟩
  have hkz : (cntsN 1000000 l).length = k := by rw [← hk, cnts_len, cnts_len]
  have hsame : ∀ (j : Nat) (c e : Int), (cntsN S l)[j]? = some c → (cntsN 1000000 l)[j]? = some e → c = e ∨ (c ≠ e ∧ ¬ e ≤ S) := fun j c e h1 h2 => by
    obtain ⟨u, hu, rfl⟩ := cnts_at h1
    obtain ⟨u', hu', rfl⟩ := cnts_at h2
    rw [hu] at hu'
    cases hu'
    unfold clampT
    omega
  have hsum := cnts_pre hco ⟨by omega, by omega⟩ hcl
  have oP := made16_ok hP0 (cs := cntsN S l) (by rw [show mostT ⟨2, S, 0, 0⟩ = S from rfl]; exact hco) hcl
  have oN := made16_ok hP1 (cs := cntsN S l) (by rw [show mostT ⟨3, S, 0, 0⟩ = S from rfl]; exact hco) hcl
  have oC := made16_ok hP2 (cs := cntsN 1000000 l) (by rw [show mostT ⟨4, 1, 0, 0⟩ = 1000000 from rfl]; exact hzo) hzl
  have oU := made16_ok hP3 (cs := cntsN 1000000 l) (by rw [show mostT ⟨5, S, 0, 0⟩ = 1000000 from rfl]; exact hzo) hzl
  obtain ⟨cs, hcs⟩ : ∃ cs, cntsN S l = cs := ⟨_, rfl⟩
  obtain ⟨zs, hzs⟩ : ∃ zs, cntsN 1000000 l = zs := ⟨_, rfl⟩
  obtain ⟨s, hs⟩ : ∃ s, ssum cs = s := ⟨_, rfl⟩
  obtain ⟨z, hz⟩ : ∃ z, ssum zs = z := ⟨_, rfl⟩
  have HM0 := Lib.hid (fun (W : World) (hW : Below w.heap.size w W) => (hm0 l v W (hr.below hW)).mono fun e w' h => hcs ▸ h.mpost (k := k) (s := s) hk (by rw [hcs, hs]))
  have HM1 := Lib.hid (fun (W : World) (hW : Below w.heap.size w W) => (hm1 l v W (hr.below hW)).mono fun e w' h => hcs ▸ h.mpost (k := k) (s := s) hk (by rw [hcs, hs]))
  have HM2 := Lib.hid (fun (W : World) (hW : Below w.heap.size w W) => (hm2 l v W (hr.below hW)).mono fun e w' h => hzs ▸ h.mpost (k := k) (s := z) hkz (by rw [hzs, hz]))
  have HM3 := Lib.hid (fun (W : World) (hW : Below w.heap.size w W) => (hm3 l v W (hr.below hW)).mono fun e w' h => hzs ▸ h.mpost (k := k) (s := z) hkz (by rw [hzs, hz]))
  have HAL := Lib.hid (fun W => alive16_any H W)
  rw [hcs] at hk hsame hsum oP oN hcl
  rw [hzs] at hkz hsame oC oU
  rw [hk] at hcl
  unfold madeT at oP oN oC oU
  rw [hk, hs] at oP oN
  rw [hkz, hz] at oC oU
  obtain ⟨kk, hkk⟩ : ∃ kk, min (max d 0) S = kk := ⟨_, rfl⟩
  obtain ⟨mm, hmm⟩ : ∃ mm, min (max d 0) 1000000 = mm := ⟨_, rfl⟩
  have kb : 0 ≤ kk ∧ kk ≤ S := by omega
  have mb : 0 ≤ mm ∧ mm ≤ 1000000 := by omega
  have kI : IsInt kk := by unfold IsInt; omega
  have mI : IsInt mm := by unfold IsInt; omega
  have hp0 := fun W => tpoint_at H oP (d := kk) (decide_eq_true (by rw [show mostT ⟨2, S, (k : Nat), s⟩ = S from rfl]; exact kb)) kI W
  have hp1 := fun W => tpoint_at H oN (d := kk) (decide_eq_true (by rw [show mostT ⟨3, S, (k : Nat), s⟩ = S from rfl]; exact kb)) kI W
  have hp2 := fun W => tpoint_at H oC (d := mm) (decide_eq_true (by rw [show mostT ⟨4, 1, (k : Nat), z⟩ = 1000000 from rfl]; exact mb)) mI W
  have hp3 := fun W => tpoint_at H oU (d := mm) (decide_eq_true (by rw [show mostT ⟨5, S, (k : Nat), z⟩ = 1000000 from rfl]; exact mb)) mI W
  dsimp only at hp0 hp1 hp2 hp3
  obtain ⟨ao, cap, rfl⟩ := hr.shape
  by_cases k0 : (k : Int) = 0
  · rw [if_pos k0, if_pos k0] at hp0 hp1 hp2 hp3
    have HP0 := Lib.hid hp0; have HP1 := Lib.hid hp1; have HP2 := Lib.hid hp2; have HP3 := Lib.hid hp3
    exact alike16_z size S s z d kk mm k cs zs ao _ cap w hk hkz hcl hsum hs hsame hkk hmm (by rw [k0]; rfl) HM0 HP0 HM1 HP1 HM2 HP2 HM3 HP3 HAL
  · rw [if_neg k0, if_neg k0] at hp0 hp1 hp2 hp3
    have hsb := tsum_bounds oP
    have hzb := tsum_bounds oC
    have hsa := tsum_all oP (show (2 : Int) ≤ 3 by decide)
    dsimp only at hsb hzb hsa
    have hk0 : ((k : Int) == 0) = false := beq_false_of_ne k0
    obtain ⟨P, hP⟩ : ∃ P, (k : Int) * S = P := ⟨_, rfl⟩
    have hPb := mulB (show -25 ≤ (k : Int) ∧ (k : Int) ≤ 25 by omega) (show -1000 ≤ S ∧ S ≤ 1000 by omega)
    have hPp : 1 ≤ P := by rw [← hP]; have := Int.mul_le_mul (show 1 ≤ (k : Int) by omega) hSb.1 (by decide) (by omega); omega
    have e1 : wrap64 ((k : Nat) * S) = P := by rw [← hP]; exact wrapJ6 (by omega)
    rw [hP] at hPb hsa
    obtain ⟨AD, hAD⟩ : ∃ AD, kk * P - s * S = AD := ⟨_, rfl⟩
    obtain ⟨AV, hAV⟩ : ∃ AV, (s * (P - s) * S).toNat = AV := ⟨_, rfl⟩
    obtain ⟨XD, hXD⟩ : ∃ XD, mm * (k : Nat) - z = XD := ⟨_, rfl⟩
    obtain ⟨XV, hXV⟩ : ∃ XV, (z * (k : Nat)).toNat = XV := ⟨_, rfl⟩
    have p0 : pntT ⟨2, S, (k : Nat), s⟩ kk = ⟨s * S, P * S, AD, AV⟩ := by unfold pntT; dsimp only; rw [if_neg (by decide), if_pos rfl, hP, hAD, hAV]
    have p1 : pntT ⟨3, S, (k : Nat), s⟩ kk = ⟨s * S, P, AD, AV⟩ := by unfold pntT; dsimp only; rw [if_neg (by decide), if_neg (by decide), hP, hAD, hAV]
    have p2 : pntT ⟨4, 1, (k : Nat), z⟩ mm = ⟨z, k * 1, XD, XV⟩ := by unfold pntT; dsimp only; rw [if_pos (by decide), hXD, hXV]
    have p3 : pntT ⟨5, S, (k : Nat), z⟩ mm = ⟨z, P, XD, XV⟩ := by unfold pntT; dsimp only; rw [if_pos (by decide), hP, hXD, hXV]
    rw [p0] at hp0; rw [p1] at hp1; rw [p2] at hp2; rw [p3] at hp3
    have HP0 := Lib.hid hp0; have HP1 := Lib.hid hp1; have HP2 := Lib.hid hp2; have HP3 := Lib.hid hp3
    have b1 := mulB (show -1000000 ≤ kk ∧ kk ≤ 1000000 by omega) (show -25000 ≤ P ∧ P ≤ 25000 by omega)
    have b2 := mulB (show -25000000 ≤ s ∧ s ≤ 25000000 by omega) (show -1000 ≤ S ∧ S ≤ 1000 by omega)
    have b3 := mulB (show -25000000 ≤ s ∧ s ≤ 25000000 by omega) (show -25000 ≤ P - s ∧ P - s ≤ 25000 by omega)
    have b4 := mulB b3 (show -1000 ≤ S ∧ S ≤ 1000 by omega)
    have b5 := mulB (show -1000000 ≤ mm ∧ mm ≤ 1000000 by omega) (show -25 ≤ (k : Int) ∧ (k : Int) ≤ 25 by omega)
    have b6 := mulB (show -25000000 ≤ z ∧ z ≤ 25000000 by omega) (show -25 ≤ (k : Int) ∧ (k : Int) ≤ 25 by omega)
    have HZ0 := Lib.hid (fun W => cls13_ok AD AV (by unfold IsInt; omega) (by omega) W)
    have HZ1 := Lib.hid (fun W => cls13_ok XD XV (by unfold IsInt; omega) (by omega) W)
    by_cases s0 : s = 0
    · have hs0 : (s == 0) = true := beq_iff_eq.2 s0
      have hV0 : AV = 0 := by rw [← hAV, s0, Int.zero_mul, Int.zero_mul]; rfl
      have hD0 : AD = kk * P := by rw [← hAD, s0, Int.zero_mul]; omega
      by_cases q : kk = 0
      · exact alike16_a1 size S s z d kk mm _ _ _ _ _ _ _ _ _ _ _ _ _ _ _ _ 0 k cs zs ao _ cap w hk hkz hcl hsum hs hsame hkk hmm hk0 hs0 (by rw [hD0, q, Int.zero_mul, clsN_zero]; rfl) (beq_iff_eq.2 q) HM0 HP0 HM1 HP1 HM2 HP2 HM3 HP3 HAL HZ0 HZ1
      · have hpos : 0 < AD := by rw [hD0]; exact Int.mul_pos (by omega) (by omega)
        have hci : clsN AD AV = 4 := by rw [hV0, cls_out (by omega), if_neg (by omega)]
        exact alike16_a2 size S s z d kk mm _ _ _ _ _ _ _ _ _ _ _ _ _ _ _ _ 0 k cs zs ao _ cap w hk hkz hcl hsum hs hsame hkk hmm hk0 hs0 (by rw [hci]; rfl) (beq_false_of_ne q) (by rw [hci]; rfl) HM0 HP0 HM1 HP1 HM2 HP2 HM3 HP3 HAL HZ0 HZ1
    · have hs0 : (s == 0) = false := beq_false_of_ne s0
      by_cases sP : s = P
      · have hsP : (s == P) = true := beq_iff_eq.2 sP
        have hV0 : AV = 0 := by rw [← hAV, sP, Int.sub_self, Int.mul_zero, Int.zero_mul]; rfl
        have hD0 : AD = (kk - S) * P := by rw [← hAD, sP, Int.sub_mul, Int.mul_comm S P]
        by_cases q : kk = S
        · exact alike16_b1 size S s z d kk mm _ _ _ _ _ _ _ _ _ _ _ _ _ _ _ _ P k cs zs ao _ cap w hk hkz hcl hsum hs hsame hkk hmm hk0 hs0 e1 hsP (by rw [hD0, q, Int.sub_self, Int.zero_mul, clsN_zero]; rfl) (beq_iff_eq.2 q) HM0 HP0 HM1 HP1 HM2 HP2 HM3 HP3 HAL HZ0 HZ1
        · have hneg : AD < 0 := by rw [hD0]; exact Int.mul_neg_of_neg_of_pos (by omega) (by omega)
          have hci : clsN AD AV = -4 := by rw [hV0, cls_out (by omega), if_pos hneg]
          exact alike16_b2 size S s z d kk mm _ _ _ _ _ _ _ _ _ _ _ _ _ _ _ _ P k cs zs ao _ cap w hk hkz hcl hsum hs hsame hkk hmm hk0 hs0 e1 hsP (by rw [hci]; rfl) (beq_false_of_ne q) (by rw [hci]; rfl) HM0 HP0 HM1 HP1 HM2 HP2 HM3 HP3 HAL HZ0 HZ1
      · exact alike16_c size S s z d kk mm _ _ _ _ _ _ _ _ _ _ _ _ _ _ _ _ P k cs zs ao _ cap w hk hkz hcl hsum hs hsame hkk hmm hk0 hs0 e1 (beq_false_of_ne sP) HM0 HP0 HM1 HP1 HM2 HP2 HM3 HP3 HAL HZ0 HZ1
end Go.Proofs.Ytgmifimpeefpcaa
