/- The law TallyMean, of any arguments. -/
import Derived.Test.YtgmifimpeefpcaaTalP
namespace Go.Proofs.Ytgmifimpeefpcaa
open Go.RowKit

theorem cntsN_id {M : Int} {cs : List Int} (h : cntsOk M cs) (hl : cs.length ≤ 25) : cntsN M cs = cs := by
  unfold cntsN
  rw [List.take_of_length_le hl]
  conv => rhs; rw [← List.map_id cs]
  exact List.map_congr_left fun c hc => clampT_id (h c hc)
theorem made16_all (H : TalCode) (kind size : Int) :
    ∃ K N, K = 2 + (kind.tmod 4 + 4).tmod 4 ∧ sizesP K N ∧ (K ≠ 4 → N = 1 + (size.tmod 1000 + 1000).tmod 1000) ∧ ∀ (l : List Int) (v : Value) (w : World), ReadsI w v l → Calls Try.prog 17 #[.int .i64 kind, .int .i64 size, v] w (MadePost K N (mostT ⟨K, N, 0, 0⟩) l w) := by
  have a1 := Int.lt_tmod_of_pos kind (show (0 : Int) < 4 by decide)
  have a3 := Int.tmod_nonneg 4 (show 0 ≤ kind.tmod 4 + 4 by omega)
  have a4 := Int.tmod_lt_of_pos (kind.tmod 4 + 4) (show (0 : Int) < 4 by decide)
  have b1 := Int.lt_tmod_of_pos size (show (0 : Int) < 1000 by decide)
  have b3 := Int.tmod_nonneg 1000 (show 0 ≤ size.tmod 1000 + 1000 by omega)
  have b4 := Int.tmod_lt_of_pos (size.tmod 1000 + 1000) (show (0 : Int) < 1000 by decide)
  obtain ⟨K, hK⟩ : ∃ K, K = 2 + (kind.tmod 4 + 4).tmod 4 := ⟨_, rfl⟩
  obtain ⟨S, hS⟩ : ∃ S, S = 1 + (size.tmod 1000 + 1000).tmod 1000 := ⟨_, rfl⟩
  obtain ⟨N, hP, hN⟩ : ∃ N, sizesP K N ∧ (K ≠ 4 → N = S) := by
    by_cases k : K = 4
    · exact ⟨1, ⟨by omega, by omega, by omega, by omega, fun _ => rfl⟩, fun h => absurd k h⟩
    · exact ⟨S, ⟨by omega, by omega, by omega, by omega, fun h => absurd h k⟩, fun _ => rfl⟩
  rw [hS] at hN
  refine ⟨K, N, hK, hP, hN, fun l v w hr => ?_⟩
  obtain ⟨K', N', hK', hP', hN', h⟩ := made16_any H kind size l v w hr
  have e1 : K' = K := hK'.trans hK.symm
  subst e1
  have e2 : N' = N := by
    by_cases k : K' = 4
    · rw [hP.2.2.2.2 k, hP'.2.2.2.2 k]
    · rw [hN k, hN' k]
  subst e2
  exact h
theorem MadePost.mpost {K N M : Int} {l : List Int} {W : World} {e : Ending} {w' : World} (h : MadePost K N M l W e w') {s : Int} {k : Nat} (hk : (cntsN M l).length = k) (hs : ssum (cntsN M l) = s) : MPost K N s k (cntsN M l) W e w' := by
  obtain ⟨v', rfl, hr, hb⟩ := h
  obtain ⟨ao, cap, rfl⟩ := hr.shape
  subst hk hs
  exact ⟨ao, cap, rfl, hr, hb⟩
/-- What the law reckons of a point. -/
structure MeanE (t : Tal) (D nn : Int) (p : Pnt) : Prop where
  den : 1 ≤ p.den
  e2 : (p.center + p.dev) * nn = D * p.den
  e5 : p.center * t.m * nn = t.sum * p.den
  e8 : p.dev = 0 ↔ D * t.m = t.sum
  bc : -25000000000 ≤ p.center ∧ p.center ≤ 25000000000
  bd : -50000000000 ≤ p.dev ∧ p.dev ≤ 50000000000
  bn : -25000000 ≤ p.den ∧ p.den ≤ 25000000
theorem mean_eqs {t : Tal} (h : talOk t) {D : Int} (hD : cntB t D = true) (hm : t.m ≠ 0) : MeanE t D (if t.kind = 2 ∨ t.kind = 5 then t.size else 1) (pntT t D) := by
  have hs := tsum_bounds h
  have hc := tcnt_bounds h hD
  have hz := h.1
  have hb := h.2
  obtain ⟨K, N, m, s⟩ := t
  dsimp only at *
  obtain ⟨z1, z2, z3, z4, z5⟩ := hz
  have b1 := mulB (show -25 ≤ m ∧ m ≤ 25 by omega) (show -1000 ≤ N ∧ N ≤ 1000 by omega)
  have b1p : 1 ≤ m * N := by have := Int.mul_le_mul (show 1 ≤ m by omega) (show 1 ≤ N by omega) (by decide) (by omega); omega
  have b2 := mulB (show -25000000 ≤ s ∧ s ≤ 25000000 by omega) (show -1000 ≤ N ∧ N ≤ 1000 by omega)
  have b3 := mulB (show -1000000 ≤ D ∧ D ≤ 1000000 by omega) b1
  have b4 := mulB b1 (show -1000 ≤ N ∧ N ≤ 1000 by omega)
  have b4p : 1 ≤ m * N * N := by have := Int.mul_le_mul b1p (show 1 ≤ N by omega) (by decide) (by omega); omega
  have b5 := mulB (show -1000000 ≤ D ∧ D ≤ 1000000 by omega) (show -25 ≤ m ∧ m ≤ 25 by omega)
  have dz : D * (m * N) - s * N = 0 ↔ D * m = s := by
    rw [← Int.mul_assoc, ← Int.sub_mul, Int.mul_eq_zero]
    omega
  have c1 : s * N + (D * (m * N) - s * N) = D * (m * N) := by omega
  have c2 : s + (D * m - s) = D * m := by omega
  unfold pntT
  dsimp only
  by_cases k4 : 4 ≤ K
  · rw [if_pos k4]
    by_cases k5 : K = 5
    · rw [if_pos (Or.inr k5)]
      exact ⟨b1p, by dsimp only; rw [c2, Int.mul_assoc], by dsimp only; rw [Int.mul_assoc], by dsimp only; omega, by dsimp only; omega, by dsimp only; omega, by dsimp only; omega⟩
    · have hN1 : N = 1 := z5 (by omega)
      subst hN1
      rw [if_neg (by omega)]
      exact ⟨b1p, by dsimp only; rw [c2, Int.mul_one, Int.mul_one], by dsimp only; rw [Int.mul_one, Int.mul_one], by dsimp only; omega, by dsimp only; omega, by dsimp only; omega, by dsimp only; omega⟩
  · rw [if_neg k4]
    by_cases k2 : K = 2
    · rw [if_pos k2, if_pos (Or.inl k2)]
      exact ⟨b4p, by dsimp only; rw [c1]; ac_rfl, by dsimp only; ac_rfl, dz, by dsimp only; omega, by dsimp only; omega, by dsimp only; omega⟩
    · rw [if_neg k2, if_neg (by omega)]
      exact ⟨b1p, by dsimp only; rw [c1, Int.mul_one], by dsimp only; rw [Int.mul_one]; ac_rfl, dz, by dsimp only; omega, by dsimp only; omega, by dsimp only; omega⟩
theorem mean16_walk (H : TalCode) (kind size d : Int) (l : List Int) (v : Value) (w : World) (hr : ReadsI w v l) :
    Calls Try.prog 5 #[.int .i64 kind, .int .i64 size, v, .int .i64 d] w fun e w' => e = .returned (.bool true) ∧ Below w.heap.size w w' := by
  obtain ⟨K, N, _, hP, _, hmade⟩ := made16_all H kind size
  have hMb := most_bounds (t := ⟨K, N, 0, 0⟩) hP
  obtain ⟨M, hM⟩ : ∃ M, mostT ⟨K, N, 0, 0⟩ = M := ⟨_, rfl⟩
  rw [hM] at hmade hMb
  obtain ⟨hco, hcl⟩ := cntsN_ok (show 0 ≤ M by omega) l
  obtain ⟨cs, hcs⟩ : ∃ cs, cntsN M l = cs := ⟨_, rfl⟩
  rw [hcs] at hco hcl
  obtain ⟨k, hk⟩ : ∃ k, cs.length = k := ⟨_, rfl⟩
  obtain ⟨s, hs⟩ : ∃ s, ssum cs = s := ⟨_, rfl⟩
  rw [hk] at hcl
  have HM1 := Lib.hid (fun (W : World) (hW : Below w.heap.size w W) => (hmade l v W (hr.below hW)).mono fun e w' h => hcs ▸ h.mpost (k := k) (s := s) (by rw [hcs, hk]) (by rw [hcs, hs]))
  have hrev : cntsN M cs.reverse = cs.reverse := cntsN_id (fun c hc => hco c (List.mem_reverse.1 hc)) (by rw [List.length_reverse, hk]; exact hcl)
  have HM2 := Lib.hid (fun (v2 : Value) (W : World) (hW : ReadsI W v2 cs.reverse) => (hmade cs.reverse v2 W hW).mono fun e w' h => hrev ▸ h.mpost (k := k) (s := s) (by rw [hrev, List.length_reverse, hk]) (by rw [hrev, ssum_rev, hs]))
  have HAL := Lib.hid (fun W => alive16_any H W)
  have hsum := cnts_part hco ⟨by omega, hMb.2⟩ (by rw [hk]; exact hcl)
  have ho : talOk ⟨K, N, (k : Nat), s⟩ := by
    have := made16_ok hP (cs := cs) (by rw [hM]; exact hco) (by rw [hk]; exact hcl)
    unfold madeT at this
    rwa [hk, hs] at this
  obtain ⟨ao, cap, rfl⟩ := hr.shape
  have hK := hP.1
  have hK5 := hP.2.1
  have key : ∀ D, 0 ≤ D ∧ D ≤ M → cntB ⟨K, N, (k : Nat), s⟩ D = true ∧ IsInt D := fun D hD => ⟨decide_eq_true (by
    rw [show mostT ⟨K, N, (k : Nat), s⟩ = M from hM]; exact hD), by unfold IsInt; omega⟩
  have hMK : M = if K ≤ 3 then N else 1000000 := hM.symm
  obtain ⟨D, hDM, hD1, hD2⟩ : ∃ D, (0 ≤ D ∧ D ≤ M) ∧ (K ≤ 3 → min (max (min (max d 0) N) 0) 1000000 = D) ∧ (¬ K ≤ 3 → min (max d 0) 1000000 = D) := by
    by_cases k3 : K ≤ 3
    · rw [if_pos k3] at hMK
      exact ⟨_, by omega, fun _ => rfl, fun h => absurd k3 h⟩
    · rw [if_neg k3] at hMK
      exact ⟨_, by omega, fun h => absurd h k3, fun _ => rfl⟩
  obtain ⟨hcnt, hDI⟩ := key D hDM
  have hpo := fun W => H.point _ (talI_ok ho) D hDI W
  by_cases k0 : k = 0
  · have hE : tpoiE ⟨K, N, (k : Nat), s⟩ D = 12 := by unfold tpoiE; rw [show talB _ = true from decide_eq_true ho, hcnt]; exact if_pos (by show (k : Int) = 0; omega)
    have hA : tpoiA ⟨K, N, (k : Nat), s⟩ D = pnt0 := by unfold tpoiA; rw [hE]; rfl
    rw [hE, hA] at hpo
    have HPO := Lib.hid hpo
    have hk0 : ((k : Int) == 0) = true := by rw [k0]; rfl
    rcases (by omega : K = 2 ∨ K = 3 ∨ K = 4 ∨ K = 5) with rfl | rfl | rfl | rfl
    · exact mean16_21 kind size N s d D _ k cs ao _ cap w hk hcl hsum hs rfl (hD1 (by omega)) hk0 HM1 HM2 HAL HPO
    · exact mean16_31 kind size N s d D _ k cs ao _ cap w hk hcl hsum hs rfl (hD1 (by omega)) hk0 HM1 HM2 HAL HPO
    · exact mean16_41 kind size N s d D k cs ao _ cap w hk hcl hsum hs (hD2 (by omega)) hk0 HM1 HM2 HAL HPO
    · exact mean16_51 kind size N s d D k cs ao _ cap w hk hcl hsum hs (hD2 (by omega)) hk0 HM1 HM2 HAL HPO
  · have hE : tpoiE ⟨K, N, (k : Nat), s⟩ D = 0 := by unfold tpoiE; rw [show talB _ = true from decide_eq_true ho, hcnt]; exact if_neg (by show ¬ (k : Int) = 0; omega)
    have hA : tpoiA ⟨K, N, (k : Nat), s⟩ D = pntT ⟨K, N, (k : Nat), s⟩ D := by unfold tpoiA; rw [hE]; rfl
    rw [hE, hA] at hpo
    have hme := mean_eqs ho hcnt (by dsimp only; omega)
    obtain ⟨p, hp⟩ : ∃ p, pntT ⟨K, N, (k : Nat), s⟩ D = p := ⟨_, rfl⟩
    rw [hp] at hpo hme
    obtain ⟨pc, pn, pd, pv⟩ := p
    have HPO := Lib.hid hpo
    obtain ⟨m1, m2, m5, m8, bc, bd, bn⟩ := hme
    dsimp only at m1 m2 m5 m8 bc bd bn
    have hk0 : ((k : Int) == 0) = false := beq_false_of_ne (by omega)
    have hsb := tsum_bounds ho
    dsimp only at hsb
    have hNb : -1000 ≤ N ∧ N ≤ 1000 := by have := hP.2.2; omega
    have x1 := mulB (show -75000000000 ≤ pc + pd ∧ pc + pd ≤ 75000000000 by omega) hNb
    have x3 := mulB (show -1000000 ≤ D ∧ D ≤ 1000000 by omega) bn
    have x4 := mulB bc (show -25 ≤ (k : Int) ∧ (k : Int) ≤ 25 by omega)
    have x5 := mulB x4 hNb
    have x6 := mulB (show -25000000 ≤ s ∧ s ≤ 25000000 by omega) bn
    have x7 := mulB (show -1000000 ≤ D ∧ D ≤ 1000000 by omega) (show -25 ≤ (k : Int) ∧ (k : Int) ≤ 25 by omega)
    have e8 : (pd == 0) = decide (pd = 0) := rfl
    have e9 : (D * (k : Nat) == s) = decide (pd = 0) := by
      rw [show (D * (k : Nat) == s) = decide (D * (k : Nat) = s) from rfl]
      exact decide_eq_decide.2 m8.symm
    have f1 : wrap64 (pc + pd) = pc + pd := wrapJ6 (by omega)
    have f3 : wrap64 (D * pn) = D * pn := wrapJ6 (by omega)
    have f4 : wrap64 (pc * (k : Nat)) = pc * (k : Nat) := wrapJ6 (by omega)
    have f6 : wrap64 (s * pn) = s * pn := wrapJ6 (by omega)
    have f7 : wrap64 (D * (k : Nat)) = D * (k : Nat) := wrapJ6 (by omega)
    have g2 : wrap64 ((pc + pd) * N) = (pc + pd) * N := wrapJ6 (by omega)
    have g5 : wrap64 (pc * (k : Nat) * N) = pc * (k : Nat) * N := wrapJ6 (by omega)
    rcases (by omega : K = 2 ∨ K = 3 ∨ K = 4 ∨ K = 5) with rfl | rfl | rfl | rfl
    · rw [if_pos (Or.inl rfl)] at m2 m5
      exact mean16_20 kind size N s d D _ pc pn pd _ _ _ _ _ _ _ k cs ao _ cap w _ hk hcl hsum hs rfl (hD1 (by omega)) hk0 m1 f1 g2 (by rw [f3, m2]) f4 g5 (by rw [f6, m5]) f7 e8 e9 HM1 HM2 HAL HPO
    · rw [if_neg (by decide), Int.mul_one] at m2 m5
      exact mean16_30 kind size N s d D _ pc pn pd _ _ _ _ _ _ _ k cs ao _ cap w _ hk hcl hsum hs rfl (hD1 (by omega)) hk0 m1 f1 f1 (by rw [f3, m2]) f4 f4 (by rw [f6, m5]) f7 e8 e9 HM1 HM2 HAL HPO
    · rw [if_neg (by decide), Int.mul_one] at m2 m5
      exact mean16_40 kind size N s d D pc pn pd _ _ _ _ _ _ _ k cs ao _ cap w _ hk hcl hsum hs (hD2 (by omega)) hk0 m1 f1 f1 (by rw [f3, m2]) f4 f4 (by rw [f6, m5]) f7 e8 e9 HM1 HM2 HAL HPO
    · rw [if_pos (Or.inr rfl)] at m2 m5
      exact mean16_50 kind size N s d D pc pn pd _ _ _ _ _ _ _ k cs ao _ cap w _ hk hcl hsum hs (hD2 (by omega)) hk0 m1 f1 g2 (by rw [f3, m2]) f4 g5 (by rw [f6, m5]) f7 e8 e9 HM1 HM2 HAL HPO
end Go.Proofs.Ytgmifimpeefpcaa
