/- The law FactorNearest, walked. -/
import Derived.Test.YtnfbgpcilnlpjaaFacLa
namespace Go.Proofs.Ytnfbgpcilnlpjaa
open Go.RowKit

theorem wrap64_in {z : Int} (h : IsInt z) : wrap64 z = z := by
  unfold IsInt at h
  unfold wrap64
  omega
theorem kind_of (k : Int) : ∃ K : Nat, K < 7 ∧ (wrap64 (k.tmod 7 + 7)).tmod 7 = (K : Nat) := by
  have h1 : -7 < k.tmod 7 ∧ k.tmod 7 < 7 := by
    have a := Int.tmod_lt_of_pos k (show (0 : Int) < 7 by decide)
    have b := Int.lt_tmod_of_pos k (show (0 : Int) < 7 by decide)
    omega
  rw [wrap64_in (by unfold IsInt; omega), Int.tmod_eq_emod_of_nonneg (by omega)]
  exact ⟨((k.tmod 7 + 7) % 7).toNat, by omega, by omega⟩
theorem size_of (n : Int) : ∃ J : Nat, J < 9 ∧ wrap64 (2 + (wrap64 (n.tmod 9 + 9)).tmod 9) = (J : Nat) + 2 := by
  have h1 : -9 < n.tmod 9 ∧ n.tmod 9 < 9 := by
    have a := Int.tmod_lt_of_pos n (show (0 : Int) < 9 by decide)
    have b := Int.lt_tmod_of_pos n (show (0 : Int) < 9 by decide)
    omega
  rw [wrap64_in (z := n.tmod 9 + 9) (by unfold IsInt; omega), Int.tmod_eq_emod_of_nonneg (by omega)]
  rw [wrap64_in (by unfold IsInt; omega)]
  exact ⟨((n.tmod 9 + 9) % 9).toNat, by omega, by omega⟩

set_option maxRecDepth 100000 in
theorem fnear_core (kind v n : Int) (K J : Nat) (V : Int) (k1 a b k2 p q r s O T : Int) (w : World)
    (hK : (wrap64 (kind.tmod 7 + 7)).tmod 7 = (K : Int)) (hJ : wrap64 (2 + (wrap64 (n.tmod 9 + 9)).tmod 9) = (J : Int) + 2) (hV : V = min (max v (-1000000)) 1000000)
    (m1 : ∀ w, Calls Try.prog 8 #[.int .i64 (K : Nat), .int .i64 V] w fun en w' => en = .returned (.tuple #[.int .i64 k1, .int .i64 0]) ∧ Below w.heap.size w w')
    (m2 : ∀ w, Calls Try.prog 6 #[.int .i64 (K : Nat), .int .i64 k1] w fun en w' => en = .returned (.tuple #[.int .i64 a, .int .i64 0]) ∧ Below w.heap.size w w')
    (m3 : ∀ w, Calls Try.prog 6 #[.int .i64 (K : Nat), .int .i64 ((J : Nat) + 2)] w fun en w' => en = .returned (.tuple #[.int .i64 b, .int .i64 0]) ∧ Below w.heap.size w w')
    (m4 : ∀ w, Calls Try.prog 8 #[.int .i64 (K : Nat), .int .i64 b] w fun en w' => en = .returned (.tuple #[.int .i64 k2, .int .i64 0]) ∧ Below w.heap.size w w')
    (m5 : ∀ w, Calls Try.prog 6 #[.int .i64 (K : Nat), .int .i64 k2] w fun en w' => en = .returned (.tuple #[.int .i64 b, .int .i64 0]) ∧ Below w.heap.size w w')
    (w1 : wrap64 (a - V) = p) (w2 : wrap64 (V - a) = q) (w3 : wrap64 (b - V) = r) (w4 : wrap64 (V - b) = s)
    (hO : O = max p q) (hT : T = max r s) (h1 : O ≤ T) (h2 : k1 ≤ (J : Nat) + 2 ∨ O < T) (h3 : k2 ≤ (J : Nat) + 2) :
    Calls Try.prog 5 #[.int .i64 kind, .int .i64 v, .int .i64 n] w fun en w' => en = .returned (.bool true) ∧ Below w.heap.size w w' := by
  have HK := Lib.hid hK; have HJ := Lib.hid hJ; have HV := Lib.hid hV; have M1 := Lib.hid m1; have M2 := Lib.hid m2; have M3 := Lib.hid m3; have M4 := Lib.hid m4; have M5 := Lib.hid m5
  have HO := Lib.hid hO; have HT := Lib.hid hT; have H1 := Lib.hid h1; have H2 := Lib.hid h2; have H3 := Lib.hid h3; have W1 := Lib.hid w1; have W2 := Lib.hid w2; have W3 := Lib.hid w3; have W4 := Lib.hid w4
  clear hK hJ hV m1 m2 m3 m4 m5 hO hT h1 h2 h3 w1 w2 w3 w4
  have ML : Hid (∀ w, Calls Try.prog 9 #[] w fun en w' => en = .returned (.bool true) ∧ Below w.heap.size w w') := Lib.hid alive9
  go_enter Try.func5, Try.ntmps5
  go_upto_region 2 with fail
  rw [HK.out, HJ.out]
  go_cut [1] (fun x wx => x = .int .i64 V ∧ wx = w)
  case first =>
    go_upto_region 3 with fail
    all_goals
      have HV' := HV.out
      first
      | (exfalso; omega)
      | (have e : V = v := by omega
         have E := Lib.hid e
         clear e HV'
         go_meet
         exact ⟨by rw [E.out], rfl⟩)
      | (have e : V = -1000000 := by omega
         have E := Lib.hid e
         clear e HV'
         go_meet
         exact ⟨by rw [E.out], rfl⟩)
      | (have e : V = 1000000 := by omega
         have E := Lib.hid e
         clear e HV'
         go_meet
         exact ⟨by rw [E.out], rfl⟩)
  case rest =>
    obtain ⟨rfl, rfl⟩ := hcut
    rename World => w
    go_wp2_with fail
    refine (M1.out _).mono ?_
    rintro e x1 ⟨rfl, hb⟩
    have HW1 : Hid (Below w.heap.size w x1) := Lib.hid (hb)
    clear hb
    go_wp2_with fail
    refine (M2.out _).mono ?_
    rintro e x2 ⟨rfl, hb⟩
    have HW2 : Hid (Below w.heap.size w x2) := Lib.hid (HW1.out.trans (hb.mono HW1.out.size))
    clear hb
    go_wp2_with fail
    refine (ML.out _).mono ?_
    rintro e x3 ⟨rfl, hb⟩
    have HW3 : Hid (Below w.heap.size w x3) := Lib.hid (HW2.out.trans (hb.mono HW2.out.size))
    clear hb
    go_wp2_with fail
    refine (M3.out _).mono ?_
    rintro e x4 ⟨rfl, hb⟩
    have HW4 : Hid (Below w.heap.size w x4) := Lib.hid (HW3.out.trans (hb.mono HW3.out.size))
    clear hb
    go_upto_region 8 with fail
    go_cut [13, 14] (fun x y wx => x = .int .i64 O ∧ y = .int .i64 T ∧ wx = x4)
    case first =>
      have W1' := W1.out; have W2' := W2.out; have W3' := W3.out; have W4' := W4.out
      clear W1 W2 W3 W4
      by_cases hp : p < q
      · have eO : O = q := by have := HO.out; omega
        have EO := Lib.hid eO
        by_cases hr : r < s
        · have eT : T = s := by have := HT.out; omega
          have ET := Lib.hid eT
          clear eO eT HO HT H1 H2 H3
          go_wp2_with fail
          go_meet
          exact ⟨by rw [EO.out], by rw [ET.out], rfl⟩
        · have eT : T = r := by have := HT.out; omega
          have ET := Lib.hid eT
          clear eO eT HO HT H1 H2 H3
          go_wp2_with fail
          go_meet
          exact ⟨by rw [EO.out], by rw [ET.out], rfl⟩
      · have eO : O = p := by have := HO.out; omega
        have EO := Lib.hid eO
        by_cases hr : r < s
        · have eT : T = s := by have := HT.out; omega
          have ET := Lib.hid eT
          clear eO eT HO HT H1 H2 H3
          go_wp2_with fail
          go_meet
          exact ⟨by rw [EO.out], by rw [ET.out], rfl⟩
        · have eT : T = r := by have := HT.out; omega
          have ET := Lib.hid eT
          clear eO eT HO HT H1 H2 H3
          go_wp2_with fail
          go_meet
          exact ⟨by rw [EO.out], by rw [ET.out], rfl⟩
    case rest =>
      obtain ⟨rfl, rfl, rfl⟩ := hcut
      clear W1 W2 W3 W4 HO HT
      go_wp2_with fail
      refine (M4.out _).mono ?_
      rintro e x5 ⟨rfl, hb⟩
      have HW5 : Hid (Below w.heap.size w x5) := Lib.hid (HW4.out.trans (hb.mono HW4.out.size))
      clear hb
      go_wp2_with fail
      refine (M5.out _).mono ?_
      rintro e x6 ⟨rfl, hb⟩
      have HW6 : Hid (Below w.heap.size w x6) := Lib.hid (HW5.out.trans (hb.mono HW5.out.size))
      clear hb
      have h1 := H1.out
      have h3 := H3.out
      have hb : (b == b) = true := by simp
      rcases H2.out with h2 | h2
      · clear H1 H2 H3
        go_wp2_with fail
        go_ret
        exact ⟨rfl, HW6.out⟩
      · by_cases h2' : k1 ≤ (J : Nat) + 2
        · clear H1 H2 H3
          go_wp2_with fail
          go_ret
          exact ⟨rfl, HW6.out⟩
        · clear H1 H2 H3
          go_wp2_with fail
          go_ret
          exact ⟨rfl, HW6.out⟩

theorem nea_own (k j : Nat) (hj : j < 9) : fac k (nea k (fac k j)) = fac k j ∧ nea k (fac k j) ≤ j := by
  have h := nst_least k (fac k j) 8 j (by omega)
  have h0 : dist (fac k j) (fac k j) = 0 := by unfold dist; omega
  rw [h0] at h
  refine ⟨?_, Nat.le_of_not_lt fun hc => absurd (h.2 hc) (Nat.not_lt_zero _)⟩
  have h1 := h.1
  unfold dist at h1
  show fac k (nst k (fac k j) 8) = fac k j
  omega
set_option maxRecDepth 100000 in
theorem fnear_walk (kind v n : Int) (_ : IsInt kind) (_ : IsInt v) (_ : IsInt n) (w : World) :
    Calls Try.prog 5 #[.int .i64 kind, .int .i64 v, .int .i64 n] w fun en w' => en = .returned (.bool true) ∧ Below w.heap.size w w' := by
  obtain ⟨K, hK, eK⟩ := kind_of kind
  obtain ⟨J, hJ, eJ⟩ := size_of n
  obtain ⟨V, hV⟩ : ∃ V : Int, V = min (max v (-1000000)) 1000000 := ⟨_, rfl⟩
  have hV2 : IsInt V := by unfold IsInt; omega
  have ha := fac_row K hK (nea K V) (nea_lt K V)
  have hb := fac_row K hK J hJ
  have ho := nea_own K J hJ
  have hl := nst_least K V 8 J (by omega)
  have m5 := fun w => factor_any K (nea K (fac K J)) hK (nea_lt K _) w
  rw [ho.1] at m5
  refine fnear_core kind v n K J V _ _ _ _ (fac K (nea K V) - V) (V - fac K (nea K V)) (fac K J - V) (V - fac K J) _ _ w eK eJ hV (fun w => nearest_any K V hK hV2 w) (fun w => factor_any K (nea K V) hK (nea_lt K V) w) (fun w => factor_any K J hK hJ w)
    (fun w => nearest_any K (fac K J) hK (isInt_fac hK hJ) w) m5 (wrap64_in (by unfold IsInt; omega)) (wrap64_in (by unfold IsInt; omega)) (wrap64_in (by unfold IsInt; omega)) (wrap64_in (by unfold IsInt; omega)) rfl rfl ?_ ?_ ?_
  · have h1 : dist (fac K (nea K V)) V ≤ dist (fac K J) V := hl.1
    unfold dist at h1
    omega
  · rcases Nat.lt_or_ge J (nea K V) with h | h
    · have h1 : dist (fac K (nea K V)) V < dist (fac K J) V := hl.2 h
      unfold dist at h1
      right
      omega
    · left
      omega
  · omega
end Go.Proofs.Ytnfbgpcilnlpjaa
