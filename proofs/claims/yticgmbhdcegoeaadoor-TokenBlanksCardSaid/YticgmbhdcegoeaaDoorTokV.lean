/- The reference's Tokens and Print. -/
import Derived.Test.YticgmbhdcegoeaaDoorTokU
namespace Go.Proofs.YticgmbhdcegoeaaDoor
open Go.RowKit

theorem notRight {l : List Tok} {k : Nat} (hk : k < l.length) (h : (nth l k).rightb = false) : allRight l = false := by
  cases e : allRight l
  · rfl
  · have := (allRight_nth l).1 e k hk
    rw [h] at this
    cases this
set_option maxRecDepth 100000 in
theorem rtokens_any (l : List Tok) (va : Value) (w : World) (hm : l.length ≤ 100000) (ht : ∀ i, i < l.length → (nth l i).text.length ≤ 100000) (ha : Reads w va l) :
    Calls Tryd.prog 15 #[va] w fun e w' => e = .returned (.bool (allRight l)) ∧ Below w.heap.size w w' := by
  obtain ⟨a1, p1, rfl, -, -, hc1⟩ := ha
  have HA := Lib.hid hc1
  have HT := Lib.hid ht
  clear hc1 ht
  obtain ⟨n, hn⟩ : ∃ n, l.length = n := ⟨_, rfl⟩
  have HN := Lib.hid hn
  rw [hn] at hm ⊢
  clear hn
  go_enter Tryd.func15, Tryd.ntmps15
  go_wp2
  go_loopw [7] (PRel1 l w) (fun i _ => n - (intOf i).toNat)
  case atStart => exact ⟨0, Nat.zero_le _, rfl, fun j hj => absurd hj (Nat.not_lt_zero _), Below.refl _ _⟩
  case round =>
    obtain ⟨k, hk, rfl, hall, hb⟩ := hrel
    have HALL := Lib.hid hall
    rw [HN.out] at hk
    clear hall
    by_cases hl : k < n
    · obtain ⟨b1, o1, rfl, hlt1, hd1⟩ := HA.out k (by rw [HN.out]; exact hl)
      obtain ⟨x0, x1, x2, x3⟩ := hd1.below hb hlt1
      have htl := HT.out k (by rw [HN.out]; exact hl)
      have HK := Lib.hid (show (nth l k).rightb = rightB (nth l k).kind (nth l k).text (nth l k).num from rfl)
      have HP := Lib.hid (fun h => notRight (l := l) (k := k) (by rw [HN.out]; exact hl) h)
      have hbs := hb.size
      clear hd1
      obtain ⟨t, hnt⟩ : ∃ t, nth l k = t := ⟨_, rfl⟩
      have HNT := Lib.hid hnt
      rw [hnt] at x0 x1 x2 x3 htl HK HP
      clear hnt
      obtain ⟨tk, tt, tn, tp⟩ := t
      dsimp only at x0 x1 x2 x3 htl HK
      have hR := fun W => rright_any tk tt tn tp W htl
      unfold tokV at hR
      cases hr : rightB tk tt tn
      · rw [hr] at hR
        have HO := Lib.hid (HP.out (HK.out.trans hr))
        clear HP HK hr
        go_wp2_with fail
        refine (hR _).mono ?_
        rintro e w2 ⟨rfl, h2⟩
        have hb2 := (hb.alloc hbs _).trans (h2.mono (by simp; omega))
        clear hR h2
        go_wp2
        go_ret
        exact ⟨by rw [HO.out]; rfl, hb2⟩
      · rw [hr] at hR
        have HO := Lib.hid (HK.out.trans hr)
        clear HP HK hr
        go_wp2_with fail
        refine (hR _).mono ?_
        rintro e w2 ⟨rfl, h2⟩
        have hb2 := (hb.alloc hbs _).trans (h2.mono (by simp; omega))
        clear hR h2
        go_wp2
        go_roundw
        case rel => exact ⟨k + 1, by rw [HN.out]; omega, by go_num, right_more HALL.out (by rw [HNT.out]; exact HO.out), hb2⟩
        case measure => simp [intOf]; omega
    · have HALLR : Hid (allRight l = true) := Lib.hid ((allRight_nth l).2 fun i hi => HALL.out i (by rw [HN.out] at hi; omega))
      clear HALL
      go_wp2
      go_ret
      exact ⟨by rw [HALLR.out]; rfl, hb⟩
def QRel (l : List Tok) (w : World) (s i : Value) (wr : World) : Prop := ∃ k : Nat, k ≤ l.length ∧ i = .int .i64 (k : Nat) ∧ s = .string (bs (printN (l.take k))) ∧ Below w.heap.size w wr
set_option maxHeartbeats 1000000 in
set_option maxRecDepth 100000 in
theorem rprint_any (l : List Tok) (va : Value) (w : World) (hm : l.length ≤ 100000) (hall : allRight l = true) (ha : Reads w va l) :
    Calls Tryd.prog 16 #[va] w fun e w' => e = .returned (.string (bs (printN l))) ∧ Below w.heap.size w w' := by
  obtain ⟨a1, p1, rfl, -, -, hc1⟩ := ha
  have HA := Lib.hid hc1
  have hbound : ∀ k, (printN (l.take k)).length ≤ 13 * 100000 := fun k => by
    have h1 := printN_take_le l k
    have h2 := printN_bound l ((allRight_iff l).1 hall)
    omega
  have HBD := Lib.hid hbound
  have HALL := Lib.hid hall
  clear hc1 hall hbound
  obtain ⟨n, hn⟩ : ∃ n, l.length = n := ⟨_, rfl⟩
  have HN := Lib.hid hn
  rw [hn] at hm ⊢
  clear hn
  go_enter Tryd.func16, Tryd.ntmps16
  go_wp2
  go_loopw [3, 8] (QRel l w) (fun _ i _ => n - (intOf i).toNat)
  case atStart => exact ⟨0, Nat.zero_le _, rfl, rfl, Below.refl _ _⟩
  case round =>
    obtain ⟨k, hk, rfl, rfl, hb⟩ := hrel
    rw [HN.out] at hk
    obtain ⟨P, hP⟩ : ∃ P, printN (l.take k) = P := ⟨_, rfl⟩
    have HP := Lib.hid hP
    have hPl := HBD.out k
    rw [hP] at hPl ⊢
    clear hP
    by_cases hl : k < n
    · obtain ⟨b1, o1, rfl, hlt1, hd1⟩ := HA.out k (by rw [HN.out]; exact hl)
      obtain ⟨x0, x1, x2, x3⟩ := hd1.below hb hlt1
      have hright := (Tok.right_iff _).1 ((allRight_nth l).1 HALL.out k (by rw [HN.out]; exact hl))
      have hbl := bytes_le hright
      have hpn := print_next l k (by rw [HN.out]; exact hl)
      have hbs := hb.size
      clear hd1
      generalize nth l k = t at x0 x1 x2 x3 hright hbl hpn
      obtain ⟨tk, tt, tn, tp⟩ := t
      dsimp only [Tok.right, Tok.bytes] at x0 x1 x2 x3 hright hbl hpn
      have htx := fun W => rtext_any tk tt tn tp hright W
      unfold tokV at htx
      rw [HP.out] at hpn
      generalize textN tk tt tn = T at htx hbl hpn
      clear hright
      by_cases hk0 : k = 0
      · rw [if_pos hk0] at hpn
        have hPT : P ++ T = T := by rw [← HP.out, hk0]; rfl
        have hadd : ∀ W, (Op.stringOp .add (bs P) (bs T)).run Tryd.prog W = .ok (.string (bs T)) W := fun W => by rw [run_add_bs W _ _ (by omega), hPT]
        have HPN := Lib.hid hpn
        have hk1 : k ≤ 0 := by omega
        clear hpn hk0 hPT
        go_wp2_with fail
        refine (htx _).mono ?_
        rintro e w2 ⟨rfl, h2⟩
        have hb2 := (hb.alloc hbs _).trans (h2.mono (by simp; omega))
        clear htx h2
        go_wp2_with fail
        go_roundw
        case rel => exact ⟨k + 1, by rw [HN.out]; omega, by go_num, by rw [HPN.out], hb2⟩
        case measure => simp [intOf]; omega
      · rw [if_neg hk0] at hpn
        have hadd1 : ∀ W, (Op.stringOp .add (bs P) ⟨#[32]⟩).run Tryd.prog W = .ok (.string (bs (P ++ [32]))) W := fun W => run_add_bs W P [32] (by simp; omega)
        have hadd : ∀ W, (Op.stringOp .add (bs (P ++ [32])) (bs T)).run Tryd.prog W = .ok (.string (bs (P ++ [32] ++ T))) W := fun W => run_add_bs W _ _ (by simp; omega)
        obtain ⟨R, hR⟩ : ∃ R, P ++ [32] = R := ⟨_, rfl⟩
        obtain ⟨Q, hQ⟩ : ∃ Q, R ++ T = Q := ⟨_, rfl⟩
        rw [hR] at hadd hadd1 hpn
        rw [hQ] at hadd hpn
        have HPN := Lib.hid hpn
        have hk1 : 0 < k := by omega
        clear hpn hk0 hR hQ
        go_wp2_with fail
        refine (htx _).mono ?_
        rintro e w2 ⟨rfl, h2⟩
        have hb2 := (hb.alloc hbs _).trans (h2.mono (by simp; omega))
        clear htx h2
        go_wp2_with fail
        go_roundw
        case rel => exact ⟨k + 1, by rw [HN.out]; omega, by go_num, by rw [HPN.out], hb2⟩
        case measure => simp [intOf]; omega
    · have HP2 := Lib.hid (show printN l = P by rw [← HP.out, List.take_of_length_le (by rw [HN.out]; omega)])
      go_wp2
      go_ret
      exact ⟨by rw [HP2.out]; rfl, hb⟩
end Go.Proofs.YticgmbhdcegoeaaDoor
