/- The reference's Word and Right: which tokens may be. -/
import Derived.Test.YticgmbhdcegoeaaDoorTokR
import Derived.Test.YticgmbhdcegoeaaDoorTokG
namespace Go.Proofs.YticgmbhdcegoeaaDoor
open Go.RowKit

def wordB (t : List UInt8) : Bool := decide (1 ≤ t.length) && (decide (t.length ≤ 12) && decide (spanLen isLetter t = t.length))
theorem rword_any (t : List UInt8) (w : World) (hm : t.length ≤ 100000) :
    Calls Tryd.prog 29 #[.string (bs t)] w fun e w' => e = .returned (.bool (wordB t)) ∧ w = w' := by
  have hs := bs_size t
  have hsl := spanLen_le isLetter t
  unfold wordB
  obtain ⟨n, hn⟩ : ∃ n, spanLen isLetter t = n := ⟨_, rfl⟩
  have HN := Lib.hid hn
  rw [hn] at hsl ⊢
  clear hn
  have hI : ∀ k, k < t.length → (∀ w, (Instr.index 9 (.string (bs t)) (.int .i64 (k : Int))).run Tryd.prog w = .ok (.int .u8 (bt t k : Nat)) w) := fun k hk w => idx_at t k hk w
  have HI := Lib.hid hI
  clear hI
  go_enter Tryd.func29, Tryd.ntmps29
  go_wp2
  go_loop [3] (fun i => ∃ k : Nat, k ≤ n ∧ i = .int .i64 (k : Nat)) (fun i => t.length - (intOf i).toNat)
  case atStart => exact ⟨0, Nat.zero_le _, rfl⟩
  case round =>
    obtain ⟨k, hk, rfl⟩ := hrel
    by_cases hl : k < t.length
    · have hix := HI.out k hl
      have hlt := letter_any (bt t k) (bt_lt t k)
      cases hd : letB (bt t k)
      · have HS := Lib.hid (show ¬ n = t.length from fun e => by
          have := spanLen_yes isLetter t k (by rw [HN.out]; omega)
          rw [show isLetter (t.getD k 0) = letB (bt t k) from rfl, hd] at this
          exact absurd this (by decide))
        rw [hd] at hlt
        generalize bt t k = q at hix hlt
        clear hd
        go_wp2_with fail
        refine (hlt _).mono ?_
        rintro e w2 ⟨rfl, rfl⟩
        clear hlt
        go_wp2
        go_ret
        exact ⟨by rw [decide_eq_false HS.out]; simp, rfl⟩
      · have HS := Lib.hid (spanLen_step isLetter t k (by rw [HN.out]; exact hk) hl (by rw [show isLetter (t.getD k 0) = letB (bt t k) from rfl, hd]))
        rw [HN.out] at HS
        rw [hd] at hlt
        generalize bt t k = q at hix hlt
        clear hd
        go_wp2_with fail
        refine (hlt _).mono ?_
        rintro e w2 ⟨rfl, rfl⟩
        clear hlt
        go_wp2
        go_round
        case rel => exact ⟨k + 1, HS.out, by go_num⟩
        case measure => simp [intOf]; omega
    · have HS := Lib.hid (show n = t.length by omega)
      clear HI HN
      by_cases h1 : 1 ≤ t.length
      · by_cases h2 : t.length ≤ 12
        · have h1b : decide ((1 : Int) ≤ (t.length : Int)) = true := decide_eq_true (by omega)
          have h2b : decide ((t.length : Int) ≤ 12) = true := decide_eq_true (by omega)
          go_wp2
          go_ret
          exact ⟨by rw [decide_eq_true HS.out]; rfl, rfl⟩
        · have h1b : decide ((1 : Int) ≤ (t.length : Int)) = true := decide_eq_true (by omega)
          have h2c : 12 < t.length := by omega
          have HQ := Lib.hid h2
          clear h2
          go_wp2
          go_ret
          exact ⟨by rw [decide_eq_false HQ.out]; simp <;> omega, rfl⟩
      · have h1c : t.length < 1 := by omega
        have HQ := Lib.hid h1
        clear h1
        go_wp2
        go_ret
        exact ⟨by rw [decide_eq_false HQ.out]; simp <;> omega, rfl⟩
theorem rright_w (t : List UInt8) (v p : Int) (w : World) (ht : t.length ≤ 100000) :
    Calls Tryd.prog 14 #[tokV 1 t v p] w fun e w' => e = .returned (.bool (rightB 1 t v)) ∧ Below w.heap.size w w' := by
  have e : rightB 1 t v = (decide (v = 0) && wordB t) := right_word t v
  rw [e]
  clear e
  have hwd := fun W => rword_any t W ht
  generalize wordB t = x at hwd
  obtain ⟨c0, c1, c2, c3⟩ := tok_new w 1 v p t
  have hs := bs_size t
  have hq := bs_toList t
  have hb := (Below.refl w.heap.size w).alloc (Nat.le_refl _) (.cells #[.int .i64 1, .string (bs t), .int .i64 v, .int .i64 p] 30)
  unfold tokV
  by_cases h2 : v = 0
  · subst h2
    rw [decide_eq_true (rfl : (0 : Int) = 0)]
    cases x
    · go_enter Tryd.func14, Tryd.ntmps14
      go_wp2_with fail
      refine (hwd _).mono ?_
      rintro e w2 ⟨rfl, rfl⟩
      clear hwd
      go_wp2
      go_ret
      exact ⟨by simp <;> omega, hb⟩
    · go_enter Tryd.func14, Tryd.ntmps14
      go_wp2_with fail
      refine (hwd _).mono ?_
      rintro e w2 ⟨rfl, rfl⟩
      clear hwd
      go_wp2
      go_ret
      exact ⟨by simp <;> omega, hb⟩
  · rw [decide_eq_false h2]
    have h2b : (v == 0) = false := beq_false_of_ne h2
    clear h2
    cases x
    · go_enter Tryd.func14, Tryd.ntmps14
      go_wp2_with fail
      refine (hwd _).mono ?_
      rintro e w2 ⟨rfl, rfl⟩
      clear hwd
      go_wp2
      go_ret
      exact ⟨by simp <;> omega, hb⟩
    · go_enter Tryd.func14, Tryd.ntmps14
      go_wp2_with fail
      refine (hwd _).mono ?_
      rintro e w2 ⟨rfl, rfl⟩
      clear hwd
      go_wp2
      go_ret
      exact ⟨by simp <;> omega, hb⟩
theorem rright_n (t : List UInt8) (v p : Int) (w : World) :
    Calls Tryd.prog 14 #[tokV 2 t v p] w fun e w' => e = .returned (.bool (rightB 2 t v)) ∧ Below w.heap.size w w' := by
  rw [right_num]
  obtain ⟨c0, c1, c2, c3⟩ := tok_new w 2 v p t
  have hs := bs_size t
  have hq := bs_toList t
  have hb := (Below.refl w.heap.size w).alloc (Nat.le_refl _) (.cells #[.int .i64 2, .string (bs t), .int .i64 v, .int .i64 p] 30)
  unfold tokV
  by_cases h1 : t = []
  · subst h1
    rw [decide_eq_true (rfl : ([] : List UInt8) = [])]
    have hq1 : (([] : List UInt8) == []) = true := rfl
    by_cases h2 : -1000000000 ≤ v
    · rw [decide_eq_true h2]
      by_cases h3 : v ≤ 1000000000
      · rw [decide_eq_true h3]
        go_enter Tryd.func14, Tryd.ntmps14
        go_wp2
        go_ret
        exact ⟨by simp <;> omega, hb⟩
      · rw [decide_eq_false h3]
        have h3c : 1000000000 < v := by omega
        clear h3
        go_enter Tryd.func14, Tryd.ntmps14
        go_wp2
        go_ret
        exact ⟨by simp <;> omega, hb⟩
    · rw [decide_eq_false h2]
      have h2c : v < -1000000000 := by omega
      clear h2
      go_enter Tryd.func14, Tryd.ntmps14
      go_wp2
      go_ret
      exact ⟨by simp <;> omega, hb⟩
  · rw [decide_eq_false h1]
    have hq2 : (t == []) = false := by
      cases t with
      | nil => exact absurd rfl h1
      | cons a b => rfl
    have hq3 : t.isEmpty = false := by
      cases t with
      | nil => exact absurd rfl h1
      | cons a b => rfl
    clear h1
    go_enter Tryd.func14, Tryd.ntmps14
    go_wp2
    go_ret
    exact ⟨by simp <;> omega, hb⟩
theorem rright_x (k : Int) (h1 : k ≠ 1) (h2 : k ≠ 2) (t : List UInt8) (v p : Int) (w : World) :
    Calls Tryd.prog 14 #[tokV k t v p] w fun e w' => e = .returned (.bool (rightB k t v)) ∧ Below w.heap.size w w' := by
  rw [right_mark k t v h1 h2]
  obtain ⟨c0, c1, c2, c3⟩ := tok_new w k v p t
  have hs := bs_size t
  have hq := bs_toList t
  have hb := (Below.refl w.heap.size w).alloc (Nat.le_refl _) (.cells #[.int .i64 k, .string (bs t), .int .i64 v, .int .i64 p] 30)
  unfold tokV
  have b1 : (k == 1) = false := beq_false_of_ne h1
  have b2 : (k == 2) = false := beq_false_of_ne h2
  clear h1 h2
  by_cases h3 : 3 ≤ k
  · rw [decide_eq_true h3]
    by_cases h4 : k ≤ 5
    · rw [decide_eq_true h4]
      by_cases h1 : t = []
      · subst h1
        rw [decide_eq_true (rfl : ([] : List UInt8) = [])]
        have hq1 : (([] : List UInt8) == []) = true := rfl
        by_cases h2 : v = 0
        · subst h2
          rw [decide_eq_true (rfl : (0 : Int) = 0)]
          go_enter Tryd.func14, Tryd.ntmps14
          go_wp2
          go_ret
          exact ⟨by simp <;> omega, hb⟩
        · rw [decide_eq_false h2]
          have h2b : (v == 0) = false := beq_false_of_ne h2
          clear h2
          go_enter Tryd.func14, Tryd.ntmps14
          go_wp2
          go_ret
          exact ⟨by simp <;> omega, hb⟩
      · rw [decide_eq_false h1]
        have hq2 : (t == []) = false := by
          cases t with
          | nil => exact absurd rfl h1
          | cons a b => rfl
        have hq3 : t.isEmpty = false := by
          cases t with
          | nil => exact absurd rfl h1
          | cons a b => rfl
        clear h1
        go_enter Tryd.func14, Tryd.ntmps14
        go_wp2
        go_ret
        exact ⟨by simp <;> omega, hb⟩
    · rw [decide_eq_false h4]
      have h4c : 5 < k := by omega
      clear h4
      go_enter Tryd.func14, Tryd.ntmps14
      go_wp2
      go_ret
      exact ⟨by simp <;> omega, hb⟩
  · rw [decide_eq_false h3]
    have h3c : k < 3 := by omega
    clear h3
    go_enter Tryd.func14, Tryd.ntmps14
    go_wp2
    go_ret
    exact ⟨by simp <;> omega, hb⟩
theorem rright_any (k : Int) (t : List UInt8) (v p : Int) (w : World) (ht : t.length ≤ 100000) :
    Calls Tryd.prog 14 #[tokV k t v p] w fun e w' => e = .returned (.bool (rightB k t v)) ∧ Below w.heap.size w w' := by
  by_cases h1 : k = 1
  · subst h1; exact rright_w t v p w ht
  by_cases h2 : k = 2
  · subst h2; exact rright_n t v p w
  · exact rright_x k h1 h2 t v p w
end Go.Proofs.YticgmbhdcegoeaaDoor
