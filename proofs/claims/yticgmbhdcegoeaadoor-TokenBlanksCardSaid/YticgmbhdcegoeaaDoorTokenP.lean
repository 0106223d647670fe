/- Numbers of stage 7, second part: a run of blanks, a piece, digits as strconv reads and writes them, tokens that may be. Lists of bytes; no Go in sight. -/
import Derived.Test.YticgmbhdcegoeaaDoorTokenN
import Derived.Lib.ItoaNum
import Derived.Lib.AtoiAll
namespace Go.Proofs.YticgmbhdcegoeaaDoor

/-! ### A run of blanks, remarks among them -/
def remN (r : Bool) (b : UInt8) : Bool := !decide (b.toNat = 10) && (r || decide (b.toNat = 35))
def fitN (r : Bool) (b : UInt8) : Bool := remN r b || isSpace b
def skipN : Bool → List UInt8 → Nat
  | _, [] => 0
  | r, b :: t => if fitN r b = true then skipN (remN r b) t + 1 else 0
/-- Whether a remark goes on behind so many bytes. -/
def inRem (r : Bool) (l : List UInt8) (k : Nat) : Bool := (l.take k).foldl remN r
theorem inRem_zero (r : Bool) (l : List UInt8) : inRem r l 0 = r := rfl
theorem inRem_succ (r : Bool) (l : List UInt8) (k : Nat) (h : k < l.length) : inRem r l (k + 1) = remN (inRem r l k) (l.getD k 0) := by
  unfold inRem
  rw [List.take_add_one, List.getElem?_eq_getElem h, List.foldl_append, List.getD_eq_getElem?_getD, List.getElem?_eq_getElem h]
  rfl
theorem skipN_cons (r : Bool) (b : UInt8) (t : List UInt8) : skipN r (b :: t) = if fitN r b = true then skipN (remN r b) t + 1 else 0 := rfl
theorem skipN_le : ∀ (r : Bool) (l : List UInt8), skipN r l ≤ l.length
  | _, [] => Nat.le_refl _
  | r, b :: t => by
    have := skipN_le (remN r b) t
    rw [skipN_cons, List.length_cons]
    split <;> omega
theorem skipN_step : ∀ (r : Bool) (l : List UInt8) (k : Nat), k ≤ skipN r l → k < l.length → fitN (inRem r l k) (l.getD k 0) = true → k + 1 ≤ skipN r l
  | _, [], _, _, h, _ => absurd h (Nat.not_lt_zero _)
  | r, b :: t, 0, _, _, hf => by
    have e : fitN r b = true := hf
    rw [skipN_cons, if_pos e]
    omega
  | r, b :: t, k + 1, hk, hl, hf => by
    rw [skipN_cons] at hk ⊢
    by_cases e : fitN r b = true
    · rw [if_pos e] at hk ⊢
      have := skipN_step (remN r b) t k (by omega) (by rw [List.length_cons] at hl; omega) hf
      omega
    · rw [if_neg e] at hk
      omega
theorem skipN_stop : ∀ (r : Bool) (l : List UInt8) (k : Nat), k ≤ skipN r l → (l.length ≤ k ∨ fitN (inRem r l k) (l.getD k 0) = false) → k = skipN r l
  | r, [], k, hk, _ => by
    have := skipN_le r []
    simp at this hk
    omega
  | r, b :: t, 0, _, hs => by
    rcases hs with h | h
    · exact absurd h (by simp)
    · have e : fitN r b = false := h
      rw [skipN_cons, if_neg (by rw [e]; decide)]
  | r, b :: t, k + 1, hk, hs => by
    rw [skipN_cons] at hk ⊢
    by_cases e : fitN r b = true
    · rw [if_pos e] at hk ⊢
      have := skipN_stop (remN r b) t k (by omega) (by
        rcases hs with h | h
        · left; rw [List.length_cons] at h; omega
        · right; exact h)
      omega
    · rw [if_neg e] at hk
      omega
theorem skipN_drop : ∀ (r : Bool) (l : List UInt8), blankN (l.drop (skipN r l)) = 0
  | _, [] => rfl
  | r, b :: t => by
    rw [skipN_cons]
    by_cases e : fitN r b = true
    · rw [if_pos e]
      exact skipN_drop (remN r b) t
    · rw [if_neg e]
      have e' : fitN r b = false := by simpa using e
      have h : remN r b = false ∧ isSpace b = false := by simpa [fitN] using e'
      obtain ⟨h1, h2⟩ := h
      have hs : ¬ (b.toNat = 32 ∨ b.toNat = 9 ∨ b.toNat = 10 ∨ b.toNat = 13) := of_decide_eq_false h2
      have h3 : b.toNat ≠ 35 := by
        intro c
        unfold remN at h1
        rw [decide_eq_true c, decide_eq_false (by omega)] at h1
        simp at h1
      exact blankN_none t (by omega) (by omega) (by omega) (by omega) h3
theorem skipN_rem : ∀ (l : List UInt8), skipN true l = spanLen notEnd l + skipN false (l.drop (spanLen notEnd l))
  | [] => rfl
  | b :: t => by
    by_cases c : b.toNat = 10
    · have hn : spanLen notEnd (b :: t) = 0 := by
        show (if notEnd b = true then _ else _) = _
        rw [if_neg]
        unfold notEnd
        rw [decide_eq_false (by omega)]
        decide
      rw [hn]
      have hr : ∀ r, remN r b = false := fun r => by unfold remN; rw [decide_eq_true c]; rfl
      show skipN true (b :: t) = 0 + skipN false (b :: t)
      rw [skipN_cons, skipN_cons]
      unfold fitN
      rw [hr, hr, Nat.zero_add]
    · have hn : spanLen notEnd (b :: t) = spanLen notEnd t + 1 := by
        show (if notEnd b = true then _ else _) = _
        rw [if_pos]
        unfold notEnd
        exact decide_eq_true c
      have hr : remN true b = true := by unfold remN; rw [decide_eq_false c]; rfl
      rw [hn, skipN_cons, if_pos (by unfold fitN; rw [hr]; rfl), hr, skipN_rem t]
      show _ = spanLen notEnd t + 1 + skipN false (t.drop (spanLen notEnd t))
      omega
theorem skip_scan : ∀ (n : Nat) (l : List UInt8) (a : Nat), l.length ≤ n → scanF l a = scanF (l.drop (skipN false l)) (a + skipN false l)
  | n, [], a, _ => by
    have : skipN false [] = 0 := rfl
    rw [this]; rfl
  | 0, b :: t, a, h => absurd h (by simp)
  | n + 1, b :: t, a, h => by
    rw [List.length_cons] at h
    by_cases c : isSpace b = true
    · have cs := of_decide_eq_true c
      have hr : remN false b = false := by unfold remN; rw [decide_eq_false (p := b.toNat = 35) (by omega)]; simp
      have hb : blankN (b :: t) = 1 := by rw [blankN_cons, if_pos c]
      rw [scanF_blank _ _ (by rw [hb]; decide), hb, skipN_cons, if_pos (by unfold fitN; rw [c]; simp), hr]
      show scanF t (a + 1) = scanF (t.drop (skipN false t)) (a + (skipN false t + 1))
      rw [skip_scan n t (a + 1) (by omega)]
      congr 1
      omega
    · by_cases d : b.toNat = 35
      · have hr : remN false b = true := by unfold remN; rw [decide_eq_true d, decide_eq_false (by omega)]; rfl
        have hb : blankN (b :: t) = spanLen notEnd t + 1 := by rw [blankN_cons, if_neg c, if_pos d]
        rw [scanF_blank _ _ (by rw [hb]; omega), hb, skipN_cons, if_pos (by unfold fitN; rw [hr]; rfl), hr, skipN_rem t]
        show scanF (t.drop (spanLen notEnd t)) (a + (spanLen notEnd t + 1)) = scanF (t.drop (spanLen notEnd t + skipN false (t.drop (spanLen notEnd t)))) (a + (spanLen notEnd t + skipN false (t.drop (spanLen notEnd t)) + 1))
        rw [skip_scan n (t.drop (spanLen notEnd t)) _ (by rw [List.length_drop]; omega), List.drop_drop]
        congr 1
        omega
      · have hr : remN false b = false := by unfold remN; rw [decide_eq_false d]; simp
        have hf : fitN false b = false := by unfold fitN; rw [hr]; simpa using c
        rw [skipN_cons, if_neg (by rw [hf]; decide)]
        rfl
theorem scan_skip (l : List UInt8) (a : Nat) : scanF (l.drop (skipN false l)) (a + skipN false l) = scanF l a := (skip_scan l.length l a (Nat.le_refl _)).symm

/-! ### A piece -/
def markN (b : UInt8) : Int := if b.toNat = 123 then 3 else if b.toNat = 125 then 4 else if b.toNat = 59 then 5 else 0
def wordN (l : List UInt8) : Except Int (Int × List UInt8 × Int × Nat) := if 12 < spanLen isLetter l then .error 2 else .ok (1, l.take (spanLen isLetter l), 0, spanLen isLetter l)
theorem letter_head {b : UInt8} {t : List UInt8} (h : 0 < spanLen isLetter (b :: t)) : isLetter b = true := spanLen_yes isLetter (b :: t) 0 h
theorem letter_nat {b : UInt8} (h : isLetter b = true) : 97 ≤ b.toNat ∧ b.toNat ≤ 122 := of_decide_eq_true h
theorem digit_nat {b : UInt8} (h : isDigit b = true) : 48 ≤ b.toNat ∧ b.toNat ≤ 57 := of_decide_eq_true h
theorem one_word {b : UInt8} {t : List UInt8} (h : 0 < spanLen isLetter (b :: t)) : oneN (b :: t) = wordN (b :: t) := by
  have hb := letter_nat (letter_head h)
  rw [oneN_word t (by omega) (by omega) (by omega) (by rintro (c | c); omega; have := digit_nat c; omega), if_neg (by omega)]
  rfl
theorem one_mark {b : UInt8} {t : List UInt8} (h : spanLen isLetter (b :: t) = 0) (h2 : ¬ (b.toNat = 45 ∨ isDigit b = true)) : oneN (b :: t) = if markN b = 0 then .error 7 else .ok (markN b, [], 0, 1) := by
  unfold markN
  by_cases c1 : b.toNat = 123
  · rw [oneN_open t c1, if_pos c1]; rfl
  by_cases c2 : b.toNat = 125
  · rw [oneN_close t c2, if_neg c1, if_pos c2]; rfl
  by_cases c3 : b.toNat = 59
  · rw [oneN_end t c3, if_neg c1, if_neg c2, if_pos c3]; rfl
  · rw [oneN_word t c1 c2 c3 h2, if_pos h, if_neg c1, if_neg c2, if_neg c3, if_pos rfl]

/-! ### Digits, as strconv has them -/
theorem decDigits_digN (n : Nat) : Lib.decDigits n = digN n := by
  induction n using Nat.strongRecOn with
  | _ n ih =>
    by_cases h : n < 10
    · rw [Lib.decDigits, dif_pos h, digN_low n h]
    · rw [Lib.decDigits, dif_neg h, digN_high n h, ih (n / 10) (by omega)]
theorem itoa_digZ (z : Int) : Lib.itoa z = digZ z := by
  unfold Lib.itoa digZ
  rw [decDigits_digN, decDigits_digN]
  by_cases h : z < 0
  · rw [if_pos h, if_pos h]
  · rw [if_neg h, if_neg h, show z.toNat = z.natAbs by omega]
theorem parse_digits : ∀ (l : List UInt8) (acc : Nat), (∀ b ∈ l, isDigit b = true) → acc < 18446744073709551616 →
    Lib.parseUint10 acc l = if valD l acc < 18446744073709551616 then .ok (valD l acc) else .range
  | [], acc, _, ha => by
    show Lib.NumEnd.ok acc = _
    rw [if_pos (show valD [] acc < _ from ha)]
    rfl
  | c :: r, acc, h, ha => by
    have hc := digit_nat (h c (by simp))
    have hge := valD_ge r (10 * acc + (c.toNat - 48))
    have ev : valD (c :: r) acc = valD r (10 * acc + (c.toNat - 48)) := rfl
    unfold Lib.parseUint10
    rw [if_pos hc, ev]
    by_cases h1 : 1844674407370955162 ≤ acc
    · rw [if_pos h1, if_neg (by omega)]
    rw [if_neg h1]
    by_cases h2 : 18446744073709551616 ≤ acc * 10 + (c.toNat - 48)
    · rw [if_pos h2, if_neg (by omega)]
    rw [if_neg h2, Nat.mul_comm acc 10]
    exact parse_digits r _ (fun b hb => h b (by simp [hb])) (by omega)
theorem atoi_digits (l : List UInt8) (hl : l ≠ []) (h : ∀ b ∈ l, isDigit b = true) :
    Lib.atoiAll l = if valD l 0 < 9223372036854775808 then .ok ((valD l 0 : Nat) : Int) else .range := by
  cases l with
  | nil => exact absurd rfl hl
  | cons c r =>
    have hc := digit_nat (h c (by simp))
    have hm : Lib.parseMag (c :: r) = if valD (c :: r) 0 < 18446744073709551616 then .ok (valD (c :: r) 0) else .range := by
      unfold Lib.parseMag
      rw [if_neg (by simp)]
      exact parse_digits _ 0 h (by decide)
    generalize valD (c :: r) 0 = v at hm
    unfold Lib.atoiAll
    dsimp only
    rw [if_neg (by omega), hm]
    by_cases h1 : v < 18446744073709551616
    · rw [if_pos h1]
      dsimp only
      by_cases h2 : v < 9223372036854775808
      · rw [if_neg (by omega), if_neg (by omega), if_pos h2, if_neg (by omega)]
      · rw [if_pos ⟨by omega, by omega⟩, if_neg h2]
    · rw [if_neg h1, if_neg (by omega)]
theorem spanLen_take (p : UInt8 → Bool) : ∀ (l : List UInt8), ∀ b ∈ l.take (spanLen p l), p b = true
  | [], b, h => by simp at h
  | c :: r, b, h => by
    have e : spanLen p (c :: r) = if p c = true then spanLen p r + 1 else 0 := rfl
    rw [e] at h
    by_cases hc : p c = true
    · rw [if_pos hc, List.take_succ_cons, List.mem_cons] at h
      rcases h with rfl | h
      · exact hc
      · exact spanLen_take p r b h
    · rw [if_neg hc] at h
      simp at h
theorem spanLen_all (p : UInt8 → Bool) (l : List UInt8) : spanLen p l = l.length ↔ ∀ b ∈ l, p b = true := by
  constructor
  · intro h b hb
    exact spanLen_take p l b (by rw [h, List.take_length]; exact hb)
  · intro h
    have := spanLen_append p l [] h (Or.inl rfl)
    rwa [List.append_nil] at this

/-! ### Tokens that may be -/
instance (k : Int) (t : List UInt8) (v : Int) : Decidable (RightN k t v) := by unfold RightN; exact inferInstance
def rightB (k : Int) (t : List UInt8) (v : Int) : Bool := decide (RightN k t v)
theorem right_word (t : List UInt8) (v : Int) : rightB 1 t v = (decide (v = 0) && (decide (1 ≤ t.length) && (decide (t.length ≤ 12) && decide (spanLen isLetter t = t.length)))) := by
  unfold rightB RightN
  rw [Bool.eq_iff_iff]
  simp only [decide_eq_true_eq, Bool.and_eq_true, spanLen_all]
  constructor
  · rintro (⟨-, h1, h2, h3, h4⟩ | ⟨h, -⟩ | ⟨h, -⟩)
    · exact ⟨h4, h2, h3, h1⟩
    · exact absurd h (by decide)
    · exact absurd h (by decide)
  · rintro ⟨h4, h2, h3, h1⟩
    exact Or.inl ⟨trivial, h1, h2, h3, h4⟩
theorem right_num (t : List UInt8) (v : Int) : rightB 2 t v = (decide (t = []) && (decide (-1000000000 ≤ v) && decide (v ≤ 1000000000))) := by
  unfold rightB RightN
  rw [Bool.eq_iff_iff]
  simp only [decide_eq_true_eq, Bool.and_eq_true]
  constructor
  · rintro (⟨h, -⟩ | ⟨-, h1, h2, h3⟩ | ⟨h, -⟩)
    · exact absurd h (by decide)
    · exact ⟨h1, h2, h3⟩
    · exact absurd h (by decide)
  · rintro ⟨h1, h2, h3⟩
    exact Or.inr (Or.inl ⟨trivial, h1, h2, h3⟩)
theorem right_mark (k : Int) (t : List UInt8) (v : Int) (h1 : k ≠ 1) (h2 : k ≠ 2) : rightB k t v = (decide (3 ≤ k) && (decide (k ≤ 5) && (decide (t = []) && decide (v = 0)))) := by
  unfold rightB
  rw [Bool.eq_iff_iff, decide_eq_true_iff]
  simp only [decide_eq_true_eq, Bool.and_eq_true]
  unfold RightN
  constructor
  · rintro (⟨h, -⟩ | ⟨h, -⟩ | ⟨h, h3, h4⟩)
    · exact absurd h h1
    · exact absurd h h2
    · exact ⟨by omega, by omega, h3, h4⟩
  · rintro ⟨h3, h4, h5, h6⟩
    exact Or.inr (Or.inr ⟨by omega, h5, h6⟩)
def Tok.rightb (t : Tok) : Bool := rightB t.kind t.text t.num
theorem Tok.right_iff (t : Tok) : t.rightb = true ↔ t.right := by unfold Tok.rightb rightB Tok.right; exact decide_eq_true_iff
def allRight (l : List Tok) : Bool := l.all Tok.rightb
theorem allRight_iff (l : List Tok) : allRight l = true ↔ ∀ t ∈ l, t.right := by
  unfold allRight
  rw [List.all_eq_true]
  exact ⟨fun h t ht => t.right_iff.1 (h t ht), fun h t ht => t.right_iff.2 (h t ht)⟩

/-! ### A text, printed piece by piece -/
theorem printN_take_succ (l : List Tok) (k : Nat) (h : k < l.length) : printN (l.take (k + 1)) = if k = 0 then (l[k]'h).bytes else printN (l.take k) ++ 32 :: (l[k]'h).bytes := by
  rw [List.take_add_one, List.getElem?_eq_getElem h]
  by_cases c : k = 0
  · subst c
    rw [if_pos rfl]
    rfl
  · rw [if_neg c]
    refine printN_snoc _ _ fun e => ?_
    have := congrArg List.length e
    rw [List.length_take, List.length_nil] at this
    omega
theorem printN_take_mono (l : List Tok) (k : Nat) : (printN (l.take k)).length ≤ (printN (l.take (k + 1))).length := by
  by_cases h : k < l.length
  · rw [printN_take_succ l k h]
    by_cases c : k = 0
    · subst c
      rw [if_pos rfl]
      exact Nat.zero_le _
    · rw [if_neg c, List.length_append]
      omega
  · rw [List.take_of_length_le (by omega), List.take_of_length_le (by omega)]
    exact Nat.le_refl _
theorem printN_take_le (l : List Tok) (k : Nat) : (printN (l.take k)).length ≤ (printN l).length := by
  have : ∀ j, (printN (l.take k)).length ≤ (printN (l.take (k + j))).length := by
    intro j
    induction j with
    | zero => exact Nat.le_refl _
    | succ j ih => exact Nat.le_trans ih (printN_take_mono l (k + j))
  have h := this l.length
  rwa [List.take_of_length_le (i := k + l.length) (by omega)] at h
theorem digN_len : ∀ (d n : Nat), n < 10 ^ d → 0 < d → (digN n).length ≤ d
  | 0, _, _, h => absurd h (Nat.lt_irrefl 0)
  | d + 1, n, h, _ => by
    by_cases c : n < 10
    · rw [digN_low n c]; simp
    · rw [digN_high n c, List.length_append]
      have hd : 0 < d := by
        rcases Nat.eq_zero_or_pos d with e | e
        · subst e; simp at h; omega
        · exact e
      have := digN_len d (n / 10) (by rw [Nat.pow_succ] at h; omega) hd
      simp
      omega
theorem bytes_le {t : Tok} (h : t.right) : t.bytes.length ≤ 12 := by
  unfold Tok.bytes textN
  rcases h with ⟨k, -, -, h, -⟩ | ⟨k, -, h1, h2⟩ | ⟨k, -, -⟩
  · rw [if_pos k]; exact h
  · rw [if_neg (by omega), if_pos k]
    have := digN_len 10 t.num.natAbs (by omega) (by decide)
    unfold digZ
    split
    · rw [List.length_cons]; omega
    · omega
  · rw [if_neg (by omega), if_neg (by omega)]
    split
    · decide
    · split <;> decide
theorem printN_bound : ∀ (l : List Tok), (∀ t ∈ l, t.right) → (printN l).length ≤ 13 * l.length
  | [], _ => Nat.le_refl _
  | [t], h => by
    have := bytes_le (h t (by simp))
    show t.bytes.length ≤ 13 * 1
    omega
  | t :: u :: r, h => by
    have := bytes_le (h t (by simp))
    have i := printN_bound (u :: r) (fun x hx => h x (by simp [hx]))
    rw [printN_more, List.length_append, List.length_cons, List.length_cons (a := t)]
    omega
end Go.Proofs.YticgmbhdcegoeaaDoor
