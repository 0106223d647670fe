/- Numbers of stage 7: a text's pieces, told and read again. Lists of bytes; no Go in sight. -/
import Derived.Test.YticgmbhdcegoeaaDoorNum
namespace Go.Proofs.YticgmbhdcegoeaaDoor

/-! ### How far a kind of byte goes on -/
def spanLen (p : UInt8 → Bool) : List UInt8 → Nat
  | [] => 0
  | b :: r => if p b = true then spanLen p r + 1 else 0
theorem spanLen_le (p : UInt8 → Bool) : ∀ l, spanLen p l ≤ l.length
  | [] => Nat.le_refl _
  | b :: r => by
    unfold spanLen
    have := spanLen_le p r
    rw [List.length_cons]
    split <;> omega
theorem spanLen_yes (p : UInt8 → Bool) : ∀ (l : List UInt8) (k : Nat), k < spanLen p l → p (l.getD k 0) = true
  | [], k, h => absurd h (Nat.not_lt_zero _)
  | b :: r, k, h => by
    unfold spanLen at h
    split at h
    · rename_i hb
      cases k with
      | zero => exact hb
      | succ k => exact spanLen_yes p r k (by omega)
    · exact absurd h (Nat.not_lt_zero _)
theorem spanLen_no (p : UInt8 → Bool) : ∀ (l : List UInt8), spanLen p l < l.length → p (l.getD (spanLen p l) 0) = false
  | [], h => absurd h (Nat.not_lt_zero _)
  | b :: r, h => by
    by_cases hb : p b = true
    · have e : spanLen p (b :: r) = spanLen p r + 1 := by show (if p b = true then _ else _) = _; rw [if_pos hb]
      rw [e] at h ⊢
      exact spanLen_no p r (by rw [List.length_cons] at h; omega)
    · have e : spanLen p (b :: r) = 0 := by show (if p b = true then _ else _) = _; rw [if_neg hb]
      rw [e]
      simpa using hb
theorem spanLen_step (p : UInt8 → Bool) (l : List UInt8) (k : Nat) (h : k ≤ spanLen p l) (hl : k < l.length) (hp : p (l.getD k 0) = true) : k + 1 ≤ spanLen p l := by
  rcases Nat.lt_or_ge k (spanLen p l) with c | c
  · exact c
  · obtain rfl : k = spanLen p l := by omega
    rw [spanLen_no p l hl] at hp
    exact absurd hp (by decide)
theorem spanLen_stop (p : UInt8 → Bool) (l : List UInt8) (k : Nat) (h : k ≤ spanLen p l) (hs : l.length ≤ k ∨ p (l.getD k 0) = false) : k = spanLen p l := by
  rcases Nat.lt_or_ge k (spanLen p l) with c | c
  · rcases hs with d | d
    · have := spanLen_le p l; omega
    · rw [spanLen_yes p l k c] at d
      exact absurd d (by decide)
  · omega
theorem spanLen_append (p : UInt8 → Bool) : ∀ (a r : List UInt8), (∀ b ∈ a, p b = true) → (r = [] ∨ p (r.headD 0) = false) → spanLen p (a ++ r) = a.length
  | [], [], _, _ => rfl
  | [], c :: r, _, h => by
    rcases h with h | h
    · exact absurd h (by simp)
    · show (if p c = true then _ else _) = _
      rw [if_neg (by rw [show p c = false from h]; decide)]
      rfl
  | b :: a, r, ha, h => by
    show (if p b = true then spanLen p (a ++ r) + 1 else 0) = _
    rw [if_pos (ha b (by simp)), spanLen_append p a r (fun c hc => ha c (by simp [hc])) h]
    rfl

/-! ### Bytes -/
def isLetter (b : UInt8) : Bool := decide (97 ≤ b.toNat ∧ b.toNat ≤ 122)
def isDigit (b : UInt8) : Bool := decide (48 ≤ b.toNat ∧ b.toNat ≤ 57)
def isSpace (b : UInt8) : Bool := decide (b.toNat = 32 ∨ b.toNat = 9 ∨ b.toNat = 10 ∨ b.toNat = 13)
def notEnd (b : UInt8) : Bool := decide (b.toNat ≠ 10)
/-- What digits are worth, the last one at the list's end. -/
def valD : List UInt8 → Nat → Nat
  | [], v => v
  | b :: r, v => valD r (10 * v + (b.toNat - 48))
theorem valD_append : ∀ (a b : List UInt8) (v : Nat), valD (a ++ b) v = valD b (valD a v)
  | [], _, _ => rfl
  | x :: a, b, v => valD_append a b (10 * v + (x.toNat - 48))
theorem valD_snoc (a : List UInt8) (b : UInt8) (v : Nat) : valD (a ++ [b]) v = 10 * valD a v + (b.toNat - 48) := by rw [valD_append]; rfl
theorem valD_ge : ∀ (a : List UInt8) (v : Nat), v ≤ valD a v
  | [], _ => Nat.le_refl _
  | b :: a, v => Nat.le_trans (by omega) (valD_ge a (10 * v + (b.toNat - 48)))
/-- A value that is kept at a bound is the value itself, kept there. -/
theorem keep_step (v x C : Nat) : min (10 * min v C + x) C = min (10 * v + x) C := by omega

/-! ### Tokens, scanned -/
structure Tok where
  kind : Int
  text : List UInt8
  num : Int
  place : Int
/-- How long a blank is at the head; 0: there is none. -/
def blankN : List UInt8 → Nat
  | [] => 0
  | b :: r => if isSpace b = true then 1 else if b.toNat = 35 then spanLen notEnd r + 1 else 0
/-- A number at the head: its value and length, or an error. -/
def numberN (l : List UInt8) : Except Int (Int × Nat) :=
  let below := decide ((l.headD 0).toNat = 45)
  let d := if below = true then l.drop 1 else l
  let n := spanLen isDigit d
  let v := valD (d.take n) 0
  if n = 0 then .error 7
  else if ((d.headD 0).toNat = 48 ∧ (1 < n ∨ below = true)) ∨ 1000000000 < v then .error 3
  else .ok (if below = true then -(v : Int) else v, if below = true then n + 1 else n)
/-- One token at the head of a text that is no blank: kind, text, number, and length. -/
def oneN : List UInt8 → Except Int (Int × List UInt8 × Int × Nat)
  | [] => .error 7
  | b :: r =>
    if b.toNat = 123 then .ok (3, [], 0, 1)
    else if b.toNat = 125 then .ok (4, [], 0, 1)
    else if b.toNat = 59 then .ok (5, [], 0, 1)
    else if b.toNat = 45 ∨ isDigit b = true then
      match numberN (b :: r) with
      | .error e => .error e
      | .ok (v, n) => .ok (2, [], v, n)
    else
      let n := spanLen isLetter (b :: r)
      if n = 0 then .error 7 else if 12 < n then .error 2 else .ok (1, (b :: r).take n, 0, n)
/-- All tokens of a rest that begins at a place; or the place of the first piece that is wrong, and why. 'fuel' is at least the rest's length. -/
def scanN : Nat → List UInt8 → Nat → Except (Nat × Int) (List Tok)
  | 0, _, _ => .ok []
  | fuel + 1, l, at' =>
    if l = [] then .ok []
    else if 0 < blankN l then scanN fuel (l.drop (blankN l)) (at' + blankN l)
    else match oneN l with
      | .error e => .error (at', e)
      | .ok (k, t, v, n) =>
        match scanN fuel (l.drop n) (at' + n) with
        | .error e => .error e
        | .ok ts => .ok (⟨k, t, v, at'⟩ :: ts)
theorem blankN_cons (b : UInt8) (r : List UInt8) : blankN (b :: r) = if isSpace b = true then 1 else if b.toNat = 35 then spanLen notEnd r + 1 else 0 := rfl
theorem blankN_le (l : List UInt8) : blankN l ≤ l.length := by
  cases l with
  | nil => exact Nat.le_refl _
  | cons b r =>
    have := spanLen_le notEnd r
    rw [blankN_cons, List.length_cons]
    by_cases c : isSpace b = true
    · rw [if_pos c]; omega
    · rw [if_neg c]
      by_cases d : b.toNat = 35
      · rw [if_pos d]; omega
      · rw [if_neg d]; omega
/-- The number's parts: its digits, how many, and what they are worth. -/
def numD (l : List UInt8) : List UInt8 := if (l.headD 0).toNat = 45 then l.drop 1 else l
def numberK (below : Bool) (d : List UInt8) : Except Int (Int × Nat) :=
  if spanLen isDigit d = 0 then .error 7
  else if ((d.headD 0).toNat = 48 ∧ (1 < spanLen isDigit d ∨ below = true)) ∨ 1000000000 < valD (d.take (spanLen isDigit d)) 0 then .error 3
  else .ok (sgn below (valD (d.take (spanLen isDigit d)) 0), if below = true then spanLen isDigit d + 1 else spanLen isDigit d)
theorem numberN_eq (l : List UInt8) : numberN l = numberK (decide ((l.headD 0).toNat = 45)) (numD l) := by
  unfold numberN numD numberK sgn
  by_cases h : (l.headD 0).toNat = 45
  · simp only [decide_eq_true h, if_pos h, if_true]
  · simp only [decide_eq_false h, if_neg h, Bool.false_eq_true, if_false]
theorem numberN_len {l : List UInt8} {v : Int} {n : Nat} (h : numberN l = .ok (v, n)) : 0 < n ∧ n ≤ l.length := by
  rw [numberN_eq] at h
  unfold numberK at h
  have hl : spanLen isDigit (numD l) ≤ l.length ∧ ((l.headD 0).toNat = 45 → spanLen isDigit (numD l) + 1 ≤ l.length) := by
    have k := spanLen_le isDigit (numD l)
    unfold numD at k ⊢
    by_cases c : (l.headD 0).toNat = 45
    · rw [if_pos c] at k ⊢
      have : 0 < l.length := by
        cases l with
        | nil => exact absurd c (by decide)
        | cons b r => simp
      rw [List.length_drop] at k
      exact ⟨by omega, fun _ => by omega⟩
    · rw [if_neg c] at k ⊢
      exact ⟨k, fun d => absurd d c⟩
  by_cases z : spanLen isDigit (numD l) = 0
  · rw [if_pos z] at h; cases h
  rw [if_neg z] at h
  by_cases y : (((numD l).headD 0).toNat = 48 ∧ (1 < spanLen isDigit (numD l) ∨ decide ((l.headD 0).toNat = 45) = true)) ∨ 1000000000 < valD ((numD l).take (spanLen isDigit (numD l))) 0
  · rw [if_pos y] at h; cases h
  rw [if_neg y] at h
  simp only [Except.ok.injEq, Prod.mk.injEq] at h
  by_cases c : (l.headD 0).toNat = 45
  · rw [if_pos (decide_eq_true c)] at h
    have := hl.2 c
    omega
  · rw [if_neg (by rw [decide_eq_false c]; decide)] at h
    have := hl.1
    omega
/-- Which kind of piece begins with a byte. -/
def isMinus (b : UInt8) : Bool := decide (b.toNat = 45) || isDigit b
theorem oneN_open {b : UInt8} (r : List UInt8) (h : b.toNat = 123) : oneN (b :: r) = .ok (3, [], 0, 1) := by
  show (if b.toNat = 123 then _ else _) = _
  rw [if_pos h]
theorem oneN_close {b : UInt8} (r : List UInt8) (h : b.toNat = 125) : oneN (b :: r) = .ok (4, [], 0, 1) := by
  show (if b.toNat = 123 then _ else if b.toNat = 125 then _ else _) = _
  rw [if_neg (by omega), if_pos h]
theorem oneN_end {b : UInt8} (r : List UInt8) (h : b.toNat = 59) : oneN (b :: r) = .ok (5, [], 0, 1) := by
  show (if b.toNat = 123 then _ else if b.toNat = 125 then _ else if b.toNat = 59 then _ else _) = _
  rw [if_neg (by omega), if_neg (by omega), if_pos h]
theorem minus_range {b : UInt8} (h : b.toNat = 45 ∨ isDigit b = true) : b.toNat ≠ 123 ∧ b.toNat ≠ 125 ∧ b.toNat ≠ 59 := by
  rcases h with h | h
  · omega
  · have := of_decide_eq_true h
    omega
theorem oneN_num {b : UInt8} (r : List UInt8) (h : b.toNat = 45 ∨ isDigit b = true) : oneN (b :: r) = match numberN (b :: r) with
      | .error e => .error e
      | .ok (v, n) => .ok (2, [], v, n) := by
  obtain ⟨h1, h2, h3⟩ := minus_range h
  show (if b.toNat = 123 then _ else if b.toNat = 125 then _ else if b.toNat = 59 then _ else if b.toNat = 45 ∨ isDigit b = true then _ else _) = _
  rw [if_neg h1, if_neg h2, if_neg h3, if_pos h]
theorem oneN_word {b : UInt8} (r : List UInt8) (h1 : b.toNat ≠ 123) (h2 : b.toNat ≠ 125) (h3 : b.toNat ≠ 59) (h : ¬ (b.toNat = 45 ∨ isDigit b = true)) :
    oneN (b :: r) = if spanLen isLetter (b :: r) = 0 then .error 7 else if 12 < spanLen isLetter (b :: r) then .error 2 else .ok (1, (b :: r).take (spanLen isLetter (b :: r)), 0, spanLen isLetter (b :: r)) := by
  show (if b.toNat = 123 then _ else if b.toNat = 125 then _ else if b.toNat = 59 then _ else if b.toNat = 45 ∨ isDigit b = true then _ else _) = _
  rw [if_neg h1, if_neg h2, if_neg h3, if_neg h]
theorem oneN_len {l : List UInt8} {k : Int} {t : List UInt8} {v : Int} {n : Nat} (h : oneN l = .ok (k, t, v, n)) : 0 < n ∧ n ≤ l.length := by
  cases l with
  | nil => cases h
  | cons b r =>
    have hc : 0 < (b :: r).length := by simp
    by_cases h1 : b.toNat = 123
    · rw [oneN_open r h1] at h
      simp only [Except.ok.injEq, Prod.mk.injEq] at h; omega
    by_cases h2 : b.toNat = 125
    · rw [oneN_close r h2] at h
      simp only [Except.ok.injEq, Prod.mk.injEq] at h; omega
    by_cases h3 : b.toNat = 59
    · rw [oneN_end r h3] at h
      simp only [Except.ok.injEq, Prod.mk.injEq] at h; omega
    by_cases h4 : b.toNat = 45 ∨ isDigit b = true
    · rw [oneN_num r h4] at h
      cases e : numberN (b :: r) with
      | error x => rw [e] at h; cases h
      | ok x =>
        obtain ⟨y, m⟩ := x
        rw [e] at h
        simp only [Except.ok.injEq, Prod.mk.injEq] at h
        have := numberN_len e
        omega
    · rw [oneN_word r h1 h2 h3 h4] at h
      have := spanLen_le isLetter (b :: r)
      by_cases z : spanLen isLetter (b :: r) = 0
      · rw [if_pos z] at h; cases h
      rw [if_neg z] at h
      by_cases y : 12 < spanLen isLetter (b :: r)
      · rw [if_pos y] at h; cases h
      rw [if_neg y] at h
      simp only [Except.ok.injEq, Prod.mk.injEq] at h
      omega
/-- More fuel than the rest is long makes no difference. -/
theorem scanN_fuel : ∀ (f g : Nat) (l : List UInt8) (a : Nat), l.length ≤ f → l.length ≤ g → scanN f l a = scanN g l a
  | 0, 0, _, _, _, _ => rfl
  | 0, g + 1, l, a, h, _ => by
    have : l = [] := List.eq_nil_of_length_eq_zero (by omega)
    subst this
    unfold scanN
    rw [if_pos rfl]
  | f + 1, 0, l, a, _, h => by
    have : l = [] := List.eq_nil_of_length_eq_zero (by omega)
    subst this
    unfold scanN
    rw [if_pos rfl]
  | f + 1, g + 1, l, a, hf, hg => by
    unfold scanN
    by_cases hl : l = []
    · rw [if_pos hl, if_pos hl]
    rw [if_neg hl, if_neg hl]
    by_cases hb : 0 < blankN l
    · rw [if_pos hb, if_pos hb]
      exact scanN_fuel f g _ _ (by rw [List.length_drop]; omega) (by rw [List.length_drop]; omega)
    · rw [if_neg hb, if_neg hb]
      split
      · rfl
      · rename_i k t v n e
        have := oneN_len e
        rw [scanN_fuel f g (l.drop n) (a + n) (by rw [List.length_drop]; omega) (by rw [List.length_drop]; omega)]
/-- A text's tokens. -/
def scanL (l : List UInt8) : Except (Nat × Int) (List Tok) := scanN l.length l 0

/-! ### Tokens, printed -/
def digN (n : Nat) : List UInt8 := if h : n < 10 then [UInt8.ofNat (48 + n)] else digN (n / 10) ++ [UInt8.ofNat (48 + n % 10)]
termination_by n
decreasing_by omega
def digZ (z : Int) : List UInt8 := if z < 0 then 45 :: digN z.natAbs else digN z.natAbs
def textN (k : Int) (t : List UInt8) (v : Int) : List UInt8 := if k = 1 then t else if k = 2 then digZ v else if k = 3 then [123] else if k = 4 then [125] else [59]
def RightN (k : Int) (t : List UInt8) (v : Int) : Prop :=
  (k = 1 ∧ (∀ b ∈ t, isLetter b = true) ∧ 1 ≤ t.length ∧ t.length ≤ 12 ∧ v = 0) ∨ (k = 2 ∧ t = [] ∧ -1000000000 ≤ v ∧ v ≤ 1000000000) ∨ ((k = 3 ∨ k = 4 ∨ k = 5) ∧ t = [] ∧ v = 0)
theorem byte_of (n : Nat) (h : n < 256) : (UInt8.ofNat n).toNat = n := by
  rw [UInt8.toNat_ofNat']
  exact Nat.mod_eq_of_lt h
theorem digN_low (n : Nat) (h : n < 10) : digN n = [UInt8.ofNat (48 + n)] := by rw [digN, dif_pos h]
theorem digN_high (n : Nat) (h : ¬ n < 10) : digN n = digN (n / 10) ++ [UInt8.ofNat (48 + n % 10)] := by rw [digN, dif_neg h]
theorem digit_of (n : Nat) (h : n < 10) : isDigit (UInt8.ofNat (48 + n)) = true := by
  unfold isDigit
  rw [byte_of _ (by omega)]
  exact decide_eq_true ⟨by omega, by omega⟩
theorem digN_digits (n : Nat) : ∀ b ∈ digN n, isDigit b = true := by
  induction n using Nat.strongRecOn with
  | _ n ih =>
    intro b hb
    by_cases h : n < 10
    · rw [digN_low n h] at hb
      obtain rfl := List.mem_singleton.1 hb
      exact digit_of n h
    · rw [digN_high n h] at hb
      rcases List.mem_append.1 hb with c | c
      · exact ih (n / 10) (by omega) b c
      · obtain rfl := List.mem_singleton.1 c
        exact digit_of _ (by omega)
theorem digN_val (n : Nat) : valD (digN n) 0 = n := by
  induction n using Nat.strongRecOn with
  | _ n ih =>
    by_cases h : n < 10
    · rw [digN_low n h]
      show 10 * 0 + ((UInt8.ofNat (48 + n)).toNat - 48) = n
      rw [byte_of _ (by omega)]
      omega
    · rw [digN_high n h, valD_snoc, ih (n / 10) (by omega), byte_of _ (by omega)]
      omega
theorem digN_pos (n : Nat) : 0 < (digN n).length := by
  by_cases h : n < 10
  · rw [digN_low n h]; exact Nat.one_pos
  · rw [digN_high n h, List.length_append]; simp
/-- The first digit of a number of more than one is no 0. -/
theorem digN_head (n : Nat) (h : 0 < n) : ((digN n).headD 0).toNat ≠ 48 := by
  induction n using Nat.strongRecOn with
  | _ n ih =>
    by_cases c : n < 10
    · rw [digN_low n c]
      show (UInt8.ofNat (48 + n)).toNat ≠ 48
      rw [byte_of _ (by omega)]
      omega
    · rw [digN_high n c]
      have := ih (n / 10) (by omega) (by omega)
      have hp := digN_pos (n / 10)
      cases e : digN (n / 10) with
      | nil => rw [e] at hp; exact absurd hp (by decide)
      | cons b r => rw [e] at this; exact this
theorem digN_small (n k : Nat) : n < 10 ^ k → 0 < k → (digN n).length ≤ k := by
  induction k generalizing n with
  | zero => intro _ h; omega
  | succ k ih =>
    intro h _
    by_cases c : n < 10
    · rw [digN_low n c]
      show 1 ≤ k + 1
      omega
    · rw [digN_high n c, List.length_append]
      have hk : 0 < k := by
        rcases Nat.eq_zero_or_pos k with e | e
        · subst e; exact absurd h c
        · exact e
      have := ih (n / 10) (Nat.div_lt_of_lt_mul (by rw [Nat.pow_succ] at h; omega)) hk
      simp only [List.length_cons, List.length_nil]
      omega

/-! ### What is printed is scanned as it was -/
/-- Behind this no word and no number goes on. -/
def Stops (r : List UInt8) : Prop := r = [] ∨ (isLetter (r.headD 0) = false ∧ isDigit (r.headD 0) = false)
theorem letter_range {b : UInt8} (h : isLetter b = true) : 97 ≤ b.toNat ∧ b.toNat ≤ 122 := of_decide_eq_true h
theorem digit_range {b : UInt8} (h : isDigit b = true) : 48 ≤ b.toNat ∧ b.toNat ≤ 57 := of_decide_eq_true h
theorem not_digit {b : UInt8} (h : b.toNat < 48 ∨ 57 < b.toNat) : isDigit b = false := decide_eq_false (by omega)
theorem numberN_pos (n : Nat) (r : List UInt8) (hn : n ≤ 1000000000) (hr : Stops r) : numberN (digN n ++ r) = .ok ((n : Int), (digN n).length) := by
  have hs : spanLen isDigit (digN n ++ r) = (digN n).length := spanLen_append _ _ _ (digN_digits n) (hr.imp id And.right)
  have hp := digN_pos n
  have hh : ((digN n ++ r).headD 0) = (digN n).headD 0 := by
    cases e : digN n with
    | nil => rw [e] at hp; exact absurd hp (by decide)
    | cons b t => rfl
  have hd : isDigit ((digN n).headD 0) = true := by
    cases e : digN n with
    | nil => rw [e] at hp; exact absurd hp (by decide)
    | cons b t => exact digN_digits n b (by rw [e]; simp)
  have hd2 := digit_range hd
  have hb : ¬ ((digN n ++ r).headD 0).toNat = 45 := by rw [hh]; omega
  rw [numberN_eq, decide_eq_false hb]
  have hD : numD (digN n ++ r) = digN n ++ r := if_neg hb
  rw [hD]
  unfold numberK
  rw [hs, if_neg (by omega), List.take_left' rfl, digN_val, if_neg, if_neg (by decide)]
  · rfl
  · rw [hh]
    rintro (⟨h1, h2⟩ | h)
    · rcases h2 with h2 | h2
      · by_cases z : 0 < n
        · exact digN_head n z h1
        · obtain rfl : n = 0 := by omega
          rw [digN_low 0 (by decide)] at h2
          exact absurd h2 (by decide)
      · exact absurd h2 (by decide)
    · omega
theorem numberN_neg (n : Nat) (r : List UInt8) (h0 : 0 < n) (hn : n ≤ 1000000000) (hr : Stops r) : numberN (45 :: (digN n ++ r)) = .ok (-(n : Int), (digN n).length + 1) := by
  have hs : spanLen isDigit (digN n ++ r) = (digN n).length := spanLen_append _ _ _ (digN_digits n) (hr.imp id And.right)
  have hp := digN_pos n
  have hh : ((digN n ++ r).headD 0) = (digN n).headD 0 := by
    cases e : digN n with
    | nil => rw [e] at hp; exact absurd hp (by decide)
    | cons b t => rfl
  have hb : ((45 :: (digN n ++ r) : List UInt8).headD 0).toNat = 45 := rfl
  rw [numberN_eq, decide_eq_true hb]
  have hD : numD (45 :: (digN n ++ r)) = digN n ++ r := if_pos hb
  rw [hD]
  unfold numberK
  rw [hs, if_neg (by omega), List.take_left' rfl, digN_val, if_neg, if_pos rfl]
  · rfl
  · rw [hh]
    rintro (⟨h1, -⟩ | h)
    · exact digN_head n h0 h1
    · omega
theorem digZ_neg {z : Int} (h : z < 0) : digZ z = 45 :: digN z.natAbs := if_pos h
theorem digZ_pos {z : Int} (h : ¬ z < 0) : digZ z = digN z.natAbs := if_neg h
theorem textN_pos {k : Int} {t : List UInt8} {v : Int} (h : RightN k t v) : 1 ≤ (textN k t v).length := by
  unfold textN
  rcases h with ⟨rfl, -, h, -⟩ | ⟨rfl, -⟩ | ⟨h, -⟩
  · rw [if_pos rfl]; exact h
  · rw [if_neg (by decide), if_pos rfl]
    unfold digZ
    split
    · simp
    · exact digN_pos _
  · rcases h with rfl | rfl | rfl <;> exact Nat.le_refl _
theorem oneN_text {k : Int} {t : List UInt8} {v : Int} (h : RightN k t v) (r : List UInt8) (hr : Stops r) : oneN (textN k t v ++ r) = .ok (k, t, v, (textN k t v).length) := by
  unfold textN
  rcases h with ⟨rfl, hl, h1, h2, rfl⟩ | ⟨rfl, rfl, h1, h2⟩ | ⟨h, rfl, rfl⟩
  · rw [if_pos rfl]
    have hs : spanLen isLetter (t ++ r) = t.length := spanLen_append _ _ _ hl (hr.imp id And.left)
    cases t with
    | nil => exact absurd h1 (by decide)
    | cons b t =>
      have hb := letter_range (hl b (by simp))
      have e : oneN (b :: (t ++ r)) = _ := oneN_word (b := b) (t ++ r) (by omega) (by omega) (by omega) (by rintro (c | c); omega; have := digit_range c; omega)
      rw [show b :: (t ++ r) = b :: t ++ r from rfl, hs, if_neg (by omega), if_neg (by omega), List.take_left' rfl] at e
      exact e
  · rw [if_neg (by decide), if_pos rfl]
    by_cases z : v < 0
    · rw [digZ_neg z]
      have e : oneN (45 :: (digN v.natAbs ++ r)) = _ := oneN_num (b := 45) _ (Or.inl rfl)
      rw [numberN_neg _ r (by omega) (by omega) hr] at e
      rw [show 45 :: digN v.natAbs ++ r = 45 :: (digN v.natAbs ++ r) from rfl, e, List.length_cons]
      rw [show -((v.natAbs : Nat) : Int) = v by omega]
    · rw [digZ_pos z]
      have hp := digN_pos v.natAbs
      have hd := digN_digits v.natAbs
      have hv := numberN_pos v.natAbs r (by omega) hr
      cases e : digN v.natAbs with
      | nil => rw [e] at hp; exact absurd hp (by decide)
      | cons b t =>
        rw [e] at hd hv
        have e2 : oneN (b :: (t ++ r)) = _ := oneN_num (b := b) _ (Or.inr (hd b (by simp)))
        rw [show b :: (t ++ r) = b :: t ++ r from rfl, hv, show ((v.natAbs : Nat) : Int) = v by omega] at e2
        exact e2
  · rcases h with rfl | rfl | rfl
    · exact oneN_open (b := 123) r rfl
    · exact oneN_close (b := 125) r rfl
    · exact oneN_end (b := 59) r rfl
theorem blankN_none {b : UInt8} (r : List UInt8) (h1 : b.toNat ≠ 32) (h2 : b.toNat ≠ 9) (h3 : b.toNat ≠ 10) (h4 : b.toNat ≠ 13) (h5 : b.toNat ≠ 35) : blankN (b :: r) = 0 := by
  rw [blankN_cons, if_neg, if_neg h5]
  intro h
  have := of_decide_eq_true h
  omega
theorem blankN_text {k : Int} {t : List UInt8} {v : Int} (h : RightN k t v) (r : List UInt8) : blankN (textN k t v ++ r) = 0 := by
  unfold textN
  rcases h with ⟨rfl, hl, h1, h2, rfl⟩ | ⟨rfl, rfl, h1, h2⟩ | ⟨h, rfl, rfl⟩
  · rw [if_pos rfl]
    cases t with
    | nil => exact absurd h1 (by decide)
    | cons b t =>
      have hb := letter_range (hl b (by simp))
      exact blankN_none _ (by omega) (by omega) (by omega) (by omega) (by omega)
  · rw [if_neg (by decide), if_pos rfl]
    by_cases z : v < 0
    · rw [digZ_neg z]
      exact blankN_none (b := 45) _ (by decide) (by decide) (by decide) (by decide) (by decide)
    · rw [digZ_pos z]
      have hp := digN_pos v.natAbs
      have hd := digN_digits v.natAbs
      cases e : digN v.natAbs with
      | nil => rw [e] at hp; exact absurd hp (by decide)
      | cons b t =>
        rw [e] at hd
        have hb := digit_range (hd b (by simp))
        exact blankN_none _ (by omega) (by omega) (by omega) (by omega) (by omega)
  · rcases h with rfl | rfl | rfl
    · exact blankN_none (b := 123) r (by decide) (by decide) (by decide) (by decide) (by decide)
    · exact blankN_none (b := 125) r (by decide) (by decide) (by decide) (by decide) (by decide)
    · exact blankN_none (b := 59) r (by decide) (by decide) (by decide) (by decide) (by decide)
/-- A rest that begins at a place, scanned. -/
def scanF (l : List UInt8) (a : Nat) : Except (Nat × Int) (List Tok) := scanN l.length l a
theorem scanN_F (f : Nat) (l : List UInt8) (a : Nat) (h : l.length ≤ f) : scanN f l a = scanF l a := scanN_fuel f l.length l a h (Nat.le_refl _)
theorem scanF_nil (a : Nat) : scanF [] a = .ok [] := rfl
theorem scanF_blank (l : List UInt8) (a : Nat) (h : 0 < blankN l) : scanF l a = scanF (l.drop (blankN l)) (a + blankN l) := by
  have hl : l ≠ [] := fun e => by rw [e] at h; exact absurd h (by decide)
  have hlen : 0 < l.length := List.length_pos_iff.2 hl
  obtain ⟨m, hm⟩ : ∃ m, l.length = m + 1 := ⟨l.length - 1, by omega⟩
  unfold scanF
  rw [hm]
  show (if l = [] then _ else if 0 < blankN l then scanN m (l.drop (blankN l)) (a + blankN l) else _) = _
  rw [if_neg hl, if_pos h]
  exact scanN_fuel _ _ _ _ (by rw [List.length_drop]; omega) (Nat.le_refl _)
theorem scanF_one (l : List UInt8) (a : Nat) (hl : l ≠ []) (h : blankN l = 0) : scanF l a = match oneN l with
      | .error e => .error (a, e)
      | .ok (k, t, v, n) => match scanF (l.drop n) (a + n) with
        | .error e => .error e
        | .ok ts => .ok (⟨k, t, v, a⟩ :: ts) := by
  have hlen : 0 < l.length := List.length_pos_iff.2 hl
  obtain ⟨m, hm⟩ : ∃ m, l.length = m + 1 := ⟨l.length - 1, by omega⟩
  have e : scanF l a = scanN (m + 1) l a := by unfold scanF; rw [hm]
  rw [e]
  unfold scanN
  rw [if_neg hl, if_neg (by omega)]
  cases e1 : oneN l with
  | error x => rfl
  | ok x =>
    obtain ⟨k, t, v, n⟩ := x
    have := oneN_len e1
    dsimp only
    rw [scanN_F m (l.drop n) (a + n) (by rw [List.length_drop]; omega)]
/-- Blanks: what stands behind them is scanned as if they were not there. -/
def Skips (s : List UInt8) : Prop := ∀ r a, scanF (s ++ r) a = scanF r (a + s.length)
theorem Skips.nil : Skips [] := fun _ _ => rfl
theorem Skips.append {s t : List UInt8} (hs : Skips s) (ht : Skips t) : Skips (s ++ t) := fun r a => by
  rw [List.append_assoc, hs, ht, List.length_append, Nat.add_assoc]
theorem Skips.space {b : UInt8} (h : isSpace b = true) : Skips [b] := fun r a => by
  have e : blankN ([b] ++ r) = 1 := by
    show (if isSpace b = true then 1 else _) = 1
    rw [if_pos h]
  rw [scanF_blank _ _ (by rw [e]; decide), e]
  rfl
theorem Skips.remark (m : List UInt8) (h : ∀ b ∈ m, notEnd b = true) : Skips (35 :: (m ++ [10])) := by
  have h1 : ∀ r a, scanF (35 :: (m ++ (10 :: r))) a = scanF (10 :: r) (a + (m.length + 1)) := fun r a => by
    have hs : spanLen notEnd (m ++ (10 :: r)) = m.length := spanLen_append _ _ _ h (Or.inr (by rfl))
    have e : blankN (35 :: (m ++ (10 :: r))) = m.length + 1 := by
      rw [blankN_cons, if_neg (by decide), if_pos (by rfl), hs]
    rw [scanF_blank _ _ (by rw [e]; omega), e]
    congr 1
    show (m ++ 10 :: r).drop m.length = _
    exact List.drop_left' rfl
  intro r a
  have e : 35 :: (m ++ [10]) ++ r = 35 :: (m ++ (10 :: r)) := by simp
  rw [e, h1]
  have := Skips.space (b := 10) (by rfl) r (a + (m.length + 1))
  rw [show [10] ++ r = 10 :: r from rfl] at this
  rw [this]
  congr 1
  simp
  omega
theorem scanF_text {k : Int} {t : List UInt8} {v : Int} (h : RightN k t v) (r : List UInt8) (hr : Stops r) (a : Nat) :
    scanF (textN k t v ++ r) a = match scanF r (a + (textN k t v).length) with
      | .error e => .error e
      | .ok ts => .ok (⟨k, t, v, a⟩ :: ts) := by
  have hp := textN_pos h
  rw [scanF_one _ _ (fun e => by have := congrArg List.length e; rw [List.length_append, List.length_nil] at this; omega) (blankN_text h r), oneN_text h r hr]
  dsimp only
  rw [List.drop_left' rfl]
def Tok.right (t : Tok) : Prop := RightN t.kind t.text t.num
def Tok.bytes (t : Tok) : List UInt8 := textN t.kind t.text t.num
/-- The text of tokens: one blank between each two. -/
def printN : List Tok → List UInt8
  | [] => []
  | t :: r => match r with
    | [] => t.bytes
    | _ :: _ => t.bytes ++ 32 :: printN r
/-- Tokens with the places at which they stand in their text. -/
def placed : List Tok → Nat → List Tok
  | [], _ => []
  | t :: r, a => ⟨t.kind, t.text, t.num, a⟩ :: placed r (a + t.bytes.length + 1)
theorem printN_one (t : Tok) : printN [t] = t.bytes := rfl
theorem printN_more (t u : Tok) (r : List Tok) : printN (t :: u :: r) = t.bytes ++ 32 :: printN (u :: r) := rfl
theorem scan_print : ∀ (l : List Tok) (a : Nat), (∀ t ∈ l, t.right) → scanF (printN l) a = .ok (placed l a)
  | [], _, _ => rfl
  | [t], a, h => by
    have := scanF_text (h t (by simp)) [] (Or.inl rfl) a
    rw [List.append_nil, scanF_nil] at this
    exact this
  | t :: u :: r, a, h => by
    have e := scanF_text (h t (by simp)) (32 :: printN (u :: r)) (Or.inr ⟨by rfl, by rfl⟩) a
    have s := Skips.space (b := 32) (by rfl) (printN (u :: r)) (a + t.bytes.length)
    have i := scan_print (u :: r) (a + t.bytes.length + 1) (fun x hx => h x (by simp [hx]))
    rw [show ([32] : List UInt8).length = 1 from rfl, i] at s
    rw [printN_more]
    have e2 : scanF (t.bytes ++ 32 :: printN (u :: r)) a = match scanF (32 :: printN (u :: r)) (a + t.bytes.length) with
      | .error e => .error e
      | .ok ts => .ok (⟨t.kind, t.text, t.num, a⟩ :: ts) := e
    rw [e2, show 32 :: printN (u :: r) = [32] ++ printN (u :: r) from rfl, s]
    rfl
/-- Tokens between any blanks: the text, from the i-th on. -/
def mixN (sep : Nat → List UInt8) : List Tok → Nat → List UInt8
  | [], _ => []
  | t :: r, i => t.bytes ++ (sep (i + 1) ++ mixN sep r (i + 1))
def Tok.core (t : Tok) : Int × List UInt8 × Int := (t.kind, t.text, t.num)
theorem scan_mix (sep : Nat → List UInt8) (hs : ∀ i, Skips (sep i)) (ht : ∀ i, sep i ≠ [] ∧ isLetter ((sep i).headD 0) = false ∧ isDigit ((sep i).headD 0) = false) :
    ∀ (l : List Tok) (i a : Nat), (∀ t ∈ l, t.right) → ∃ ts, scanF (mixN sep l i) a = .ok ts ∧ ts.map Tok.core = l.map Tok.core
  | [], _, _, _ => ⟨[], rfl, rfl⟩
  | t :: r, i, a, h => by
    obtain ⟨ts, h1, h2⟩ := scan_mix sep hs ht r (i + 1) (a + t.bytes.length + (sep (i + 1)).length) (fun x hx => h x (by simp [hx]))
    obtain ⟨k1, k2, k3⟩ := ht (i + 1)
    have st : Stops (sep (i + 1) ++ mixN sep r (i + 1)) := by
      right
      cases e : sep (i + 1) with
      | nil => exact absurd e k1
      | cons b u => rw [e] at k2 k3; exact ⟨k2, k3⟩
    have e := scanF_text (h t (by simp)) _ st a
    rw [hs (i + 1)] at e
    refine ⟨⟨t.kind, t.text, t.num, a⟩ :: ts, ?_, ?_⟩
    · have e2 : scanF (mixN sep (t :: r) i) a = match scanF (mixN sep r (i + 1)) (a + t.bytes.length + (sep (i + 1)).length) with
        | .error e => .error e
        | .ok ts => .ok (⟨t.kind, t.text, t.num, a⟩ :: ts) := e
      rw [e2, h1]
    · rw [List.map_cons, List.map_cons, h2]
      rfl
theorem placed_core : ∀ (l : List Tok) (a : Nat), (placed l a).map Tok.core = l.map Tok.core
  | [], _ => rfl
  | t :: r, a => by
    show (_ :: (placed r (a + t.bytes.length + 1)).map Tok.core) = _
    rw [placed_core r]
    rfl
theorem placed_length (l : List Tok) (a : Nat) : (placed l a).length = l.length := by
  have := congrArg List.length (placed_core l a)
  rwa [List.length_map, List.length_map] at this
theorem bytes_core {t u : Tok} (h : t.core = u.core) : t.bytes = u.bytes := by
  obtain ⟨k, x, v, a⟩ := t
  obtain ⟨k', x', v', a'⟩ := u
  simp only [Tok.core, Prod.mk.injEq] at h
  obtain ⟨rfl, rfl, rfl⟩ := h
  rfl
/-- A text hangs on no place. -/
theorem printN_core : ∀ (l m : List Tok), l.map Tok.core = m.map Tok.core → printN l = printN m
  | [], [], _ => rfl
  | [], _ :: _, h => by cases h
  | _ :: _, [], h => by cases h
  | [t], [u], h => by
    simp only [List.map_cons, List.cons.injEq] at h
    exact bytes_core h.1
  | [t], u :: u' :: m, h => by simp at h
  | t :: t' :: l, [u], h => by simp at h
  | t :: t' :: l, u :: u' :: m, h => by
    have h1 : t.core = u.core := by simp only [List.map_cons, List.cons.injEq] at h; exact h.1
    have h2 : (t' :: l).map Tok.core = (u' :: m).map Tok.core := by simp only [List.map_cons, List.cons.injEq] at h ⊢; exact h.2
    rw [printN_more, printN_more, bytes_core h1, printN_core (t' :: l) (u' :: m) h2]
/-- The place of the i-th token. -/
def offN : List Tok → Nat → Nat
  | [], _ => 0
  | t :: r, i => match i with
    | 0 => 0
    | i + 1 => t.bytes.length + 1 + offN r i
theorem placed_get : ∀ (l : List Tok) (a i : Nat) (h : i < l.length), (placed l a)[i]? = some ⟨(l[i]'h).kind, (l[i]'h).text, (l[i]'h).num, ((a + offN l i : Nat) : Int)⟩
  | [], _, _, h => absurd h (Nat.not_lt_zero _)
  | t :: r, a, 0, _ => rfl
  | t :: r, a, i + 1, h => by
    have := placed_get r (a + t.bytes.length + 1) i (by rw [List.length_cons] at h; omega)
    show (placed r (a + t.bytes.length + 1))[i]? = _
    rw [this]
    show some (Tok.mk _ _ _ _) = some (Tok.mk _ _ _ ((a + (t.bytes.length + 1 + offN r i) : Nat) : Int))
    rw [show a + t.bytes.length + 1 + offN r i = a + (t.bytes.length + 1 + offN r i) by omega]
    rfl
theorem bytes_pos {t : Tok} (h : t.right) : 1 ≤ t.bytes.length := textN_pos h
theorem offN_step : ∀ (l : List Tok) (i : Nat), (∀ t ∈ l, t.right) → i + 1 < l.length → offN l i + 2 ≤ offN l (i + 1)
  | [], _, _, h => absurd h (Nat.not_lt_zero _)
  | t :: r, 0, h, hi => by
    have := bytes_pos (h t (by simp))
    show 0 + 2 ≤ t.bytes.length + 1 + offN r 0
    omega
  | t :: r, i + 1, h, hi => by
    have := offN_step r i (fun x hx => h x (by simp [hx])) (by rw [List.length_cons] at hi; omega)
    show t.bytes.length + 1 + offN r i + 2 ≤ t.bytes.length + 1 + offN r (i + 1)
    omega
theorem offN_lt : ∀ (l : List Tok) (i : Nat), (∀ t ∈ l, t.right) → i < l.length → offN l i < (printN l).length
  | [], _, _, h => absurd h (Nat.not_lt_zero _)
  | [t], i, h, hi => by
    have := bytes_pos (h t (by simp))
    obtain rfl : i = 0 := by simp at hi; omega
    exact this
  | t :: u :: r, 0, h, _ => by
    have := bytes_pos (h t (by simp))
    rw [printN_more, List.length_append]
    show 0 < _
    omega
  | t :: u :: r, i + 1, h, hi => by
    have := offN_lt (u :: r) i (fun x hx => h x (by simp [hx])) (by rw [List.length_cons] at hi; omega)
    rw [printN_more, List.length_append, List.length_cons]
    show t.bytes.length + 1 + offN (u :: r) i < _
    omega
/-- A printed text's length. -/
theorem printN_snoc : ∀ (l : List Tok) (t : Tok), l ≠ [] → printN (l ++ [t]) = printN l ++ (32 :: t.bytes)
  | [], _, h => absurd rfl h
  | [u], t, _ => rfl
  | u :: u' :: l, t, _ => by
    have := printN_snoc (u' :: l) t (by simp)
    show u.bytes ++ 32 :: printN (u' :: l ++ [t]) = _
    rw [this, printN_more]
    simp
end Go.Proofs.YticgmbhdcegoeaaDoor
