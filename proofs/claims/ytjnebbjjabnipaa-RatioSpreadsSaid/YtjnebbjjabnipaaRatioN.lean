/- Numbers of stage 6: ratios in lowest terms, by cross products. No Go in sight. -/
import Derived.Test.YtjnebbjjabnipaaNum
namespace Go.Proofs.Ytjnebbjjabnipaa

/-- Num over Den in lowest terms, Den above 0. -/
def Low (n d : Int) : Prop := 1 ≤ d ∧ Nat.gcd n.natAbs d.natAbs = 1
/-- A number over another one that is not 0, in lowest terms: its Num and its Den. -/
def redN (n : Int) (d : Nat) : Int := sgn (decide (n < 0)) (n.natAbs / Nat.gcd n.natAbs d)
def redD (n : Int) (d : Nat) : Int := ((d / Nat.gcd n.natAbs d : Nat) : Int)
theorem red_abs (n : Int) (d : Nat) : (redN n d).natAbs = n.natAbs / Nat.gcd n.natAbs d := by
  unfold redN sgn
  generalize n.natAbs / Nat.gcd n.natAbs d = q
  split <;> omega
theorem redD_abs (n : Int) (d : Nat) : (redD n d).natAbs = d / Nat.gcd n.natAbs d := by
  unfold redD
  generalize d / Nat.gcd n.natAbs d = q
  omega
theorem red_low (n : Int) (d : Nat) (hd : 0 < d) : Low (redN n d) (redD n d) := by
  have hg : 0 < Nat.gcd n.natAbs d := Nat.gcd_pos_of_pos_right _ hd
  refine ⟨?_, ?_⟩
  · have : 0 < d / Nat.gcd n.natAbs d := Nat.div_pos (Nat.le_of_dvd hd (Nat.gcd_dvd_right _ _)) hg
    unfold redD; omega
  · rw [red_abs, redD_abs]
    exact Nat.coprime_div_gcd_div_gcd hg
/-- It is the same ratio. -/
theorem red_cross (n : Int) (d : Nat) : redN n d * (d : Int) = n * redD n d := by
  have h1 : n.natAbs / Nat.gcd n.natAbs d * Nat.gcd n.natAbs d = n.natAbs := Nat.div_mul_cancel (Nat.gcd_dvd_left _ _)
  have h2 : d / Nat.gcd n.natAbs d * Nat.gcd n.natAbs d = d := Nat.div_mul_cancel (Nat.gcd_dvd_right _ _)
  unfold redN redD
  generalize Nat.gcd n.natAbs d = g at *
  generalize n.natAbs / g = p at *
  generalize d / g = q at *
  have hn : n = sgn (decide (n < 0)) n.natAbs := (sgn_abs n).symm
  generalize decide (n < 0) = b at *
  subst h2
  rw [hn, ← h1]
  cases b
  · simp only [sgn, Bool.false_eq_true, if_false]
    push_cast
    rw [Int.mul_comm (q : Int), ← Int.mul_assoc]
  · simp only [sgn, if_true]
    push_cast
    rw [Int.neg_mul, Int.neg_mul, Int.mul_comm (q : Int), ← Int.mul_assoc]
/-- Two ratios in lowest terms that are one, by cross products, are the same. -/
theorem low_unique {n d m e : Int} (h : Low n d) (k : Low m e) (hx : n * e = m * d) : n = m ∧ d = e := by
  obtain ⟨h1, h2⟩ := h
  obtain ⟨k1, k2⟩ := k
  have hx' : n.natAbs * e.natAbs = m.natAbs * d.natAbs := by rw [← Int.natAbs_mul, ← Int.natAbs_mul, hx]
  have a1 : d.natAbs ∣ e.natAbs := by
    have : d.natAbs ∣ n.natAbs * e.natAbs := by rw [hx']; exact Nat.dvd_mul_left _ _
    exact Nat.Coprime.dvd_of_dvd_mul_left (Nat.Coprime.symm h2) this
  have a2 : e.natAbs ∣ d.natAbs := by
    have : e.natAbs ∣ m.natAbs * d.natAbs := by rw [← hx']; exact Nat.dvd_mul_left _ _
    exact Nat.Coprime.dvd_of_dvd_mul_left (Nat.Coprime.symm k2) this
  have a3 := Nat.dvd_antisymm a1 a2
  have a4 : d = e := by omega
  subst a4
  exact ⟨Int.eq_of_mul_eq_mul_right (by omega) hx, rfl⟩
/-- What is in lowest terms is its own. -/
theorem red_self {n d : Int} (h : Low n d) : redN n d.natAbs = n ∧ redD n d.natAbs = d := by
  have hd : ((d.natAbs : Nat) : Int) = d := by have := h.1; omega
  refine low_unique (red_low n d.natAbs (by have := h.1; omega)) h ?_
  have := red_cross n d.natAbs
  rwa [hd] at this
/-- Two that are one by cross products have one form in lowest terms. -/
theorem red_same {n m : Int} {d e : Nat} (hd : 0 < d) (he : 0 < e) (hx : n * (e : Int) = m * (d : Int)) : redN n d = redN m e ∧ redD n d = redD m e := by
  refine low_unique (red_low n d hd) (red_low m e he) ?_
  have h1 := red_cross n d
  have h2 := red_cross m e
  have p1 : (0 : Int) < d := by omega
  have p2 : (0 : Int) < e := by omega
  generalize redN n d = a at *; generalize redD n d = b at *; generalize redN m e = a' at *; generalize redD m e = b' at *
  -- a d = n b, a' e = m b', n e = m d: a b' = a' b
  refine Int.eq_of_mul_eq_mul_right (a := (d : Int) * e) (Int.ne_of_gt (Int.mul_pos p1 p2)) ?_
  calc a * b' * (d * e) = (a * d) * (b' * e) := by ac_rfl
    _ = (n * b) * (b' * e) := by rw [h1]
    _ = (n * e) * (b * b') := by ac_rfl
    _ = (m * d) * (b * b') := by rw [hx]
    _ = (m * b') * (b * d) := by ac_rfl
    _ = (a' * e) * (b * d) := by rw [h2]
    _ = a' * b * (d * e) := by ac_rfl

/-! ### Order -/
theorem cross_trans {n1 d1 n2 d2 n3 d3 : Int} (h1 : 0 < d1) (h2 : 0 < d2) (h3 : 0 < d3) (h : n1 * d2 < n2 * d1) (k : n2 * d3 < n3 * d2) : n1 * d3 < n3 * d1 := by
  have a := Int.mul_lt_mul_of_pos_right h h3
  have b := Int.mul_lt_mul_of_pos_right k h1
  refine Int.lt_of_mul_lt_mul_right (a := d2) ?_ (Int.le_of_lt h2)
  have e1 : n1 * d3 * d2 = n1 * d2 * d3 := by ac_rfl
  have e2 : n3 * d1 * d2 = n3 * d2 * d1 := by ac_rfl
  have e3 : n2 * d1 * d3 = n2 * d3 * d1 := by ac_rfl
  omega
theorem cross_eq_trans {n1 d1 n2 d2 n3 d3 : Int} (h2 : 0 < d2) (h : n1 * d2 = n2 * d1) (k : n2 * d3 = n3 * d2) : n1 * d3 = n3 * d1 := by
  refine Int.eq_of_mul_eq_mul_right (a := d2) (by omega) ?_
  calc n1 * d3 * d2 = n1 * d2 * d3 := by ac_rfl
    _ = n2 * d1 * d3 := by rw [h]
    _ = n2 * d3 * d1 := by ac_rfl
    _ = n3 * d2 * d1 := by rw [k]
    _ = n3 * d1 * d2 := by ac_rfl
/-- What is added to both keeps the order: both sums over their products. -/
theorem cross_add {n1 d1 n2 d2 n3 d3 : Int} (h3 : 0 < d3) : ((n1 * d3 + n3 * d1) * (d2 * d3) < (n2 * d3 + n3 * d2) * (d1 * d3) ↔ n1 * d2 < n2 * d1) ∧ ((n1 * d3 + n3 * d1) * (d2 * d3) = (n2 * d3 + n3 * d2) * (d1 * d3) ↔ n1 * d2 = n2 * d1) := by
  have e1 : (n1 * d3 + n3 * d1) * (d2 * d3) = n1 * d2 * (d3 * d3) + n3 * d1 * d2 * d3 := by rw [Int.add_mul]; congr 1 <;> ac_rfl
  have e2 : (n2 * d3 + n3 * d2) * (d1 * d3) = n2 * d1 * (d3 * d3) + n3 * d1 * d2 * d3 := by rw [Int.add_mul]; congr 1 <;> ac_rfl
  have hp := Int.mul_pos h3 h3
  rw [e1, e2]
  generalize n3 * d1 * d2 * d3 = c
  generalize n1 * d2 = x
  generalize n2 * d1 = y
  generalize d3 * d3 = q at *
  constructor
  · constructor
    · intro h; exact Int.lt_of_mul_lt_mul_right (a := q) (by omega) (Int.le_of_lt hp)
    · intro h; have := Int.mul_lt_mul_of_pos_right h hp; omega
  · constructor
    · intro h; exact Int.eq_of_mul_eq_mul_right (a := q) (by omega) (by omega)
    · intro h; rw [h]
/-- Two ratios of the same numbers by cross products are held alike against two others of the same. -/
theorem cross_same {a b A B c d C D : Int} (hb : 0 < b) (hB : 0 < B) (hd : 0 < d) (hD : 0 < D) (h : a * B = A * b) (k : c * D = C * d) : (a * d < c * b ↔ A * D < C * B) ∧ (a * d = c * b ↔ A * D = C * B) := by
  have hp : 0 < B * D := Int.mul_pos hB hD
  have hq : 0 < b * d := Int.mul_pos hb hd
  have e1 : a * d * (B * D) = A * D * (b * d) := by
    calc a * d * (B * D) = a * B * (d * D) := by ac_rfl
      _ = A * b * (d * D) := by rw [h]
      _ = A * D * (b * d) := by ac_rfl
  have e2 : c * b * (B * D) = C * B * (b * d) := by
    calc c * b * (B * D) = c * D * (b * B) := by ac_rfl
      _ = C * d * (b * B) := by rw [k]
      _ = C * B * (b * d) := by ac_rfl
  constructor
  · constructor
    · intro x
      have := Int.mul_lt_mul_of_pos_right x hp
      rw [e1, e2] at this
      exact Int.lt_of_mul_lt_mul_right this (Int.le_of_lt hq)
    · intro x
      have := Int.mul_lt_mul_of_pos_right x hq
      rw [← e1, ← e2] at this
      exact Int.lt_of_mul_lt_mul_right this (Int.le_of_lt hp)
  · constructor
    · intro x
      have : A * D * (b * d) = C * B * (b * d) := by rw [← e1, ← e2, x]
      exact Int.eq_of_mul_eq_mul_right (Int.ne_of_gt hq) this
    · intro x
      have : a * d * (B * D) = c * b * (B * D) := by rw [e1, e2, x]
      exact Int.eq_of_mul_eq_mul_right (Int.ne_of_gt hp) this
/-- Products over sums: (n1/d1 + n2/d2) n3/d3, both ways, is one by cross products. -/
theorem cross_spread (n1 d1 n2 d2 n3 d3 : Int) : (n3 * (n1 * d2 + n2 * d1)) * ((d3 * d1) * (d3 * d2)) = ((n3 * n1) * (d3 * d2) + (n3 * n2) * (d3 * d1)) * (d3 * (d1 * d2)) := by
  rw [Int.mul_add, Int.add_mul, Int.add_mul]
  congr 1 <;> ac_rfl
/-- -1, 0 or 1. -/
def cmpI (x y : Int) : Int := if x < y then -1 else if y < x then 1 else 0
end Go.Proofs.Ytjnebbjjabnipaa
