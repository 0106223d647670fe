/- Plain numbers: how many bits a number has, and division by taking away doublings, the greatest first. No Go in sight. -/
import Derived.Test.YtacnaencmbnjpaaNum3
import Derived.Lib.ItoaNum
namespace Go.Proofs.Ytacnaencmbnjpaa

/-- How many bits a wide number has. -/
def blen (n : Nat) : Nat := if hi n = 0 then Lib.bitLen (lo n) else 64 + Lib.bitLen (hi n)
theorem blen_zero : blen 0 = 0 := by decide
theorem bitLen_bounds (x : Nat) (h : x < B64) (h0 : x ≠ 0) : 1 ≤ Lib.bitLen x ∧ 2 ^ (Lib.bitLen x - 1) ≤ x ∧ x < 2 ^ Lib.bitLen x ∧ Lib.bitLen x ≤ 64 := by
  obtain ⟨a, b, c⟩ := Lib.bitLenAux_bounds 64 x (by rw [← B64_pow]; exact h) h0
  exact ⟨a, b, c, Lib.bitLen_le x 64 (Nat.le_refl _) (by rw [← B64_pow]; exact h)⟩
theorem blen_bounds (n : Nat) (h : n < M128) (h0 : n ≠ 0) : 1 ≤ blen n ∧ 2 ^ (blen n - 1) ≤ n ∧ n < 2 ^ blen n ∧ blen n ≤ 128 := by
  have e := vw_hi_lo n
  unfold vw at e
  have hl := lo_lt n
  have hh := hi_lt n h
  unfold blen
  by_cases c : hi n = 0
  · rw [if_pos c]
    have : lo n = n := by rw [c] at e; omega
    obtain ⟨h1, h2, h3, h4⟩ := bitLen_bounds (lo n) hl (by omega)
    rw [this] at h1 h2 h3 h4 ⊢
    exact ⟨h1, h2, h3, by omega⟩
  · rw [if_neg c]
    obtain ⟨h1, h2, h3, h4⟩ := bitLen_bounds (hi n) hh c
    obtain ⟨L, hL⟩ : ∃ L, Lib.bitLen (hi n) = L + 1 := ⟨Lib.bitLen (hi n) - 1, by omega⟩
    rw [hL] at h1 h2 h3 h4 ⊢
    simp only [Nat.add_sub_cancel] at h2
    have p1 : 2 ^ (64 + (L + 1) - 1) = 2 ^ L * 18446744073709551616 := by rw [show 64 + (L + 1) - 1 = L + 64 by omega, Nat.pow_add]
    have p2 : 2 ^ (64 + (L + 1)) = 2 ^ (L + 1) * 18446744073709551616 := by rw [Nat.add_comm, Nat.pow_add]
    have q1 := Nat.mul_le_mul_right 18446744073709551616 h2
    have q2 := Nat.mul_le_mul_right 18446744073709551616 (show hi n + 1 ≤ 2 ^ (L + 1) by omega)
    rw [Nat.add_mul, Nat.one_mul] at q2
    unfold B64 at hl
    refine ⟨by clear p1 p2 q1 q2 h2 h3; omega, ?_, ?_, by clear p1 p2 q1 q2 h2 h3; omega⟩
    · rw [p1]; clear p1 p2 q2 h2 h3; exact Nat.le_trans q1 (Nat.le_trans (Nat.le_add_right _ (lo n)) (Nat.le_of_eq e))
    · rw [p2]; clear p1 p2 q1 h2 h3; exact Nat.lt_of_le_of_lt (Nat.le_of_eq e.symm) (Nat.lt_of_lt_of_le (Nat.add_lt_add_left hl _) q2)
theorem blen_le (n : Nat) (h : n < M128) : blen n ≤ 128 := by
  by_cases c : n = 0
  · rw [c, blen_zero]; omega
  · exact (blen_bounds n h c).2.2.2

/-- How many doublings of b may go into a. -/
def parts (a b : Nat) : Nat := blen a + 1 - blen b
theorem parts_le (a b : Nat) (ha : a < M128) (hb : b < M128) (h0 : b ≠ 0) : parts a b ≤ 128 := by
  have := blen_le a ha; have := (blen_bounds b hb h0).1
  unfold parts; omega
theorem parts_start (a b : Nat) (ha : a < M128) (hb : b < M128) (h0 : b ≠ 0) : a < b * 2 ^ parts a b := by
  obtain ⟨b1, b2, b3, b4⟩ := blen_bounds b hb h0
  by_cases c : a = 0
  · subst c
    exact Nat.mul_pos (Nat.pos_of_ne_zero h0) (Nat.two_pow_pos _)
  obtain ⟨a1, a2, a3, a4⟩ := blen_bounds a ha c
  have h1 := Nat.mul_le_mul_right (2 ^ parts a b) b2
  rw [← Nat.pow_add] at h1
  have h2 : 2 ^ blen a ≤ 2 ^ (blen b - 1 + parts a b) := Nat.pow_le_pow_right (by omega) (by unfold parts; omega)
  omega
theorem parts_fit (a b i : Nat) (ha : a < M128) (hb : b < M128) (h0 : b ≠ 0) : b * 2 ^ (parts a b - 1 - i) < M128 := by
  obtain ⟨b1, b2, b3, b4⟩ := blen_bounds b hb h0
  have la := blen_le a ha
  have h1 := Nat.mul_lt_mul_of_lt_of_le b3 (Nat.le_refl (2 ^ (parts a b - 1 - i))) (Nat.two_pow_pos _)
  rw [← Nat.pow_add] at h1
  have h2 : 2 ^ (blen b + (parts a b - 1 - i)) ≤ 2 ^ 128 := Nat.pow_le_pow_right (by omega) (by unfold parts; omega)
  rw [M128_pow]
  omega
theorem pow_fit (k : Nat) (h : k < 128) : 2 ^ k < M128 := by rw [M128_pow]; exact Nat.pow_lt_pow_right (by omega) h

/-- What is kept through the rounds: q is how often b was taken, r what is left. -/
structure Taken (a b i q r : Nat) : Prop where
  whole : a = q * b + r
  left : r < b * 2 ^ (parts a b - i)
theorem Taken.start (a b : Nat) (ha : a < M128) (hb : b < M128) (h0 : b ≠ 0) : Taken a b 0 0 a := ⟨by omega, by rw [Nat.sub_zero]; exact parts_start a b ha hb h0⟩
theorem pow_pred (n i : Nat) (h : i < n) (b : Nat) : b * 2 ^ (n - i) = 2 * (b * 2 ^ (n - 1 - i)) := by
  rw [show n - i = n - 1 - i + 1 by omega, Nat.pow_succ, Nat.mul_comm _ 2, Nat.mul_left_comm]
theorem Taken.skip {a b i q r : Nat} (h : Taken a b i q r) (hl : r < b * 2 ^ (parts a b - 1 - i)) : Taken a b (i + 1) q r :=
  ⟨h.whole, by rw [show parts a b - (i + 1) = parts a b - 1 - i by omega]; exact hl⟩
theorem Taken.take {a b i q r : Nat} (h : Taken a b i q r) (hi : i < parts a b) (hl : ¬ r < b * 2 ^ (parts a b - 1 - i)) :
    Taken a b (i + 1) (q + 2 ^ (parts a b - 1 - i)) (r - b * 2 ^ (parts a b - 1 - i)) := by
  have e := h.left
  rw [pow_pred _ _ hi] at e
  have w := h.whole
  refine ⟨?_, ?_⟩
  · rw [Nat.add_mul, Nat.mul_comm (2 ^ _) b]; omega
  · rw [show parts a b - (i + 1) = parts a b - 1 - i by omega]; omega
theorem Taken.r_lt {a b i q r : Nat} (h : Taken a b i q r) (ha : a < M128) : r < M128 := by have := h.whole; omega
theorem Taken.q_lt {a b i q r : Nat} (h : Taken a b i q r) (ha : a < M128) (h0 : b ≠ 0) : q < M128 := by
  have := h.whole
  have : q ≤ q * b := Nat.le_mul_of_pos_right q (Nat.pos_of_ne_zero h0)
  omega
theorem Taken.end {a b q r : Nat} (h : a = q * b + r) (hr : r < b) : q = a / b ∧ r = a % b := by
  subst h
  have hb : 0 < b := by omega
  rw [Nat.mul_comm]
  exact ⟨by rw [Nat.mul_add_div hb, Nat.div_eq_of_lt hr]; omega, by rw [Nat.mul_add_mod, Nat.mod_eq_of_lt hr]⟩
theorem Taken.last {a b q r : Nat} (h : Taken a b (parts a b) q r) : r < b := by have := h.left; rw [Nat.sub_self] at this; omega
end Go.Proofs.Ytacnaencmbnjpaa
