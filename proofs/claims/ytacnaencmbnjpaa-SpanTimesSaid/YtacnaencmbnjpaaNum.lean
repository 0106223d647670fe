/- Plain numbers: words of 64 bits, wide numbers of 128 bits, and how sums and differences of both go together. No Go in sight. -/
import Derived.RowKit3
namespace Go.Proofs.Ytacnaencmbnjpaa

/-- 2^64 and 2^128, behind names. -/
def B64 : Nat := 18446744073709551616
def M128 : Nat := 340282366920938463463374607431768211456
/-- The two words of a wide number. -/
def hi (n : Nat) : Nat := n / 18446744073709551616
def lo (n : Nat) : Nat := n % 18446744073709551616
def vw (h l : Nat) : Nat := h * 18446744073709551616 + l
theorem hi_vw (h l : Nat) (hl : l < B64) : hi (vw h l) = h := by unfold hi vw; unfold B64 at hl; omega
theorem lo_vw (h l : Nat) (hl : l < B64) : lo (vw h l) = l := by unfold lo vw; unfold B64 at hl; omega
theorem vw_hi_lo (n : Nat) : vw (hi n) (lo n) = n := by unfold hi lo vw; omega
theorem vw_lt (h l : Nat) (hh : h < B64) (hl : l < B64) : vw h l < M128 := by unfold vw M128; unfold B64 at hh hl; omega
theorem hi_lt (n : Nat) (h : n < M128) : hi n < B64 := by unfold hi B64; unfold M128 at h; omega
theorem lo_lt (n : Nat) : lo n < B64 := by unfold lo B64; omega
theorem hi_lo_ext (a b : Nat) (h : hi a = hi b) (l : lo a = lo b) : a = b := by rw [← vw_hi_lo a, ← vw_hi_lo b, h, l]
theorem B64_eq : B64 = 18446744073709551616 := rfl
theorem M128_eq : M128 = 340282366920938463463374607431768211456 := rfl

/-- Add64, Sub64: the word, and what is carried. -/
def aS (x y c : Nat) : Nat := (x + y + c) % 18446744073709551616
def aC (x y c : Nat) : Nat := (x + y + c) / 18446744073709551616
def sS (x y c : Nat) : Nat := (x + 18446744073709551616 - y - c) % 18446744073709551616
def sB (x y c : Nat) : Nat := if x < y + c then 1 else 0
theorem aC_le (x y c : Nat) (hx : x < B64) (hy : y < B64) (hc : c ≤ 1) : aC x y c ≤ 1 := by
  unfold B64 at hx hy; unfold aC; omega
theorem sB_le (x y c : Nat) : sB x y c ≤ 1 := by unfold sB; split <;> omega

/-- Wide sums and differences. -/
def addW (a b : Nat) : Nat := (a + b) % 340282366920938463463374607431768211456
def addO (a b : Nat) : Bool := decide (340282366920938463463374607431768211456 ≤ a + b)
def subW (a b : Nat) : Nat := (a + 340282366920938463463374607431768211456 - b) % 340282366920938463463374607431768211456
def ltW (a b : Nat) : Bool := decide (a < b)
theorem addW_lt (a b : Nat) : addW a b < M128 := by unfold addW M128; omega
theorem subW_lt (a b : Nat) : subW a b < M128 := by unfold subW M128; omega
theorem addW_hi (a b : Nat) : aS (hi a) (hi b) (aC (lo a) (lo b) 0) = hi (addW a b) := by
  unfold aS aC hi lo addW; omega
theorem addW_lo (a b : Nat) : aS (lo a) (lo b) 0 = lo (addW a b) := by unfold aS lo addW; omega
theorem addW_o (a b : Nat) : ((aC (hi a) (hi b) (aC (lo a) (lo b) 0) : Int) != 0) = addO a b := by
  have h : (aC (hi a) (hi b) (aC (lo a) (lo b) 0) = 0) ↔ ¬ (340282366920938463463374607431768211456 ≤ a + b) := by
    unfold aC hi lo; omega
  unfold addO
  by_cases c : 340282366920938463463374607431768211456 ≤ a + b
  · have : aC (hi a) (hi b) (aC (lo a) (lo b) 0) ≠ 0 := fun e => h.1 e c
    simp [c]; omega
  · have : aC (hi a) (hi b) (aC (lo a) (lo b) 0) = 0 := h.2 c
    simp [c, this]
theorem subW_lo (a b : Nat) (ha : a < M128) (hb : b < M128) : sS (lo a) (lo b) 0 = lo (subW a b) := by
  unfold M128 at ha hb; unfold sS lo subW; omega
theorem subW_hi (a b : Nat) (ha : a < M128) (hb : b < M128) : sS (hi a) (hi b) (sB (lo a) (lo b) 0) = hi (subW a b) := by
  unfold M128 at ha hb; unfold sS sB hi lo subW; split <;> omega
theorem subW_o (a b : Nat) : ((sB (hi a) (hi b) (sB (lo a) (lo b) 0) : Int) != 0) = ltW a b := by
  have h : (sB (hi a) (hi b) (sB (lo a) (lo b) 0) = 0) ↔ ¬ (a < b) := by
    unfold sB hi lo; split <;> (try split) <;> omega
  unfold ltW
  by_cases c : a < b
  · have : sB (hi a) (hi b) (sB (lo a) (lo b) 0) ≠ 0 := fun e => h.1 e c
    simp [c]; omega
  · have : sB (hi a) (hi b) (sB (lo a) (lo b) 0) = 0 := h.2 c
    simp [c, this]

/-! ### What is added and taken away again -/
theorem subW_addW (a b : Nat) (ha : a < M128) (hb : b < M128) : subW (addW a b) b = a := by unfold M128 at ha hb; unfold subW addW; omega
theorem addW_subW (a b : Nat) (ha : a < M128) (hb : b < M128) : addW (subW a b) b = a := by unfold M128 at ha hb; unfold subW addW; omega
theorem ltW_addW (a b : Nat) (ha : a < M128) (hb : b < M128) : ltW (addW a b) b = addO a b := by
  unfold M128 at ha hb; unfold ltW addW addO; rw [decide_eq_decide]; omega
theorem ltW_addW' (a b : Nat) (ha : a < M128) (hb : b < M128) : ltW (addW a b) a = addO a b := by
  unfold M128 at ha hb; unfold ltW addW addO; rw [decide_eq_decide]; omega
theorem addO_subW (a b : Nat) (ha : a < M128) (hb : b < M128) : addO (subW a b) b = ltW a b := by
  unfold M128 at ha hb; unfold ltW subW addO; rw [decide_eq_decide]; omega
theorem beqN (a b : Nat) : (((a : Nat) : Int) == ((b : Nat) : Int)) = decide (a = b) := by
  by_cases h : a = b
  · simp [h]
  · simp [h]; omega
theorem ltW_ways (a b : Nat) : (((hi a : Int) == (hi b : Int)) = true ∧ ((lo a : Int) == (lo b : Int)) = true ∧ ltW a b = false ∧ ltW b a = false) ∨ (((hi a : Int) == (hi b : Int)) = false ∧ ltW a b = true ∧ ltW b a = false) ∨ (((hi a : Int) == (hi b : Int)) = false ∧ ltW a b = false ∧ ltW b a = true) ∨ (((hi a : Int) == (hi b : Int)) = true ∧ ((lo a : Int) == (lo b : Int)) = false ∧ ltW a b = true ∧ ltW b a = false) ∨ (((hi a : Int) == (hi b : Int)) = true ∧ ((lo a : Int) == (lo b : Int)) = false ∧ ltW a b = false ∧ ltW b a = true) := by
  rw [beqN, beqN]
  unfold ltW
  simp only [decide_eq_true_eq, decide_eq_false_iff_not]
  have h1 := vw_hi_lo a
  have h2 := vw_hi_lo b
  unfold vw at h1 h2
  have h3 := lo_lt a
  have h4 := lo_lt b
  unfold B64 at h3 h4
  omega

/-! ### Products -/
theorem mul_bound (x y : Nat) (hx : x < B64) (hy : y < B64) : x * y ≤ 340282366920938463426481119284349108225 := by
  unfold B64 at hx hy
  have h := Nat.mul_le_mul (show x ≤ 18446744073709551615 by omega) (show y ≤ 18446744073709551615 by omega)
  omega
theorem mulAdd_nums (x y p q : Nat) (hx : x < B64) (hy : y < B64) (hp : p < B64) (hq : q < B64) :
    hi (x * y) + aC (lo (x * y)) p 0 < B64 ∧ hi (x * y) + aC (lo (x * y)) p 0 + aC (aS (lo (x * y)) p 0) q 0 < B64 ∧
    aS (aS (lo (x * y)) p 0) q 0 = lo (x * y + p + q) ∧ hi (x * y) + aC (lo (x * y)) p 0 + aC (aS (lo (x * y)) p 0) q 0 = hi (x * y + p + q) := by
  have h := mul_bound x y hx hy
  unfold B64 at *
  unfold hi lo aC aS
  generalize x * y = m at *
  omega
def mulW (a b : Nat) : Nat := (a * b) % 340282366920938463463374607431768211456
def mulO (a b : Nat) : Bool := decide (340282366920938463463374607431768211456 ≤ a * b)
theorem mulW_lt (a b : Nat) : mulW a b < M128 := by unfold mulW M128; exact Nat.mod_lt _ (by omega)
theorem mulAdd_hi_lt (x y p q : Nat) (hx : x < B64) (hy : y < B64) (hp : p < B64) (hq : q < B64) : hi (x * y + p + q) < B64 := by
  have h := mul_bound x y hx hy
  unfold B64 at *
  unfold hi
  omega
/-- The school method by two words each is the product. -/
theorem times_nums (a b : Nat) :
    lo (hi a * lo b + lo (lo a * hi b + 0 + hi (lo a * lo b + 0 + 0)) + 0) = hi (mulW a b) ∧ lo (lo a * lo b + 0 + 0) = lo (mulW a b) ∧
    ((((lo (hi a * hi b + hi (lo a * hi b + 0 + hi (lo a * lo b + 0 + 0)) + hi (hi a * lo b + lo (lo a * hi b + 0 + hi (lo a * lo b + 0 + 0)) + 0)) : Nat) : Int) != 0) || (((hi (hi a * hi b + hi (lo a * hi b + 0 + hi (lo a * lo b + 0 + 0)) + hi (hi a * lo b + lo (lo a * hi b + 0 + hi (lo a * lo b + 0 + 0)) + 0)) : Nat) : Int) != 0)) = mulO a b := by
  have e : a * b = hi a * hi b * 340282366920938463463374607431768211456 + (hi a * lo b + lo a * hi b) * 18446744073709551616 + lo a * lo b := by
    conv => lhs; rw [← vw_hi_lo a, ← vw_hi_lo b]
    unfold vw
    generalize hi a = ah; generalize lo a = al; generalize hi b = bh; generalize lo b = bl
    rw [Nat.add_mul, Nat.mul_add, Nat.mul_add, Nat.add_mul]
    have e1 : ah * 18446744073709551616 * (bh * 18446744073709551616) = ah * bh * 340282366920938463463374607431768211456 := by
      rw [Nat.mul_mul_mul_comm]
    have e2 : ah * 18446744073709551616 * bl = ah * bl * 18446744073709551616 := by rw [Nat.mul_right_comm]
    have e3 : al * (bh * 18446744073709551616) = al * bh * 18446744073709551616 := by rw [Nat.mul_assoc]
    rw [e1, e2, e3]
    omega
  unfold mulW mulO
  rw [e]
  generalize hi a * hi b = A
  generalize hi a * lo b = B
  generalize lo a * hi b = C
  generalize lo a * lo b = D
  refine ⟨?_, ?_, ?_⟩
  · unfold hi lo; omega
  · unfold lo; omega
  · have h : ∀ x y : Nat, ((((x : Nat) : Int) != 0) || (((y : Nat) : Int) != 0)) = decide (x ≠ 0 ∨ y ≠ 0) := by
      intro x y
      by_cases hx : x = 0 <;> by_cases hy : y = 0 <;> simp [hx, hy]
    rw [h, decide_eq_decide]
    unfold hi lo
    omega
end Go.Proofs.Ytacnaencmbnjpaa
