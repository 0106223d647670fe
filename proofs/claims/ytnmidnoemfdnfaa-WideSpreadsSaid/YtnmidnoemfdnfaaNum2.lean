/- Plain numbers: products of wide numbers in the other order, spread over sums, and when they go round. -/
import Derived.Test.YtnmidnoemfdnfaaNum
namespace Go.Proofs.Ytnmidnoemfdnfaa

/-! ### The order of factors, and sums -/
theorem mulW_comm (a b : Nat) : mulW a b = mulW b a := by unfold mulW; rw [Nat.mul_comm]
theorem mulO_comm (a b : Nat) : mulO a b = mulO b a := by unfold mulO; rw [Nat.mul_comm]
theorem mulW_spread (a b c : Nat) : addW (mulW a b) (mulW a c) = mulW a (addW b c) := by
  unfold addW mulW
  rw [Nat.mul_mod_mod, Nat.mul_add, ← Nat.add_mod]
theorem mulW_one (a : Nat) (ha : a < M128) : mulW a 1 = a := by
  unfold M128 at ha; unfold mulW; rw [Nat.mul_one, Nat.mod_eq_of_lt ha]
theorem mulO_one (a : Nat) (ha : a < M128) : mulO a 1 = false := by
  unfold M128 at ha; unfold mulO; rw [Nat.mul_one]; simp; omega
theorem neZero (n : Nat) : (((n : Nat) : Int) != 0) = decide (n ≠ 0) := by
  by_cases h : n = 0 <;> simp [h]
theorem eqZero (n : Nat) : (((n : Nat) : Int) == 0) = decide (n = 0) := by
  by_cases h : n = 0 <;> simp [h]
theorem mulW_low (a b : Nat) (p : ((hi a : Int) != 0) = false) (q : ((hi b : Int) != 0) = false) : mulW a b = lo a * lo b := by
  rw [neZero] at p q
  simp only [ne_eq, decide_eq_false_iff_not, Decidable.not_not] at p q
  have h1 := vw_hi_lo a
  have h2 := vw_hi_lo b
  rw [p] at h1; rw [q] at h2
  unfold vw at h1 h2
  have e1 : lo a = a := by omega
  have e2 : lo b = b := by omega
  have l1 := lo_lt a
  have l2 := lo_lt b
  have m := mul_bound (lo a) (lo b) l1 l2
  rw [e1, e2] at m ⊢
  unfold mulW
  rw [Nat.mod_eq_of_lt]
  omega
theorem mul_ways (a b : Nat) : (((hi a : Int) != 0) = false ∧ ((hi a : Int) == 0) = true ∧ ((hi b : Int) != 0) = false ∧ ((hi b : Int) == 0) = true ∧ mulO a b = false) ∨ (((hi a : Int) != 0) = true ∧ ((hi a : Int) == 0) = false ∧ ((hi b : Int) != 0) = true ∧ ((hi b : Int) == 0) = false ∧ mulO a b = true) ∨ (((hi a : Int) != 0) = true ∧ ((hi a : Int) == 0) = false ∧ ((hi b : Int) != 0) = false ∧ ((hi b : Int) == 0) = true) ∨ (((hi a : Int) != 0) = false ∧ ((hi a : Int) == 0) = true ∧ ((hi b : Int) != 0) = true ∧ ((hi b : Int) == 0) = false) := by
  by_cases p : hi a = 0 <;> by_cases q : hi b = 0
  · refine Or.inl ⟨by simp [p], by simp [p], by simp [q], by simp [q], ?_⟩
    have e := mulW_low a b (by simp [p]) (by simp [q])
    have h1 := vw_hi_lo a
    have h2 := vw_hi_lo b
    rw [p] at h1; rw [q] at h2
    unfold vw at h1 h2
    have e1 : lo a = a := by omega
    have e2 : lo b = b := by omega
    have m := mul_bound (lo a) (lo b) (lo_lt a) (lo_lt b)
    rw [e1, e2] at m
    unfold mulO
    simp only [decide_eq_false_iff_not]
    omega
  · exact Or.inr (Or.inr (Or.inr ⟨by simp [p], by simp [p], by rw [neZero]; simp [q], by rw [eqZero]; simp [q]⟩))
  · exact Or.inr (Or.inr (Or.inl ⟨by rw [neZero]; simp [p], by rw [eqZero]; simp [p], by simp [q], by simp [q]⟩))
  · refine Or.inr (Or.inl ⟨by rw [neZero]; simp [p], by rw [eqZero]; simp [p], by rw [neZero]; simp [q], by rw [eqZero]; simp [q], ?_⟩)
    have g1 : 18446744073709551616 ≤ a := by unfold hi at p; omega
    have g2 : 18446744073709551616 ≤ b := by unfold hi at q; omega
    have := Nat.mul_le_mul g1 g2
    unfold mulO
    simp only [decide_eq_true_eq]
    omega
end Go.Proofs.Ytnmidnoemfdnfaa
