/- Plain numbers: what is left, again and again, and what divides two numbers. No Go in sight. -/
import Derived.Test.YtjnebbjjabnipaaNum
namespace Go.Proofs.Ytjnebbjjabnipaa

/-- Two neighbours in the row of what is left: first a and b, then b and what is left of a, and so on. -/
def eu (a b : Nat) : Nat → Nat × Nat
  | 0 => (a, b)
  | i + 1 => ((eu a b i).2, (eu a b i).1 % (eu a b i).2)
theorem eu_succ (a b : Nat) : ∀ i, eu a b (i + 1) = eu b (a % b) i
  | 0 => rfl
  | i + 1 => by
    show ((eu a b (i + 1)).2, (eu a b (i + 1)).1 % (eu a b (i + 1)).2) = _
    rw [eu_succ a b i]; rfl
theorem eu_gcd (a b : Nat) : ∀ i, Nat.gcd (eu a b i).1 (eu a b i).2 = Nat.gcd a b
  | 0 => rfl
  | i + 1 => by
    show Nat.gcd (eu a b i).2 ((eu a b i).1 % (eu a b i).2) = _
    rw [← eu_gcd a b i, Nat.gcd_comm (eu a b i).2 ((eu a b i).1 % (eu a b i).2), ← Nat.gcd_rec, Nat.gcd_comm]
theorem eu_lt (a b : Nat) (ha : a < M128) (hb : b < M128) : ∀ i, (eu a b i).1 < M128 ∧ (eu a b i).2 < M128
  | 0 => ⟨ha, hb⟩
  | i + 1 => ⟨(eu_lt a b ha hb i).2, Nat.lt_of_le_of_lt (Nat.mod_le _ _) (eu_lt a b ha hb i).1⟩
/-- It comes to an end. -/
theorem eu_ends : ∀ (b a : Nat), ∃ N, (eu a b N).2 = 0 ∧ ∀ i, i < N → (eu a b i).2 ≠ 0 := by
  intro b
  induction b using Nat.strongRecOn with
  | _ b ih =>
    intro a
    by_cases c : b = 0
    · exact ⟨0, c, fun i h => by omega⟩
    · obtain ⟨N, h1, h2⟩ := ih (a % b) (Nat.mod_lt _ (Nat.pos_of_ne_zero c)) b
      refine ⟨N + 1, by rw [eu_succ]; exact h1, fun i hi => ?_⟩
      cases i with
      | zero => exact c
      | succ j => rw [eu_succ]; exact h2 j (by omega)
theorem eu_last (a b N : Nat) (h : (eu a b N).2 = 0) : (eu a b N).1 = Nat.gcd a b := by
  rw [← eu_gcd a b N, h, Nat.gcd_zero_right]
theorem gcd_lt (a b : Nat) (ha : a < M128) (hb : b < M128) : Nat.gcd a b < M128 := by
  obtain ⟨N, h1, _⟩ := eu_ends b a
  rw [← eu_last a b N h1]; exact (eu_lt a b ha hb N).1
end Go.Proofs.Ytjnebbjjabnipaa
