/- '==' of two wide numbers, as one Bool. -/
import Derived.Test.YtacnaencmbnjpaaBase
namespace Go.Proofs.Ytacnaencmbnjpaa
open Go.RowKit
theorem words_ne (p a q b : Nat) (h : ¬ (p = a ∧ q = b)) : (((p : Int) == (a : Int)) = false) ∨ (((p : Int) == (a : Int)) = true ∧ ((q : Int) == (b : Int)) = false) := by
  rw [beqN, beqN]
  by_cases c : p = a
  · exact .inr ⟨decide_eq_true c, decide_eq_false fun d => h ⟨c, d⟩⟩
  · exact .inl (decide_eq_false c)
theorem eqWords (p q a b : Nat) (w : World) : (Op.equalIn 10000 55 (.agg #[.int .u64 (p : Nat), .int .u64 (q : Nat)]) (.agg #[.int .u64 (a : Nat), .int .u64 (b : Nat)])).run Try.prog w = .ok (decide (p = a ∧ q = b)) w := by
  by_cases h : p = a ∧ q = b
  · rw [decide_eq_true h]
    obtain ⟨rfl, rfl⟩ := h
    go_simp
  · rw [decide_eq_false h]
    rcases words_ne p a q b h with c | ⟨c, d⟩
    all_goals go_simp
theorem eqWide (n m : Nat) (w : World) : (Op.equalIn 10000 55 (.agg #[.int .u64 (hi n : Nat), .int .u64 (lo n : Nat)]) (.agg #[.int .u64 (hi m : Nat), .int .u64 (lo m : Nat)])).run Try.prog w = .ok (decide (n = m)) w := by
  rw [eqWords]
  congr 1
  exact decide_eq_decide.2 ⟨fun h => hi_lo_ext _ _ h.1 h.2, fun h => by rw [h]; exact ⟨rfl, rfl⟩⟩
theorem eqZero (n : Nat) (w : World) : (Op.equalIn 10000 55 (.agg #[.int .u64 (hi n : Nat), .int .u64 (lo n : Nat)]) (.agg #[.int .u64 0, .int .u64 0])).run Try.prog w = .ok (decide (n = 0)) w := eqWide n 0 w
end Go.Proofs.Ytacnaencmbnjpaa
