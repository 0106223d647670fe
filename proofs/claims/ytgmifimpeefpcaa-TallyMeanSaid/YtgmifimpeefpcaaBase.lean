/- '==' of two wide numbers, as one Bool. -/
import Derived.Test.YtgmifimpeefpcaaGen
import Derived.Test.YtgmifimpeefpcaaNum
import Derived.Lib.Mul64
import Derived.Laws.Bits64b
import Derived.Shelf.Spec.BitsCarry

/- A power of two by a shift, and sums of words that fit. -/
namespace Go.Proofs.Ytgmifimpeefpcaa
open Go.RowKit

theorem shl1 (k : Nat) (h : k < 64) : IntKind.u64.wrap (2 ^ k) = ((2 ^ k : Nat) : Int) := by
  have : 2 ^ k < B64 := by rw [B64_pow]; exact Nat.pow_lt_pow_right (by omega) h
  unfold B64 at this
  rw [IntKind.wrap_u64]
  have e : ((2 ^ k : Nat) : Int) = (2 : Int) ^ k := by simp
  rw [← e]
  clear e
  generalize 2 ^ k = P at *
  omega
theorem wrap_add (x y : Nat) (h : x + y < B64) : IntKind.u64.wrap ((x : Int) + (y : Int)) = ((x + y : Nat) : Int) := by
  unfold B64 at h; rw [IntKind.wrap_u64]; omega
end Go.Proofs.Ytgmifimpeefpcaa

/- '==' of two wide numbers, as one Bool. -/
namespace Go.Proofs.Ytgmifimpeefpcaa
open Go.RowKit
theorem words_ne (p a q b : Nat) (h : ¬ (p = a ∧ q = b)) : (((p : Int) == (a : Int)) = false) ∨ (((p : Int) == (a : Int)) = true ∧ ((q : Int) == (b : Int)) = false) := by
  rw [beqN, beqN]
  by_cases c : p = a
  · exact .inr ⟨decide_eq_true c, decide_eq_false fun d => h ⟨c, d⟩⟩
  · exact .inl (decide_eq_false c)
theorem eqWords (p q a b : Nat) (w : World) : (Op.equalIn 10000 36 (.agg #[.int .u64 (p : Nat), .int .u64 (q : Nat)]) (.agg #[.int .u64 (a : Nat), .int .u64 (b : Nat)])).run Try.prog w = .ok (decide (p = a ∧ q = b)) w := by
  by_cases h : p = a ∧ q = b
  · rw [decide_eq_true h]
    obtain ⟨rfl, rfl⟩ := h
    go_simp
  · rw [decide_eq_false h]
    rcases words_ne p a q b h with c | ⟨c, d⟩
    all_goals go_simp
theorem eqWide (n m : Nat) (w : World) : (Op.equalIn 10000 36 (.agg #[.int .u64 (hi n : Nat), .int .u64 (lo n : Nat)]) (.agg #[.int .u64 (hi m : Nat), .int .u64 (lo m : Nat)])).run Try.prog w = .ok (decide (n = m)) w := by
  rw [eqWords]
  congr 1
  exact decide_eq_decide.2 ⟨fun h => hi_lo_ext _ _ h.1 h.2, fun h => by rw [h]; exact ⟨rfl, rfl⟩⟩
theorem eqZero (n : Nat) (w : World) : (Op.equalIn 10000 36 (.agg #[.int .u64 (hi n : Nat), .int .u64 (lo n : Nat)]) (.agg #[.int .u64 0, .int .u64 0])).run Try.prog w = .ok (decide (n = 0)) w := eqWide n 0 w
end Go.Proofs.Ytgmifimpeefpcaa
