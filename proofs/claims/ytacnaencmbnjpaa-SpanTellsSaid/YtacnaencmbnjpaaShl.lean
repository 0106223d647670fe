/- A power of two by a shift, and sums of words that fit. -/
import Derived.Test.YtacnaencmbnjpaaBase
import Derived.Test.YtacnaencmbnjpaaNum3
namespace Go.Proofs.Ytacnaencmbnjpaa
open Go.RowKit

theorem shl1 (k : Nat) (h : k < 64) : IntKind.u64.wrap (2 ^ k) = ((2 ^ k : Nat) : Int) := by
  have : 2 ^ k < B64 := by rw [B64_pow]; exact Nat.pow_lt_pow_right (by omega) h
  unfold B64 at this
  rw [IntKind.wrap_u64]
  have e : ((2 ^ k : Nat) : Int) = (2 : Int) ^ k := by simp
  rw [← e]
  clear e
  generalize 2 ^ k = P at *
  omega
theorem wrap_add (x y : Nat) (h : x + y < B64) : IntKind.u64.wrap ((x : Int) + (y : Int)) = ((x + y : Nat) : Int) := by
  unfold B64 at h; rw [IntKind.wrap_u64]; omega
end Go.Proofs.Ytacnaencmbnjpaa
