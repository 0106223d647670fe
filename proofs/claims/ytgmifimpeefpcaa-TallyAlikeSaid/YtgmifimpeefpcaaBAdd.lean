/- math/bits.Add64. -/
import Derived.Test.YtgmifimpeefpcaaBase
namespace Go.Proofs.Ytgmifimpeefpcaa
open Go.RowKit

theorem add64 (x y c : Nat) (hc : c ≤ 1) (w : World) :
    (callFunc 40 #[.int .u64 x, .int .u64 y, .int .u64 c]).run Try.prog w = .ok (.value (.tuple #[.int .u64 (aS x y c : Nat), .int .u64 (aC x y c : Nat)])) w := by
  rw [run_callFunc_extern Try.func40 (by kernel_rfl) (by kernel_rfl) (by kernel_rfl) (e := add64Entry) (by kernel_rfl), run_add64 x y c (by omega) (by omega) (by omega) (by omega)]
  simp only [Result.andThen, aS, aC]
  congr 5 <;> omega
theorem add64_0 (x y : Nat) (w : World) :
    (callFunc 40 #[.int .u64 x, .int .u64 y, .int .u64 0]).run Try.prog w = .ok (.value (.tuple #[.int .u64 (aS x y 0 : Nat), .int .u64 (aC x y 0 : Nat)])) w := add64 x y 0 (by omega) w
end Go.Proofs.Ytgmifimpeefpcaa
