/- math/bits.Sub64. -/
import Derived.Test.YtgmifimpeefpcaaBase
namespace Go.Proofs.Ytgmifimpeefpcaa
open Go.RowKit

theorem sub64 (x y c : Nat) (hc : c ≤ 1) (w : World) :
    (callFunc 41 #[.int .u64 x, .int .u64 y, .int .u64 c]).run Try.prog w = .ok (.value (.tuple #[.int .u64 (sS x y c : Nat), .int .u64 (sB x y c : Nat)])) w := by
  rw [run_callFunc_extern Try.func41 (by kernel_rfl) (by kernel_rfl) (by kernel_rfl) (e := sub64Entry) (by kernel_rfl), run_sub64 x y c hc]
  rfl
theorem sub64_0 (x y : Nat) (w : World) :
    (callFunc 41 #[.int .u64 x, .int .u64 y, .int .u64 0]).run Try.prog w = .ok (.value (.tuple #[.int .u64 (sS x y 0 : Nat), .int .u64 (sB x y 0 : Nat)])) w := sub64 x y 0 (by omega) w
end Go.Proofs.Ytgmifimpeefpcaa
