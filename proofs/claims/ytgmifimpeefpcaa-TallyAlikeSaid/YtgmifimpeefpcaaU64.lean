/- Words that fit. -/
import Derived.RowKit
import Derived.IntWalk
namespace Go.Proofs.Ytgmifimpeefpcaa
open Go.RowKit

theorem u64_low (z : Int) (h : 0 ≤ z) (h2 : z < 18446744073709551616) : IntKind.u64.wrap z = z := by
  simp only [IntKind.wrap, IntKind.signed, IntKind.bits]
  simp
  omega
end Go.Proofs.Ytgmifimpeefpcaa
