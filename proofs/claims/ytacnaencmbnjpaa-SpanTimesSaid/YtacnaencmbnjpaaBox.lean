/- Boxes beside a range over parts. -/
import Derived.Test.YtacnaencmbnjpaaParts
namespace Go.Proofs.Ytacnaencmbnjpaa
open Go.RowKit
theorem noDepth {m : Nat} (h : Fence.wide.depth.isSome = true) : 1 ≤ m := by simp [Fence.wide] at h
end Go.Proofs.Ytacnaencmbnjpaa
