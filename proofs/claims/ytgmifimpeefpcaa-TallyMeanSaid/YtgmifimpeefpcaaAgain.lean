/- Any argument of a law read again behind the call. -/
import Derived.Test.YtgmifimpeefpcaaFrame
import Derived.Carry
import Derived.Deep.Slices
import Derived.Deep.Fields
import Derived.ChangeMaps5
import Derived.Lib.SmallJoins
namespace Go.Proofs.Ytgmifimpeefpcaa
open Go.RowKit Go.ChangeShapes Go.WideShapes Go.Deep Go.Joins

set_option maxRecDepth 100000
theorem laidOut : laidOutB Try.prog = true := by kernel_rfl
/-- Any argument reads behind the call as it read before. -/
theorem again {H : Type} {enc : TypeId × Value → H} {t : TypeId} (hr : (Try.prog).readableRec t = true) (hrow : t < (Try.prog).types.size) {W W' : World} {v : Value} {d : DataW H} {ps : List MemPlace}
    (h : DataW.Trod enc Try.prog W 0 (fun _ => true) true t v d ps) (hb : Below W.heap.size W W') (hlt : ∀ x ∈ ps, x.block < W.heap.size) :
    DataW.Trod enc Try.prog W' 0 (fun b => decide (b < W.heap.size)) true t v d ps := Below.trod laidOut hr hrow h hb hlt
end Go.Proofs.Ytgmifimpeefpcaa
