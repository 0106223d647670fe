/- What a law's walk leans on: a wide number in a block of the call's own stays there; and how a law over wide numbers becomes the statement. -/
import Derived.Test.YtgmifimpeefpcaaGen
import Derived.ProofKit
import Derived.OpenShut
import Derived.Lib.SmallJoins
namespace Go.Proofs.Ytgmifimpeefpcaa
open Go.RowKit Go.ChangeShapes Go.WideShapes Go.ChangeAt Go.Joins

theorem keep2 {W w1 : World} (hb : Below W.heap.size W w1) {b : Nat} {x y : Value} (h : b < W.heap.size) (hc : W.cell? ⟨b, 0, none⟩ = some x ∧ W.cell? ⟨b, 1, none⟩ = some y) : b < w1.heap.size ∧ w1.cell? ⟨b, 0, none⟩ = some x ∧ w1.cell? ⟨b, 1, none⟩ = some y :=
  ⟨Nat.lt_of_lt_of_le h hb.size, (hb.cell (p := ⟨b, 0, none⟩) h).trans hc.1, (hb.cell (p := ⟨b, 1, none⟩) h).trans hc.2⟩

/-- A law's last step, where the world behind the call is known to be as it was below its own blocks. -/
theorem lawPost {H : Type} {enc : TypeId × Value → H} {P : Program} {f : Func} {s : ChangeSpec} {apart fresh handsOn : Bool} {W W' : World} {args : Array Value} {v : Value} {ds gs : List (DataW H)} {before : List MemPlace} (pa pv : List MemPlace)
    (hW : DataW.Whole enc P f.params.toList s.vars apart W args.toList ds gs before)
    (hres : DataW.TrodAll enc P W' (match fresh with | true => W.heap.size | false => 0) (fun _ => false) handsOn f.resultTypes.toList (v.resultList f.resultTypes.size) (s.fn H (ds ++ gs)).results [])
    (hargs : DataW.TrodAll enc P W' 0 (fun b => decide (b < W.heap.size)) true f.params.toList args.toList (s.fn H (ds ++ gs)).args pa)
    (hvars : DataW.TrodVars enc P W' (fun b => decide (b < W.heap.size)) s.vars (s.fn H (ds ++ gs)).vars pv)
    (hb : Below W.heap.size W W') : s.post enc P f apart fresh handsOn false W args v W' :=
  ⟨ds, gs, before, [], pa, pv, hW, hres, hargs, hvars, hb.frame _, fun h => by cases h⟩

theorem own : ownKnob Try.prog.godebug = none := by kernel_rfl
end Go.Proofs.Ytgmifimpeefpcaa
