/-
  No cell of these rows narrows 'for every input' (looked for: loops, veiled, ifaces, maps, wideKeys, modest, calm, conditions, laid).
  DERIVED. THE GIVEN ROWS OF THIS SEAT. 4 by the template 'for every input the law returns true; each argument reads behind the call as it read before'; 0 by the template 'total and deterministic' (their statements: YtgmifimpeefpcaaTotals.lean).
  GIVEN WITH THE SEED: the statements are not yours to turn. If you find one false, say at which input.
  Laid BY PROGRAM, IN A SANDBOX (cutbox-rows.mjs): the forced cells as the released guide's own fill.sh prints them over the translation 918e2c3cb2209385… (all of the seat's roots in one cut). By AI agents, Wed Nov 11 2026. No macro, syntax, notation, axiom, sorry.
-/
import Derived.Test.YtgmifimpeefpcaaChecked
import GoSem.Claim
import GoSem.ClaimJoined
import GoSem.ClaimMapViews
import Derived.JoinedTies
import Derived.KernelRfl
namespace Go.Proofs.Ytgmifimpeefpcaa
/- THE CELL 'sum', in the pinned program and in every row, IS THE sha256 OF THE DUMP (.gsa) THAT YtgmifimpeefpcaaProg.lean LOADS. Nothing in Lean hashes anything: it is a label: what it is worth is what the hold of that sum in a sandbox is worth. -/
noncomputable def Try.pinned : Pinned := { name := "ytgmifimpeefpcaa", sum := "918e2c3cb220938513726f55333ceab3257ee0d0c630bd3093f89b6c99020ee2", checked := Try.checked }
namespace Rows
def none {H : Type} : Left H := { results := [], args := [] }

/-- 'datumlaw16.TallyTakes': WHATEVER THE INPUT: true; the input reads as it did. -/
def tallyTakesSpec : ChangeSpec := { name := "tallyTakes", fn := fun _ => fun
  | [d1, d2, d3, d4] => { results := [.lit (.bool true)], args := [d1, d2, d3, d4] }
  | _ => none }
def tallyTakesRow : OpenClaim := { program := "ytgmifimpeefpcaa", sum := "918e2c3cb220938513726f55333ceab3257ee0d0c630bd3093f89b6c99020ee2", func := "datum/datumlaw16.TallyTakes", spec := "tallyTakes", unfollowed := true, recurses := true, apart := false }
def TallyTakesSaid : Prop := tallyTakesRow.holds Try.pinned (OpenSpec.ofChange tallyTakesSpec)

/-- ITS FALSE NEIGHBOUR: 'it returns false'. Refute it at one input. -/
def tallyTakesWrong : ChangeSpec := { name := "tallyTakes", fn := fun _ => fun
  | [d1, d2, d3, d4] => { results := [.lit (.bool false)], args := [d1, d2, d3, d4] }
  | _ => none }
def TallyTakesWrongFalsely : Prop := tallyTakesRow.holds Try.pinned (OpenSpec.ofChange tallyTakesWrong)

/-- 'datumlaw16.TallyPoints': WHATEVER THE INPUT: true; the input reads as it did. -/
def tallyPointsSpec : ChangeSpec := { name := "tallyPoints", fn := fun _ => fun
  | [d1, d2] => { results := [.lit (.bool true)], args := [d1, d2] }
  | _ => none }
def tallyPointsRow : OpenClaim := { program := "ytgmifimpeefpcaa", sum := "918e2c3cb220938513726f55333ceab3257ee0d0c630bd3093f89b6c99020ee2", func := "datum/datumlaw16.TallyPoints", spec := "tallyPoints", unfollowed := true, recurses := true, apart := false }
def TallyPointsSaid : Prop := tallyPointsRow.holds Try.pinned (OpenSpec.ofChange tallyPointsSpec)

/-- ITS FALSE NEIGHBOUR: 'it returns false'. Refute it at one input. -/
def tallyPointsWrong : ChangeSpec := { name := "tallyPoints", fn := fun _ => fun
  | [d1, d2] => { results := [.lit (.bool false)], args := [d1, d2] }
  | _ => none }
def TallyPointsWrongFalsely : Prop := tallyPointsRow.holds Try.pinned (OpenSpec.ofChange tallyPointsWrong)

/-- 'datumlaw16.TallyMean': WHATEVER THE INPUT: true; the input reads as it did. -/
def tallyMeanSpec : ChangeSpec := { name := "tallyMean", fn := fun _ => fun
  | [d1, d2, d3, d4] => { results := [.lit (.bool true)], args := [d1, d2, d3, d4] }
  | _ => none }
def tallyMeanRow : OpenClaim := { program := "ytgmifimpeefpcaa", sum := "918e2c3cb220938513726f55333ceab3257ee0d0c630bd3093f89b6c99020ee2", func := "datum/datumlaw16.TallyMean", spec := "tallyMean", unfollowed := true, recurses := true, apart := false }
def TallyMeanSaid : Prop := tallyMeanRow.holds Try.pinned (OpenSpec.ofChange tallyMeanSpec)

/-- ITS FALSE NEIGHBOUR: 'it returns false'. Refute it at one input. -/
def tallyMeanWrong : ChangeSpec := { name := "tallyMean", fn := fun _ => fun
  | [d1, d2, d3, d4] => { results := [.lit (.bool false)], args := [d1, d2, d3, d4] }
  | _ => none }
def TallyMeanWrongFalsely : Prop := tallyMeanRow.holds Try.pinned (OpenSpec.ofChange tallyMeanWrong)

/-- 'datumlaw16.TallyAlike': WHATEVER THE INPUT: true; the input reads as it did. -/
def tallyAlikeSpec : ChangeSpec := { name := "tallyAlike", fn := fun _ => fun
  | [d1, d2, d3] => { results := [.lit (.bool true)], args := [d1, d2, d3] }
  | _ => none }
def tallyAlikeRow : OpenClaim := { program := "ytgmifimpeefpcaa", sum := "918e2c3cb220938513726f55333ceab3257ee0d0c630bd3093f89b6c99020ee2", func := "datum/datumlaw16.TallyAlike", spec := "tallyAlike", inPlace := ["math/bits.Add64", "math/bits.Sub64"], unfollowed := true, recurses := true, apart := false }
def TallyAlikeSaid : Prop := tallyAlikeRow.holds Try.pinned (OpenSpec.ofChange tallyAlikeSpec)

/-- ITS FALSE NEIGHBOUR: 'it returns false'. Refute it at one input. -/
def tallyAlikeWrong : ChangeSpec := { name := "tallyAlike", fn := fun _ => fun
  | [d1, d2, d3] => { results := [.lit (.bool false)], args := [d1, d2, d3] }
  | _ => none }
def TallyAlikeWrongFalsely : Prop := tallyAlikeRow.holds Try.pinned (OpenSpec.ofChange tallyAlikeWrong)

/- THE SECOND FORM. 'bulk': how many values and letters a reading holds, each counted each time it is reached (what is shared counts as often as it is met; a slice's spare places count too). A statement '..UptoSaid' is the law's where the arguments, and the package variables that the reading takes, are together of bulk at most 1048576: NARROWER than '..Said'. Prove '..Said' where nothing that the law and all that it calls make is longer than what came in: it says more and counts as full. Else prove '..UptoSaid'. A law counts once. -/
mutual
def uptoBulk {H : Type} : DataW H → Nat
  | .lit (.string bytes) => bytes.length + 1
  | .lit _ => 1
  | .nil => 1
  | .ptr d => uptoBulk d + 1
  | .slice elems spare => uptoBulkAll elems + uptoBulkAll spare + 1
  | .agg parts => uptoBulkAll parts + 1
  | .iface _ d => uptoBulk d + 1
  | .map entries => uptoBulkEntries entries + 1
  | .held _ => 1
def uptoBulkAll {H : Type} : List (DataW H) → Nat
  | [] => 0
  | d :: r => uptoBulk d + uptoBulkAll r
def uptoBulkEntries {H : Type} : List (Lit × DataW H) → Nat
  | [] => 0
  | x :: r => uptoBulkEntry x + uptoBulkEntries r
def uptoBulkEntry {H : Type} : Lit × DataW H → Nat
  | (.string bytes, d) => bytes.length + uptoBulk d + 1
  | (_, d) => uptoBulk d + 1
 end
def uptoSmall : (H : Type) → List (DataW H) → Bool := fun _ ds => decide (uptoBulkAll ds ≤ 1048576)
def OpenSpec.upto (s : _root_.Go.ChangeSpec) : _root_.Go.OpenSpec := { _root_.Go.OpenSpec.ofChange s with cond := some uptoSmall }

/-- 'datumlaw16.TallyTakes', WHERE WHAT IT READS IS OF BULK AT MOST 1048576: true; the input reads as it did. -/
def tallyTakesUptoRow : OpenClaim := { program := "ytgmifimpeefpcaa", sum := "918e2c3cb220938513726f55333ceab3257ee0d0c630bd3093f89b6c99020ee2", func := "datum/datumlaw16.TallyTakes", spec := "tallyTakes", unfollowed := true, recurses := true, apart := false, narrowed := true }
def TallyTakesUptoSaid : Prop := tallyTakesUptoRow.holds Try.pinned (OpenSpec.upto tallyTakesSpec)

/-- 'datumlaw16.TallyPoints', WHERE WHAT IT READS IS OF BULK AT MOST 1048576: true; the input reads as it did. -/
def tallyPointsUptoRow : OpenClaim := { program := "ytgmifimpeefpcaa", sum := "918e2c3cb220938513726f55333ceab3257ee0d0c630bd3093f89b6c99020ee2", func := "datum/datumlaw16.TallyPoints", spec := "tallyPoints", unfollowed := true, recurses := true, apart := false, narrowed := true }
def TallyPointsUptoSaid : Prop := tallyPointsUptoRow.holds Try.pinned (OpenSpec.upto tallyPointsSpec)

/-- 'datumlaw16.TallyMean', WHERE WHAT IT READS IS OF BULK AT MOST 1048576: true; the input reads as it did. -/
def tallyMeanUptoRow : OpenClaim := { program := "ytgmifimpeefpcaa", sum := "918e2c3cb220938513726f55333ceab3257ee0d0c630bd3093f89b6c99020ee2", func := "datum/datumlaw16.TallyMean", spec := "tallyMean", unfollowed := true, recurses := true, apart := false, narrowed := true }
def TallyMeanUptoSaid : Prop := tallyMeanUptoRow.holds Try.pinned (OpenSpec.upto tallyMeanSpec)

/-- 'datumlaw16.TallyAlike', WHERE WHAT IT READS IS OF BULK AT MOST 1048576: true; the input reads as it did. -/
def tallyAlikeUptoRow : OpenClaim := { program := "ytgmifimpeefpcaa", sum := "918e2c3cb220938513726f55333ceab3257ee0d0c630bd3093f89b6c99020ee2", func := "datum/datumlaw16.TallyAlike", spec := "tallyAlike", inPlace := ["math/bits.Add64", "math/bits.Sub64"], unfollowed := true, recurses := true, apart := false, narrowed := true }
def TallyAlikeUptoSaid : Prop := tallyAlikeUptoRow.holds Try.pinned (OpenSpec.upto tallyAlikeSpec)

end Rows
end Go.Proofs.Ytgmifimpeefpcaa
