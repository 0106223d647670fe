/-
  No cell of these rows narrows 'for every input' (looked for: loops, veiled, ifaces, maps, wideKeys, modest, calm, conditions, laid).
  DERIVED. THE GIVEN ROWS OF THIS SEAT. 4 by the template 'for every input the law returns true; each argument reads behind the call as it read before'; 0 by the template 'total and deterministic' (their statements: YtnpgofkdfckioaaTotals.lean).
  GIVEN WITH THE SEED: the statements are not yours to turn. If you find one false, say at which input.
  Laid BY PROGRAM, IN A SANDBOX (cutbox-rows.mjs): the forced cells as the released guide's own fill.sh prints them over the translation 3da672804547ebb0… (all of the seat's roots in one cut). By AI agents, Wed Nov 11 2026. No macro, syntax, notation, axiom, sorry.
-/
import Derived.Test.YtnpgofkdfckioaaChecked
import GoSem.Claim
import GoSem.ClaimJoined
import GoSem.ClaimMapViews
import Derived.JoinedTies
import Derived.KernelRfl
namespace Go.Proofs.Ytnpgofkdfckioaa
/- THE CELL 'sum', in the pinned program and in every row, IS THE sha256 OF THE DUMP (.gsa) THAT YtnpgofkdfckioaaProg.lean LOADS. Nothing in Lean hashes anything: it is a label: what it is worth is what the hold of that sum in a sandbox is worth. -/
noncomputable def Try.pinned : Pinned := { name := "ytnpgofkdfckioaa", sum := "3da672804547ebb0b43bda544e2f7d446d5687f6f6f460d95b2af8bb6ea0cef8", checked := Try.checked }
namespace Rows
def none {H : Type} : Left H := { results := [], args := [] }

/-- 'datumlaw10.CollectAdds': WHATEVER THE INPUT: true; the input reads as it did. -/
def collectAddsSpec : ChangeSpec := { name := "collectAdds", fn := fun _ => fun
  | [d1, d2, d3, d4, d5] => { results := [.lit (.bool true)], args := [d1, d2, d3, d4, d5] }
  | _ => none }
def collectAddsRow : OpenClaim := { program := "ytnpgofkdfckioaa", sum := "3da672804547ebb0b43bda544e2f7d446d5687f6f6f460d95b2af8bb6ea0cef8", func := "datum/datumlaw10.CollectAdds", spec := "collectAdds", unfollowed := true, recurses := true, apart := false }
def CollectAddsSaid : Prop := collectAddsRow.holds Try.pinned (OpenSpec.ofChange collectAddsSpec)

/-- ITS FALSE NEIGHBOUR: 'it returns false'. Refute it at one input. -/
def collectAddsWrong : ChangeSpec := { name := "collectAdds", fn := fun _ => fun
  | [d1, d2, d3, d4, d5] => { results := [.lit (.bool false)], args := [d1, d2, d3, d4, d5] }
  | _ => none }
def CollectAddsWrongFalsely : Prop := collectAddsRow.holds Try.pinned (OpenSpec.ofChange collectAddsWrong)

/-- 'datumlaw10.CollectFeeds': WHATEVER THE INPUT: true; the input reads as it did. -/
def collectFeedsSpec : ChangeSpec := { name := "collectFeeds", fn := fun _ => fun
  | [d1, d2] => { results := [.lit (.bool true)], args := [d1, d2] }
  | _ => none }
def collectFeedsRow : OpenClaim := { program := "ytnpgofkdfckioaa", sum := "3da672804547ebb0b43bda544e2f7d446d5687f6f6f460d95b2af8bb6ea0cef8", func := "datum/datumlaw10.CollectFeeds", spec := "collectFeeds", unfollowed := true, recurses := true, apart := false }
def CollectFeedsSaid : Prop := collectFeedsRow.holds Try.pinned (OpenSpec.ofChange collectFeedsSpec)

/-- ITS FALSE NEIGHBOUR: 'it returns false'. Refute it at one input. -/
def collectFeedsWrong : ChangeSpec := { name := "collectFeeds", fn := fun _ => fun
  | [d1, d2] => { results := [.lit (.bool false)], args := [d1, d2] }
  | _ => none }
def CollectFeedsWrongFalsely : Prop := collectFeedsRow.holds Try.pinned (OpenSpec.ofChange collectFeedsWrong)

/-- 'datumlaw10.CollectWhole': WHATEVER THE INPUT: true; the input reads as it did. -/
def collectWholeSpec : ChangeSpec := { name := "collectWhole", fn := fun _ => fun
  | [d1, d2] => { results := [.lit (.bool true)], args := [d1, d2] }
  | _ => none }
def collectWholeRow : OpenClaim := { program := "ytnpgofkdfckioaa", sum := "3da672804547ebb0b43bda544e2f7d446d5687f6f6f460d95b2af8bb6ea0cef8", func := "datum/datumlaw10.CollectWhole", spec := "collectWhole", unfollowed := true, recurses := true, apart := false }
def CollectWholeSaid : Prop := collectWholeRow.holds Try.pinned (OpenSpec.ofChange collectWholeSpec)

/-- ITS FALSE NEIGHBOUR: 'it returns false'. Refute it at one input. -/
def collectWholeWrong : ChangeSpec := { name := "collectWhole", fn := fun _ => fun
  | [d1, d2] => { results := [.lit (.bool false)], args := [d1, d2] }
  | _ => none }
def CollectWholeWrongFalsely : Prop := collectWholeRow.holds Try.pinned (OpenSpec.ofChange collectWholeWrong)

/-- 'datumlaw10.CollectParts': WHATEVER THE INPUT: true; the input reads as it did. -/
def collectPartsSpec : ChangeSpec := { name := "collectParts", fn := fun _ => fun
  | [d1, d2, d3] => { results := [.lit (.bool true)], args := [d1, d2, d3] }
  | _ => none }
def collectPartsRow : OpenClaim := { program := "ytnpgofkdfckioaa", sum := "3da672804547ebb0b43bda544e2f7d446d5687f6f6f460d95b2af8bb6ea0cef8", func := "datum/datumlaw10.CollectParts", spec := "collectParts", unfollowed := true, recurses := true, apart := false }
def CollectPartsSaid : Prop := collectPartsRow.holds Try.pinned (OpenSpec.ofChange collectPartsSpec)

/-- ITS FALSE NEIGHBOUR: 'it returns false'. Refute it at one input. -/
def collectPartsWrong : ChangeSpec := { name := "collectParts", fn := fun _ => fun
  | [d1, d2, d3] => { results := [.lit (.bool false)], args := [d1, d2, d3] }
  | _ => none }
def CollectPartsWrongFalsely : Prop := collectPartsRow.holds Try.pinned (OpenSpec.ofChange collectPartsWrong)

/- THE SECOND FORM. 'bulk': how many values and letters a reading holds, each counted each time it is reached (what is shared counts as often as it is met; a slice's spare places count too). A statement '..UptoSaid' is the law's where the arguments, and the package variables that the reading takes, are together of bulk at most 1048576: NARROWER than '..Said'. Prove '..Said' where nothing that the law and all that it calls make is longer than what came in: it says more and counts as full. Else prove '..UptoSaid'. A law counts once. -/
mutual
def uptoBulk {H : Type} : DataW H → Nat
  | .lit (.string bytes) => bytes.length + 1
  | .lit _ => 1
  | .nil => 1
  | .ptr d => uptoBulk d + 1
  | .slice elems spare => uptoBulkAll elems + uptoBulkAll spare + 1
  | .agg parts => uptoBulkAll parts + 1
  | .iface _ d => uptoBulk d + 1
  | .map entries => uptoBulkEntries entries + 1
  | .held _ => 1
def uptoBulkAll {H : Type} : List (DataW H) → Nat
  | [] => 0
  | d :: r => uptoBulk d + uptoBulkAll r
def uptoBulkEntries {H : Type} : List (Lit × DataW H) → Nat
  | [] => 0
  | x :: r => uptoBulkEntry x + uptoBulkEntries r
def uptoBulkEntry {H : Type} : Lit × DataW H → Nat
  | (.string bytes, d) => bytes.length + uptoBulk d + 1
  | (_, d) => uptoBulk d + 1
 end
def uptoSmall : (H : Type) → List (DataW H) → Bool := fun _ ds => decide (uptoBulkAll ds ≤ 1048576)
def OpenSpec.upto (s : _root_.Go.ChangeSpec) : _root_.Go.OpenSpec := { _root_.Go.OpenSpec.ofChange s with cond := some uptoSmall }

/-- 'datumlaw10.CollectAdds', WHERE WHAT IT READS IS OF BULK AT MOST 1048576: true; the input reads as it did. -/
def collectAddsUptoRow : OpenClaim := { program := "ytnpgofkdfckioaa", sum := "3da672804547ebb0b43bda544e2f7d446d5687f6f6f460d95b2af8bb6ea0cef8", func := "datum/datumlaw10.CollectAdds", spec := "collectAdds", unfollowed := true, recurses := true, apart := false, narrowed := true }
def CollectAddsUptoSaid : Prop := collectAddsUptoRow.holds Try.pinned (OpenSpec.upto collectAddsSpec)

/-- 'datumlaw10.CollectFeeds', WHERE WHAT IT READS IS OF BULK AT MOST 1048576: true; the input reads as it did. -/
def collectFeedsUptoRow : OpenClaim := { program := "ytnpgofkdfckioaa", sum := "3da672804547ebb0b43bda544e2f7d446d5687f6f6f460d95b2af8bb6ea0cef8", func := "datum/datumlaw10.CollectFeeds", spec := "collectFeeds", unfollowed := true, recurses := true, apart := false, narrowed := true }
def CollectFeedsUptoSaid : Prop := collectFeedsUptoRow.holds Try.pinned (OpenSpec.upto collectFeedsSpec)

/-- 'datumlaw10.CollectWhole', WHERE WHAT IT READS IS OF BULK AT MOST 1048576: true; the input reads as it did. -/
def collectWholeUptoRow : OpenClaim := { program := "ytnpgofkdfckioaa", sum := "3da672804547ebb0b43bda544e2f7d446d5687f6f6f460d95b2af8bb6ea0cef8", func := "datum/datumlaw10.CollectWhole", spec := "collectWhole", unfollowed := true, recurses := true, apart := false, narrowed := true }
def CollectWholeUptoSaid : Prop := collectWholeUptoRow.holds Try.pinned (OpenSpec.upto collectWholeSpec)

/-- 'datumlaw10.CollectParts', WHERE WHAT IT READS IS OF BULK AT MOST 1048576: true; the input reads as it did. -/
def collectPartsUptoRow : OpenClaim := { program := "ytnpgofkdfckioaa", sum := "3da672804547ebb0b43bda544e2f7d446d5687f6f6f460d95b2af8bb6ea0cef8", func := "datum/datumlaw10.CollectParts", spec := "collectParts", unfollowed := true, recurses := true, apart := false, narrowed := true }
def CollectPartsUptoSaid : Prop := collectPartsUptoRow.holds Try.pinned (OpenSpec.upto collectPartsSpec)

end Rows
end Go.Proofs.Ytnpgofkdfckioaa
