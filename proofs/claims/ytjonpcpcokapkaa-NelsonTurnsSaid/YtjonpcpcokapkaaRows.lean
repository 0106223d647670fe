/-
  No cell of these rows narrows 'for every input' (looked for: loops, veiled, ifaces, maps, wideKeys, modest, calm, conditions, laid).
  DERIVED. THE GIVEN ROWS OF THIS SEAT. 5 by the template 'for every input the law returns true; each argument reads behind the call as it read before'; 0 by the template 'total and deterministic' (their statements: YtjonpcpcokapkaaTotals.lean).
  GIVEN WITH THE SEED: the statements are not yours to turn. If you find one false, say at which input.
  Laid BY PROGRAM, IN A SANDBOX (cutbox-rows.mjs): the forced cells as the released guide's own fill.sh prints them over the translation 62b5db4cca9b3ff2… (all of the seat's roots in one cut). By AI agents, Wed Nov 11 2026. No macro, syntax, notation, axiom, sorry.
-/
import Derived.Test.YtjonpcpcokapkaaChecked
import GoSem.Claim
import GoSem.ClaimJoined
import GoSem.ClaimMapViews
import Derived.JoinedTies
import Derived.KernelRfl
namespace Go.Proofs.Ytjonpcpcokapkaa
/- THE CELL 'sum', in the pinned program and in every row, IS THE sha256 OF THE DUMP (.gsa) THAT YtjonpcpcokapkaaProg.lean LOADS. Nothing in Lean hashes anything: it is a label: what it is worth is what the hold of that sum in a sandbox is worth. -/
noncomputable def Try.pinned : Pinned := { name := "ytjonpcpcokapkaa", sum := "62b5db4cca9b3ff21eca86c44a0bf5a187c652d47d8e8f53e8a56f20bcc66a7c", checked := Try.checked }
namespace Rows
def none {H : Type} : Left H := { results := [], args := [] }

/-- 'datumlaw14.NelsonExact': WHATEVER THE INPUT: true; the input reads as it did. -/
def nelsonExactSpec : ChangeSpec := { name := "nelsonExact", fn := fun _ => fun
  | [d] => { results := [.lit (.bool true)], args := [d] }
  | _ => none }
def nelsonExactRow : OpenClaim := { program := "ytjonpcpcokapkaa", sum := "62b5db4cca9b3ff21eca86c44a0bf5a187c652d47d8e8f53e8a56f20bcc66a7c", func := "datum/datumlaw14.NelsonExact", spec := "nelsonExact", unfollowed := true, recurses := true, apart := false }
def NelsonExactSaid : Prop := nelsonExactRow.holds Try.pinned (OpenSpec.ofChange nelsonExactSpec)

/-- ITS FALSE NEIGHBOUR: 'it returns false'. Refute it at one input. -/
def nelsonExactWrong : ChangeSpec := { name := "nelsonExact", fn := fun _ => fun
  | [d] => { results := [.lit (.bool false)], args := [d] }
  | _ => none }
def NelsonExactWrongFalsely : Prop := nelsonExactRow.holds Try.pinned (OpenSpec.ofChange nelsonExactWrong)

/-- 'datumlaw14.NelsonTells': WHATEVER THE INPUT: true; the input reads as it did. -/
def nelsonTellsSpec : ChangeSpec := { name := "nelsonTells", fn := fun _ => fun
  | [d1, d2] => { results := [.lit (.bool true)], args := [d1, d2] }
  | _ => none }
def nelsonTellsRow : OpenClaim := { program := "ytjonpcpcokapkaa", sum := "62b5db4cca9b3ff21eca86c44a0bf5a187c652d47d8e8f53e8a56f20bcc66a7c", func := "datum/datumlaw14.NelsonTells", spec := "nelsonTells", unfollowed := true, recurses := true, apart := false }
def NelsonTellsSaid : Prop := nelsonTellsRow.holds Try.pinned (OpenSpec.ofChange nelsonTellsSpec)

/-- ITS FALSE NEIGHBOUR: 'it returns false'. Refute it at one input. -/
def nelsonTellsWrong : ChangeSpec := { name := "nelsonTells", fn := fun _ => fun
  | [d1, d2] => { results := [.lit (.bool false)], args := [d1, d2] }
  | _ => none }
def NelsonTellsWrongFalsely : Prop := nelsonTellsRow.holds Try.pinned (OpenSpec.ofChange nelsonTellsWrong)

/-- 'datumlaw14.NelsonSure': WHATEVER THE INPUT: true; the input reads as it did. -/
def nelsonSureSpec : ChangeSpec := { name := "nelsonSure", fn := fun _ => fun
  | [d1, d2] => { results := [.lit (.bool true)], args := [d1, d2] }
  | _ => none }
def nelsonSureRow : OpenClaim := { program := "ytjonpcpcokapkaa", sum := "62b5db4cca9b3ff21eca86c44a0bf5a187c652d47d8e8f53e8a56f20bcc66a7c", func := "datum/datumlaw14.NelsonSure", spec := "nelsonSure", unfollowed := true, recurses := true, apart := false }
def NelsonSureSaid : Prop := nelsonSureRow.holds Try.pinned (OpenSpec.ofChange nelsonSureSpec)

/-- ITS FALSE NEIGHBOUR: 'it returns false'. Refute it at one input. -/
def nelsonSureWrong : ChangeSpec := { name := "nelsonSure", fn := fun _ => fun
  | [d1, d2] => { results := [.lit (.bool false)], args := [d1, d2] }
  | _ => none }
def NelsonSureWrongFalsely : Prop := nelsonSureRow.holds Try.pinned (OpenSpec.ofChange nelsonSureWrong)

/-- 'datumlaw14.NelsonNarrows': WHATEVER THE INPUT: true; the input reads as it did. -/
def nelsonNarrowsSpec : ChangeSpec := { name := "nelsonNarrows", fn := fun _ => fun
  | [d1, d2, d3] => { results := [.lit (.bool true)], args := [d1, d2, d3] }
  | _ => none }
def nelsonNarrowsRow : OpenClaim := { program := "ytjonpcpcokapkaa", sum := "62b5db4cca9b3ff21eca86c44a0bf5a187c652d47d8e8f53e8a56f20bcc66a7c", func := "datum/datumlaw14.NelsonNarrows", spec := "nelsonNarrows", unfollowed := true, recurses := true, apart := false }
def NelsonNarrowsSaid : Prop := nelsonNarrowsRow.holds Try.pinned (OpenSpec.ofChange nelsonNarrowsSpec)

/-- ITS FALSE NEIGHBOUR: 'it returns false'. Refute it at one input. -/
def nelsonNarrowsWrong : ChangeSpec := { name := "nelsonNarrows", fn := fun _ => fun
  | [d1, d2, d3] => { results := [.lit (.bool false)], args := [d1, d2, d3] }
  | _ => none }
def NelsonNarrowsWrongFalsely : Prop := nelsonNarrowsRow.holds Try.pinned (OpenSpec.ofChange nelsonNarrowsWrong)

/-- 'datumlaw14.NelsonTurns': WHATEVER THE INPUT: true; the input reads as it did. -/
def nelsonTurnsSpec : ChangeSpec := { name := "nelsonTurns", fn := fun _ => fun
  | [d1, d2] => { results := [.lit (.bool true)], args := [d1, d2] }
  | _ => none }
def nelsonTurnsRow : OpenClaim := { program := "ytjonpcpcokapkaa", sum := "62b5db4cca9b3ff21eca86c44a0bf5a187c652d47d8e8f53e8a56f20bcc66a7c", func := "datum/datumlaw14.NelsonTurns", spec := "nelsonTurns", unfollowed := true, recurses := true, apart := false }
def NelsonTurnsSaid : Prop := nelsonTurnsRow.holds Try.pinned (OpenSpec.ofChange nelsonTurnsSpec)

/-- ITS FALSE NEIGHBOUR: 'it returns false'. Refute it at one input. -/
def nelsonTurnsWrong : ChangeSpec := { name := "nelsonTurns", fn := fun _ => fun
  | [d1, d2] => { results := [.lit (.bool false)], args := [d1, d2] }
  | _ => none }
def NelsonTurnsWrongFalsely : Prop := nelsonTurnsRow.holds Try.pinned (OpenSpec.ofChange nelsonTurnsWrong)

/- THE SECOND FORM. 'bulk': how many values and letters a reading holds, each counted each time it is reached (what is shared counts as often as it is met; a slice's spare places count too). A statement '..UptoSaid' is the law's where the arguments, and the package variables that the reading takes, are together of bulk at most 1048576: NARROWER than '..Said'. Prove '..Said' where nothing that the law and all that it calls make is longer than what came in: it says more and counts as full. Else prove '..UptoSaid'. A law counts once. -/
mutual
def uptoBulk {H : Type} : DataW H → Nat
  | .lit (.string bytes) => bytes.length + 1
  | .lit _ => 1
  | .nil => 1
  | .ptr d => uptoBulk d + 1
  | .slice elems spare => uptoBulkAll elems + uptoBulkAll spare + 1
  | .agg parts => uptoBulkAll parts + 1
  | .iface _ d => uptoBulk d + 1
  | .map entries => uptoBulkEntries entries + 1
  | .held _ => 1
def uptoBulkAll {H : Type} : List (DataW H) → Nat
  | [] => 0
  | d :: r => uptoBulk d + uptoBulkAll r
def uptoBulkEntries {H : Type} : List (Lit × DataW H) → Nat
  | [] => 0
  | x :: r => uptoBulkEntry x + uptoBulkEntries r
def uptoBulkEntry {H : Type} : Lit × DataW H → Nat
  | (.string bytes, d) => bytes.length + uptoBulk d + 1
  | (_, d) => uptoBulk d + 1
 end
def uptoSmall : (H : Type) → List (DataW H) → Bool := fun _ ds => decide (uptoBulkAll ds ≤ 1048576)
def OpenSpec.upto (s : _root_.Go.ChangeSpec) : _root_.Go.OpenSpec := { _root_.Go.OpenSpec.ofChange s with cond := some uptoSmall }

/-- 'datumlaw14.NelsonExact', WHERE WHAT IT READS IS OF BULK AT MOST 1048576: true; the input reads as it did. -/
def nelsonExactUptoRow : OpenClaim := { program := "ytjonpcpcokapkaa", sum := "62b5db4cca9b3ff21eca86c44a0bf5a187c652d47d8e8f53e8a56f20bcc66a7c", func := "datum/datumlaw14.NelsonExact", spec := "nelsonExact", unfollowed := true, recurses := true, apart := false, narrowed := true }
def NelsonExactUptoSaid : Prop := nelsonExactUptoRow.holds Try.pinned (OpenSpec.upto nelsonExactSpec)

/-- 'datumlaw14.NelsonTells', WHERE WHAT IT READS IS OF BULK AT MOST 1048576: true; the input reads as it did. -/
def nelsonTellsUptoRow : OpenClaim := { program := "ytjonpcpcokapkaa", sum := "62b5db4cca9b3ff21eca86c44a0bf5a187c652d47d8e8f53e8a56f20bcc66a7c", func := "datum/datumlaw14.NelsonTells", spec := "nelsonTells", unfollowed := true, recurses := true, apart := false, narrowed := true }
def NelsonTellsUptoSaid : Prop := nelsonTellsUptoRow.holds Try.pinned (OpenSpec.upto nelsonTellsSpec)

/-- 'datumlaw14.NelsonSure', WHERE WHAT IT READS IS OF BULK AT MOST 1048576: true; the input reads as it did. -/
def nelsonSureUptoRow : OpenClaim := { program := "ytjonpcpcokapkaa", sum := "62b5db4cca9b3ff21eca86c44a0bf5a187c652d47d8e8f53e8a56f20bcc66a7c", func := "datum/datumlaw14.NelsonSure", spec := "nelsonSure", unfollowed := true, recurses := true, apart := false, narrowed := true }
def NelsonSureUptoSaid : Prop := nelsonSureUptoRow.holds Try.pinned (OpenSpec.upto nelsonSureSpec)

/-- 'datumlaw14.NelsonNarrows', WHERE WHAT IT READS IS OF BULK AT MOST 1048576: true; the input reads as it did. -/
def nelsonNarrowsUptoRow : OpenClaim := { program := "ytjonpcpcokapkaa", sum := "62b5db4cca9b3ff21eca86c44a0bf5a187c652d47d8e8f53e8a56f20bcc66a7c", func := "datum/datumlaw14.NelsonNarrows", spec := "nelsonNarrows", unfollowed := true, recurses := true, apart := false, narrowed := true }
def NelsonNarrowsUptoSaid : Prop := nelsonNarrowsUptoRow.holds Try.pinned (OpenSpec.upto nelsonNarrowsSpec)

/-- 'datumlaw14.NelsonTurns', WHERE WHAT IT READS IS OF BULK AT MOST 1048576: true; the input reads as it did. -/
def nelsonTurnsUptoRow : OpenClaim := { program := "ytjonpcpcokapkaa", sum := "62b5db4cca9b3ff21eca86c44a0bf5a187c652d47d8e8f53e8a56f20bcc66a7c", func := "datum/datumlaw14.NelsonTurns", spec := "nelsonTurns", unfollowed := true, recurses := true, apart := false, narrowed := true }
def NelsonTurnsUptoSaid : Prop := nelsonTurnsUptoRow.holds Try.pinned (OpenSpec.upto nelsonTurnsSpec)

end Rows
end Go.Proofs.Ytjonpcpcokapkaa
