/-
  No cell of these rows narrows 'for every input' (looked for: loops, veiled, ifaces, maps, wideKeys, modest, calm, conditions, laid).
  DERIVED. THE GIVEN ROWS OF THIS SEAT. 4 by the template 'for every input the law returns true; each argument reads behind the call as it read before'; 0 by the template 'total and deterministic' (their statements: YtjebdahdpjfinaaTotals.lean).
  GIVEN WITH THE SEED: the statements are not yours to turn. If you find one false, say at which input.
  Laid BY PROGRAM, IN A SANDBOX (cutbox-rows.mjs): the forced cells as the released guide's own fill.sh prints them over the translation 04e83ad175a8eabe… (all of the seat's roots in one cut). By AI agents, Wed Nov 11 2026. No macro, syntax, notation, axiom, sorry.
-/
import Derived.Test.YtjebdahdpjfinaaChecked
import GoSem.Claim
import GoSem.ClaimJoined
import GoSem.ClaimMapViews
import Derived.JoinedTies
import Derived.KernelRfl
namespace Go.Proofs.Ytjebdahdpjfinaa
/- THE CELL 'sum', in the pinned program and in every row, IS THE sha256 OF THE DUMP (.gsa) THAT YtjebdahdpjfinaaProg.lean LOADS. Nothing in Lean hashes anything: it is a label: what it is worth is what the hold of that sum in a sandbox is worth. -/
noncomputable def Try.pinned : Pinned := { name := "ytjebdahdpjfinaa", sum := "04e83ad175a8eabeb3d12c73ceaa547707b4fa64097c3a3aec50ccf04b924268", checked := Try.checked }
namespace Rows
def none {H : Type} : Left H := { results := [], args := [] }

/-- 'datumlaw02.DivideTells': WHATEVER THE INPUT: true; the input reads as it did. -/
def divideTellsSpec : ChangeSpec := { name := "divideTells", fn := fun _ => fun
  | [d1, d2] => { results := [.lit (.bool true)], args := [d1, d2] }
  | _ => none }
def divideTellsRow : OpenClaim := { program := "ytjebdahdpjfinaa", sum := "04e83ad175a8eabeb3d12c73ceaa547707b4fa64097c3a3aec50ccf04b924268", func := "datum/datumlaw02.DivideTells", spec := "divideTells", inPlace := ["math/bits.Add64", "math/bits.Sub64"], unfollowed := true, recurses := true, apart := false }
def DivideTellsSaid : Prop := divideTellsRow.holds Try.pinned (OpenSpec.ofChange divideTellsSpec)

/-- ITS FALSE NEIGHBOUR: 'it returns false'. Refute it at one input. -/
def divideTellsWrong : ChangeSpec := { name := "divideTells", fn := fun _ => fun
  | [d1, d2] => { results := [.lit (.bool false)], args := [d1, d2] }
  | _ => none }
def DivideTellsWrongFalsely : Prop := divideTellsRow.holds Try.pinned (OpenSpec.ofChange divideTellsWrong)

/-- 'datumlaw02.DivideGcds': WHATEVER THE INPUT: true; the input reads as it did. -/
def divideGcdsSpec : ChangeSpec := { name := "divideGcds", fn := fun _ => fun
  | [d1, d2] => { results := [.lit (.bool true)], args := [d1, d2] }
  | _ => none }
def divideGcdsRow : OpenClaim := { program := "ytjebdahdpjfinaa", sum := "04e83ad175a8eabeb3d12c73ceaa547707b4fa64097c3a3aec50ccf04b924268", func := "datum/datumlaw02.DivideGcds", spec := "divideGcds", inPlace := ["math/bits.Add64", "math/bits.Sub64"], unfollowed := true, recurses := true, apart := false }
def DivideGcdsSaid : Prop := divideGcdsRow.holds Try.pinned (OpenSpec.ofChange divideGcdsSpec)

/-- ITS FALSE NEIGHBOUR: 'it returns false'. Refute it at one input. -/
def divideGcdsWrong : ChangeSpec := { name := "divideGcds", fn := fun _ => fun
  | [d1, d2] => { results := [.lit (.bool false)], args := [d1, d2] }
  | _ => none }
def DivideGcdsWrongFalsely : Prop := divideGcdsRow.holds Try.pinned (OpenSpec.ofChange divideGcdsWrong)

/-- 'datumlaw02.DivideBack': WHATEVER THE INPUT: true; the input reads as it did. -/
def divideBackSpec : ChangeSpec := { name := "divideBack", fn := fun _ => fun
  | [d1, d2] => { results := [.lit (.bool true)], args := [d1, d2] }
  | _ => none }
def divideBackRow : OpenClaim := { program := "ytjebdahdpjfinaa", sum := "04e83ad175a8eabeb3d12c73ceaa547707b4fa64097c3a3aec50ccf04b924268", func := "datum/datumlaw02.DivideBack", spec := "divideBack", inPlace := ["math/bits.Add64", "math/bits.Sub64"], unfollowed := true, recurses := true, apart := false }
def DivideBackSaid : Prop := divideBackRow.holds Try.pinned (OpenSpec.ofChange divideBackSpec)

/-- ITS FALSE NEIGHBOUR: 'it returns false'. Refute it at one input. -/
def divideBackWrong : ChangeSpec := { name := "divideBack", fn := fun _ => fun
  | [d1, d2] => { results := [.lit (.bool false)], args := [d1, d2] }
  | _ => none }
def DivideBackWrongFalsely : Prop := divideBackRow.holds Try.pinned (OpenSpec.ofChange divideBackWrong)

/-- 'datumlaw02.DivideCommon': WHATEVER THE INPUT: true; the input reads as it did. -/
def divideCommonSpec : ChangeSpec := { name := "divideCommon", fn := fun _ => fun
  | [d1, d2, d3] => { results := [.lit (.bool true)], args := [d1, d2, d3] }
  | _ => none }
def divideCommonRow : OpenClaim := { program := "ytjebdahdpjfinaa", sum := "04e83ad175a8eabeb3d12c73ceaa547707b4fa64097c3a3aec50ccf04b924268", func := "datum/datumlaw02.DivideCommon", spec := "divideCommon", inPlace := ["math/bits.Add64", "math/bits.Sub64"], unfollowed := true, recurses := true, apart := false }
def DivideCommonSaid : Prop := divideCommonRow.holds Try.pinned (OpenSpec.ofChange divideCommonSpec)

/-- ITS FALSE NEIGHBOUR: 'it returns false'. Refute it at one input. -/
def divideCommonWrong : ChangeSpec := { name := "divideCommon", fn := fun _ => fun
  | [d1, d2, d3] => { results := [.lit (.bool false)], args := [d1, d2, d3] }
  | _ => none }
def DivideCommonWrongFalsely : Prop := divideCommonRow.holds Try.pinned (OpenSpec.ofChange divideCommonWrong)

/- THE SECOND FORM. 'bulk': how many values and letters a reading holds, each counted each time it is reached (what is shared counts as often as it is met; a slice's spare places count too). A statement '..UptoSaid' is the law's where the arguments, and the package variables that the reading takes, are together of bulk at most 1048576: NARROWER than '..Said'. Prove '..Said' where nothing that the law and all that it calls make is longer than what came in: it says more and counts as full. Else prove '..UptoSaid'. A law counts once. -/
mutual
def uptoBulk {H : Type} : DataW H → Nat
  | .lit (.string bytes) => bytes.length + 1
  | .lit _ => 1
  | .nil => 1
  | .ptr d => uptoBulk d + 1
  | .slice elems spare => uptoBulkAll elems + uptoBulkAll spare + 1
  | .agg parts => uptoBulkAll parts + 1
  | .iface _ d => uptoBulk d + 1
  | .map entries => uptoBulkEntries entries + 1
  | .held _ => 1
def uptoBulkAll {H : Type} : List (DataW H) → Nat
  | [] => 0
  | d :: r => uptoBulk d + uptoBulkAll r
def uptoBulkEntries {H : Type} : List (Lit × DataW H) → Nat
  | [] => 0
  | x :: r => uptoBulkEntry x + uptoBulkEntries r
def uptoBulkEntry {H : Type} : Lit × DataW H → Nat
  | (.string bytes, d) => bytes.length + uptoBulk d + 1
  | (_, d) => uptoBulk d + 1
 end
def uptoSmall : (H : Type) → List (DataW H) → Bool := fun _ ds => decide (uptoBulkAll ds ≤ 1048576)
def OpenSpec.upto (s : _root_.Go.ChangeSpec) : _root_.Go.OpenSpec := { _root_.Go.OpenSpec.ofChange s with cond := some uptoSmall }

/-- 'datumlaw02.DivideTells', WHERE WHAT IT READS IS OF BULK AT MOST 1048576: true; the input reads as it did. -/
def divideTellsUptoRow : OpenClaim := { program := "ytjebdahdpjfinaa", sum := "04e83ad175a8eabeb3d12c73ceaa547707b4fa64097c3a3aec50ccf04b924268", func := "datum/datumlaw02.DivideTells", spec := "divideTells", inPlace := ["math/bits.Add64", "math/bits.Sub64"], unfollowed := true, recurses := true, apart := false, narrowed := true }
def DivideTellsUptoSaid : Prop := divideTellsUptoRow.holds Try.pinned (OpenSpec.upto divideTellsSpec)

/-- 'datumlaw02.DivideGcds', WHERE WHAT IT READS IS OF BULK AT MOST 1048576: true; the input reads as it did. -/
def divideGcdsUptoRow : OpenClaim := { program := "ytjebdahdpjfinaa", sum := "04e83ad175a8eabeb3d12c73ceaa547707b4fa64097c3a3aec50ccf04b924268", func := "datum/datumlaw02.DivideGcds", spec := "divideGcds", inPlace := ["math/bits.Add64", "math/bits.Sub64"], unfollowed := true, recurses := true, apart := false, narrowed := true }
def DivideGcdsUptoSaid : Prop := divideGcdsUptoRow.holds Try.pinned (OpenSpec.upto divideGcdsSpec)

/-- 'datumlaw02.DivideBack', WHERE WHAT IT READS IS OF BULK AT MOST 1048576: true; the input reads as it did. -/
def divideBackUptoRow : OpenClaim := { program := "ytjebdahdpjfinaa", sum := "04e83ad175a8eabeb3d12c73ceaa547707b4fa64097c3a3aec50ccf04b924268", func := "datum/datumlaw02.DivideBack", spec := "divideBack", inPlace := ["math/bits.Add64", "math/bits.Sub64"], unfollowed := true, recurses := true, apart := false, narrowed := true }
def DivideBackUptoSaid : Prop := divideBackUptoRow.holds Try.pinned (OpenSpec.upto divideBackSpec)

/-- 'datumlaw02.DivideCommon', WHERE WHAT IT READS IS OF BULK AT MOST 1048576: true; the input reads as it did. -/
def divideCommonUptoRow : OpenClaim := { program := "ytjebdahdpjfinaa", sum := "04e83ad175a8eabeb3d12c73ceaa547707b4fa64097c3a3aec50ccf04b924268", func := "datum/datumlaw02.DivideCommon", spec := "divideCommon", inPlace := ["math/bits.Add64", "math/bits.Sub64"], unfollowed := true, recurses := true, apart := false, narrowed := true }
def DivideCommonUptoSaid : Prop := divideCommonUptoRow.holds Try.pinned (OpenSpec.upto divideCommonSpec)

end Rows
end Go.Proofs.Ytjebdahdpjfinaa
