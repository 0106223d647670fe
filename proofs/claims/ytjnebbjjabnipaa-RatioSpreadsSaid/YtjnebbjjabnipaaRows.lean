/-
  No cell of these rows narrows 'for every input' (looked for: loops, veiled, ifaces, maps, wideKeys, modest, calm, conditions, laid).
  DERIVED. THE GIVEN ROWS OF THIS SEAT. 5 by the template 'for every input the law returns true; each argument reads behind the call as it read before'; 0 by the template 'total and deterministic' (their statements: YtjnebbjjabnipaaTotals.lean).
  GIVEN WITH THE SEED: the statements are not yours to turn. If you find one false, say at which input.
  Laid BY PROGRAM, IN A SANDBOX (cutbox-rows.mjs): the forced cells as the released guide's own fill.sh prints them over the translation 9925307ce8128b85… (all of the seat's roots in one cut). By AI agents, Wed Nov 11 2026. No macro, syntax, notation, axiom, sorry.
-/
import Derived.Test.YtjnebbjjabnipaaChecked
import GoSem.Claim
import GoSem.ClaimJoined
import GoSem.ClaimMapViews
import Derived.JoinedTies
import Derived.KernelRfl
namespace Go.Proofs.Ytjnebbjjabnipaa
/- THE CELL 'sum', in the pinned program and in every row, IS THE sha256 OF THE DUMP (.gsa) THAT YtjnebbjjabnipaaProg.lean LOADS. Nothing in Lean hashes anything: it is a label: what it is worth is what the hold of that sum in a sandbox is worth. -/
noncomputable def Try.pinned : Pinned := { name := "ytjnebbjjabnipaa", sum := "9925307ce8128b855d7f26c7ff2b925fbde646aea71a7275f6b74aead893253e", checked := Try.checked }
namespace Rows
def none {H : Type} : Left H := { results := [], args := [] }

/-- 'datumlaw06.RatioMakes': WHATEVER THE INPUT: true; the input reads as it did. -/
def ratioMakesSpec : ChangeSpec := { name := "ratioMakes", fn := fun _ => fun
  | [d1, d2, d3] => { results := [.lit (.bool true)], args := [d1, d2, d3] }
  | _ => none }
def ratioMakesRow : OpenClaim := { program := "ytjnebbjjabnipaa", sum := "9925307ce8128b855d7f26c7ff2b925fbde646aea71a7275f6b74aead893253e", func := "datum/datumlaw06.RatioMakes", spec := "ratioMakes", inPlace := ["math/bits.Add64", "math/bits.Sub64"], unfollowed := true, recurses := true, apart := false }
def RatioMakesSaid : Prop := ratioMakesRow.holds Try.pinned (OpenSpec.ofChange ratioMakesSpec)

/-- ITS FALSE NEIGHBOUR: 'it returns false'. Refute it at one input. -/
def ratioMakesWrong : ChangeSpec := { name := "ratioMakes", fn := fun _ => fun
  | [d1, d2, d3] => { results := [.lit (.bool false)], args := [d1, d2, d3] }
  | _ => none }
def RatioMakesWrongFalsely : Prop := ratioMakesRow.holds Try.pinned (OpenSpec.ofChange ratioMakesWrong)

/-- 'datumlaw06.RatioDoes': WHATEVER THE INPUT: true; the input reads as it did. -/
def ratioDoesSpec : ChangeSpec := { name := "ratioDoes", fn := fun _ => fun
  | [d1, d2, d3] => { results := [.lit (.bool true)], args := [d1, d2, d3] }
  | _ => none }
def ratioDoesRow : OpenClaim := { program := "ytjnebbjjabnipaa", sum := "9925307ce8128b855d7f26c7ff2b925fbde646aea71a7275f6b74aead893253e", func := "datum/datumlaw06.RatioDoes", spec := "ratioDoes", inPlace := ["math/bits.Add64", "math/bits.Sub64"], unfollowed := true, recurses := true, apart := false }
def RatioDoesSaid : Prop := ratioDoesRow.holds Try.pinned (OpenSpec.ofChange ratioDoesSpec)

/-- ITS FALSE NEIGHBOUR: 'it returns false'. Refute it at one input. -/
def ratioDoesWrong : ChangeSpec := { name := "ratioDoes", fn := fun _ => fun
  | [d1, d2, d3] => { results := [.lit (.bool false)], args := [d1, d2, d3] }
  | _ => none }
def RatioDoesWrongFalsely : Prop := ratioDoesRow.holds Try.pinned (OpenSpec.ofChange ratioDoesWrong)

/-- 'datumlaw06.RatioOrder': WHATEVER THE INPUT: true; the input reads as it did. -/
def ratioOrderSpec : ChangeSpec := { name := "ratioOrder", fn := fun _ => fun
  | [d] => { results := [.lit (.bool true)], args := [d] }
  | _ => none }
def ratioOrderRow : OpenClaim := { program := "ytjnebbjjabnipaa", sum := "9925307ce8128b855d7f26c7ff2b925fbde646aea71a7275f6b74aead893253e", func := "datum/datumlaw06.RatioOrder", spec := "ratioOrder", inPlace := ["math/bits.Add64", "math/bits.Sub64"], unfollowed := true, recurses := true, apart := false }
def RatioOrderSaid : Prop := ratioOrderRow.holds Try.pinned (OpenSpec.ofChange ratioOrderSpec)

/-- ITS FALSE NEIGHBOUR: 'it returns false'. Refute it at one input. -/
def ratioOrderWrong : ChangeSpec := { name := "ratioOrder", fn := fun _ => fun
  | [d] => { results := [.lit (.bool false)], args := [d] }
  | _ => none }
def RatioOrderWrongFalsely : Prop := ratioOrderRow.holds Try.pinned (OpenSpec.ofChange ratioOrderWrong)

/-- 'datumlaw06.RatioSpreads': WHATEVER THE INPUT: true; the input reads as it did. -/
def ratioSpreadsSpec : ChangeSpec := { name := "ratioSpreads", fn := fun _ => fun
  | [d] => { results := [.lit (.bool true)], args := [d] }
  | _ => none }
def ratioSpreadsRow : OpenClaim := { program := "ytjnebbjjabnipaa", sum := "9925307ce8128b855d7f26c7ff2b925fbde646aea71a7275f6b74aead893253e", func := "datum/datumlaw06.RatioSpreads", spec := "ratioSpreads", inPlace := ["math/bits.Add64", "math/bits.Sub64"], unfollowed := true, recurses := true, apart := false }
def RatioSpreadsSaid : Prop := ratioSpreadsRow.holds Try.pinned (OpenSpec.ofChange ratioSpreadsSpec)

/-- ITS FALSE NEIGHBOUR: 'it returns false'. Refute it at one input. -/
def ratioSpreadsWrong : ChangeSpec := { name := "ratioSpreads", fn := fun _ => fun
  | [d] => { results := [.lit (.bool false)], args := [d] }
  | _ => none }
def RatioSpreadsWrongFalsely : Prop := ratioSpreadsRow.holds Try.pinned (OpenSpec.ofChange ratioSpreadsWrong)

/-- 'datumlaw06.RatioEncloses': WHATEVER THE INPUT: true; the input reads as it did. -/
def ratioEnclosesSpec : ChangeSpec := { name := "ratioEncloses", fn := fun _ => fun
  | [d1, d2, d3] => { results := [.lit (.bool true)], args := [d1, d2, d3] }
  | _ => none }
def ratioEnclosesRow : OpenClaim := { program := "ytjnebbjjabnipaa", sum := "9925307ce8128b855d7f26c7ff2b925fbde646aea71a7275f6b74aead893253e", func := "datum/datumlaw06.RatioEncloses", spec := "ratioEncloses", inPlace := ["math/bits.Add64", "math/bits.Sub64"], unfollowed := true, recurses := true, apart := false }
def RatioEnclosesSaid : Prop := ratioEnclosesRow.holds Try.pinned (OpenSpec.ofChange ratioEnclosesSpec)

/-- ITS FALSE NEIGHBOUR: 'it returns false'. Refute it at one input. -/
def ratioEnclosesWrong : ChangeSpec := { name := "ratioEncloses", fn := fun _ => fun
  | [d1, d2, d3] => { results := [.lit (.bool false)], args := [d1, d2, d3] }
  | _ => none }
def RatioEnclosesWrongFalsely : Prop := ratioEnclosesRow.holds Try.pinned (OpenSpec.ofChange ratioEnclosesWrong)

/- THE SECOND FORM. 'bulk': how many values and letters a reading holds, each counted each time it is reached (what is shared counts as often as it is met; a slice's spare places count too). A statement '..UptoSaid' is the law's where the arguments, and the package variables that the reading takes, are together of bulk at most 1048576: NARROWER than '..Said'. Prove '..Said' where nothing that the law and all that it calls make is longer than what came in: it says more and counts as full. Else prove '..UptoSaid'. A law counts once. -/
mutual
def uptoBulk {H : Type} : DataW H → Nat
  | .lit (.string bytes) => bytes.length + 1
  | .lit _ => 1
  | .nil => 1
  | .ptr d => uptoBulk d + 1
  | .slice elems spare => uptoBulkAll elems + uptoBulkAll spare + 1
  | .agg parts => uptoBulkAll parts + 1
  | .iface _ d => uptoBulk d + 1
  | .map entries => uptoBulkEntries entries + 1
  | .held _ => 1
def uptoBulkAll {H : Type} : List (DataW H) → Nat
  | [] => 0
  | d :: r => uptoBulk d + uptoBulkAll r
def uptoBulkEntries {H : Type} : List (Lit × DataW H) → Nat
  | [] => 0
  | x :: r => uptoBulkEntry x + uptoBulkEntries r
def uptoBulkEntry {H : Type} : Lit × DataW H → Nat
  | (.string bytes, d) => bytes.length + uptoBulk d + 1
  | (_, d) => uptoBulk d + 1
 end
def uptoSmall : (H : Type) → List (DataW H) → Bool := fun _ ds => decide (uptoBulkAll ds ≤ 1048576)
def OpenSpec.upto (s : _root_.Go.ChangeSpec) : _root_.Go.OpenSpec := { _root_.Go.OpenSpec.ofChange s with cond := some uptoSmall }

/-- 'datumlaw06.RatioMakes', WHERE WHAT IT READS IS OF BULK AT MOST 1048576: true; the input reads as it did. -/
def ratioMakesUptoRow : OpenClaim := { program := "ytjnebbjjabnipaa", sum := "9925307ce8128b855d7f26c7ff2b925fbde646aea71a7275f6b74aead893253e", func := "datum/datumlaw06.RatioMakes", spec := "ratioMakes", inPlace := ["math/bits.Add64", "math/bits.Sub64"], unfollowed := true, recurses := true, apart := false, narrowed := true }
def RatioMakesUptoSaid : Prop := ratioMakesUptoRow.holds Try.pinned (OpenSpec.upto ratioMakesSpec)

/-- 'datumlaw06.RatioDoes', WHERE WHAT IT READS IS OF BULK AT MOST 1048576: true; the input reads as it did. -/
def ratioDoesUptoRow : OpenClaim := { program := "ytjnebbjjabnipaa", sum := "9925307ce8128b855d7f26c7ff2b925fbde646aea71a7275f6b74aead893253e", func := "datum/datumlaw06.RatioDoes", spec := "ratioDoes", inPlace := ["math/bits.Add64", "math/bits.Sub64"], unfollowed := true, recurses := true, apart := false, narrowed := true }
def RatioDoesUptoSaid : Prop := ratioDoesUptoRow.holds Try.pinned (OpenSpec.upto ratioDoesSpec)

/-- 'datumlaw06.RatioOrder', WHERE WHAT IT READS IS OF BULK AT MOST 1048576: true; the input reads as it did. -/
def ratioOrderUptoRow : OpenClaim := { program := "ytjnebbjjabnipaa", sum := "9925307ce8128b855d7f26c7ff2b925fbde646aea71a7275f6b74aead893253e", func := "datum/datumlaw06.RatioOrder", spec := "ratioOrder", inPlace := ["math/bits.Add64", "math/bits.Sub64"], unfollowed := true, recurses := true, apart := false, narrowed := true }
def RatioOrderUptoSaid : Prop := ratioOrderUptoRow.holds Try.pinned (OpenSpec.upto ratioOrderSpec)

/-- 'datumlaw06.RatioSpreads', WHERE WHAT IT READS IS OF BULK AT MOST 1048576: true; the input reads as it did. -/
def ratioSpreadsUptoRow : OpenClaim := { program := "ytjnebbjjabnipaa", sum := "9925307ce8128b855d7f26c7ff2b925fbde646aea71a7275f6b74aead893253e", func := "datum/datumlaw06.RatioSpreads", spec := "ratioSpreads", inPlace := ["math/bits.Add64", "math/bits.Sub64"], unfollowed := true, recurses := true, apart := false, narrowed := true }
def RatioSpreadsUptoSaid : Prop := ratioSpreadsUptoRow.holds Try.pinned (OpenSpec.upto ratioSpreadsSpec)

/-- 'datumlaw06.RatioEncloses', WHERE WHAT IT READS IS OF BULK AT MOST 1048576: true; the input reads as it did. -/
def ratioEnclosesUptoRow : OpenClaim := { program := "ytjnebbjjabnipaa", sum := "9925307ce8128b855d7f26c7ff2b925fbde646aea71a7275f6b74aead893253e", func := "datum/datumlaw06.RatioEncloses", spec := "ratioEncloses", inPlace := ["math/bits.Add64", "math/bits.Sub64"], unfollowed := true, recurses := true, apart := false, narrowed := true }
def RatioEnclosesUptoSaid : Prop := ratioEnclosesUptoRow.holds Try.pinned (OpenSpec.upto ratioEnclosesSpec)

end Rows
end Go.Proofs.Ytjnebbjjabnipaa
