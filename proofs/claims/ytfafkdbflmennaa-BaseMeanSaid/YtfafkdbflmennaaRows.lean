/-
  No cell of these rows narrows 'for every input' (looked for: loops, veiled, ifaces, maps, wideKeys, modest, calm, conditions, laid).
  DERIVED. THE GIVEN ROWS OF THIS SEAT. 5 by the template 'for every input the law returns true; each argument reads behind the call as it read before'; 0 by the template 'total and deterministic' (their statements: YtfafkdbflmennaaTotals.lean).
  GIVEN WITH THE SEED: the statements are not yours to turn. If you find one false, say at which input.
  Laid BY PROGRAM, IN A SANDBOX (cutbox-rows.mjs): the forced cells as the released guide's own fill.sh prints them over the translation cb9289fab788e574… (all of the seat's roots in one cut). By AI agents, Wed Nov 11 2026. No macro, syntax, notation, axiom, sorry.
-/
import Derived.Test.YtfafkdbflmennaaChecked
import GoSem.Claim
import GoSem.ClaimJoined
import GoSem.ClaimMapViews
import Derived.JoinedTies
import Derived.KernelRfl
namespace Go.Proofs.Ytfafkdbflmennaa
/- THE CELL 'sum', in the pinned program and in every row, IS THE sha256 OF THE DUMP (.gsa) THAT YtfafkdbflmennaaProg.lean LOADS. Nothing in Lean hashes anything: it is a label: what it is worth is what the hold of that sum in a sandbox is worth. -/
noncomputable def Try.pinned : Pinned := { name := "ytfafkdbflmennaa", sum := "cb9289fab788e574095d8474fa724ce2e3c34d2273a6151218ec20d395320f95", checked := Try.checked }
namespace Rows
def none {H : Type} : Left H := { results := [], args := [] }

/-- 'datumlaw15.BaseTakes': WHATEVER THE INPUT: true; the input reads as it did. -/
def baseTakesSpec : ChangeSpec := { name := "baseTakes", fn := fun _ => fun
  | [d1, d2, d3] => { results := [.lit (.bool true)], args := [d1, d2, d3] }
  | _ => none }
def baseTakesRow : OpenClaim := { program := "ytfafkdbflmennaa", sum := "cb9289fab788e574095d8474fa724ce2e3c34d2273a6151218ec20d395320f95", func := "datum/datumlaw15.BaseTakes", spec := "baseTakes", unfollowed := true, recurses := true, apart := false }
def BaseTakesSaid : Prop := baseTakesRow.holds Try.pinned (OpenSpec.ofChange baseTakesSpec)

/-- ITS FALSE NEIGHBOUR: 'it returns false'. Refute it at one input. -/
def baseTakesWrong : ChangeSpec := { name := "baseTakes", fn := fun _ => fun
  | [d1, d2, d3] => { results := [.lit (.bool false)], args := [d1, d2, d3] }
  | _ => none }
def BaseTakesWrongFalsely : Prop := baseTakesRow.holds Try.pinned (OpenSpec.ofChange baseTakesWrong)

/-- 'datumlaw15.BaseTells': WHATEVER THE INPUT: true; the input reads as it did. -/
def baseTellsSpec : ChangeSpec := { name := "baseTells", fn := fun _ => fun
  | [d1, d2, d3] => { results := [.lit (.bool true)], args := [d1, d2, d3] }
  | _ => none }
def baseTellsRow : OpenClaim := { program := "ytfafkdbflmennaa", sum := "cb9289fab788e574095d8474fa724ce2e3c34d2273a6151218ec20d395320f95", func := "datum/datumlaw15.BaseTells", spec := "baseTells", inPlace := ["sync/atomic.LoadUint32", "(*internal/sync.Mutex).Lock", "internal/race.Disable", "sync/atomic.CompareAndSwapInt32", "internal/race.Enable", "internal/race.Acquire", "(*internal/sync.Mutex).lockSlow", "internal/sync.runtime_canSpin", "internal/sync.runtime_doSpin", "internal/sync.throw", "internal/sync.runtime_nanotime", "internal/sync.runtime_SemacquireMutex", "sync/atomic.AddInt32", "(*internal/sync.Mutex).Unlock", "internal/race.ReleaseMerge", "(*internal/sync.Mutex).unlockSlow", "internal/sync.fatal", "internal/sync.runtime_Semrelease", "sync/atomic.StoreUint32"], unfollowed := true, recurses := true, apart := false }
def BaseTellsSaid : Prop := baseTellsRow.holds Try.pinned (OpenSpec.ofChange baseTellsSpec)

/-- ITS FALSE NEIGHBOUR: 'it returns false'. Refute it at one input. -/
def baseTellsWrong : ChangeSpec := { name := "baseTells", fn := fun _ => fun
  | [d1, d2, d3] => { results := [.lit (.bool false)], args := [d1, d2, d3] }
  | _ => none }
def BaseTellsWrongFalsely : Prop := baseTellsRow.holds Try.pinned (OpenSpec.ofChange baseTellsWrong)

/-- 'datumlaw15.BaseMean': WHATEVER THE INPUT: true; the input reads as it did. -/
def baseMeanSpec : ChangeSpec := { name := "baseMean", fn := fun _ => fun
  | [d1, d2, d3, d4] => { results := [.lit (.bool true)], args := [d1, d2, d3, d4] }
  | _ => none }
def baseMeanRow : OpenClaim := { program := "ytfafkdbflmennaa", sum := "cb9289fab788e574095d8474fa724ce2e3c34d2273a6151218ec20d395320f95", func := "datum/datumlaw15.BaseMean", spec := "baseMean", unfollowed := true, recurses := true, apart := false }
def BaseMeanSaid : Prop := baseMeanRow.holds Try.pinned (OpenSpec.ofChange baseMeanSpec)

/-- ITS FALSE NEIGHBOUR: 'it returns false'. Refute it at one input. -/
def baseMeanWrong : ChangeSpec := { name := "baseMean", fn := fun _ => fun
  | [d1, d2, d3, d4] => { results := [.lit (.bool false)], args := [d1, d2, d3, d4] }
  | _ => none }
def BaseMeanWrongFalsely : Prop := baseMeanRow.holds Try.pinned (OpenSpec.ofChange baseMeanWrong)

/-- 'datumlaw15.BaseShift': WHATEVER THE INPUT: true; the input reads as it did. -/
def baseShiftSpec : ChangeSpec := { name := "baseShift", fn := fun _ => fun
  | [d1, d2, d3, d4, d5] => { results := [.lit (.bool true)], args := [d1, d2, d3, d4, d5] }
  | _ => none }
def baseShiftRow : OpenClaim := { program := "ytfafkdbflmennaa", sum := "cb9289fab788e574095d8474fa724ce2e3c34d2273a6151218ec20d395320f95", func := "datum/datumlaw15.BaseShift", spec := "baseShift", inPlace := ["sync/atomic.LoadUint32", "(*internal/sync.Mutex).Lock", "internal/race.Disable", "sync/atomic.CompareAndSwapInt32", "internal/race.Enable", "internal/race.Acquire", "(*internal/sync.Mutex).lockSlow", "internal/sync.runtime_canSpin", "internal/sync.runtime_doSpin", "internal/sync.throw", "internal/sync.runtime_nanotime", "internal/sync.runtime_SemacquireMutex", "sync/atomic.AddInt32", "(*internal/sync.Mutex).Unlock", "internal/race.ReleaseMerge", "(*internal/sync.Mutex).unlockSlow", "internal/sync.fatal", "internal/sync.runtime_Semrelease", "sync/atomic.StoreUint32"], unfollowed := true, recurses := true, apart := false }
def BaseShiftSaid : Prop := baseShiftRow.holds Try.pinned (OpenSpec.ofChange baseShiftSpec)

/-- ITS FALSE NEIGHBOUR: 'it returns false'. Refute it at one input. -/
def baseShiftWrong : ChangeSpec := { name := "baseShift", fn := fun _ => fun
  | [d1, d2, d3, d4, d5] => { results := [.lit (.bool false)], args := [d1, d2, d3, d4, d5] }
  | _ => none }
def BaseShiftWrongFalsely : Prop := baseShiftRow.holds Try.pinned (OpenSpec.ofChange baseShiftWrong)

/-- 'datumlaw15.BaseWide': WHATEVER THE INPUT: true; the input reads as it did. -/
def baseWideSpec : ChangeSpec := { name := "baseWide", fn := fun _ => fun
  | [d1, d2, d3, d4] => { results := [.lit (.bool true)], args := [d1, d2, d3, d4] }
  | _ => none }
def baseWideRow : OpenClaim := { program := "ytfafkdbflmennaa", sum := "cb9289fab788e574095d8474fa724ce2e3c34d2273a6151218ec20d395320f95", func := "datum/datumlaw15.BaseWide", spec := "baseWide", inPlace := ["sync/atomic.LoadUint32", "(*internal/sync.Mutex).Lock", "internal/race.Disable", "sync/atomic.CompareAndSwapInt32", "internal/race.Enable", "internal/race.Acquire", "(*internal/sync.Mutex).lockSlow", "internal/sync.runtime_canSpin", "internal/sync.runtime_doSpin", "internal/sync.throw", "internal/sync.runtime_nanotime", "internal/sync.runtime_SemacquireMutex", "sync/atomic.AddInt32", "(*internal/sync.Mutex).Unlock", "internal/race.ReleaseMerge", "(*internal/sync.Mutex).unlockSlow", "internal/sync.fatal", "internal/sync.runtime_Semrelease", "sync/atomic.StoreUint32"], unfollowed := true, recurses := true, apart := false }
def BaseWideSaid : Prop := baseWideRow.holds Try.pinned (OpenSpec.ofChange baseWideSpec)

/-- ITS FALSE NEIGHBOUR: 'it returns false'. Refute it at one input. -/
def baseWideWrong : ChangeSpec := { name := "baseWide", fn := fun _ => fun
  | [d1, d2, d3, d4] => { results := [.lit (.bool false)], args := [d1, d2, d3, d4] }
  | _ => none }
def BaseWideWrongFalsely : Prop := baseWideRow.holds Try.pinned (OpenSpec.ofChange baseWideWrong)

/- THE SECOND FORM. 'bulk': how many values and letters a reading holds, each counted each time it is reached (what is shared counts as often as it is met; a slice's spare places count too). A statement '..UptoSaid' is the law's where the arguments, and the package variables that the reading takes, are together of bulk at most 1048576: NARROWER than '..Said'. Prove '..Said' where nothing that the law and all that it calls make is longer than what came in: it says more and counts as full. Else prove '..UptoSaid'. A law counts once. -/
mutual
def uptoBulk {H : Type} : DataW H → Nat
  | .lit (.string bytes) => bytes.length + 1
  | .lit _ => 1
  | .nil => 1
  | .ptr d => uptoBulk d + 1
  | .slice elems spare => uptoBulkAll elems + uptoBulkAll spare + 1
  | .agg parts => uptoBulkAll parts + 1
  | .iface _ d => uptoBulk d + 1
  | .map entries => uptoBulkEntries entries + 1
  | .held _ => 1
def uptoBulkAll {H : Type} : List (DataW H) → Nat
  | [] => 0
  | d :: r => uptoBulk d + uptoBulkAll r
def uptoBulkEntries {H : Type} : List (Lit × DataW H) → Nat
  | [] => 0
  | x :: r => uptoBulkEntry x + uptoBulkEntries r
def uptoBulkEntry {H : Type} : Lit × DataW H → Nat
  | (.string bytes, d) => bytes.length + uptoBulk d + 1
  | (_, d) => uptoBulk d + 1
 end
def uptoSmall : (H : Type) → List (DataW H) → Bool := fun _ ds => decide (uptoBulkAll ds ≤ 1048576)
def OpenSpec.upto (s : _root_.Go.ChangeSpec) : _root_.Go.OpenSpec := { _root_.Go.OpenSpec.ofChange s with cond := some uptoSmall }

/-- 'datumlaw15.BaseTakes', WHERE WHAT IT READS IS OF BULK AT MOST 1048576: true; the input reads as it did. -/
def baseTakesUptoRow : OpenClaim := { program := "ytfafkdbflmennaa", sum := "cb9289fab788e574095d8474fa724ce2e3c34d2273a6151218ec20d395320f95", func := "datum/datumlaw15.BaseTakes", spec := "baseTakes", unfollowed := true, recurses := true, apart := false, narrowed := true }
def BaseTakesUptoSaid : Prop := baseTakesUptoRow.holds Try.pinned (OpenSpec.upto baseTakesSpec)

/-- 'datumlaw15.BaseTells', WHERE WHAT IT READS IS OF BULK AT MOST 1048576: true; the input reads as it did. -/
def baseTellsUptoRow : OpenClaim := { program := "ytfafkdbflmennaa", sum := "cb9289fab788e574095d8474fa724ce2e3c34d2273a6151218ec20d395320f95", func := "datum/datumlaw15.BaseTells", spec := "baseTells", inPlace := ["sync/atomic.LoadUint32", "(*internal/sync.Mutex).Lock", "internal/race.Disable", "sync/atomic.CompareAndSwapInt32", "internal/race.Enable", "internal/race.Acquire", "(*internal/sync.Mutex).lockSlow", "internal/sync.runtime_canSpin", "internal/sync.runtime_doSpin", "internal/sync.throw", "internal/sync.runtime_nanotime", "internal/sync.runtime_SemacquireMutex", "sync/atomic.AddInt32", "(*internal/sync.Mutex).Unlock", "internal/race.ReleaseMerge", "(*internal/sync.Mutex).unlockSlow", "internal/sync.fatal", "internal/sync.runtime_Semrelease", "sync/atomic.StoreUint32"], unfollowed := true, recurses := true, apart := false, narrowed := true }
def BaseTellsUptoSaid : Prop := baseTellsUptoRow.holds Try.pinned (OpenSpec.upto baseTellsSpec)

/-- 'datumlaw15.BaseMean', WHERE WHAT IT READS IS OF BULK AT MOST 1048576: true; the input reads as it did. -/
def baseMeanUptoRow : OpenClaim := { program := "ytfafkdbflmennaa", sum := "cb9289fab788e574095d8474fa724ce2e3c34d2273a6151218ec20d395320f95", func := "datum/datumlaw15.BaseMean", spec := "baseMean", unfollowed := true, recurses := true, apart := false, narrowed := true }
def BaseMeanUptoSaid : Prop := baseMeanUptoRow.holds Try.pinned (OpenSpec.upto baseMeanSpec)

/-- 'datumlaw15.BaseShift', WHERE WHAT IT READS IS OF BULK AT MOST 1048576: true; the input reads as it did. -/
def baseShiftUptoRow : OpenClaim := { program := "ytfafkdbflmennaa", sum := "cb9289fab788e574095d8474fa724ce2e3c34d2273a6151218ec20d395320f95", func := "datum/datumlaw15.BaseShift", spec := "baseShift", inPlace := ["sync/atomic.LoadUint32", "(*internal/sync.Mutex).Lock", "internal/race.Disable", "sync/atomic.CompareAndSwapInt32", "internal/race.Enable", "internal/race.Acquire", "(*internal/sync.Mutex).lockSlow", "internal/sync.runtime_canSpin", "internal/sync.runtime_doSpin", "internal/sync.throw", "internal/sync.runtime_nanotime", "internal/sync.runtime_SemacquireMutex", "sync/atomic.AddInt32", "(*internal/sync.Mutex).Unlock", "internal/race.ReleaseMerge", "(*internal/sync.Mutex).unlockSlow", "internal/sync.fatal", "internal/sync.runtime_Semrelease", "sync/atomic.StoreUint32"], unfollowed := true, recurses := true, apart := false, narrowed := true }
def BaseShiftUptoSaid : Prop := baseShiftUptoRow.holds Try.pinned (OpenSpec.upto baseShiftSpec)

/-- 'datumlaw15.BaseWide', WHERE WHAT IT READS IS OF BULK AT MOST 1048576: true; the input reads as it did. -/
def baseWideUptoRow : OpenClaim := { program := "ytfafkdbflmennaa", sum := "cb9289fab788e574095d8474fa724ce2e3c34d2273a6151218ec20d395320f95", func := "datum/datumlaw15.BaseWide", spec := "baseWide", inPlace := ["sync/atomic.LoadUint32", "(*internal/sync.Mutex).Lock", "internal/race.Disable", "sync/atomic.CompareAndSwapInt32", "internal/race.Enable", "internal/race.Acquire", "(*internal/sync.Mutex).lockSlow", "internal/sync.runtime_canSpin", "internal/sync.runtime_doSpin", "internal/sync.throw", "internal/sync.runtime_nanotime", "internal/sync.runtime_SemacquireMutex", "sync/atomic.AddInt32", "(*internal/sync.Mutex).Unlock", "internal/race.ReleaseMerge", "(*internal/sync.Mutex).unlockSlow", "internal/sync.fatal", "internal/sync.runtime_Semrelease", "sync/atomic.StoreUint32"], unfollowed := true, recurses := true, apart := false, narrowed := true }
def BaseWideUptoSaid : Prop := baseWideUptoRow.holds Try.pinned (OpenSpec.upto baseWideSpec)

end Rows
end Go.Proofs.Ytfafkdbflmennaa
