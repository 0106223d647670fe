/- The reference of stage 11: In, square, times. -/
import Derived.Test.YtfafkdbflmennaaStaR
import Derived.Test.YtfafkdbflmennaaStaM
import Derived.Test.YtfafkdbflmennaaIRow
import Derived.Test.YtfafkdbflmennaaHas
import Derived.Test.YtfafkdbflmennaaIn
import Derived.Deep.MidRow
namespace Go.Proofs.Ytfafkdbflmennaa
open Go.RowKit

/-! ### square, times -/
theorem sizeW2 : ((Try.prog).info? 36).map (·.size) = some 2 := by kernel_rfl
theorem loadW2 {w : World} {b : Nat} {c0 c1 : Value} (h : Has w b [c0, c1] 36) : (loadVar 36 ⟨b, 0, none⟩).run Try.prog w = .ok (.agg #[c0, c1]) w :=
  run_loadVar_mid w b 0 36 [c0, c1] _ h.range Try.underlying36 rfl sizeW2
theorem resW {P : Program} {fn : Func} {tmps : Array Value} {w : World} {a : Nat} {t : TypeId} {ad : Addr} {v : Value} (h : fn.results = #[.cell a t]) (ha : tmps.getD a undef = .pointer (some ad)) (hl : (loadVar t ad).run P w = .ok v w) :
    (results fn tmps).run P w = .ok v w := by
  have ha' : tmps[a]?.getD undef = .pointer (some ad) := by simpa using ha
  simp [results, h, ha', hl, asAddr]
theorem fieldM (D : Bool) (h l : Int) (w : World) : (Instr.field 71 (.agg #[.bool D, .int .u64 h, .int .u64 l]) 1).run Try.prog w = .ok (.agg #[.int .u64 h, .int .u64 l]) w := by kernel_rfl
theorem rsquare_any (x : Int) (hx : IsInt x) (w : World) :
    Calls Try.prog 35 #[.int .i64 x] w fun e w' => e = .returned (.agg #[.int .u64 (hi (x * x).toNat : Nat), .int .u64 (lo (x * x).toNat : Nat)]) ∧ Below w.heap.size w w' := by
  have hp := fun w => product_any x x hx hx w
  have e : (x * x).natAbs = (x * x).toNat := by have := sq_nonneg' x; omega
  unfold zS at hp
  rw [e] at hp
  generalize (x * x).toNat = n at hp ⊢
  generalize decide (x * x < 0) = D at hp
  clear e
  have hz := Has.new w [.int .u64 0, .int .u64 0] 36
  have hb := (Below.refl w.heap.size w).alloc (Nat.le_refl _) (.cells #[.int .u64 0, .int .u64 0] 36)
  have hs : (w.alloc (.cells #[.int .u64 0, .int .u64 0] 36)).heap.size = w.heap.size + 1 := by simp
  have hp1 := hp (w.alloc (.cells #[.int .u64 0, .int .u64 0] 36))
  have hfm := fieldM D (hi n : Nat) (lo n : Nat)
  have HZ := Lib.hid hz
  have HB := Lib.hid hb
  clear hz hb hp
  go_enter Try.func35, Try.ntmps35
  go_wp2_with fail
  refine hp1.mono ?_
  rintro e w2 ⟨rfl, k2⟩
  have zH := HZ.out.call k2
  have hb2 := HB.out.trans (k2.mono (by rw [hs]; omega))
  have z0 : w2.cell? ⟨w.heap.size, 0, none⟩ = some (.int .u64 0) := zH.cell 0
  have z1 : w2.cell? ⟨w.heap.size, 1, none⟩ = some (.int .u64 0) := zH.cell 1
  have f0 : w2.frozen? ⟨w.heap.size, 0, none⟩ = false := zH.frozen 0
  have f1 : w2.frozen? ⟨w.heap.size, 1, none⟩ = false := zH.frozen 1
  have HR := Lib.hid ((zH.set 0 (.int .u64 (hi n : Nat))).set 1 (.int .u64 (lo n : Nat)))
  have HB2 := Lib.hid ((hb2.setCell (p := ⟨w.heap.size, 0, none⟩) (Nat.le_refl _) (.int .u64 (hi n : Nat))).setCell (p := ⟨w.heap.size, 1, none⟩) (Nat.le_refl _) (.int .u64 (lo n : Nat)))
  clear hp1 k2 zH hb2
  go_wp2
  (try simp only [Exit.inBlock, Exit.then])
  exact bodyPost_ret (resW Try.results35 rfl (loadW2 HR.out)) rfl ⟨rfl, HB2.out⟩
def staV (s : Sta) : Value := .agg #[.int .i64 s.n, .int .i64 s.sum, .int .u64 (hi s.sq : Nat), .int .u64 (lo s.sq : Nat), .int .i64 s.lo, .int .i64 s.hi]
end Go.Proofs.Ytfafkdbflmennaa
