/- What a law's walk leans on: a wide number in a block of the call's own stays there; and how a law over wide numbers becomes the statement. -/
import Derived.Test.YtacnaencmbnjpaaBase
import Derived.ProofKit
import Derived.OpenShut
import Derived.Lib.SmallJoins
namespace Go.Proofs.Ytacnaencmbnjpaa
open Go.RowKit Go.ChangeShapes Go.WideShapes Go.ChangeAt Go.Joins

theorem keep2 {W w1 : World} (hb : Below W.heap.size W w1) {b : Nat} {x y : Value} (h : b < W.heap.size) (hc : W.cell? ⟨b, 0, none⟩ = some x ∧ W.cell? ⟨b, 1, none⟩ = some y) : b < w1.heap.size ∧ w1.cell? ⟨b, 0, none⟩ = some x ∧ w1.cell? ⟨b, 1, none⟩ = some y :=
  ⟨Nat.lt_of_lt_of_le h hb.size, (hb.cell (p := ⟨b, 0, none⟩) h).trans hc.1, (hb.cell (p := ⟨b, 1, none⟩) h).trans hc.2⟩

/-- A law's last step, where the world behind the call is known to be as it was below its own blocks. -/
theorem lawPost {H : Type} {enc : TypeId × Value → H} {P : Program} {f : Func} {s : ChangeSpec} {apart fresh handsOn : Bool} {W W' : World} {args : Array Value} {v : Value} {ds gs : List (DataW H)} {before : List MemPlace} (pa pv : List MemPlace)
    (hW : DataW.Whole enc P f.params.toList s.vars apart W args.toList ds gs before)
    (hres : DataW.TrodAll enc P W' (match fresh with | true => W.heap.size | false => 0) (fun _ => false) handsOn f.resultTypes.toList (v.resultList f.resultTypes.size) (s.fn H (ds ++ gs)).results [])
    (hargs : DataW.TrodAll enc P W' 0 (fun b => decide (b < W.heap.size)) true f.params.toList args.toList (s.fn H (ds ++ gs)).args pa)
    (hvars : DataW.TrodVars enc P W' (fun b => decide (b < W.heap.size)) s.vars (s.fn H (ds ++ gs)).vars pv)
    (hb : Below W.heap.size W W') : s.post enc P f apart fresh handsOn false W args v W' :=
  ⟨ds, gs, before, [], pa, pv, hW, hres, hargs, hvars, hb.frame _, fun h => by cases h⟩

theorem own : ownKnob Try.prog.godebug = none := by kernel_rfl
theorem cellsW : Try.prog.cellsOf 55 = 2 := by kernel_rfl

set_option maxRecDepth 100000 in
/-- A wide number among the arguments, opened: its two words, as natural numbers below 2^64. -/
theorem openW {H : Type} {enc : TypeId × Value → H} {W : World} {base : Nat} {v : Value} {d : DataW H} {p : List MemPlace} (hv : Value.okWide Try.prog W .any base 55 v) (h : DataW.Trod enc Try.prog W 0 (fun _ => true) true 55 v d p) :
    ∃ n : Nat, n < M128 ∧ v = .agg #[.int .u64 (hi n : Nat), .int .u64 (lo n : Nat)] ∧ d = .agg [.lit (.int .u64 (hi n : Nat)), .lit (.int .u64 (lo n : Nat))] ∧ p = [] := by
  obtain ⟨c0, c1, y0, y1, m, rfl, rfl, rfl, hy0, hy1⟩ := open_agg2 Try.underlying55 (by kernel_rfl) cellsW hv h
  obtain ⟨a, e0, rfl, wa⟩ := DataW.trod_int Try.underlying53 hy0
  obtain ⟨b, e1, rfl, wb⟩ := DataW.trod_int Try.underlying53 hy1
  simp at e0 e1
  subst e0 e1
  obtain ⟨a0, a1⟩ := bounds_u64 wa
  obtain ⟨b0, b1⟩ := bounds_u64 wb
  obtain ⟨a, rfl⟩ := Int.eq_ofNat_of_zero_le a0
  obtain ⟨b, rfl⟩ := Int.eq_ofNat_of_zero_le b0
  have ha : a < B64 := by unfold B64; omega
  have hb : b < B64 := by unfold B64; omega
  refine ⟨vw a b, vw_lt a b ha hb, ?_, ?_, rfl⟩
  · rw [hi_vw a b hb, lo_vw a b hb]
  · rw [hi_vw a b hb, lo_vw a b hb]
theorem wf64 (n : Nat) (h : n < B64) : (Lit.int .u64 (n : Int)).wf = true := by
  unfold B64 at h
  simp [Lit.wf, IntKind.min, IntKind.max, IntKind.signed, IntKind.bits]
  omega
set_option maxRecDepth 100000 in
/-- .. and shut. -/
theorem shutW {H : Type} {enc : TypeId × Value → H} (n : Nat) (hn : n < M128) (W' : World) (sp : Nat → Bool) :
    DataW.Trod enc Try.prog W' 0 sp true 55 (.agg #[.int .u64 (hi n : Nat), .int .u64 (lo n : Nat)]) (.agg [.lit (.int .u64 (hi n : Nat)), .lit (.int .u64 (lo n : Nat))]) [] :=
  shut_agg2 (y0 := (.lit (.int .u64 (hi n : Nat)), [])) (y1 := (.lit (.int .u64 (lo n : Nat)), [])) Try.underlying55 (by kernel_rfl) cellsW ⟨1, by simp [DataW.trod, Try.underlying53, wf64 _ (hi_lt n hn)]⟩ ⟨1, by simp [DataW.trod, Try.underlying53, wf64 _ (lo_lt n)]⟩
set_option maxRecDepth 100000 in
/-- A word among the arguments, opened. -/
theorem openU {H : Type} {enc : TypeId × Value → H} {W : World} {base : Nat} {v : Value} {d : DataW H} {p : List MemPlace} (hv : Value.okWide Try.prog W .any base 53 v) (h : DataW.Trod enc Try.prog W 0 (fun _ => true) true 53 v d p) :
    ∃ n : Nat, n < B64 ∧ v = .int .u64 (n : Nat) ∧ d = .lit (.int .u64 (n : Nat)) ∧ p = [] := by
  obtain ⟨a, rfl, rfl, rfl, wa⟩ := open_int Try.underlying53 hv h
  obtain ⟨a0, a1⟩ := bounds_u64 wa
  obtain ⟨a, rfl⟩ := Int.eq_ofNat_of_zero_le a0
  exact ⟨a, by unfold B64; omega, rfl, rfl, rfl⟩
end Go.Proofs.Ytacnaencmbnjpaa
