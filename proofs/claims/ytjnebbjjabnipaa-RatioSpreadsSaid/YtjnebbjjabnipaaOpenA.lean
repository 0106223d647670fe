/- An array of six ints among a law's arguments, opened and shut. -/
import Derived.Test.YtjnebbjjabnipaaOpenI
import Derived.OpenShut
namespace Go.Proofs.Ytjnebbjjabnipaa
open Go.RowKit Go.ChangeShapes Go.WideShapes Go.ChangeAt Go.Joins
theorem cellsA : Try.prog.cellsOf 39 = 6 := by kernel_rfl
theorem cellsI : Try.prog.cellsOf 3 = 1 := by kernel_rfl
theorem array6 {α : Type} {cs : Array α} (h : cs.size = 6) : ∃ c0 c1 c2 c3 c4 c5, cs = #[c0, c1, c2, c3, c4, c5] := by
  obtain ⟨l⟩ := cs
  match l, h with
  | [c0, c1, c2, c3, c4, c5], _ => exact ⟨c0, c1, c2, c3, c4, c5, rfl⟩
set_option maxRecDepth 100000 in
theorem openA {H : Type} {enc : TypeId × Value → H} {W : World} {base : Nat} {v : Value} {d : DataW H} {p : List MemPlace} (hv : Value.okWide Try.prog W .any base 39 v) (h : DataW.Trod enc Try.prog W 0 (fun _ => true) true 39 v d p) :
    ∃ x0 x1 x2 x3 x4 x5 : Int, IsInt x0 ∧ IsInt x1 ∧ IsInt x2 ∧ IsInt x3 ∧ IsInt x4 ∧ IsInt x5 ∧ v = .agg #[.int .i64 x0, .int .i64 x1, .int .i64 x2, .int .i64 x3, .int .i64 x4, .int .i64 x5] ∧ d = .agg [.lit (.int .i64 x0), .lit (.int .i64 x1), .lit (.int .i64 x2), .lit (.int .i64 x3), .lit (.int .i64 x4), .lit (.int .i64 x5)] ∧ p = [] := by
  unfold Value.okWide at hv
  rw [Try.underlying39] at hv
  obtain ⟨cs, rfl, hsz, _⟩ := hv
  obtain ⟨c0, c1, c2, c3, c4, c5, rfl⟩ := array6 (hsz.trans cellsA)
  obtain ⟨fuel, hf⟩ := h
  obtain ⟨xs, m, _, hx, _, hl, hget⟩ := DataW.trod_array Try.underlying39 hf
  match xs, hl with
  | [y0, y1, y2, y3, y4, y5], _ =>
  have h0 := hget 0 (by omega)
  have h1 := hget 1 (by omega)
  have h2 := hget 2 (by omega)
  have h3 := hget 3 (by omega)
  have h4 := hget 4 (by omega)
  have h5 := hget 5 (by omega)
  simp [Value.cells, cellsI] at h0 h1 h2 h3 h4 h5
  obtain ⟨a0, e0, rfl, w0⟩ := DataW.trod_int Try.underlying3 h0
  obtain ⟨a1, e1, rfl, w1⟩ := DataW.trod_int Try.underlying3 h1
  obtain ⟨a2, e2, rfl, w2⟩ := DataW.trod_int Try.underlying3 h2
  obtain ⟨a3, e3, rfl, w3⟩ := DataW.trod_int Try.underlying3 h3
  obtain ⟨a4, e4, rfl, w4⟩ := DataW.trod_int Try.underlying3 h4
  obtain ⟨a5, e5, rfl, w5⟩ := DataW.trod_int Try.underlying3 h5
  simp at e0 e1 e2 e3 e4 e5
  subst e0 e1 e2 e3 e4 e5
  simp only [Prod.mk.injEq] at hx
  exact ⟨a0, a1, a2, a3, a4, a5, bounds_i64 w0, bounds_i64 w1, bounds_i64 w2, bounds_i64 w3, bounds_i64 w4, bounds_i64 w5, rfl, hx.1, hx.2⟩
set_option maxRecDepth 100000 in
theorem shutA {H : Type} {enc : TypeId × Value → H} (x0 x1 x2 x3 x4 x5 : Int) (h0 : IsInt x0) (h1 : IsInt x1) (h2 : IsInt x2) (h3 : IsInt x3) (h4 : IsInt x4) (h5 : IsInt x5) (W' : World) (sp : Nat → Bool) :
    DataW.Trod enc Try.prog W' 0 sp true 39 (.agg #[.int .i64 x0, .int .i64 x1, .int .i64 x2, .int .i64 x3, .int .i64 x4, .int .i64 x5]) (.agg [.lit (.int .i64 x0), .lit (.int .i64 x1), .lit (.int .i64 x2), .lit (.int .i64 x3), .lit (.int .i64 x4), .lit (.int .i64 x5)]) [] := by
  have r6 : List.range 6 = [0, 1, 2, 3, 4, 5] := rfl
  exact ⟨2, by simp [DataW.trod, r6, Value.cells, cellsA, cellsI, Try.underlying39, Try.underlying3, WalkArith.wf_i64 h0, WalkArith.wf_i64 h1, WalkArith.wf_i64 h2, WalkArith.wf_i64 h3, WalkArith.wf_i64 h4, WalkArith.wf_i64 h5]⟩
end Go.Proofs.Ytjnebbjjabnipaa
