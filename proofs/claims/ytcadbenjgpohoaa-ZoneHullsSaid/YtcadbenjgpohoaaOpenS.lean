/- A span among a law's arguments, opened and shut. -/
import Derived.Test.YtcadbenjgpohoaaOpenI
namespace Go.Proofs.Ytcadbenjgpohoaa
open Go.RowKit Go.ChangeShapes Go.WideShapes Go.ChangeAt Go.Joins
theorem cellsS : Try.prog.cellsOf 39 = 2 := by kernel_rfl
set_option maxRecDepth 100000 in
theorem openS {H : Type} {enc : TypeId × Value → H} {W : World} {base : Nat} {v : Value} {d : DataW H} {p : List MemPlace} (hv : Value.okWide Try.prog W .any base 39 v) (h : DataW.Trod enc Try.prog W 0 (fun _ => true) true 39 v d p) :
    ∃ x y : Int, IsInt x ∧ IsInt y ∧ v = .agg #[.int .i64 x, .int .i64 y] ∧ d = .agg [.lit (.int .i64 x), .lit (.int .i64 y)] ∧ p = [] := by
  obtain ⟨c0, c1, y0, y1, m, rfl, rfl, rfl, hy0, hy1⟩ := open_agg2 Try.underlying39 (by kernel_rfl) cellsS hv h
  obtain ⟨a, e0, rfl, wa⟩ := DataW.trod_int Try.underlying3 hy0
  obtain ⟨b, e1, rfl, wb⟩ := DataW.trod_int Try.underlying3 hy1
  simp at e0 e1
  subst e0 e1
  exact ⟨a, b, bounds_i64 wa, bounds_i64 wb, rfl, rfl, rfl⟩
set_option maxRecDepth 100000 in
theorem shutS {H : Type} {enc : TypeId × Value → H} (x y : Int) (hx : IsInt x) (hy : IsInt y) (W' : World) (sp : Nat → Bool) :
    DataW.Trod enc Try.prog W' 0 sp true 39 (.agg #[.int .i64 x, .int .i64 y]) (.agg [.lit (.int .i64 x), .lit (.int .i64 y)]) [] :=
  shut_agg2 (y0 := (.lit (.int .i64 x), [])) (y1 := (.lit (.int .i64 y), [])) Try.underlying39 (by kernel_rfl) cellsS ⟨1, by simp [DataW.trod, Try.underlying3, WalkArith.wf_i64 hx]⟩ ⟨1, by simp [DataW.trod, Try.underlying3, WalkArith.wf_i64 hy]⟩
end Go.Proofs.Ytcadbenjgpohoaa
