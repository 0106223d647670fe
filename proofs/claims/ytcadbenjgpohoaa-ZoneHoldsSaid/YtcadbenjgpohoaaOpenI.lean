/- An int among a law's arguments, opened. -/
import Derived.Test.YtcadbenjgpohoaaFrame
import Derived.Test.YtcadbenjgpohoaaNum
import Derived.WalkArith
namespace Go.Proofs.Ytcadbenjgpohoaa
open Go.RowKit Go.ChangeShapes Go.WideShapes Go.ChangeAt Go.Joins
set_option maxRecDepth 100000 in
theorem openI {H : Type} {enc : TypeId × Value → H} {W : World} {base : Nat} {v : Value} {d : DataW H} {p : List MemPlace} (hv : Value.okWide Try.prog W .any base 3 v) (h : DataW.Trod enc Try.prog W 0 (fun _ => true) true 3 v d p) :
    ∃ n : Int, IsInt n ∧ v = .int .i64 n ∧ d = .lit (.int .i64 n) ∧ p = [] := by
  obtain ⟨a, rfl, rfl, rfl, wa⟩ := open_int Try.underlying3 hv h
  exact ⟨a, bounds_i64 wa, rfl, rfl, rfl⟩
end Go.Proofs.Ytcadbenjgpohoaa
