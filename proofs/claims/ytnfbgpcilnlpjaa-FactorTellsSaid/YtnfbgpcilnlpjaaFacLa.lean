/- What the laws of stage 9 ask of Factor at one input, so that a program that refuses everything meets none. -/
import Derived.Test.YtnfbgpcilnlpjaaFacC
namespace Go.Proofs.Ytnfbgpcilnlpjaa
open Go.RowKit

theorem alive9 (w : World) :
    Calls Try.prog 9 #[] w fun en w' => en = .returned (.bool true) ∧ Below w.heap.size w w' := by
  have M1 : Hid (∀ w, Calls Try.prog 6 #[.int .i64 0, .int .i64 5] w fun en w' => en = .returned (.tuple #[.int .i64 5770, .int .i64 0]) ∧ Below w.heap.size w w') := Lib.hid (factor_any 0 3 (by decide) (by decide))
  go_enter Try.func9, Try.ntmps9
  go_wp2_with fail
  refine (M1.out _).mono ?_
  rintro e w1 ⟨rfl, hb⟩
  have HW := Lib.hid hb
  clear hb
  go_wp2_with fail
  go_ret
  exact ⟨rfl, HW.out⟩
end Go.Proofs.Ytnfbgpcilnlpjaa
