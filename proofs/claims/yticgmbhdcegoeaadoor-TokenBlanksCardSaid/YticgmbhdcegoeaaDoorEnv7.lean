/- What the rows of stage 7 list of the library's variables gives what the walks ask; the claim's card. -/
import Derived.Test.YticgmbhdcegoeaaDoorShelf7
import Derived.Test.YticgmbhdcegoeaaDoorFrame
import Derived.Stop.LaidErr
import Derived.Lib.LaidTab
import Derived.MakeChecks
import Derived.LaidMore
import Derived.ChangeMaps5
import Derived.ChangeSame
import Derived.SizedLaws
namespace Go.Proofs.YticgmbhdcegoeaaDoor
open Go.ChangeShapes Go.WideShapes Go.ChangeAt Go.RowKit Go.Joins

theorem gErr : (Tryd.prog).globalNamed "strconv.ErrRange" = some 1 := by kernel_rfl
theorem gErrType : ((Tryd.prog).globals[1]?).map (·.type) = some 51 := by kernel_rfl
theorem gTab : (Tryd.prog).globalNamed "internal/strconv.uint64pow10" = some 2 := by kernel_rfl
theorem gTabType : ((Tryd.prog).globals[2]?).map (·.type) = some 99 := by kernel_rfl
theorem rowErr : ∀ u, (Tryd.prog).typeName? 3 u = some "*errors.errorString" → u = 105 := fun u hu =>
  typeName_ptr_named (nm := "errors.errorString") (by kernel_rfl) (by kernel_rfl) (by decide) u hu
theorem cellsErr : (Tryd.prog).cellsOf 107 = 1 := by kernel_rfl
theorem cellsStr : (Tryd.prog).cellsOf 9 = 1 := by kernel_rfl
theorem cellsU64 : (Tryd.prog).cellsOf 85 = 1 := by kernel_rfl
theorem cellsTab : (Tryd.prog).cellsOf 99 = 20 := by kernel_rfl
def laid7 : List (String × DataW Unit) := Rows.tokenScansRow.laid
theorem env_of {W : World} (h : laidMetH Tryd.prog laid7 W) : Env W := by
  rw [MakeChecks.laidMetH_plain _ _ _ (by kernel_rfl)] at h
  have h3 := h.tail.tail
  have h4 := h3.tail
  obtain ⟨a, s, hv, -, -, -⟩ := laid_sentinel h4 gErr gErrType Tryd.underlying51 rowErr Tryd.underlying105 Tryd.underlying107 rfl rfl Tryd.underlying9 cellsErr cellsStr
  exact ⟨⟨_, _, hv⟩, Lib.tabIs_of_head gTab gTabType Tryd.underlying99 Tryd.underlying85 cellsU64 cellsTab h3⟩
/-- The door's own heap meets the condition. -/
theorem door_met (os : Os) (args : Array Value) : laidMetH Tryd.prog laid7 ((World.doorLaid Tryd.prog 400 os).forCall (fun _ _ => 0) ⟨#[], args, []⟩).memory :=
  laidMetH_of_parts3 (fuel := 8) (laidMet_of_run' 8 (by kernel_rfl) (by kernel_rfl)) (by kernel_rfl) (by kernel_rfl)
end Go.Proofs.YticgmbhdcegoeaaDoor
