/- factor's isFactor and isSize. -/
import Derived.Test.YtfafkdbflmennaaHas
import Derived.Test.YtfafkdbflmennaaNum
import Derived.Test.YtfafkdbflmennaaFacN
import Derived.WalkArith
namespace Go.Proofs.Ytfafkdbflmennaa
open Go.RowKit

def kindB (k : Int) : Bool := decide (0 ≤ k ∧ k < 7)
def rowsB (n : Int) : Bool := decide (2 ≤ n ∧ n ≤ 10)
theorem kindB_t {k : Int} (h : kindB k = true) : 0 ≤ k ∧ k < 7 := of_decide_eq_true h
theorem rowsB_t {k : Int} (h : rowsB k = true) : 2 ≤ k ∧ k ≤ 10 := of_decide_eq_true h
theorem isFactor_any (k : Int) (w : World) :
    Calls Try.prog 44 #[.int .i64 k] w fun e w' => e = .returned (.bool (kindB k)) ∧ w' = w := by
  by_cases h1 : 0 ≤ k
  · by_cases h2 : k < 7
    · have e : kindB k = true := decide_eq_true ⟨by omega, by omega⟩
      rw [e]
      clear e
      go_enter Try.func44, Try.ntmps44
      go_wp2
      go_ret
      exact ⟨rfl, rfl⟩
    · have e : kindB k = false := decide_eq_false (by omega)
      rw [e]
      clear e
      go_enter Try.func44, Try.ntmps44
      go_wp2
      go_ret
      exact ⟨rfl, rfl⟩
  · have e : kindB k = false := decide_eq_false (by omega)
    rw [e]
    clear e
    go_enter Try.func44, Try.ntmps44
    go_wp2
    go_ret
    exact ⟨rfl, rfl⟩
theorem isSize_any (k : Int) (w : World) :
    Calls Try.prog 45 #[.int .i64 k] w fun e w' => e = .returned (.bool (rowsB k)) ∧ w' = w := by
  by_cases h1 : 2 ≤ k
  · by_cases h2 : k ≤ 10
    · have e : rowsB k = true := decide_eq_true ⟨by omega, by omega⟩
      rw [e]
      clear e
      go_enter Try.func45, Try.ntmps45
      go_wp2
      go_ret
      exact ⟨rfl, rfl⟩
    · have e : rowsB k = false := decide_eq_false (by omega)
      rw [e]
      clear e
      go_enter Try.func45, Try.ntmps45
      go_wp2
      go_ret
      exact ⟨rfl, rfl⟩
  · have e : rowsB k = false := decide_eq_false (by omega)
    rw [e]
    clear e
    go_enter Try.func45, Try.ntmps45
    go_wp2
    go_ret
    exact ⟨rfl, rfl⟩
end Go.Proofs.Ytfafkdbflmennaa
