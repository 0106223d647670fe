/- The reference: a factor's row, one of its numbers. -/
import Derived.Test.YtfafkdbflmennaaHas
import Derived.Test.YtfafkdbflmennaaNum
import Derived.Test.YtfafkdbflmennaaFacN
import Derived.WalkArith
namespace Go.Proofs.Ytfafkdbflmennaa
open Go.RowKit

def rowV (k : Nat) : List Value := (List.range 9).map fun j => .int .i64 (fac k j)
theorem rowV_at (k j : Nat) (h : j < 9) : (rowV k)[j]? = some (.int .i64 (fac k j)) := by
  rcases (by omega : j = 0 ∨ j = 1 ∨ j = 2 ∨ j = 3 ∨ j = 4 ∨ j = 5 ∨ j = 6 ∨ j = 7 ∨ j = 8) with rfl | rfl | rfl | rfl | rfl | rfl | rfl | rfl | rfl <;> rfl
theorem rrow_any (k : Nat) (hk : k < 7) (w : World) :
    Calls Try.prog 40 #[.int .i64 (k : Nat)] w fun e w' => e = .returned (.slice (some ⟨w.heap.size, 0, none⟩) 9 9) ∧ Has w' w.heap.size (rowV k) 3 ∧ Below w.heap.size w w' := by
  have hH := Has.new w (rowV k) 3
  have hW := (Below.refl w.heap.size w).alloc (Nat.le_refl _) (.cells (rowV k).toArray 3)
  rcases (by omega : k = 0 ∨ k = 1 ∨ k = 2 ∨ k = 3 ∨ k = 4 ∨ k = 5 ∨ k = 6) with rfl | rfl | rfl | rfl | rfl | rfl | rfl
  all_goals
    have HH := Lib.hid hH
    have HW := Lib.hid hW
    clear hH hW hk
    go_enter Try.func40, Try.ntmps40
    go_wp2
    go_ret
    exact ⟨rfl, HH.out, HW.out⟩

theorem rfactor_core (k j : Nat) (x n : Int) (hj : j < 9) (hn : IntKind.i64.wrap (n - 2) = (j : Nat)) (hx : (rowV k)[j]? = some (.int .i64 x)) (w : World)
    (m : ∀ w, Calls Try.prog 40 #[.int .i64 (k : Nat)] w fun e w' => e = .returned (.slice (some ⟨w.heap.size, 0, none⟩) 9 9) ∧ Has w' w.heap.size (rowV k) 3 ∧ Below w.heap.size w w') :
    Calls Try.prog 32 #[.int .i64 (k : Nat), .int .i64 n] w fun e w' => e = .returned (.int .i64 x) ∧ Below w.heap.size w w' := by
  have M := Lib.hid m
  have HX := Lib.hid hx
  clear m hx
  go_enter Try.func32, Try.ntmps32
  go_wp2_with fail
  refine (M.out _).mono ?_
  rintro e w1 ⟨rfl, h1, hb⟩
  have c : w1.cell? ⟨w.heap.size, j, none⟩ = some (.int .i64 x) := (h1.cell j).trans HX.out
  have HW := Lib.hid hb
  clear h1 hb
  go_wp2_with fail
  go_ret
  exact ⟨rfl, HW.out⟩
theorem rfactor_any (k j : Nat) (n x : Int) (hk : k < 7) (hj : j < 9) (hn : n = j + 2) (hx : x = fac k j) (w : World) :
    Calls Try.prog 32 #[.int .i64 (k : Nat), .int .i64 n] w fun e w' => e = .returned (.int .i64 x) ∧ Below w.heap.size w w' :=
  rfactor_core k j x n hj (by rw [wrap_int (by unfold IsInt; omega)]; omega) (hx ▸ rowV_at k j hj) w (rrow_any k hk)

end Go.Proofs.Ytfafkdbflmennaa
