/- factor.Factor. -/
import Derived.Test.YtfafkdbflmennaaFacB
import Derived.LoopTactic
import Derived.IntWalk
namespace Go.Proofs.Ytfafkdbflmennaa
open Go.RowKit

theorem Only.low {b : Nat} {x y z : World} {B : Nat} (h : Below B x y) (k : Only b y z) (hB : B ≤ b) : Below B x z := h.trans (k.below hB)

set_option maxRecDepth 100000 in
theorem factor_core (x k n : Int) (hk : kindB k = true) (hn : rowsB n = true)
    (m : ∀ b w, Book false b w → Calls Try.prog 46 #[.pointer (some ⟨b, 0, none⟩), .int .i64 k, .int .i64 n] w fun e w' => e = .returned (.int .i64 x) ∧ Book true b w' ∧ Only b w w') (w : World) :
    Calls Try.prog 37 #[.int .i64 k, .int .i64 n] w fun e w' => e = .returned (.tuple #[.int .i64 x, .int .i64 0]) ∧ Below w.heap.size w w' := by
  have M := Lib.hid m
  clear m
  have M1 : Hid (∀ w, Calls Try.prog 44 #[.int .i64 k] w fun e w' => e = .returned (.bool true) ∧ w' = w) := Lib.hid (hk ▸ isFactor_any k)
  have M2 : Hid (∀ w, Calls Try.prog 45 #[.int .i64 n] w fun e w' => e = .returned (.bool true) ∧ w' = w) := Lib.hid (hn ▸ isSize_any n)
  clear hk hn
  have hz := zero_book
  obtain ⟨z, hZ⟩ : ∃ z, (bookC false).toArray = z := ⟨_, rfl⟩
  rw [hZ] at hz
  have HZ := Lib.hid hZ
  clear hZ
  go_enter Try.func37, Try.ntmps37
  go_wp2_with fail
  refine (M1.out _).mono ?_
  rintro e w' ⟨rfl, rfl⟩
  go_wp2_with fail
  refine (M2.out _).mono ?_
  rintro e w' ⟨rfl, rfl⟩
  go_wp2_with fail
  refine (M.out _ _ (by rw [← HZ.out]; exact Book.new _)).mono ?_
  rintro e w1 ⟨rfl, h1, o1⟩
  have HB : Hid (Below w'.heap.size w' w1) := Lib.hid (Only.low ((Below.refl _ _).alloc (Nat.le_refl _) _) o1 (Nat.le_refl _))
  clear h1 o1
  go_wp2_with fail
  go_ret2
  exact ⟨rfl, HB.out⟩
theorem factor_any (k j : Nat) (hk : k < 7) (hj : j < 9) (w : World) :
    Calls Try.prog 37 #[.int .i64 (k : Nat), .int .i64 ((j : Nat) + 2 : Int)] w fun e w' => e = .returned (.tuple #[.int .i64 (fac k j), .int .i64 0]) ∧ Below w.heap.size w w' :=
  factor_core _ _ _ (decide_eq_true ⟨by omega, by omega⟩) (decide_eq_true ⟨by omega, by omega⟩) (fun b w h => ask_any false b k j hk hj w h) w
theorem factor_norow (k n : Int) (hk : kindB k = true) (hn : rowsB n = false) (w : World) :
    Calls Try.prog 37 #[.int .i64 k, .int .i64 n] w fun e w' => e = .returned (.tuple #[.int .i64 0, .int .i64 3]) ∧ Below w.heap.size w w' := by
  have M1 : Hid (∀ w, Calls Try.prog 44 #[.int .i64 k] w fun e w' => e = .returned (.bool true) ∧ w' = w) := Lib.hid (hk ▸ isFactor_any k)
  have M2 : Hid (∀ w, Calls Try.prog 45 #[.int .i64 n] w fun e w' => e = .returned (.bool false) ∧ w' = w) := Lib.hid (hn ▸ isSize_any n)
  clear hk hn
  go_enter Try.func37, Try.ntmps37
  go_wp2_with fail
  refine (M1.out _).mono ?_
  rintro e w' ⟨rfl, rfl⟩
  go_wp2_with fail
  refine (M2.out _).mono ?_
  rintro e w' ⟨rfl, rfl⟩
  go_wp2_with fail
  go_ret2
  exact ⟨rfl, Below.refl _ _⟩
theorem factor_nokind (k n : Int) (hk : kindB k = false) (w : World) :
    Calls Try.prog 37 #[.int .i64 k, .int .i64 n] w fun e w' => e = .returned (.tuple #[.int .i64 0, .int .i64 1]) ∧ Below w.heap.size w w' := by
  have M1 : Hid (∀ w, Calls Try.prog 44 #[.int .i64 k] w fun e w' => e = .returned (.bool false) ∧ w' = w) := Lib.hid (hk ▸ isFactor_any k)
  clear hk
  go_enter Try.func37, Try.ntmps37
  go_wp2_with fail
  refine (M1.out _).mono ?_
  rintro e w' ⟨rfl, rfl⟩
  go_wp2_with fail
  go_ret2
  exact ⟨rfl, Below.refl _ _⟩

end Go.Proofs.Ytfafkdbflmennaa
