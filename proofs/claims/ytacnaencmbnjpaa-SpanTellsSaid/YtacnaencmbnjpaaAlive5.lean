/- What the laws of stage 5 ask of Mul at one input, so that a program that refuses everything meets none; and a span out of any three ints. -/
import Derived.Test.YtacnaencmbnjpaaSpanOps
namespace Go.Proofs.Ytacnaencmbnjpaa
open Go.RowKit

theorem alive5 (w : World) :
    Calls Try.prog 15 #[] w fun en w' => en = .returned (.bool true) ∧ Below w.heap.size w w' := by
  have M1 : Hid (∀ w, Calls Try.prog 19 #[.agg #[.int .i64 (-2), .int .i64 3], .agg #[.int .i64 (-1), .int .i64 4]] w fun en w' => en = .returned (.tuple #[.agg #[.int .i64 (-8), .int .i64 12], .int .i64 0]) ∧ Below w.heap.size w w') := Lib.hid (fun w => by
    have := smul_any (-2) 3 (-1) 4 (by decide) (by decide) (by decide) (by decide) w
    rw [show oLo (-2) 3 (-1) 4 (pLo (-2) 3 (-1) 4) (pHi (-2) 3 (-1) 4) = -8 by decide, show oHi (-2) 3 (-1) 4 (pLo (-2) 3 (-1) 4) (pHi (-2) 3 (-1) 4) = 12 by decide, show oErr (-2) 3 (-1) 4 (pLo (-2) 3 (-1) 4) (pHi (-2) 3 (-1) 4) = 0 by decide] at this
    exact this)
  go_enter Try.func15, Try.ntmps15
  go_wp2_with fail
  refine (M1.out _).mono ?_
  rintro e w1 ⟨rfl, hb⟩
  have kw : Below w.heap.size w w1 := (Below.refl w.heap.size w).trans (hb.mono (Nat.le_refl _))
  have HW1 := Lib.hid kw
  clear hb kw
  go_wp2_with fail
  go_ret
  exact ⟨rfl, (HW1.out.alloc HW1.out.size _)⟩
theorem some_abc (a b c : Int) (w : World) (h1 : ¬ b < a) (h2 : ¬ c < b) :
    Calls Try.prog 25 #[.int .i64 a, .int .i64 b, .int .i64 c] w fun en w' => en = .returned (.tuple #[.agg #[.int .i64 a, .int .i64 c], .int .i64 b]) ∧ Below w.heap.size w w' := by
  go_enter Try.func25, Try.ntmps25
  go_wp2_with fail
  exact bodyPost_ret (v := .tuple #[.agg #[.int .i64 a, .int .i64 c], .int .i64 b]) (by simp [results, Try.results25, go_sem]) rfl ⟨rfl, (Below.refl _ _).alloc (Nat.le_refl _) _⟩
theorem some_acb (a b c : Int) (w : World) (h1 : ¬ b < a) (h2 : c < b) (h3 : ¬ c < a) :
    Calls Try.prog 25 #[.int .i64 a, .int .i64 b, .int .i64 c] w fun en w' => en = .returned (.tuple #[.agg #[.int .i64 a, .int .i64 b], .int .i64 c]) ∧ Below w.heap.size w w' := by
  go_enter Try.func25, Try.ntmps25
  go_wp2_with fail
  exact bodyPost_ret (v := .tuple #[.agg #[.int .i64 a, .int .i64 b], .int .i64 c]) (by simp [results, Try.results25, go_sem]) rfl ⟨rfl, (Below.refl _ _).alloc (Nat.le_refl _) _⟩
theorem some_cab (a b c : Int) (w : World) (h1 : ¬ b < a) (h2 : c < b) (h3 : c < a) :
    Calls Try.prog 25 #[.int .i64 a, .int .i64 b, .int .i64 c] w fun en w' => en = .returned (.tuple #[.agg #[.int .i64 c, .int .i64 b], .int .i64 a]) ∧ Below w.heap.size w w' := by
  go_enter Try.func25, Try.ntmps25
  go_wp2_with fail
  exact bodyPost_ret (v := .tuple #[.agg #[.int .i64 c, .int .i64 b], .int .i64 a]) (by simp [results, Try.results25, go_sem]) rfl ⟨rfl, (Below.refl _ _).alloc (Nat.le_refl _) _⟩
theorem some_bac (a b c : Int) (w : World) (h1 : b < a) (h2 : ¬ c < a) (h3 : ¬ a < b) :
    Calls Try.prog 25 #[.int .i64 a, .int .i64 b, .int .i64 c] w fun en w' => en = .returned (.tuple #[.agg #[.int .i64 b, .int .i64 c], .int .i64 a]) ∧ Below w.heap.size w w' := by
  go_enter Try.func25, Try.ntmps25
  go_wp2_with fail
  exact bodyPost_ret (v := .tuple #[.agg #[.int .i64 b, .int .i64 c], .int .i64 a]) (by simp [results, Try.results25, go_sem]) rfl ⟨rfl, (Below.refl _ _).alloc (Nat.le_refl _) _⟩
theorem some_bca (a b c : Int) (w : World) (h1 : b < a) (h2 : c < a) (h3 : ¬ c < b) :
    Calls Try.prog 25 #[.int .i64 a, .int .i64 b, .int .i64 c] w fun en w' => en = .returned (.tuple #[.agg #[.int .i64 b, .int .i64 a], .int .i64 c]) ∧ Below w.heap.size w w' := by
  go_enter Try.func25, Try.ntmps25
  go_wp2_with fail
  exact bodyPost_ret (v := .tuple #[.agg #[.int .i64 b, .int .i64 a], .int .i64 c]) (by simp [results, Try.results25, go_sem]) rfl ⟨rfl, (Below.refl _ _).alloc (Nat.le_refl _) _⟩
theorem some_cba (a b c : Int) (w : World) (h1 : b < a) (h2 : c < a) (h3 : c < b) :
    Calls Try.prog 25 #[.int .i64 a, .int .i64 b, .int .i64 c] w fun en w' => en = .returned (.tuple #[.agg #[.int .i64 c, .int .i64 a], .int .i64 b]) ∧ Below w.heap.size w w' := by
  go_enter Try.func25, Try.ntmps25
  go_wp2_with fail
  exact bodyPost_ret (v := .tuple #[.agg #[.int .i64 c, .int .i64 a], .int .i64 b]) (by simp [results, Try.results25, go_sem]) rfl ⟨rfl, (Below.refl _ _).alloc (Nat.le_refl _) _⟩
/-- Any three ints in order: a span that may be, and one of its numbers. -/
theorem some_any (a b c : Int) (ha : IsInt a) (hb : IsInt b) (hc : IsInt c) : ∃ lo mid hi, IsInt lo ∧ IsInt mid ∧ IsInt hi ∧ lo ≤ mid ∧ mid ≤ hi ∧ ∀ w, Calls Try.prog 25 #[.int .i64 a, .int .i64 b, .int .i64 c] w fun en w' => en = .returned (.tuple #[.agg #[.int .i64 lo, .int .i64 hi], .int .i64 mid]) ∧ Below w.heap.size w w' := by
  by_cases h1 : b < a
  · by_cases h2 : c < a
    · by_cases h3 : c < b
      · exact ⟨c, b, a, hc, hb, ha, by omega, by omega, fun w => some_cba a b c w h1 h2 h3⟩
      · exact ⟨b, c, a, hb, hc, ha, by omega, by omega, fun w => some_bca a b c w h1 h2 h3⟩
    · exact ⟨b, a, c, hb, ha, hc, by omega, by omega, fun w => some_bac a b c w h1 h2 (by omega)⟩
  · by_cases h2 : c < b
    · by_cases h3 : c < a
      · exact ⟨c, a, b, hc, ha, hb, by omega, by omega, fun w => some_cab a b c w h1 h2 h3⟩
      · exact ⟨a, c, b, ha, hc, hb, by omega, by omega, fun w => some_acb a b c w h1 h2 h3⟩
    · exact ⟨a, b, c, ha, hb, hc, by omega, by omega, fun w => some_abc a b c w h1 h2⟩
end Go.Proofs.Ytacnaencmbnjpaa
