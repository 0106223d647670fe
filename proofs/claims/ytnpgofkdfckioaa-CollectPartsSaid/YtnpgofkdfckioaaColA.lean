/- collect's small functions, and the reference's: takes, Fits, Sizes. -/
import Derived.Test.YtnpgofkdfckioaaIRow
import Derived.Test.YtnpgofkdfckioaaColN
import Derived.Test.YtnpgofkdfckioaaHas
namespace Go.Proofs.Ytnpgofkdfckioaa
open Go.RowKit

set_option maxRecDepth 100000 in
theorem takes_any (s lo hi x : Int) (ao : Option Addr) (n cap : Nat) (w : World) :
    Calls Try.prog 22 #[.agg #[.int .i64 s, .int .i64 lo, .int .i64 hi, .slice ao n cap], .int .i64 x] w fun e w' => e = .returned (.bool (decide (lo ≤ x ∧ x ≤ hi))) ∧ Below w.heap.size w w' := by
  have hB := (Below.refl w.heap.size w).alloc (Nat.le_refl _) (.cells #[.int .i64 s, .int .i64 lo, .int .i64 hi, .slice ao n cap] 24)
  by_cases h1 : lo ≤ x
  · by_cases h2 : x ≤ hi
    · rw [show decide (lo ≤ x ∧ x ≤ hi) = true from decide_eq_true ⟨h1, h2⟩]
      go_enter Try.func22, Try.ntmps22
      go_wp2
      go_ret
      exact ⟨rfl, hB⟩
    · rw [show decide (lo ≤ x ∧ x ≤ hi) = false from decide_eq_false fun h => h2 h.2]
      go_enter Try.func22, Try.ntmps22
      go_wp2
      go_ret
      exact ⟨rfl, hB⟩
  · rw [show decide (lo ≤ x ∧ x ≤ hi) = false from decide_eq_false fun h => h1 h.1]
    go_enter Try.func22, Try.ntmps22
    go_wp2
    go_ret
    exact ⟨rfl, hB⟩
set_option maxRecDepth 100000 in
theorem fits_any (s lo hi x : Int) (ao : Option Addr) (n cap : Nat) (w : World) :
    Calls Try.prog 16 #[.agg #[.int .i64 s, .int .i64 lo, .int .i64 hi, .slice ao n cap], .int .i64 x] w fun e w' => e = .returned (.bool (decide (lo ≤ x ∧ x ≤ hi))) ∧ Below w.heap.size w w' := by
  have hB := (Below.refl w.heap.size w).alloc (Nat.le_refl _) (.cells #[.int .i64 s, .int .i64 lo, .int .i64 hi, .slice ao n cap] 24)
  by_cases h1 : lo ≤ x
  · by_cases h2 : x ≤ hi
    · rw [show decide (lo ≤ x ∧ x ≤ hi) = true from decide_eq_true ⟨h1, h2⟩]
      go_enter Try.func16, Try.ntmps16
      go_wp2
      go_ret
      exact ⟨rfl, hB⟩
    · rw [show decide (lo ≤ x ∧ x ≤ hi) = false from decide_eq_false fun h => h2 h.2]
      go_enter Try.func16, Try.ntmps16
      go_wp2
      go_ret
      exact ⟨rfl, hB⟩
  · rw [show decide (lo ≤ x ∧ x ≤ hi) = false from decide_eq_false fun h => h1 h.1]
    go_enter Try.func16, Try.ntmps16
    go_wp2
    go_ret
    exact ⟨rfl, hB⟩
set_option maxRecDepth 100000 in
theorem sizes_any (s lo hi : Int) (w : World) :
    Calls Try.prog 14 #[.int .i64 s, .int .i64 lo, .int .i64 hi] w fun e w' => e = .returned (.bool (sizesB s lo hi)) ∧ w = w' := by
  unfold sizesB
  by_cases h1 : 1 ≤ s
  · by_cases h2 : s ≤ 10
    · by_cases h3 : -1000000 ≤ lo
      · by_cases h4 : hi ≤ 1000000
        · by_cases h5 : lo < hi
          · rw [show decide (1 ≤ s ∧ s ≤ 10 ∧ -1000000 ≤ lo ∧ hi ≤ 1000000 ∧ lo < hi) = true from decide_eq_true (by omega)]
            go_enter Try.func14, Try.ntmps14
            go_wp2
            go_ret
            exact ⟨rfl, rfl⟩
          · rw [show decide (1 ≤ s ∧ s ≤ 10 ∧ -1000000 ≤ lo ∧ hi ≤ 1000000 ∧ lo < hi) = false from decide_eq_false (by omega)]
            go_enter Try.func14, Try.ntmps14
            go_wp2
            go_ret
            exact ⟨rfl, rfl⟩
        · rw [show decide (1 ≤ s ∧ s ≤ 10 ∧ -1000000 ≤ lo ∧ hi ≤ 1000000 ∧ lo < hi) = false from decide_eq_false (by omega)]
          go_enter Try.func14, Try.ntmps14
          go_wp2
          go_ret
          exact ⟨rfl, rfl⟩
      · rw [show decide (1 ≤ s ∧ s ≤ 10 ∧ -1000000 ≤ lo ∧ hi ≤ 1000000 ∧ lo < hi) = false from decide_eq_false (by omega)]
        go_enter Try.func14, Try.ntmps14
        go_wp2
        go_ret
        exact ⟨rfl, rfl⟩
    · rw [show decide (1 ≤ s ∧ s ≤ 10 ∧ -1000000 ≤ lo ∧ hi ≤ 1000000 ∧ lo < hi) = false from decide_eq_false (by omega)]
      go_enter Try.func14, Try.ntmps14
      go_wp2
      go_ret
      exact ⟨rfl, rfl⟩
  · rw [show decide (1 ≤ s ∧ s ≤ 10 ∧ -1000000 ≤ lo ∧ hi ≤ 1000000 ∧ lo < hi) = false from decide_eq_false (by omega)]
    go_enter Try.func14, Try.ntmps14
    go_wp2
    go_ret
    exact ⟨rfl, rfl⟩
end Go.Proofs.Ytnpgofkdfckioaa
