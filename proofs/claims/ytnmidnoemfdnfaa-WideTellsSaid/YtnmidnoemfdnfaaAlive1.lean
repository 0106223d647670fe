/- The law's own small test (a product, a sum, one less than the other) answers true; nothing that was in memory before is changed. -/
import Derived.Test.YtnmidnoemfdnfaaWAdd
import Derived.Test.YtnmidnoemfdnfaaWMul
namespace Go.Proofs.Ytnmidnoemfdnfaa
open Go.RowKit

theorem mul_lit (w : World) :
    Calls Try.prog 18 #[.int .u64 9223372036854775808, .int .u64 4] w fun e w' => e = .returned (.agg #[.int .u64 2, .int .u64 0]) ∧ w.alloc (.cells #[.int .u64 2, .int .u64 0] 24) = w' := by
  have h := mul_any 9223372036854775808 4 (by decide) (by decide) w
  rw [show hi (9223372036854775808 * 4) = 2 from by decide, show lo (9223372036854775808 * 4) = 0 from by decide] at h
  exact h
theorem add_lit (w : World) :
    Calls Try.prog 8 #[.agg #[.int .u64 2, .int .u64 0], .agg #[.int .u64 0, .int .u64 3]] w fun e w' => e = .returned (.tuple #[.agg #[.int .u64 2, .int .u64 3], .bool false]) ∧ Below w.heap.size w w' := by
  have h := add_num 36893488147419103232 3 w
  rw [show hi 36893488147419103232 = 2 from by decide, show lo 36893488147419103232 = 0 from by decide, show hi 3 = 0 from by decide, show lo 3 = 3 from by decide, show addW 36893488147419103232 3 = 36893488147419103235 from by decide, show hi 36893488147419103235 = 2 from by decide, show lo 36893488147419103235 = 3 from by decide, show addO 36893488147419103232 3 = false from by decide] at h
  exact h
theorem less_lit (w : World) :
    Calls Try.prog 13 #[.agg #[.int .u64 2, .int .u64 0], .agg #[.int .u64 2, .int .u64 3]] w fun e w' => e = .returned (.bool true) ∧ Below w.heap.size w w' := by
  have h := less_num 36893488147419103232 36893488147419103235 (by decide) (by decide) w
  rw [show hi 36893488147419103232 = 2 from by decide, show lo 36893488147419103232 = 0 from by decide, show hi 36893488147419103235 = 2 from by decide, show lo 36893488147419103235 = 3 from by decide, show ltW 36893488147419103232 36893488147419103235 = true from by decide] at h
  exact h

set_option maxHeartbeats 1000000 in
theorem alive_any (w : World) : Calls Try.prog 12 #[] w fun e w' => e = .returned (.bool true) ∧ Below w.heap.size w w' := by
  go_enter Try.func12, Try.ntmps12
  go_wp2_with fail
  refine (mul_lit _).mono ?_
  rintro e w' ⟨rfl, rfl⟩
  go_wp2_with fail
  refine (add_lit _).mono ?_
  rintro e w1 ⟨rfl, hb1⟩
  have z1 := hb1.size
  have c0 := hb1.cell (p := ⟨w.heap.size + 1, 0, none⟩) (by simp)
  have c1 := hb1.cell (p := ⟨w.heap.size + 1, 1, none⟩) (by simp)
  simp [go_sem] at z1 c0 c1
  have z2 : w.heap.size + 1 < w1.heap.size := by omega
  go_wp2_with fail
  refine (less_lit _).mono ?_
  rintro e w2 ⟨rfl, hb2⟩
  go_wp2_with fail
  go_ret
  refine ⟨rfl, ?_⟩
  have z3 := hb2.size
  simp at z3
  exact (((((Below.refl _ _).alloc (Nat.le_refl _) _).alloc (by simp) _).trans (hb1.mono (by simp; omega))).alloc (by omega) _).trans (hb2.mono (by simp; omega))
end Go.Proofs.Ytnmidnoemfdnfaa
