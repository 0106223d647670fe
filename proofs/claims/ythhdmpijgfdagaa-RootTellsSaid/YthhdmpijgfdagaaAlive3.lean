/- The law's own small test (two roots) answers true; nothing that was in memory before is changed. -/
import Derived.Test.YthhdmpijgfdagaaRootUp
namespace Go.Proofs.Ythhdmpijgfdagaa
open Go.RowKit

theorem up_lit (w : World) :
    Calls Try.prog 9 #[.agg #[.int .u64 0, .int .u64 8]] w fun e w' => e = .returned (.agg #[.int .u64 0, .int .u64 3]) ∧ Below w.heap.size w w' :=
  up_num 8 2 (by decide) ⟨by decide, by decide⟩ w
theorem root_lit (w : World) :
    Calls Try.prog 7 #[.agg #[.int .u64 0, .int .u64 8]] w fun e w' => e = .returned (.int .u64 2) ∧ Below w.heap.size w w' :=
  root_num 8 2 (by decide) ⟨by decide, by decide⟩ w
theorem square_lit (w : World) :
    Calls Try.prog 11 #[.agg #[.int .u64 0, .int .u64 9]] w fun e w' => e = .returned (.bool true) ∧ Below w.heap.size w w' :=
  square_num 9 3 (by decide) ⟨by decide, by decide⟩ w
theorem alive3 (w : World) : Calls Try.prog 6 #[] w fun e w' => e = .returned (.bool true) ∧ Below w.heap.size w w' := by
  go_enter Try.func6, Try.ntmps6
  go_wp2_with fail
  refine (up_lit _).mono ?_
  rintro e w1 ⟨rfl, hb1⟩
  have HB1 := Lib.hid hb1; clear hb1
  go_wp2_with fail
  refine (root_lit _).mono ?_
  rintro e w2 ⟨rfl, hb2⟩
  have c1 : w2.cell? ⟨w1.heap.size, 1, none⟩ = some (.int .u64 3) := (hb2.cell (p := ⟨w1.heap.size, 1, none⟩) (by simp)).trans (by simp [go_sem])
  have hw2 : Below w.heap.size w w2 := (HB1.out.alloc HB1.out.size _).trans (hb2.mono (by have := HB1.out.size; simp; omega))
  have HW2 := Lib.hid hw2; clear hb2 hw2
  go_wp2_with fail
  refine (square_lit _).mono ?_
  rintro e w3 ⟨rfl, hb3⟩
  have HB3 := Lib.hid hb3; clear hb3
  go_wp2_with fail
  go_ret
  exact ⟨rfl, HW2.out.trans (HB3.out.mono HW2.out.size)⟩
end Go.Proofs.Ythhdmpijgfdagaa
