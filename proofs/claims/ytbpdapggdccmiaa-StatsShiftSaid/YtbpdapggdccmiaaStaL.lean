/- datumlaw11.alive. -/
import Derived.Test.YtbpdapggdccmiaaStaK
import Derived.Test.YtbpdapggdccmiaaApI
namespace Go.Proofs.Ytbpdapggdccmiaa
open Go.RowKit

theorem alive_of : ofS [1, 3, -2] = ⟨3, 2, 14, -2, 3⟩ ∧ ofE [1, 3, -2] = 0 := ⟨by kernel_rfl, by kernel_rfl⟩
theorem alive_spr : sprN ⟨3, 2, 14, -2, 3⟩ = 38 ∧ sprE ⟨3, 2, 14, -2, 3⟩ = 0 := ⟨by kernel_rfl, by kernel_rfl⟩
set_option maxHeartbeats 2000000 in
set_option maxRecDepth 100000 in
theorem alive11_any (w : World) : Calls Try.prog 12 #[] w fun e w' => e = .returned (.bool true) ∧ Below w.heap.size w w' := by
  obtain ⟨w1, hw1⟩ : ∃ w1, w.alloc (.cells #[.int .i64 1, .int .i64 3, .int .i64 (-2)] 3) = w1 := ⟨_, rfl⟩
  have hb1 : Below w.heap.size w w1 := by rw [← hw1]; exact (Below.refl _ _).alloc (Nat.le_refl _) _
  have hh1 : Has w1 w.heap.size [.int .i64 1, .int .i64 3, .int .i64 (-2)] 3 := by rw [← hw1]; exact Has.new _ _ _
  have hf := of11_any [1, 3, -2] (.slice (some ⟨w.heap.size, 0, none⟩) 3 3) w1 (hh1.readsI (cap := 3) rfl rfl (Nat.le_refl _) (by omega) rfl) (by decide)
  rw [alive_of.1, alive_of.2] at hf
  have HB1 := Lib.hid hb1
  have HW1 := Lib.hid hw1
  have hsp := fun w => spread11_any ⟨3, 2, 14, -2, 3⟩ (by decide) w
  rw [alive_spr.1, alive_spr.2] at hsp
  unfold staV at hf hsp
  dsimp only at hf hsp
  clear hb1 hh1 hw1
  go_enter Try.func12, Try.ntmps12
  go_wp2_with fail
  rw [HW1.out]
  refine hf.mono ?_
  rintro e w2 ⟨rfl, k2⟩
  have HB2 := HB1.out.trans (k2.mono HB1.out.size)
  obtain ⟨w3, hw3⟩ : ∃ w3, w2.alloc (.cells #[.int .i64 3, .int .i64 2, .int .u64 0, .int .u64 14, .int .i64 (-2), .int .i64 3] 27) = w3 := ⟨_, rfl⟩
  have HB3 := Lib.hid (show Below w.heap.size w w3 by rw [← hw3]; exact HB2.alloc HB2.size _)
  have HX3 := Lib.hid (show Has w3 w2.heap.size [.int .i64 3, .int .i64 2, .int .u64 0, .int .u64 14, .int .i64 (-2), .int .i64 3] 27 by rw [← hw3]; exact Has.new _ _ _)
  have HW3 := Lib.hid (show w2.alloc (.cells #[.int .i64 3, .int .i64 2, .int .u64 (hi 14 : Nat), .int .u64 (lo 14 : Nat), .int .i64 (-2), .int .i64 3] 27) = w3 from hw3)
  have hsp3 := hsp w3
  clear hw3 k2 hf HB2 hsp
  go_upto_region 2 with fail
  rw [HW3.out]
  have xc0 : w3.cell? ⟨w2.heap.size, 0, none⟩ = some (.int .i64 3) := HX3.out.cell 0
  have xc1 : w3.cell? ⟨w2.heap.size, 1, none⟩ = some (.int .i64 2) := HX3.out.cell 1
  have xc2 : w3.cell? ⟨w2.heap.size, 2, none⟩ = some (.int .u64 0) := HX3.out.cell 2
  have xc3 : w3.cell? ⟨w2.heap.size, 3, none⟩ = some (.int .u64 14) := HX3.out.cell 3
  have xc4 : w3.cell? ⟨w2.heap.size, 4, none⟩ = some (.int .i64 (-2)) := HX3.out.cell 4
  have xc5 : w3.cell? ⟨w2.heap.size, 5, none⟩ = some (.int .i64 3) := HX3.out.cell 5
  have hsp4 : Calls Try.prog 9 #[.agg #[.int .i64 3, .int .i64 2, .int .u64 0, .int .u64 14, .int .i64 (-2), .int .i64 3]] w3 fun e w' => e = .returned (.tuple #[.agg #[.int .u64 0, .int .u64 38], .int .i64 0]) ∧ Below w3.heap.size w3 w' := hsp3
  clear hsp3
  go_wp2_with fail
  refine hsp4.mono ?_
  rintro e w4 ⟨rfl, k4⟩
  have HX4 := HX3.out.call k4
  have HB4 := HB3.out.trans (k4.mono HB3.out.size)
  have hl4 := HX4.lt
  obtain ⟨w5, hw5⟩ : ∃ w5, w4.alloc (.cells #[.int .u64 0, .int .u64 38] 25) = w5 := ⟨_, rfl⟩
  have HB5 := Lib.hid (show Below w.heap.size w w5 by rw [← hw5]; exact HB4.alloc HB4.size _)
  have HX5 := Lib.hid (show Has w5 w2.heap.size [.int .i64 3, .int .i64 2, .int .u64 0, .int .u64 14, .int .i64 (-2), .int .i64 3] 27 by rw [← hw5]; exact HX4.alloc _)
  have HD5 := Lib.hid (show Has w5 w4.heap.size [.int .u64 0, .int .u64 38] 25 by rw [← hw5]; exact Has.new _ _ _)
  have HW5 := Lib.hid hw5
  clear hw5 k4 HX4 HB4 hsp4 xc0 xc1 xc2 xc3 xc4 xc5
  go_upto_region 3 with fail
  rw [HW5.out]
  have xc0 : w5.cell? ⟨w2.heap.size, 0, none⟩ = some (.int .i64 3) := HX5.out.cell 0
  have xc1 : w5.cell? ⟨w2.heap.size, 1, none⟩ = some (.int .i64 2) := HX5.out.cell 1
  have xc2 : w5.cell? ⟨w2.heap.size, 2, none⟩ = some (.int .u64 0) := HX5.out.cell 2
  have xc3 : w5.cell? ⟨w2.heap.size, 3, none⟩ = some (.int .u64 14) := HX5.out.cell 3
  have xc4 : w5.cell? ⟨w2.heap.size, 4, none⟩ = some (.int .i64 (-2)) := HX5.out.cell 4
  have xc5 : w5.cell? ⟨w2.heap.size, 5, none⟩ = some (.int .i64 3) := HX5.out.cell 5
  have dc0 : w5.cell? ⟨w4.heap.size, 0, none⟩ = some (.int .u64 0) := HD5.out.cell 0
  have dc1 : w5.cell? ⟨w4.heap.size, 1, none⟩ = some (.int .u64 38) := HD5.out.cell 1
  go_wp2
  go_ret
  exact ⟨rfl, HB5.out⟩
end Go.Proofs.Ytbpdapggdccmiaa
