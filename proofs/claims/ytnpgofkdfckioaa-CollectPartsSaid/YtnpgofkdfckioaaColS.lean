/- datumlaw10.alive. -/
import Derived.Test.YtnpgofkdfckioaaColP
import Derived.Test.YtnpgofkdfckioaaColR
namespace Go.Proofs.Ytnpgofkdfckioaa
open Go.RowKit

theorem alive_fed : feedN ⟨2, 0, 9, []⟩ [1, 10, 2, 3] = (⟨2, 0, 9, [3]⟩, [[1, 2]], 1) := by kernel_rfl
set_option maxHeartbeats 1000000 in
set_option maxRecDepth 100000 in
theorem alive10_any (w : World) : Calls Try.prog 13 #[] w fun e w' => e = .returned (.bool true) ∧ Below w.heap.size w w' := by
  have hn := new_ok 2 0 9 w (by decide)
  go_enter Try.func13, Try.ntmps13
  go_wp2_with fail
  refine hn.mono ?_
  rintro e w2 ⟨rfl, k2⟩
  have hb3 := (k2.alloc k2.size (.cells #[.int .i64 2, .int .i64 0, .int .i64 9, .slice none 0 0] 24))
  have hs3 : (w2.alloc (.cells #[.int .i64 2, .int .i64 0, .int .i64 9, .slice none 0 0] 24)).heap.size = w2.heap.size + 1 := by simp
  obtain ⟨w4, hw4⟩ : ∃ w4, (w2.alloc (.cells #[.int .i64 2, .int .i64 0, .int .i64 9, .slice none 0 0] 24)).alloc (.cells #[.int .i64 1, .int .i64 10, .int .i64 2, .int .i64 3] 3) = w4 := ⟨_, rfl⟩
  have hb4 : Below w.heap.size w w4 := by rw [← hw4]; exact hb3.alloc (by rw [hs3]; have := k2.size; omega) _
  have hh4 : Has w4 (w2.heap.size + 1) [.int .i64 1, .int .i64 10, .int .i64 2, .int .i64 3] 3 := by
    have := Has.new (w2.alloc (.cells #[.int .i64 2, .int .i64 0, .int .i64 9, .slice none 0 0] 24)) [.int .i64 1, .int .i64 10, .int .i64 2, .int .i64 3] 3
    rw [hs3] at this
    rw [← hw4]; exact this
  have hf := feed_any 2 0 9 [] [1, 10, 2, 3] (.slice none 0 0) (.slice (some ⟨w2.heap.size + 1, 0, none⟩) 4 4) w4 (ReadsI.nil _) (hh4.readsI (cap := 4) rfl rfl (Nat.le_refl _) (by omega) rfl) (by decide) (by decide)
  rw [alive_fed] at hf
  dsimp only at hf
  have HW := Lib.hid hw4
  have HB4 := Lib.hid hb4
  clear hn k2 hb3 hs3 hb4 hh4 hw4
  go_wp2_with fail
  rw [HW.out]
  refine hf.mono ?_
  rintro e w5 ⟨v', r, rfl, hv, hrr, k5⟩
  obtain ⟨av, cv, rfl, -⟩ := hv
  obtain ⟨ar, cr, rfl, hr1, hr2, hr3⟩ := hrr
  obtain ⟨b, off, u, rfl, hlt, hc, hu⟩ := hr3 0 (by decide)
  obtain ⟨au, cu, rfl, hu1, hu2, hu3⟩ := hu
  obtain ⟨b2, off2, rfl, hlt2, hc2⟩ := hu3 1 (by decide)
  have hc' : w5.cell? ⟨b, off, none⟩ = some (.slice (some ⟨b2, off2, none⟩) 2 cu) := hc
  have hc2' : w5.cell? ⟨b2, off2 + 1, none⟩ = some (.int .i64 2) := hc2
  have hB := (HB4.out.trans (k5.mono HB4.out.size)).alloc (by have := HB4.out.size; have := k5.size; omega) (.cells #[.int .i64 2, .int .i64 0, .int .i64 9, .slice av 1 cv] 24)
  have hne1 : (b == w5.heap.size) = false := beq_false_of_ne (by omega)
  have hne2 : (b2 == w5.heap.size) = false := beq_false_of_ne (by omega)
  have HBB := Lib.hid hB
  clear hr3 hu3 hf hc hc2 k5 hB
  go_wp2
  go_ret
  exact ⟨rfl, HBB.out⟩
end Go.Proofs.Ytnpgofkdfckioaa
