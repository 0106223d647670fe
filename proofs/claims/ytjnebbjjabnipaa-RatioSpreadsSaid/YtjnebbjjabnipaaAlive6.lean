/- What the laws of stage 6 ask of New and Add at one input, so that a program that refuses everything meets none; == of two ratios. -/
import Derived.Test.YtjnebbjjabnipaaRatioOps
namespace Go.Proofs.Ytjnebbjjabnipaa
open Go.RowKit

theorem eqRatio (a b c d : Int) (w : World) : (Op.equalIn 10000 23 (.agg #[.int .i64 a, .int .i64 b]) (.agg #[.int .i64 c, .int .i64 d])).run Try.prog w = .ok (decide (a = c ∧ b = d)) w := by
  by_cases h : a = c ∧ b = d
  · rw [decide_eq_true h]
    obtain ⟨rfl, rfl⟩ := h
    go_simp
  · rw [decide_eq_false h]
    by_cases k : a = c
    · have e1 : (a == c) = true := by simpa using k
      have e2 : (b == d) = false := by simpa using fun e => h ⟨k, e⟩
      go_simp
    · have e1 : (a == c) = false := by simpa using k
      go_simp
theorem eqRatio_same (a b : Int) (w : World) : (Op.equalIn 10000 23 (.agg #[.int .i64 a, .int .i64 b]) (.agg #[.int .i64 a, .int .i64 b])).run Try.prog w = .ok true w := by
  rw [eqRatio, decide_eq_true ⟨rfl, rfl⟩]
theorem alive6_core (w : World)
    (m1 : ∀ w, Calls Try.prog 8 #[.int .i64 6, .int .i64 (-4)] w fun en w' => en = .returned (.tuple #[.agg #[.int .i64 (-3), .int .i64 2], .int .i64 0]) ∧ Below w.heap.size w w')
    (m2 : ∀ w, Calls Try.prog 14 #[.agg #[.int .i64 (-3), .int .i64 2], .agg #[.int .i64 (-3), .int .i64 2]] w fun en w' => en = .returned (.tuple #[.agg #[.int .i64 (-3), .int .i64 1], .int .i64 0]) ∧ Below w.heap.size w w') :
    Calls Try.prog 11 #[] w fun en w' => en = .returned (.bool true) ∧ Below w.heap.size w w' := by
  have M1 := Lib.hid m1; have M2 := Lib.hid m2
  clear m1 m2
  go_enter Try.func11, Try.ntmps11
  go_wp2_with fail
  refine (M1.out _).mono ?_
  rintro e w1 ⟨rfl, hb⟩
  have HMw1 := Lib.hid ((Mem.start w).call hb)
  clear hb
  go_wp2_with fail
  refine (M2.out _).mono ?_
  rintro e w2 ⟨rfl, hb⟩
  have HMw2 := Lib.hid ((HMw1.out.new w1.heap.size _ _ rfl).call hb)
  clear hb HMw1
  have la : w1.heap.size < w2.heap.size := HMw2.out.lt 0 rfl
  have ca0 : w2.cell? ⟨w1.heap.size, 0, none⟩ = some (.int .i64 (-3)) := HMw2.out.cell 0 rfl rfl
  have ca1 : w2.cell? ⟨w1.heap.size, 1, none⟩ = some (.int .i64 2) := HMw2.out.cell 0 rfl rfl
  go_wp2_with fail
  go_ret
  exact ⟨rfl, (HMw2.out.new w2.heap.size _ _ rfl).low⟩
theorem alive6 (w : World) :
    Calls Try.prog 11 #[] w fun en w' => en = .returned (.bool true) ∧ Below w.heap.size w w' := by
  refine alive6_core w (fun w => ?_) (fun w => ?_)
  · have := new_any 6 (-4) (by decide) (by decide) w
    rw [show raN 6 (-4) = -3 by decide, show raD 6 (-4) = 2 by decide, show raE 6 (-4) = 0 by decide] at this
    exact this
  · have := qadd_ok (-3) 2 (-3) 2 (by decide) (by decide) (by decide) (by decide) (by decide) (by decide) w
    rw [show raN (-3 * 2 + -3 * 2) (2 * 2) = -3 by decide, show raD (-3 * 2 + -3 * 2) (2 * 2) = 1 by decide, show raE (-3 * 2 + -3 * 2) (2 * 2) = 0 by decide] at this
    exact this
end Go.Proofs.Ytjnebbjjabnipaa
