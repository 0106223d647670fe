/- The reference of stage 15: Wide. -/
import Derived.Test.YtfafkdbflmennaaBasC
namespace Go.Proofs.Ytfafkdbflmennaa
open Go.RowKit

set_option linter.unusedSimpArgs false in
set_option linter.unusedVariables false in
set_option maxHeartbeats 8000000 in
set_option maxRecDepth 100000 in
theorem rwide15_10 (m sum rng last r x F3 F4 Y3 Y4 : Int) (w : World) (hm : 2 ≤ m ∧ m ≤ 25) (hx : wrap64 (wrap64 (r * (m - 1)) * 10000) = x) (e4 : IntKind.i64.wrap (F4 * rng) = Y4) (e3 : IntKind.i64.wrap (F3 * rng) = Y3) (g4 : Y4 < x)
    (HF4 : Hid (∀ W, Calls Try.prog 32 #[.int .i64 2, .int .i64 2] W fun e w' => e = .returned (.int .i64 F4) ∧ Below W.heap.size W w'))
    (HF3 : Hid (∀ W, Calls Try.prog 32 #[.int .i64 1, .int .i64 2] W fun e w' => e = .returned (.int .i64 F3) ∧ Below W.heap.size W w')) :
    Calls Try.prog 19 #[.agg #[.int .i64 1, .int .i64 m, .int .i64 sum, .int .i64 rng, .int .i64 last], .int .i64 r] w fun e w' => e = .returned (.int .i64 1) ∧ Below w.heap.size w w' := by
  obtain ⟨w2, hw2⟩ : ∃ w2, (w.alloc (.cells #[.int .i64 1, .int .i64 m, .int .i64 sum, .int .i64 rng, .int .i64 last] 23)) = w2 := ⟨_, rfl⟩
  have h2i : OneB w w2 [.int .i64 1, .int .i64 m, .int .i64 sum, .int .i64 rng, .int .i64 last] 23 := by rw [← hw2]; exact oneB w _ _
  have HI := Lib.hid h2i; have HW2 := Lib.hid hw2
  have HE4 := Lib.hid e4; have HE3 := Lib.hid e3; have HXX := Lib.hid hx
  clear h2i hw2 e4 e3 hx
  go_enter Try.func19, Try.ntmps19
  go_upto_region 1 with fail
  rw [HW2.out]
  have c0 := HI.out.a.cell 0
  have c1 := HI.out.a.cell 1
  have c2 := HI.out.a.cell 2
  have c3 := HI.out.a.cell 3
  have c4 := HI.out.a.cell 4
  simp only [List.getElem?_cons_zero, List.getElem?_cons_succ] at c0 c1 c2 c3 c4
  have l1 := HI.out.a.lt
  go_upto_region 7 with fail
  rw [HXX.out]
  clear c0 c1 c2 c3 c4 l1
  have e4 := HE4.out
  have HD0 := Lib.hid HI.out.drew
  refine wp_region_held_drew (S := (fun W => W.cell? ⟨w.heap.size, 0, none⟩ = some (.int .i64 1) ∧ W.cell? ⟨w.heap.size, 1, none⟩ = some (.int .i64 m) ∧ W.cell? ⟨w.heap.size, 2, none⟩ = some (.int .i64 sum) ∧ W.cell? ⟨w.heap.size, 3, none⟩ = some (.int .i64 rng) ∧ W.cell? ⟨w.heap.size, 4, none⟩ = some (.int .i64 last))) (by kernel_rfl) ⟨HD0.out.a.cell 0, HD0.out.a.cell 1, HD0.out.a.cell 2, HD0.out.a.cell 3, HD0.out.a.cell 4⟩ (fun hHeld => ?_)
  refine regTake 0 (some 21) (v := ?_) rfl rfl (by kernel_rfl) (by kernel_rfl) (by kernel_rfl) (fun _ _ _ h => h) (by rfl) hHeld ?_ ?_
  rotate_left 1
  · (intro w hSw; (try dsimp only at hSw); go_simp; try with_reducible rfl)
  simp only [Act.put, List.setIfInBounds_toArray, List.set_cons_zero, List.set_cons_succ]
  refine regTake 1 (some 22) (v := ?_) rfl rfl (by kernel_rfl) (by kernel_rfl) (by kernel_rfl) (fun _ _ _ h => h) (by rfl) hHeld ?_ ?_
  rotate_left 1
  · (intro w hSw; (try dsimp only at hSw); go_simp; try with_reducible rfl)
  simp only [Act.put, List.setIfInBounds_toArray, List.set_cons_zero, List.set_cons_succ]
  refine regTake 3 (some 24) (v := ?_) rfl rfl (by kernel_rfl) (by kernel_rfl) (by kernel_rfl) (fun _ _ _ h => h) (by rfl) hHeld ?_ ?_
  rotate_left 1
  · (intro w hSw; (try dsimp only at hSw); go_simp; try with_reducible rfl)
  simp only [Act.put, List.setIfInBounds_toArray, List.set_cons_zero, List.set_cons_succ]
  refine regTake 4 (some 25) (v := ?_) rfl rfl (by kernel_rfl) (by kernel_rfl) (by kernel_rfl) (fun _ _ _ h => h) (by rfl) hHeld ?_ ?_
  rotate_left 1
  · (intro w hSw; (try dsimp only at hSw); go_simp; try with_reducible rfl)
  simp only [Act.put, List.setIfInBounds_toArray, List.set_cons_zero, List.set_cons_succ]
  refine regCall 2 (some 23) (f := 32) (args := ?_) rfl rfl (by kernel_rfl) (by rfl) ?_ ?_
  rotate_left 1
  · (go_simp; try with_reducible rfl)
  refine (HF4.out _).mono ?_
  rintro e wx2 ⟨rfl, k6⟩
  refine ⟨_, rfl, ⟨(HD0.out.call k6).a.cell 0, (HD0.out.call k6).a.cell 1, (HD0.out.call k6).a.cell 2, (HD0.out.call k6).a.cell 3, (HD0.out.call k6).a.cell 4⟩, fun hHeld => ?_⟩
  simp only [Act.put, List.setIfInBounds_toArray, List.set_cons_zero, List.set_cons_succ]
  have HD6 := Lib.hid (HD0.out.call k6)
  clear k6
  refine regTake 5 (some 26) (v := ?_) rfl rfl (by kernel_rfl) (by kernel_rfl) (by kernel_rfl) (fun _ _ _ h => h) (by rfl) hHeld ?_ ?_
  rotate_left 1
  · (intro w hSw; (try dsimp only at hSw); go_simp; try with_reducible rfl)
  simp only [Act.put, List.setIfInBounds_toArray, List.set_cons_zero, List.set_cons_succ]
  refine regTake 6 (some 27) (v := ?_) rfl rfl (by kernel_rfl) (by kernel_rfl) (by kernel_rfl) (fun _ _ _ h => h) (by rfl) hHeld ?_ ?_
  rotate_left 1
  · (intro w hSw; (try dsimp only at hSw); go_simp; try with_reducible rfl)
  simp only [Act.put, List.setIfInBounds_toArray, List.set_cons_zero, List.set_cons_succ]
  refine wpAnyH_done (by kernel_rfl) ?_ _
  clear hHeld e4
  go_wp2_with fail
  go_ret
  exact ⟨rfl, HD6.out.below⟩
set_option linter.unusedSimpArgs false in
set_option linter.unusedVariables false in
set_option maxHeartbeats 8000000 in
set_option maxRecDepth 100000 in
theorem rwide15_11 (m sum rng last r x F3 F4 Y3 Y4 : Int) (w : World) (hm : 2 ≤ m ∧ m ≤ 25) (hx : wrap64 (wrap64 (r * (m - 1)) * 10000) = x) (e4 : IntKind.i64.wrap (F4 * rng) = Y4) (e3 : IntKind.i64.wrap (F3 * rng) = Y3) (g4 : ¬ Y4 < x) (g3 : x < Y3)
    (HF4 : Hid (∀ W, Calls Try.prog 32 #[.int .i64 2, .int .i64 2] W fun e w' => e = .returned (.int .i64 F4) ∧ Below W.heap.size W w'))
    (HF3 : Hid (∀ W, Calls Try.prog 32 #[.int .i64 1, .int .i64 2] W fun e w' => e = .returned (.int .i64 F3) ∧ Below W.heap.size W w')) :
    Calls Try.prog 19 #[.agg #[.int .i64 1, .int .i64 m, .int .i64 sum, .int .i64 rng, .int .i64 last], .int .i64 r] w fun e w' => e = .returned (.int .i64 (-1)) ∧ Below w.heap.size w w' := by
  obtain ⟨w2, hw2⟩ : ∃ w2, (w.alloc (.cells #[.int .i64 1, .int .i64 m, .int .i64 sum, .int .i64 rng, .int .i64 last] 23)) = w2 := ⟨_, rfl⟩
  have h2i : OneB w w2 [.int .i64 1, .int .i64 m, .int .i64 sum, .int .i64 rng, .int .i64 last] 23 := by rw [← hw2]; exact oneB w _ _
  have HI := Lib.hid h2i; have HW2 := Lib.hid hw2
  have HE4 := Lib.hid e4; have HE3 := Lib.hid e3; have HXX := Lib.hid hx
  clear h2i hw2 e4 e3 hx
  go_enter Try.func19, Try.ntmps19
  go_upto_region 1 with fail
  rw [HW2.out]
  have c0 := HI.out.a.cell 0
  have c1 := HI.out.a.cell 1
  have c2 := HI.out.a.cell 2
  have c3 := HI.out.a.cell 3
  have c4 := HI.out.a.cell 4
  simp only [List.getElem?_cons_zero, List.getElem?_cons_succ] at c0 c1 c2 c3 c4
  have l1 := HI.out.a.lt
  go_upto_region 7 with fail
  rw [HXX.out]
  clear c0 c1 c2 c3 c4 l1
  have e4 := HE4.out
  have HD0 := Lib.hid HI.out.drew
  refine wp_region_held_drew (S := (fun W => W.cell? ⟨w.heap.size, 0, none⟩ = some (.int .i64 1) ∧ W.cell? ⟨w.heap.size, 1, none⟩ = some (.int .i64 m) ∧ W.cell? ⟨w.heap.size, 2, none⟩ = some (.int .i64 sum) ∧ W.cell? ⟨w.heap.size, 3, none⟩ = some (.int .i64 rng) ∧ W.cell? ⟨w.heap.size, 4, none⟩ = some (.int .i64 last))) (by kernel_rfl) ⟨HD0.out.a.cell 0, HD0.out.a.cell 1, HD0.out.a.cell 2, HD0.out.a.cell 3, HD0.out.a.cell 4⟩ (fun hHeld => ?_)
  refine regTake 0 (some 21) (v := ?_) rfl rfl (by kernel_rfl) (by kernel_rfl) (by kernel_rfl) (fun _ _ _ h => h) (by rfl) hHeld ?_ ?_
  rotate_left 1
  · (intro w hSw; (try dsimp only at hSw); go_simp; try with_reducible rfl)
  simp only [Act.put, List.setIfInBounds_toArray, List.set_cons_zero, List.set_cons_succ]
  refine regTake 1 (some 22) (v := ?_) rfl rfl (by kernel_rfl) (by kernel_rfl) (by kernel_rfl) (fun _ _ _ h => h) (by rfl) hHeld ?_ ?_
  rotate_left 1
  · (intro w hSw; (try dsimp only at hSw); go_simp; try with_reducible rfl)
  simp only [Act.put, List.setIfInBounds_toArray, List.set_cons_zero, List.set_cons_succ]
  refine regTake 3 (some 24) (v := ?_) rfl rfl (by kernel_rfl) (by kernel_rfl) (by kernel_rfl) (fun _ _ _ h => h) (by rfl) hHeld ?_ ?_
  rotate_left 1
  · (intro w hSw; (try dsimp only at hSw); go_simp; try with_reducible rfl)
  simp only [Act.put, List.setIfInBounds_toArray, List.set_cons_zero, List.set_cons_succ]
  refine regTake 4 (some 25) (v := ?_) rfl rfl (by kernel_rfl) (by kernel_rfl) (by kernel_rfl) (fun _ _ _ h => h) (by rfl) hHeld ?_ ?_
  rotate_left 1
  · (intro w hSw; (try dsimp only at hSw); go_simp; try with_reducible rfl)
  simp only [Act.put, List.setIfInBounds_toArray, List.set_cons_zero, List.set_cons_succ]
  refine regCall 2 (some 23) (f := 32) (args := ?_) rfl rfl (by kernel_rfl) (by rfl) ?_ ?_
  rotate_left 1
  · (go_simp; try with_reducible rfl)
  refine (HF4.out _).mono ?_
  rintro e wx2 ⟨rfl, k6⟩
  refine ⟨_, rfl, ⟨(HD0.out.call k6).a.cell 0, (HD0.out.call k6).a.cell 1, (HD0.out.call k6).a.cell 2, (HD0.out.call k6).a.cell 3, (HD0.out.call k6).a.cell 4⟩, fun hHeld => ?_⟩
  simp only [Act.put, List.setIfInBounds_toArray, List.set_cons_zero, List.set_cons_succ]
  have HD6 := Lib.hid (HD0.out.call k6)
  clear k6
  refine regTake 5 (some 26) (v := ?_) rfl rfl (by kernel_rfl) (by kernel_rfl) (by kernel_rfl) (fun _ _ _ h => h) (by rfl) hHeld ?_ ?_
  rotate_left 1
  · (intro w hSw; (try dsimp only at hSw); go_simp; try with_reducible rfl)
  simp only [Act.put, List.setIfInBounds_toArray, List.set_cons_zero, List.set_cons_succ]
  refine regTake 6 (some 27) (v := ?_) rfl rfl (by kernel_rfl) (by kernel_rfl) (by kernel_rfl) (fun _ _ _ h => h) (by rfl) hHeld ?_ ?_
  rotate_left 1
  · (intro w hSw; (try dsimp only at hSw); go_simp; try with_reducible rfl)
  simp only [Act.put, List.setIfInBounds_toArray, List.set_cons_zero, List.set_cons_succ]
  refine wpAnyH_done (by kernel_rfl) ?_ _
  clear hHeld e4
  go_upto_region 9 with fail
  have e3 := HE3.out
  have HI6 := Lib.hid HD6.out
  clear HD6 HD0
  have HD0 := Lib.hid HI6.out.drew
  refine wp_region_held_drew (S := (fun W => W.cell? ⟨w.heap.size, 0, none⟩ = some (.int .i64 1) ∧ W.cell? ⟨w.heap.size, 1, none⟩ = some (.int .i64 m) ∧ W.cell? ⟨w.heap.size, 2, none⟩ = some (.int .i64 sum) ∧ W.cell? ⟨w.heap.size, 3, none⟩ = some (.int .i64 rng) ∧ W.cell? ⟨w.heap.size, 4, none⟩ = some (.int .i64 last))) (by kernel_rfl) ⟨HD0.out.a.cell 0, HD0.out.a.cell 1, HD0.out.a.cell 2, HD0.out.a.cell 3, HD0.out.a.cell 4⟩ (fun hHeld => ?_)
  refine regTake 0 (some 28) (v := ?_) rfl rfl (by kernel_rfl) (by kernel_rfl) (by kernel_rfl) (fun _ _ _ h => h) (by rfl) hHeld ?_ ?_
  rotate_left 1
  · (intro w hSw; (try dsimp only at hSw); go_simp; try with_reducible rfl)
  simp only [Act.put, List.setIfInBounds_toArray, List.set_cons_zero, List.set_cons_succ]
  refine regTake 1 (some 29) (v := ?_) rfl rfl (by kernel_rfl) (by kernel_rfl) (by kernel_rfl) (fun _ _ _ h => h) (by rfl) hHeld ?_ ?_
  rotate_left 1
  · (intro w hSw; (try dsimp only at hSw); go_simp; try with_reducible rfl)
  simp only [Act.put, List.setIfInBounds_toArray, List.set_cons_zero, List.set_cons_succ]
  refine regTake 3 (some 31) (v := ?_) rfl rfl (by kernel_rfl) (by kernel_rfl) (by kernel_rfl) (fun _ _ _ h => h) (by rfl) hHeld ?_ ?_
  rotate_left 1
  · (intro w hSw; (try dsimp only at hSw); go_simp; try with_reducible rfl)
  simp only [Act.put, List.setIfInBounds_toArray, List.set_cons_zero, List.set_cons_succ]
  refine regTake 4 (some 32) (v := ?_) rfl rfl (by kernel_rfl) (by kernel_rfl) (by kernel_rfl) (fun _ _ _ h => h) (by rfl) hHeld ?_ ?_
  rotate_left 1
  · (intro w hSw; (try dsimp only at hSw); go_simp; try with_reducible rfl)
  simp only [Act.put, List.setIfInBounds_toArray, List.set_cons_zero, List.set_cons_succ]
  refine regCall 2 (some 30) (f := 32) (args := ?_) rfl rfl (by kernel_rfl) (by rfl) ?_ ?_
  rotate_left 1
  · (go_simp; try with_reducible rfl)
  refine (HF3.out _).mono ?_
  rintro e wx2 ⟨rfl, k6⟩
  refine ⟨_, rfl, ⟨(HD0.out.call k6).a.cell 0, (HD0.out.call k6).a.cell 1, (HD0.out.call k6).a.cell 2, (HD0.out.call k6).a.cell 3, (HD0.out.call k6).a.cell 4⟩, fun hHeld => ?_⟩
  simp only [Act.put, List.setIfInBounds_toArray, List.set_cons_zero, List.set_cons_succ]
  have HD6 := Lib.hid (HD0.out.call k6)
  clear k6
  refine regTake 5 (some 33) (v := ?_) rfl rfl (by kernel_rfl) (by kernel_rfl) (by kernel_rfl) (fun _ _ _ h => h) (by rfl) hHeld ?_ ?_
  rotate_left 1
  · (intro w hSw; (try dsimp only at hSw); go_simp; try with_reducible rfl)
  simp only [Act.put, List.setIfInBounds_toArray, List.set_cons_zero, List.set_cons_succ]
  refine regTake 6 (some 34) (v := ?_) rfl rfl (by kernel_rfl) (by kernel_rfl) (by kernel_rfl) (fun _ _ _ h => h) (by rfl) hHeld ?_ ?_
  rotate_left 1
  · (intro w hSw; (try dsimp only at hSw); go_simp; try with_reducible rfl)
  simp only [Act.put, List.setIfInBounds_toArray, List.set_cons_zero, List.set_cons_succ]
  refine wpAnyH_done (by kernel_rfl) ?_ _
  clear hHeld e3
  go_wp2_with fail
  go_ret
  exact ⟨rfl, HD6.out.below⟩
set_option linter.unusedSimpArgs false in
set_option linter.unusedVariables false in
set_option maxHeartbeats 8000000 in
set_option maxRecDepth 100000 in
theorem rwide15_12 (m sum rng last r x F3 F4 Y3 Y4 : Int) (w : World) (hm : 2 ≤ m ∧ m ≤ 25) (hx : wrap64 (wrap64 (r * (m - 1)) * 10000) = x) (e4 : IntKind.i64.wrap (F4 * rng) = Y4) (e3 : IntKind.i64.wrap (F3 * rng) = Y3) (g4 : ¬ Y4 < x) (g3 : ¬ x < Y3)
    (HF4 : Hid (∀ W, Calls Try.prog 32 #[.int .i64 2, .int .i64 2] W fun e w' => e = .returned (.int .i64 F4) ∧ Below W.heap.size W w'))
    (HF3 : Hid (∀ W, Calls Try.prog 32 #[.int .i64 1, .int .i64 2] W fun e w' => e = .returned (.int .i64 F3) ∧ Below W.heap.size W w')) :
    Calls Try.prog 19 #[.agg #[.int .i64 1, .int .i64 m, .int .i64 sum, .int .i64 rng, .int .i64 last], .int .i64 r] w fun e w' => e = .returned (.int .i64 0) ∧ Below w.heap.size w w' := by
  obtain ⟨w2, hw2⟩ : ∃ w2, (w.alloc (.cells #[.int .i64 1, .int .i64 m, .int .i64 sum, .int .i64 rng, .int .i64 last] 23)) = w2 := ⟨_, rfl⟩
  have h2i : OneB w w2 [.int .i64 1, .int .i64 m, .int .i64 sum, .int .i64 rng, .int .i64 last] 23 := by rw [← hw2]; exact oneB w _ _
  have HI := Lib.hid h2i; have HW2 := Lib.hid hw2
  have HE4 := Lib.hid e4; have HE3 := Lib.hid e3; have HXX := Lib.hid hx
  clear h2i hw2 e4 e3 hx
  go_enter Try.func19, Try.ntmps19
  go_upto_region 1 with fail
  rw [HW2.out]
  have c0 := HI.out.a.cell 0
  have c1 := HI.out.a.cell 1
  have c2 := HI.out.a.cell 2
  have c3 := HI.out.a.cell 3
  have c4 := HI.out.a.cell 4
  simp only [List.getElem?_cons_zero, List.getElem?_cons_succ] at c0 c1 c2 c3 c4
  have l1 := HI.out.a.lt
  go_upto_region 7 with fail
  rw [HXX.out]
  clear c0 c1 c2 c3 c4 l1
  have e4 := HE4.out
  have HD0 := Lib.hid HI.out.drew
  refine wp_region_held_drew (S := (fun W => W.cell? ⟨w.heap.size, 0, none⟩ = some (.int .i64 1) ∧ W.cell? ⟨w.heap.size, 1, none⟩ = some (.int .i64 m) ∧ W.cell? ⟨w.heap.size, 2, none⟩ = some (.int .i64 sum) ∧ W.cell? ⟨w.heap.size, 3, none⟩ = some (.int .i64 rng) ∧ W.cell? ⟨w.heap.size, 4, none⟩ = some (.int .i64 last))) (by kernel_rfl) ⟨HD0.out.a.cell 0, HD0.out.a.cell 1, HD0.out.a.cell 2, HD0.out.a.cell 3, HD0.out.a.cell 4⟩ (fun hHeld => ?_)
  refine regTake 0 (some 21) (v := ?_) rfl rfl (by kernel_rfl) (by kernel_rfl) (by kernel_rfl) (fun _ _ _ h => h) (by rfl) hHeld ?_ ?_
  rotate_left 1
  · (intro w hSw; (try dsimp only at hSw); go_simp; try with_reducible rfl)
  simp only [Act.put, List.setIfInBounds_toArray, List.set_cons_zero, List.set_cons_succ]
  refine regTake 1 (some 22) (v := ?_) rfl rfl (by kernel_rfl) (by kernel_rfl) (by kernel_rfl) (fun _ _ _ h => h) (by rfl) hHeld ?_ ?_
  rotate_left 1
  · (intro w hSw; (try dsimp only at hSw); go_simp; try with_reducible rfl)
  simp only [Act.put, List.setIfInBounds_toArray, List.set_cons_zero, List.set_cons_succ]
  refine regTake 3 (some 24) (v := ?_) rfl rfl (by kernel_rfl) (by kernel_rfl) (by kernel_rfl) (fun _ _ _ h => h) (by rfl) hHeld ?_ ?_
  rotate_left 1
  · (intro w hSw; (try dsimp only at hSw); go_simp; try with_reducible rfl)
  simp only [Act.put, List.setIfInBounds_toArray, List.set_cons_zero, List.set_cons_succ]
  refine regTake 4 (some 25) (v := ?_) rfl rfl (by kernel_rfl) (by kernel_rfl) (by kernel_rfl) (fun _ _ _ h => h) (by rfl) hHeld ?_ ?_
  rotate_left 1
  · (intro w hSw; (try dsimp only at hSw); go_simp; try with_reducible rfl)
  simp only [Act.put, List.setIfInBounds_toArray, List.set_cons_zero, List.set_cons_succ]
  refine regCall 2 (some 23) (f := 32) (args := ?_) rfl rfl (by kernel_rfl) (by rfl) ?_ ?_
  rotate_left 1
  · (go_simp; try with_reducible rfl)
  refine (HF4.out _).mono ?_
  rintro e wx2 ⟨rfl, k6⟩
  refine ⟨_, rfl, ⟨(HD0.out.call k6).a.cell 0, (HD0.out.call k6).a.cell 1, (HD0.out.call k6).a.cell 2, (HD0.out.call k6).a.cell 3, (HD0.out.call k6).a.cell 4⟩, fun hHeld => ?_⟩
  simp only [Act.put, List.setIfInBounds_toArray, List.set_cons_zero, List.set_cons_succ]
  have HD6 := Lib.hid (HD0.out.call k6)
  clear k6
  refine regTake 5 (some 26) (v := ?_) rfl rfl (by kernel_rfl) (by kernel_rfl) (by kernel_rfl) (fun _ _ _ h => h) (by rfl) hHeld ?_ ?_
  rotate_left 1
  · (intro w hSw; (try dsimp only at hSw); go_simp; try with_reducible rfl)
  simp only [Act.put, List.setIfInBounds_toArray, List.set_cons_zero, List.set_cons_succ]
  refine regTake 6 (some 27) (v := ?_) rfl rfl (by kernel_rfl) (by kernel_rfl) (by kernel_rfl) (fun _ _ _ h => h) (by rfl) hHeld ?_ ?_
  rotate_left 1
  · (intro w hSw; (try dsimp only at hSw); go_simp; try with_reducible rfl)
  simp only [Act.put, List.setIfInBounds_toArray, List.set_cons_zero, List.set_cons_succ]
  refine wpAnyH_done (by kernel_rfl) ?_ _
  clear hHeld e4
  go_upto_region 9 with fail
  have e3 := HE3.out
  have HI6 := Lib.hid HD6.out
  clear HD6 HD0
  have HD0 := Lib.hid HI6.out.drew
  refine wp_region_held_drew (S := (fun W => W.cell? ⟨w.heap.size, 0, none⟩ = some (.int .i64 1) ∧ W.cell? ⟨w.heap.size, 1, none⟩ = some (.int .i64 m) ∧ W.cell? ⟨w.heap.size, 2, none⟩ = some (.int .i64 sum) ∧ W.cell? ⟨w.heap.size, 3, none⟩ = some (.int .i64 rng) ∧ W.cell? ⟨w.heap.size, 4, none⟩ = some (.int .i64 last))) (by kernel_rfl) ⟨HD0.out.a.cell 0, HD0.out.a.cell 1, HD0.out.a.cell 2, HD0.out.a.cell 3, HD0.out.a.cell 4⟩ (fun hHeld => ?_)
  refine regTake 0 (some 28) (v := ?_) rfl rfl (by kernel_rfl) (by kernel_rfl) (by kernel_rfl) (fun _ _ _ h => h) (by rfl) hHeld ?_ ?_
  rotate_left 1
  · (intro w hSw; (try dsimp only at hSw); go_simp; try with_reducible rfl)
  simp only [Act.put, List.setIfInBounds_toArray, List.set_cons_zero, List.set_cons_succ]
  refine regTake 1 (some 29) (v := ?_) rfl rfl (by kernel_rfl) (by kernel_rfl) (by kernel_rfl) (fun _ _ _ h => h) (by rfl) hHeld ?_ ?_
  rotate_left 1
  · (intro w hSw; (try dsimp only at hSw); go_simp; try with_reducible rfl)
  simp only [Act.put, List.setIfInBounds_toArray, List.set_cons_zero, List.set_cons_succ]
  refine regTake 3 (some 31) (v := ?_) rfl rfl (by kernel_rfl) (by kernel_rfl) (by kernel_rfl) (fun _ _ _ h => h) (by rfl) hHeld ?_ ?_
  rotate_left 1
  · (intro w hSw; (try dsimp only at hSw); go_simp; try with_reducible rfl)
  simp only [Act.put, List.setIfInBounds_toArray, List.set_cons_zero, List.set_cons_succ]
  refine regTake 4 (some 32) (v := ?_) rfl rfl (by kernel_rfl) (by kernel_rfl) (by kernel_rfl) (fun _ _ _ h => h) (by rfl) hHeld ?_ ?_
  rotate_left 1
  · (intro w hSw; (try dsimp only at hSw); go_simp; try with_reducible rfl)
  simp only [Act.put, List.setIfInBounds_toArray, List.set_cons_zero, List.set_cons_succ]
  refine regCall 2 (some 30) (f := 32) (args := ?_) rfl rfl (by kernel_rfl) (by rfl) ?_ ?_
  rotate_left 1
  · (go_simp; try with_reducible rfl)
  refine (HF3.out _).mono ?_
  rintro e wx2 ⟨rfl, k6⟩
  refine ⟨_, rfl, ⟨(HD0.out.call k6).a.cell 0, (HD0.out.call k6).a.cell 1, (HD0.out.call k6).a.cell 2, (HD0.out.call k6).a.cell 3, (HD0.out.call k6).a.cell 4⟩, fun hHeld => ?_⟩
  simp only [Act.put, List.setIfInBounds_toArray, List.set_cons_zero, List.set_cons_succ]
  have HD6 := Lib.hid (HD0.out.call k6)
  clear k6
  refine regTake 5 (some 33) (v := ?_) rfl rfl (by kernel_rfl) (by kernel_rfl) (by kernel_rfl) (fun _ _ _ h => h) (by rfl) hHeld ?_ ?_
  rotate_left 1
  · (intro w hSw; (try dsimp only at hSw); go_simp; try with_reducible rfl)
  simp only [Act.put, List.setIfInBounds_toArray, List.set_cons_zero, List.set_cons_succ]
  refine regTake 6 (some 34) (v := ?_) rfl rfl (by kernel_rfl) (by kernel_rfl) (by kernel_rfl) (fun _ _ _ h => h) (by rfl) hHeld ?_ ?_
  rotate_left 1
  · (intro w hSw; (try dsimp only at hSw); go_simp; try with_reducible rfl)
  simp only [Act.put, List.setIfInBounds_toArray, List.set_cons_zero, List.set_cons_succ]
  refine wpAnyH_done (by kernel_rfl) ?_ _
  clear hHeld e3
  go_wp2_with fail
  go_ret
  exact ⟨rfl, HD6.out.below⟩
set_option linter.unusedSimpArgs false in
set_option linter.unusedVariables false in
set_option maxHeartbeats 8000000 in
set_option maxRecDepth 100000 in
theorem rwide15_00 (size m sum rng last r x F3 F4 Y3 Y4 : Int) (w : World) (hm : 2 ≤ m ∧ m ≤ 25) (q1 : (size == 1) = false) (hx : wrap64 (wrap64 (r * m) * 10000) = x) (e4 : IntKind.i64.wrap (F4 * rng) = Y4) (e3 : IntKind.i64.wrap (F3 * rng) = Y3) (g4 : Y4 < x)
    (HF4 : Hid (∀ W, Calls Try.prog 32 #[.int .i64 2, .int .i64 size] W fun e w' => e = .returned (.int .i64 F4) ∧ Below W.heap.size W w'))
    (HF3 : Hid (∀ W, Calls Try.prog 32 #[.int .i64 1, .int .i64 size] W fun e w' => e = .returned (.int .i64 F3) ∧ Below W.heap.size W w')) :
    Calls Try.prog 19 #[.agg #[.int .i64 size, .int .i64 m, .int .i64 sum, .int .i64 rng, .int .i64 last], .int .i64 r] w fun e w' => e = .returned (.int .i64 1) ∧ Below w.heap.size w w' := by
  obtain ⟨w2, hw2⟩ : ∃ w2, (w.alloc (.cells #[.int .i64 size, .int .i64 m, .int .i64 sum, .int .i64 rng, .int .i64 last] 23)) = w2 := ⟨_, rfl⟩
  have h2i : OneB w w2 [.int .i64 size, .int .i64 m, .int .i64 sum, .int .i64 rng, .int .i64 last] 23 := by rw [← hw2]; exact oneB w _ _
  have HI := Lib.hid h2i; have HW2 := Lib.hid hw2
  have HE4 := Lib.hid e4; have HE3 := Lib.hid e3; have HXX := Lib.hid hx
  clear h2i hw2 e4 e3 hx
  go_enter Try.func19, Try.ntmps19
  go_upto_region 1 with fail
  rw [HW2.out]
  have c0 := HI.out.a.cell 0
  have c1 := HI.out.a.cell 1
  have c2 := HI.out.a.cell 2
  have c3 := HI.out.a.cell 3
  have c4 := HI.out.a.cell 4
  simp only [List.getElem?_cons_zero, List.getElem?_cons_succ] at c0 c1 c2 c3 c4
  have l1 := HI.out.a.lt
  go_upto_region 7 with fail
  rw [HXX.out]
  clear c0 c1 c2 c3 c4 l1
  have e4 := HE4.out
  have HD0 := Lib.hid HI.out.drew
  refine wp_region_held_drew (S := (fun W => W.cell? ⟨w.heap.size, 0, none⟩ = some (.int .i64 size) ∧ W.cell? ⟨w.heap.size, 1, none⟩ = some (.int .i64 m) ∧ W.cell? ⟨w.heap.size, 2, none⟩ = some (.int .i64 sum) ∧ W.cell? ⟨w.heap.size, 3, none⟩ = some (.int .i64 rng) ∧ W.cell? ⟨w.heap.size, 4, none⟩ = some (.int .i64 last))) (by kernel_rfl) ⟨HD0.out.a.cell 0, HD0.out.a.cell 1, HD0.out.a.cell 2, HD0.out.a.cell 3, HD0.out.a.cell 4⟩ (fun hHeld => ?_)
  refine regTake 0 (some 21) (v := ?_) rfl rfl (by kernel_rfl) (by kernel_rfl) (by kernel_rfl) (fun _ _ _ h => h) (by rfl) hHeld ?_ ?_
  rotate_left 1
  · (intro w hSw; (try dsimp only at hSw); go_simp; try with_reducible rfl)
  simp only [Act.put, List.setIfInBounds_toArray, List.set_cons_zero, List.set_cons_succ]
  refine regTake 1 (some 22) (v := ?_) rfl rfl (by kernel_rfl) (by kernel_rfl) (by kernel_rfl) (fun _ _ _ h => h) (by rfl) hHeld ?_ ?_
  rotate_left 1
  · (intro w hSw; (try dsimp only at hSw); go_simp; try with_reducible rfl)
  simp only [Act.put, List.setIfInBounds_toArray, List.set_cons_zero, List.set_cons_succ]
  refine regTake 3 (some 24) (v := ?_) rfl rfl (by kernel_rfl) (by kernel_rfl) (by kernel_rfl) (fun _ _ _ h => h) (by rfl) hHeld ?_ ?_
  rotate_left 1
  · (intro w hSw; (try dsimp only at hSw); go_simp; try with_reducible rfl)
  simp only [Act.put, List.setIfInBounds_toArray, List.set_cons_zero, List.set_cons_succ]
  refine regTake 4 (some 25) (v := ?_) rfl rfl (by kernel_rfl) (by kernel_rfl) (by kernel_rfl) (fun _ _ _ h => h) (by rfl) hHeld ?_ ?_
  rotate_left 1
  · (intro w hSw; (try dsimp only at hSw); go_simp; try with_reducible rfl)
  simp only [Act.put, List.setIfInBounds_toArray, List.set_cons_zero, List.set_cons_succ]
  refine regCall 2 (some 23) (f := 32) (args := ?_) rfl rfl (by kernel_rfl) (by rfl) ?_ ?_
  rotate_left 1
  · (go_simp; try with_reducible rfl)
  refine (HF4.out _).mono ?_
  rintro e wx2 ⟨rfl, k6⟩
  refine ⟨_, rfl, ⟨(HD0.out.call k6).a.cell 0, (HD0.out.call k6).a.cell 1, (HD0.out.call k6).a.cell 2, (HD0.out.call k6).a.cell 3, (HD0.out.call k6).a.cell 4⟩, fun hHeld => ?_⟩
  simp only [Act.put, List.setIfInBounds_toArray, List.set_cons_zero, List.set_cons_succ]
  have HD6 := Lib.hid (HD0.out.call k6)
  clear k6
  refine regTake 5 (some 26) (v := ?_) rfl rfl (by kernel_rfl) (by kernel_rfl) (by kernel_rfl) (fun _ _ _ h => h) (by rfl) hHeld ?_ ?_
  rotate_left 1
  · (intro w hSw; (try dsimp only at hSw); go_simp; try with_reducible rfl)
  simp only [Act.put, List.setIfInBounds_toArray, List.set_cons_zero, List.set_cons_succ]
  refine regTake 6 (some 27) (v := ?_) rfl rfl (by kernel_rfl) (by kernel_rfl) (by kernel_rfl) (fun _ _ _ h => h) (by rfl) hHeld ?_ ?_
  rotate_left 1
  · (intro w hSw; (try dsimp only at hSw); go_simp; try with_reducible rfl)
  simp only [Act.put, List.setIfInBounds_toArray, List.set_cons_zero, List.set_cons_succ]
  refine wpAnyH_done (by kernel_rfl) ?_ _
  clear hHeld e4
  go_wp2_with fail
  go_ret
  exact ⟨rfl, HD6.out.below⟩
set_option linter.unusedSimpArgs false in
set_option linter.unusedVariables false in
set_option maxHeartbeats 8000000 in
set_option maxRecDepth 100000 in
theorem rwide15_01 (size m sum rng last r x F3 F4 Y3 Y4 : Int) (w : World) (hm : 2 ≤ m ∧ m ≤ 25) (q1 : (size == 1) = false) (hx : wrap64 (wrap64 (r * m) * 10000) = x) (e4 : IntKind.i64.wrap (F4 * rng) = Y4) (e3 : IntKind.i64.wrap (F3 * rng) = Y3) (g4 : ¬ Y4 < x) (g3 : x < Y3)
    (HF4 : Hid (∀ W, Calls Try.prog 32 #[.int .i64 2, .int .i64 size] W fun e w' => e = .returned (.int .i64 F4) ∧ Below W.heap.size W w'))
    (HF3 : Hid (∀ W, Calls Try.prog 32 #[.int .i64 1, .int .i64 size] W fun e w' => e = .returned (.int .i64 F3) ∧ Below W.heap.size W w')) :
    Calls Try.prog 19 #[.agg #[.int .i64 size, .int .i64 m, .int .i64 sum, .int .i64 rng, .int .i64 last], .int .i64 r] w fun e w' => e = .returned (.int .i64 (-1)) ∧ Below w.heap.size w w' := by
  obtain ⟨w2, hw2⟩ : ∃ w2, (w.alloc (.cells #[.int .i64 size, .int .i64 m, .int .i64 sum, .int .i64 rng, .int .i64 last] 23)) = w2 := ⟨_, rfl⟩
  have h2i : OneB w w2 [.int .i64 size, .int .i64 m, .int .i64 sum, .int .i64 rng, .int .i64 last] 23 := by rw [← hw2]; exact oneB w _ _
  have HI := Lib.hid h2i; have HW2 := Lib.hid hw2
  have HE4 := Lib.hid e4; have HE3 := Lib.hid e3; have HXX := Lib.hid hx
  clear h2i hw2 e4 e3 hx
  go_enter Try.func19, Try.ntmps19
  go_upto_region 1 with fail
  rw [HW2.out]
  have c0 := HI.out.a.cell 0
  have c1 := HI.out.a.cell 1
  have c2 := HI.out.a.cell 2
  have c3 := HI.out.a.cell 3
  have c4 := HI.out.a.cell 4
  simp only [List.getElem?_cons_zero, List.getElem?_cons_succ] at c0 c1 c2 c3 c4
  have l1 := HI.out.a.lt
  go_upto_region 7 with fail
  rw [HXX.out]
  clear c0 c1 c2 c3 c4 l1
  have e4 := HE4.out
  have HD0 := Lib.hid HI.out.drew
  refine wp_region_held_drew (S := (fun W => W.cell? ⟨w.heap.size, 0, none⟩ = some (.int .i64 size) ∧ W.cell? ⟨w.heap.size, 1, none⟩ = some (.int .i64 m) ∧ W.cell? ⟨w.heap.size, 2, none⟩ = some (.int .i64 sum) ∧ W.cell? ⟨w.heap.size, 3, none⟩ = some (.int .i64 rng) ∧ W.cell? ⟨w.heap.size, 4, none⟩ = some (.int .i64 last))) (by kernel_rfl) ⟨HD0.out.a.cell 0, HD0.out.a.cell 1, HD0.out.a.cell 2, HD0.out.a.cell 3, HD0.out.a.cell 4⟩ (fun hHeld => ?_)
  refine regTake 0 (some 21) (v := ?_) rfl rfl (by kernel_rfl) (by kernel_rfl) (by kernel_rfl) (fun _ _ _ h => h) (by rfl) hHeld ?_ ?_
  rotate_left 1
  · (intro w hSw; (try dsimp only at hSw); go_simp; try with_reducible rfl)
  simp only [Act.put, List.setIfInBounds_toArray, List.set_cons_zero, List.set_cons_succ]
  refine regTake 1 (some 22) (v := ?_) rfl rfl (by kernel_rfl) (by kernel_rfl) (by kernel_rfl) (fun _ _ _ h => h) (by rfl) hHeld ?_ ?_
  rotate_left 1
  · (intro w hSw; (try dsimp only at hSw); go_simp; try with_reducible rfl)
  simp only [Act.put, List.setIfInBounds_toArray, List.set_cons_zero, List.set_cons_succ]
  refine regTake 3 (some 24) (v := ?_) rfl rfl (by kernel_rfl) (by kernel_rfl) (by kernel_rfl) (fun _ _ _ h => h) (by rfl) hHeld ?_ ?_
  rotate_left 1
  · (intro w hSw; (try dsimp only at hSw); go_simp; try with_reducible rfl)
  simp only [Act.put, List.setIfInBounds_toArray, List.set_cons_zero, List.set_cons_succ]
  refine regTake 4 (some 25) (v := ?_) rfl rfl (by kernel_rfl) (by kernel_rfl) (by kernel_rfl) (fun _ _ _ h => h) (by rfl) hHeld ?_ ?_
  rotate_left 1
  · (intro w hSw; (try dsimp only at hSw); go_simp; try with_reducible rfl)
  simp only [Act.put, List.setIfInBounds_toArray, List.set_cons_zero, List.set_cons_succ]
  refine regCall 2 (some 23) (f := 32) (args := ?_) rfl rfl (by kernel_rfl) (by rfl) ?_ ?_
  rotate_left 1
  · (go_simp; try with_reducible rfl)
  refine (HF4.out _).mono ?_
  rintro e wx2 ⟨rfl, k6⟩
  refine ⟨_, rfl, ⟨(HD0.out.call k6).a.cell 0, (HD0.out.call k6).a.cell 1, (HD0.out.call k6).a.cell 2, (HD0.out.call k6).a.cell 3, (HD0.out.call k6).a.cell 4⟩, fun hHeld => ?_⟩
  simp only [Act.put, List.setIfInBounds_toArray, List.set_cons_zero, List.set_cons_succ]
  have HD6 := Lib.hid (HD0.out.call k6)
  clear k6
  refine regTake 5 (some 26) (v := ?_) rfl rfl (by kernel_rfl) (by kernel_rfl) (by kernel_rfl) (fun _ _ _ h => h) (by rfl) hHeld ?_ ?_
  rotate_left 1
  · (intro w hSw; (try dsimp only at hSw); go_simp; try with_reducible rfl)
  simp only [Act.put, List.setIfInBounds_toArray, List.set_cons_zero, List.set_cons_succ]
  refine regTake 6 (some 27) (v := ?_) rfl rfl (by kernel_rfl) (by kernel_rfl) (by kernel_rfl) (fun _ _ _ h => h) (by rfl) hHeld ?_ ?_
  rotate_left 1
  · (intro w hSw; (try dsimp only at hSw); go_simp; try with_reducible rfl)
  simp only [Act.put, List.setIfInBounds_toArray, List.set_cons_zero, List.set_cons_succ]
  refine wpAnyH_done (by kernel_rfl) ?_ _
  clear hHeld e4
  go_upto_region 9 with fail
  have e3 := HE3.out
  have HI6 := Lib.hid HD6.out
  clear HD6 HD0
  have HD0 := Lib.hid HI6.out.drew
  refine wp_region_held_drew (S := (fun W => W.cell? ⟨w.heap.size, 0, none⟩ = some (.int .i64 size) ∧ W.cell? ⟨w.heap.size, 1, none⟩ = some (.int .i64 m) ∧ W.cell? ⟨w.heap.size, 2, none⟩ = some (.int .i64 sum) ∧ W.cell? ⟨w.heap.size, 3, none⟩ = some (.int .i64 rng) ∧ W.cell? ⟨w.heap.size, 4, none⟩ = some (.int .i64 last))) (by kernel_rfl) ⟨HD0.out.a.cell 0, HD0.out.a.cell 1, HD0.out.a.cell 2, HD0.out.a.cell 3, HD0.out.a.cell 4⟩ (fun hHeld => ?_)
  refine regTake 0 (some 28) (v := ?_) rfl rfl (by kernel_rfl) (by kernel_rfl) (by kernel_rfl) (fun _ _ _ h => h) (by rfl) hHeld ?_ ?_
  rotate_left 1
  · (intro w hSw; (try dsimp only at hSw); go_simp; try with_reducible rfl)
  simp only [Act.put, List.setIfInBounds_toArray, List.set_cons_zero, List.set_cons_succ]
  refine regTake 1 (some 29) (v := ?_) rfl rfl (by kernel_rfl) (by kernel_rfl) (by kernel_rfl) (fun _ _ _ h => h) (by rfl) hHeld ?_ ?_
  rotate_left 1
  · (intro w hSw; (try dsimp only at hSw); go_simp; try with_reducible rfl)
  simp only [Act.put, List.setIfInBounds_toArray, List.set_cons_zero, List.set_cons_succ]
  refine regTake 3 (some 31) (v := ?_) rfl rfl (by kernel_rfl) (by kernel_rfl) (by kernel_rfl) (fun _ _ _ h => h) (by rfl) hHeld ?_ ?_
  rotate_left 1
  · (intro w hSw; (try dsimp only at hSw); go_simp; try with_reducible rfl)
  simp only [Act.put, List.setIfInBounds_toArray, List.set_cons_zero, List.set_cons_succ]
  refine regTake 4 (some 32) (v := ?_) rfl rfl (by kernel_rfl) (by kernel_rfl) (by kernel_rfl) (fun _ _ _ h => h) (by rfl) hHeld ?_ ?_
  rotate_left 1
  · (intro w hSw; (try dsimp only at hSw); go_simp; try with_reducible rfl)
  simp only [Act.put, List.setIfInBounds_toArray, List.set_cons_zero, List.set_cons_succ]
  refine regCall 2 (some 30) (f := 32) (args := ?_) rfl rfl (by kernel_rfl) (by rfl) ?_ ?_
  rotate_left 1
  · (go_simp; try with_reducible rfl)
  refine (HF3.out _).mono ?_
  rintro e wx2 ⟨rfl, k6⟩
  refine ⟨_, rfl, ⟨(HD0.out.call k6).a.cell 0, (HD0.out.call k6).a.cell 1, (HD0.out.call k6).a.cell 2, (HD0.out.call k6).a.cell 3, (HD0.out.call k6).a.cell 4⟩, fun hHeld => ?_⟩
  simp only [Act.put, List.setIfInBounds_toArray, List.set_cons_zero, List.set_cons_succ]
  have HD6 := Lib.hid (HD0.out.call k6)
  clear k6
  refine regTake 5 (some 33) (v := ?_) rfl rfl (by kernel_rfl) (by kernel_rfl) (by kernel_rfl) (fun _ _ _ h => h) (by rfl) hHeld ?_ ?_
  rotate_left 1
  · (intro w hSw; (try dsimp only at hSw); go_simp; try with_reducible rfl)
  simp only [Act.put, List.setIfInBounds_toArray, List.set_cons_zero, List.set_cons_succ]
  refine regTake 6 (some 34) (v := ?_) rfl rfl (by kernel_rfl) (by kernel_rfl) (by kernel_rfl) (fun _ _ _ h => h) (by rfl) hHeld ?_ ?_
  rotate_left 1
  · (intro w hSw; (try dsimp only at hSw); go_simp; try with_reducible rfl)
  simp only [Act.put, List.setIfInBounds_toArray, List.set_cons_zero, List.set_cons_succ]
  refine wpAnyH_done (by kernel_rfl) ?_ _
  clear hHeld e3
  go_wp2_with fail
  go_ret
  exact ⟨rfl, HD6.out.below⟩
set_option linter.unusedSimpArgs false in
set_option linter.unusedVariables false in
set_option maxHeartbeats 8000000 in
set_option maxRecDepth 100000 in
theorem rwide15_02 (size m sum rng last r x F3 F4 Y3 Y4 : Int) (w : World) (hm : 2 ≤ m ∧ m ≤ 25) (q1 : (size == 1) = false) (hx : wrap64 (wrap64 (r * m) * 10000) = x) (e4 : IntKind.i64.wrap (F4 * rng) = Y4) (e3 : IntKind.i64.wrap (F3 * rng) = Y3) (g4 : ¬ Y4 < x) (g3 : ¬ x < Y3)
    (HF4 : Hid (∀ W, Calls Try.prog 32 #[.int .i64 2, .int .i64 size] W fun e w' => e = .returned (.int .i64 F4) ∧ Below W.heap.size W w'))
    (HF3 : Hid (∀ W, Calls Try.prog 32 #[.int .i64 1, .int .i64 size] W fun e w' => e = .returned (.int .i64 F3) ∧ Below W.heap.size W w')) :
    Calls Try.prog 19 #[.agg #[.int .i64 size, .int .i64 m, .int .i64 sum, .int .i64 rng, .int .i64 last], .int .i64 r] w fun e w' => e = .returned (.int .i64 0) ∧ Below w.heap.size w w' := by
  obtain ⟨w2, hw2⟩ : ∃ w2, (w.alloc (.cells #[.int .i64 size, .int .i64 m, .int .i64 sum, .int .i64 rng, .int .i64 last] 23)) = w2 := ⟨_, rfl⟩
  have h2i : OneB w w2 [.int .i64 size, .int .i64 m, .int .i64 sum, .int .i64 rng, .int .i64 last] 23 := by rw [← hw2]; exact oneB w _ _
  have HI := Lib.hid h2i; have HW2 := Lib.hid hw2
  have HE4 := Lib.hid e4; have HE3 := Lib.hid e3; have HXX := Lib.hid hx
  clear h2i hw2 e4 e3 hx
  go_enter Try.func19, Try.ntmps19
  go_upto_region 1 with fail
  rw [HW2.out]
  have c0 := HI.out.a.cell 0
  have c1 := HI.out.a.cell 1
  have c2 := HI.out.a.cell 2
  have c3 := HI.out.a.cell 3
  have c4 := HI.out.a.cell 4
  simp only [List.getElem?_cons_zero, List.getElem?_cons_succ] at c0 c1 c2 c3 c4
  have l1 := HI.out.a.lt
  go_upto_region 7 with fail
  rw [HXX.out]
  clear c0 c1 c2 c3 c4 l1
  have e4 := HE4.out
  have HD0 := Lib.hid HI.out.drew
  refine wp_region_held_drew (S := (fun W => W.cell? ⟨w.heap.size, 0, none⟩ = some (.int .i64 size) ∧ W.cell? ⟨w.heap.size, 1, none⟩ = some (.int .i64 m) ∧ W.cell? ⟨w.heap.size, 2, none⟩ = some (.int .i64 sum) ∧ W.cell? ⟨w.heap.size, 3, none⟩ = some (.int .i64 rng) ∧ W.cell? ⟨w.heap.size, 4, none⟩ = some (.int .i64 last))) (by kernel_rfl) ⟨HD0.out.a.cell 0, HD0.out.a.cell 1, HD0.out.a.cell 2, HD0.out.a.cell 3, HD0.out.a.cell 4⟩ (fun hHeld => ?_)
  refine regTake 0 (some 21) (v := ?_) rfl rfl (by kernel_rfl) (by kernel_rfl) (by kernel_rfl) (fun _ _ _ h => h) (by rfl) hHeld ?_ ?_
  rotate_left 1
  · (intro w hSw; (try dsimp only at hSw); go_simp; try with_reducible rfl)
  simp only [Act.put, List.setIfInBounds_toArray, List.set_cons_zero, List.set_cons_succ]
  refine regTake 1 (some 22) (v := ?_) rfl rfl (by kernel_rfl) (by kernel_rfl) (by kernel_rfl) (fun _ _ _ h => h) (by rfl) hHeld ?_ ?_
  rotate_left 1
  · (intro w hSw; (try dsimp only at hSw); go_simp; try with_reducible rfl)
  simp only [Act.put, List.setIfInBounds_toArray, List.set_cons_zero, List.set_cons_succ]
  refine regTake 3 (some 24) (v := ?_) rfl rfl (by kernel_rfl) (by kernel_rfl) (by kernel_rfl) (fun _ _ _ h => h) (by rfl) hHeld ?_ ?_
  rotate_left 1
  · (intro w hSw; (try dsimp only at hSw); go_simp; try with_reducible rfl)
  simp only [Act.put, List.setIfInBounds_toArray, List.set_cons_zero, List.set_cons_succ]
  refine regTake 4 (some 25) (v := ?_) rfl rfl (by kernel_rfl) (by kernel_rfl) (by kernel_rfl) (fun _ _ _ h => h) (by rfl) hHeld ?_ ?_
  rotate_left 1
  · (intro w hSw; (try dsimp only at hSw); go_simp; try with_reducible rfl)
  simp only [Act.put, List.setIfInBounds_toArray, List.set_cons_zero, List.set_cons_succ]
  refine regCall 2 (some 23) (f := 32) (args := ?_) rfl rfl (by kernel_rfl) (by rfl) ?_ ?_
  rotate_left 1
  · (go_simp; try with_reducible rfl)
  refine (HF4.out _).mono ?_
  rintro e wx2 ⟨rfl, k6⟩
  refine ⟨_, rfl, ⟨(HD0.out.call k6).a.cell 0, (HD0.out.call k6).a.cell 1, (HD0.out.call k6).a.cell 2, (HD0.out.call k6).a.cell 3, (HD0.out.call k6).a.cell 4⟩, fun hHeld => ?_⟩
  simp only [Act.put, List.setIfInBounds_toArray, List.set_cons_zero, List.set_cons_succ]
  have HD6 := Lib.hid (HD0.out.call k6)
  clear k6
  refine regTake 5 (some 26) (v := ?_) rfl rfl (by kernel_rfl) (by kernel_rfl) (by kernel_rfl) (fun _ _ _ h => h) (by rfl) hHeld ?_ ?_
  rotate_left 1
  · (intro w hSw; (try dsimp only at hSw); go_simp; try with_reducible rfl)
  simp only [Act.put, List.setIfInBounds_toArray, List.set_cons_zero, List.set_cons_succ]
  refine regTake 6 (some 27) (v := ?_) rfl rfl (by kernel_rfl) (by kernel_rfl) (by kernel_rfl) (fun _ _ _ h => h) (by rfl) hHeld ?_ ?_
  rotate_left 1
  · (intro w hSw; (try dsimp only at hSw); go_simp; try with_reducible rfl)
  simp only [Act.put, List.setIfInBounds_toArray, List.set_cons_zero, List.set_cons_succ]
  refine wpAnyH_done (by kernel_rfl) ?_ _
  clear hHeld e4
  go_upto_region 9 with fail
  have e3 := HE3.out
  have HI6 := Lib.hid HD6.out
  clear HD6 HD0
  have HD0 := Lib.hid HI6.out.drew
  refine wp_region_held_drew (S := (fun W => W.cell? ⟨w.heap.size, 0, none⟩ = some (.int .i64 size) ∧ W.cell? ⟨w.heap.size, 1, none⟩ = some (.int .i64 m) ∧ W.cell? ⟨w.heap.size, 2, none⟩ = some (.int .i64 sum) ∧ W.cell? ⟨w.heap.size, 3, none⟩ = some (.int .i64 rng) ∧ W.cell? ⟨w.heap.size, 4, none⟩ = some (.int .i64 last))) (by kernel_rfl) ⟨HD0.out.a.cell 0, HD0.out.a.cell 1, HD0.out.a.cell 2, HD0.out.a.cell 3, HD0.out.a.cell 4⟩ (fun hHeld => ?_)
  refine regTake 0 (some 28) (v := ?_) rfl rfl (by kernel_rfl) (by kernel_rfl) (by kernel_rfl) (fun _ _ _ h => h) (by rfl) hHeld ?_ ?_
  rotate_left 1
  · (intro w hSw; (try dsimp only at hSw); go_simp; try with_reducible rfl)
  simp only [Act.put, List.setIfInBounds_toArray, List.set_cons_zero, List.set_cons_succ]
  refine regTake 1 (some 29) (v := ?_) rfl rfl (by kernel_rfl) (by kernel_rfl) (by kernel_rfl) (fun _ _ _ h => h) (by rfl) hHeld ?_ ?_
  rotate_left 1
  · (intro w hSw; (try dsimp only at hSw); go_simp; try with_reducible rfl)
  simp only [Act.put, List.setIfInBounds_toArray, List.set_cons_zero, List.set_cons_succ]
  refine regTake 3 (some 31) (v := ?_) rfl rfl (by kernel_rfl) (by kernel_rfl) (by kernel_rfl) (fun _ _ _ h => h) (by rfl) hHeld ?_ ?_
  rotate_left 1
  · (intro w hSw; (try dsimp only at hSw); go_simp; try with_reducible rfl)
  simp only [Act.put, List.setIfInBounds_toArray, List.set_cons_zero, List.set_cons_succ]
  refine regTake 4 (some 32) (v := ?_) rfl rfl (by kernel_rfl) (by kernel_rfl) (by kernel_rfl) (fun _ _ _ h => h) (by rfl) hHeld ?_ ?_
  rotate_left 1
  · (intro w hSw; (try dsimp only at hSw); go_simp; try with_reducible rfl)
  simp only [Act.put, List.setIfInBounds_toArray, List.set_cons_zero, List.set_cons_succ]
  refine regCall 2 (some 30) (f := 32) (args := ?_) rfl rfl (by kernel_rfl) (by rfl) ?_ ?_
  rotate_left 1
  · (go_simp; try with_reducible rfl)
  refine (HF3.out _).mono ?_
  rintro e wx2 ⟨rfl, k6⟩
  refine ⟨_, rfl, ⟨(HD0.out.call k6).a.cell 0, (HD0.out.call k6).a.cell 1, (HD0.out.call k6).a.cell 2, (HD0.out.call k6).a.cell 3, (HD0.out.call k6).a.cell 4⟩, fun hHeld => ?_⟩
  simp only [Act.put, List.setIfInBounds_toArray, List.set_cons_zero, List.set_cons_succ]
  have HD6 := Lib.hid (HD0.out.call k6)
  clear k6
  refine regTake 5 (some 33) (v := ?_) rfl rfl (by kernel_rfl) (by kernel_rfl) (by kernel_rfl) (fun _ _ _ h => h) (by rfl) hHeld ?_ ?_
  rotate_left 1
  · (intro w hSw; (try dsimp only at hSw); go_simp; try with_reducible rfl)
  simp only [Act.put, List.setIfInBounds_toArray, List.set_cons_zero, List.set_cons_succ]
  refine regTake 6 (some 34) (v := ?_) rfl rfl (by kernel_rfl) (by kernel_rfl) (by kernel_rfl) (fun _ _ _ h => h) (by rfl) hHeld ?_ ?_
  rotate_left 1
  · (intro w hSw; (try dsimp only at hSw); go_simp; try with_reducible rfl)
  simp only [Act.put, List.setIfInBounds_toArray, List.set_cons_zero, List.set_cons_succ]
  refine wpAnyH_done (by kernel_rfl) ?_ _
  clear hHeld e3
  go_wp2_with fail
  go_ret
  exact ⟨rfl, HD6.out.below⟩
theorem rwide15_any (b : Bas) (r : Int) (hb : basOk b) (hm : 2 ≤ b.m) (hr0 : 0 ≤ r ∧ r ≤ 2000000) (w : World) : Calls Try.prog 19 #[basV b, .int .i64 r] w fun e w' => e = .returned (.int .i64 (wideN b r)) ∧ Below w.heap.size w w' := by
  have hst := stp_bounds hb
  have hrng := hb.2.2
  have hz := hb.1
  have hn := nWide_row hb
  have hmw := mWide_bounds hb hm
  have hr : -50000000 ≤ b.rng ∧ b.rng ≤ 50000000 := by omega
  have f2 := fac_row 2 (by omega) _ hn.1
  have f1 := fac_row 1 (by omega) _ hn.1
  have hF4 := fun W => rfactor_any 2 (nWide b - 2).toNat (nWide b) _ (by omega) hn.1 (by omega) rfl W
  have hF3 := fun W => rfactor_any 1 (nWide b - 2).toNat (nWide b) _ (by omega) hn.1 (by omega) rfl W
  unfold wideN
  obtain ⟨F4, hF4e⟩ : ∃ F, fac 2 (nWide b - 2).toNat = F := ⟨_, rfl⟩
  obtain ⟨F3, hF3e⟩ : ∃ F, fac 1 (nWide b - 2).toNat = F := ⟨_, rfl⟩
  rw [hF4e] at f2 hF4 ⊢
  rw [hF3e] at f1 hF3 ⊢
  have b4 := mulB (show -32670 ≤ F4 ∧ F4 ≤ 32670 by omega) hr
  have b3 := mulB (show -32670 ≤ F3 ∧ F3 ≤ 32670 by omega) hr
  have bx := mulB (show -2000000 ≤ r ∧ r ≤ 2000000 by omega) (show -25 ≤ mWide b ∧ mWide b ≤ 25 by omega)
  obtain ⟨size, m, sum, rng, last⟩ := b
  dsimp only at *
  have hX : wrap64 (wrap64 (r * mWide ⟨size, m, sum, rng, last⟩) * 10000) = r * mWide ⟨size, m, sum, rng, last⟩ * 10000 := by
    rw [wrap6 (show _ ∧ _ from ⟨by omega, by omega⟩ : -9000000000000000000 ≤ r * mWide ⟨size, m, sum, rng, last⟩ ∧ r * mWide ⟨size, m, sum, rng, last⟩ ≤ 9000000000000000000)]
    exact wrap6 (by omega)
  by_cases k : size = 1
  · subst k
    rw [show mWide ⟨1, m, sum, rng, last⟩ = m - 1 from if_pos rfl] at *
    rw [show nWide ⟨1, m, sum, rng, last⟩ = 2 from if_pos rfl] at hF4 hF3
    by_cases g4 : F4 * rng < r * (m - 1) * 10000
    · rw [if_pos g4]; exact rwide15_10 m sum rng last r _ F3 F4 _ _ w (by omega) hX (wrapI (by omega)) (wrapI (by omega)) g4 (Lib.hid hF4) (Lib.hid hF3)
    · rw [if_neg g4]
      by_cases g3 : r * (m - 1) * 10000 < F3 * rng
      · rw [if_pos g3]; exact rwide15_11 m sum rng last r _ F3 F4 _ _ w (by omega) hX (wrapI (by omega)) (wrapI (by omega)) g4 g3 (Lib.hid hF4) (Lib.hid hF3)
      · rw [if_neg g3]; exact rwide15_12 m sum rng last r _ F3 F4 _ _ w (by omega) hX (wrapI (by omega)) (wrapI (by omega)) g4 g3 (Lib.hid hF4) (Lib.hid hF3)
  · have q1 : (size == 1) = false := beq_false_of_ne k
    rw [show mWide ⟨size, m, sum, rng, last⟩ = m from if_neg k] at *
    rw [show nWide ⟨size, m, sum, rng, last⟩ = size from if_neg k] at hF4 hF3
    by_cases g4 : F4 * rng < r * m * 10000
    · rw [if_pos g4]; exact rwide15_00 size m sum rng last r _ F3 F4 _ _ w (by omega) q1 hX (wrapI (by omega)) (wrapI (by omega)) g4 (Lib.hid hF4) (Lib.hid hF3)
    · rw [if_neg g4]
      by_cases g3 : r * m * 10000 < F3 * rng
      · rw [if_pos g3]; exact rwide15_01 size m sum rng last r _ F3 F4 _ _ w (by omega) q1 hX (wrapI (by omega)) (wrapI (by omega)) g4 g3 (Lib.hid hF4) (Lib.hid hF3)
      · rw [if_neg g3]; exact rwide15_02 size m sum rng last r _ F3 F4 _ _ w (by omega) q1 hX (wrapI (by omega)) (wrapI (by omega)) g4 g3 (Lib.hid hF4) (Lib.hid hF3)
theorem rtake15_any (b : Bas) (l : List Int) (v : Value) (hb : basOk b) (h : rowB b l = true) (hm : b.m < 25) (w : World) (hr : ReadsI w v l) :
    Calls Try.prog 14 #[basV b, v] w fun e w' => e = .returned (basV (takeN b l)) ∧ Below w.heap.size w w' := by
  obtain ⟨hl, hi⟩ := row_len h
  have hu := sum_bounds hb
  have hst := stp_bounds hb
  have hrng := hb.2.2
  have hz := hb.1
  have hne := row_some hb h
  have hss := ssum_in hi
  have hlo := inB_of hi _ (lmin_mem hne)
  have hhi := inB_of hi _ (lmax_mem hne)
  have hx0 := getD_in hi 0
  obtain ⟨ao, cap, rfl, _⟩ := id hr
  have HOF := Lib.hid (fun W (hW : Below w.heap.size w W) => rof11_any l _ W (hr.below hW) (by omega) hi)
  obtain ⟨size, m, sum, rng, last⟩ := b
  dsimp only at *
  unfold takeN rngN
  dsimp only
  by_cases k : size = 1
  · have q1 : (size == 1) = true := by rw [k]; rfl
    by_cases q2 : 0 < m
    · rw [if_pos ⟨k, q2⟩]
      exact rtake15_0 size m sum rng last l _ _ _ _ _ _ _ _ l.length ao cap w rfl (by omega) (by omega) hr rfl rfl (by omega) (by omega) (by omega) (by omega) (by omega) hlo hhi hx0 q1 q2 rfl HOF
    · rw [if_neg (fun x => q2 x.2)]
      exact rtake15_1 size m sum rng last l _ _ _ _ _ (l.getD 0 0) _ _ l.length ao cap w rfl (by omega) (by omega) hr rfl rfl (by omega) (by omega) (by omega) (by omega) (by omega) hlo hhi hx0 q1 q2 rfl HOF
  · have q1 : (size == 1) = false := beq_false_of_ne k
    rw [if_neg (fun x => k x.1)]
    exact rtake15_2 size m sum rng last l _ _ _ _ _ (l.getD 0 0) _ _ l.length ao cap w rfl (by omega) (by omega) hr rfl rfl (by omega) (by omega) (by omega) (by omega) (by omega) hlo hhi hx0 q1 rfl HOF
end Go.Proofs.Ytfafkdbflmennaa
