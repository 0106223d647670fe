/- The reference of stage 15: Point. -/
import Derived.Test.YtfafkdbflmennaaBasB
import Derived.Test.YtfafkdbflmennaaBasM
import Derived.Test.YtfafkdbflmennaaFacEH
namespace Go.Proofs.Ytfafkdbflmennaa
open Go.RowKit

abbrev pntV (p : Pnt) : Value := .agg #[.int .i64 p.center, .int .i64 p.den, .int .i64 p.dev, .int .u64 (hi p.var : Nat), .int .u64 (lo p.var : Nat)]
theorem sizePnt : ((Try.prog).info? 38).map (·.size) = some 5 := by kernel_rfl
theorem loadPnt {w : World} {b : Nat} {c0 c1 c2 c3 c4 : Value} (h : Has w b [c0, c1, c2, c3, c4] 38) : (loadVar 38 ⟨b, 0, none⟩).run Try.prog w = .ok (.agg #[c0, c1, c2, c3, c4]) w :=
  run_loadVar_mid w b 0 38 [c0, c1, c2, c3, c4] _ h.range Try.underlying38 rfl sizePnt
theorem TwoB.put5 {w w2 : World} {A : List Value} {b0 b1 b2 b3 b4 : Value} {TA TB : TypeId} (h : TwoB w w2 A [b0, b1, b2, b3, b4] TA TB) (c0 c1 c2 c3 c4 : Value) : TwoB w (((((w2.setCell ⟨w.heap.size + 1, 0, none⟩ c0).setCell ⟨w.heap.size + 1, 1, none⟩ c1).setCell ⟨w.heap.size + 1, 2, none⟩ c2).setCell ⟨w.heap.size + 1, 3, none⟩ c3).setCell ⟨w.heap.size + 1, 4, none⟩ c4) A [c0, c1, c2, c3, c4] TA TB :=
  ⟨Below.put5B h.below (by omega) _ _ _ _ _, ((((h.a.other (p := ⟨w.heap.size + 1, 0, none⟩) (by dsimp only; omega) _).other (p := ⟨w.heap.size + 1, 1, none⟩) (by dsimp only; omega) _).other (p := ⟨w.heap.size + 1, 2, none⟩) (by dsimp only; omega) _).other (p := ⟨w.heap.size + 1, 3, none⟩) (by dsimp only; omega) _).other (p := ⟨w.heap.size + 1, 4, none⟩) (by dsimp only; omega) _, h.b.put5B _ _ _ _ _⟩
set_option linter.unusedSimpArgs false in
set_option linter.unusedVariables false in
set_option maxHeartbeats 8000000 in
set_option maxRecDepth 100000 in
theorem rpoint15_1 (m sum rng last s X M1 D A1 A2 den cen dev : Int) (n : Nat) (B : Bool) (w : World) (hm : 2 ≤ m ∧ m ≤ 25) (hs : -10000000 ≤ s ∧ s ≤ 10000000) (hX : wrap64 (10000 * m * rng) = X) (hD : wrap64 (wrap64 (s * m) - sum) = D)
    (e1 : IntKind.i64.wrap (m - 1) = M1) (e2 : IntKind.i64.wrap (11280 * m) = A1) (e3 : IntKind.i64.wrap (A1 * M1) = den) (e4 : IntKind.i64.wrap (11280 * M1) = A2) (e5 : IntKind.i64.wrap (A2 * sum) = cen) (e6 : IntKind.i64.wrap (A2 * D) = dev)
    (HP : Hid (∀ W, Calls Try.prog 31 #[.int .i64 X, .int .i64 X] W fun e w' => e = .returned (.agg #[.bool B, .int .u64 (hi n : Nat), .int .u64 (lo n : Nat)]) ∧ Below W.heap.size W w')) :
    Calls Try.prog 18 #[.agg #[.int .i64 1, .int .i64 m, .int .i64 sum, .int .i64 rng, .int .i64 last], .int .i64 s] w fun e w' => e = .returned (.agg #[.int .i64 cen, .int .i64 den, .int .i64 dev, .int .u64 (hi n : Nat), .int .u64 (lo n : Nat)]) ∧ Below w.heap.size w w' := by
  obtain ⟨w2, hw2⟩ : ∃ w2, ((w.alloc (.cells #[.int .i64 1, .int .i64 m, .int .i64 sum, .int .i64 rng, .int .i64 last] 23)).alloc (.cells #[.int .i64 0, .int .i64 0, .int .i64 0, .int .u64 0, .int .u64 0] 38)) = w2 := ⟨_, rfl⟩
  have h2i : TwoB w w2 [.int .i64 1, .int .i64 m, .int .i64 sum, .int .i64 rng, .int .i64 last] [.int .i64 0, .int .i64 0, .int .i64 0, .int .u64 0, .int .u64 0] 23 38 := by rw [← hw2]; exact twoB w _ _ _ _
  have HI := Lib.hid h2i; have HW2 := Lib.hid hw2
  have HE1 := Lib.hid e1; have HE2 := Lib.hid e2; have HE3 := Lib.hid e3; have HE4 := Lib.hid e4; have HE5 := Lib.hid e5; have HE6 := Lib.hid e6
  have hfm := fieldM B (hi n : Nat) (lo n : Nat)
  have HFM := Lib.hid hfm
  have HXX := Lib.hid hX; have HDD := Lib.hid hD
  clear h2i hw2 e1 e2 e3 e4 e5 e6 hfm hX hD
  go_enter Try.func18, Try.ntmps18
  go_upto_region 1 with fail
  rw [HW2.out]
  have c0 := HI.out.a.cell 0
  have c1 := HI.out.a.cell 1
  have c2 := HI.out.a.cell 2
  have c3 := HI.out.a.cell 3
  have c4 := HI.out.a.cell 4
  simp only [List.getElem?_cons_zero, List.getElem?_cons_succ] at c0 c1 c2 c3 c4
  have l1 := HI.out.a.lt
  go_upto_region 4 with fail
  rw [HDD.out, HXX.out]
  clear c0 c1 c2 c3 c4 l1
  have e1 := HE1.out; have e2 := HE2.out; have e3 := HE3.out; have e4 := HE4.out; have e5 := HE5.out; have e6 := HE6.out; have hfm := HFM.out
  have HD0 := Lib.hid HI.out.drew
  refine wp_region_held_drew (S := (fun W => W.cell? ⟨w.heap.size, 0, none⟩ = some (.int .i64 1) ∧ W.cell? ⟨w.heap.size, 1, none⟩ = some (.int .i64 m) ∧ W.cell? ⟨w.heap.size, 2, none⟩ = some (.int .i64 sum) ∧ W.cell? ⟨w.heap.size, 3, none⟩ = some (.int .i64 rng) ∧ W.cell? ⟨w.heap.size, 4, none⟩ = some (.int .i64 last))) (by kernel_rfl) ⟨HD0.out.a.cell 0, HD0.out.a.cell 1, HD0.out.a.cell 2, HD0.out.a.cell 3, HD0.out.a.cell 4⟩ (fun hHeld => ?_)
  refine regTake 0 (some 24) (v := ?_) rfl rfl (by kernel_rfl) (by kernel_rfl) (by kernel_rfl) (fun _ _ _ h => h) (by rfl) hHeld ?_ ?_
  rotate_left 1
  · (intro w hSw; (try dsimp only at hSw); go_simp; try with_reducible rfl)
  simp only [Act.put, List.setIfInBounds_toArray, List.set_cons_zero, List.set_cons_succ]
  refine regTake 1 (some 25) (v := ?_) rfl rfl (by kernel_rfl) (by kernel_rfl) (by kernel_rfl) (fun _ _ _ h => h) (by rfl) hHeld ?_ ?_
  rotate_left 1
  · (intro w hSw; (try dsimp only at hSw); go_simp; try with_reducible rfl)
  simp only [Act.put, List.setIfInBounds_toArray, List.set_cons_zero, List.set_cons_succ]
  refine regTake 2 (some 26) (v := ?_) rfl rfl (by kernel_rfl) (by kernel_rfl) (by kernel_rfl) (fun _ _ _ h => h) (by rfl) hHeld ?_ ?_
  rotate_left 1
  · (intro w hSw; (try dsimp only at hSw); go_simp; try with_reducible rfl)
  simp only [Act.put, List.setIfInBounds_toArray, List.set_cons_zero, List.set_cons_succ]
  refine regTake 3 (some 27) (v := ?_) rfl rfl (by kernel_rfl) (by kernel_rfl) (by kernel_rfl) (fun _ _ _ h => h) (by rfl) hHeld ?_ ?_
  rotate_left 1
  · (intro w hSw; (try dsimp only at hSw); go_simp; try with_reducible rfl)
  simp only [Act.put, List.setIfInBounds_toArray, List.set_cons_zero, List.set_cons_succ]
  refine regTake 4 (some 28) (v := ?_) rfl rfl (by kernel_rfl) (by kernel_rfl) (by kernel_rfl) (fun _ _ _ h => h) (by rfl) hHeld ?_ ?_
  rotate_left 1
  · (intro w hSw; (try dsimp only at hSw); go_simp; try with_reducible rfl)
  simp only [Act.put, List.setIfInBounds_toArray, List.set_cons_zero, List.set_cons_succ]
  refine regTake 5 (some 29) (v := ?_) rfl rfl (by kernel_rfl) (by kernel_rfl) (by kernel_rfl) (fun _ _ _ h => h) (by rfl) hHeld ?_ ?_
  rotate_left 1
  · (intro w hSw; (try dsimp only at hSw); go_simp; try with_reducible rfl)
  simp only [Act.put, List.setIfInBounds_toArray, List.set_cons_zero, List.set_cons_succ]
  refine regTake 6 (some 30) (v := ?_) rfl rfl (by kernel_rfl) (by kernel_rfl) (by kernel_rfl) (fun _ _ _ h => h) (by rfl) hHeld ?_ ?_
  rotate_left 1
  · (intro w hSw; (try dsimp only at hSw); go_simp; try with_reducible rfl)
  simp only [Act.put, List.setIfInBounds_toArray, List.set_cons_zero, List.set_cons_succ]
  refine regTake 7 (some 31) (v := ?_) rfl rfl (by kernel_rfl) (by kernel_rfl) (by kernel_rfl) (fun _ _ _ h => h) (by rfl) hHeld ?_ ?_
  rotate_left 1
  · (intro w hSw; (try dsimp only at hSw); go_simp; try with_reducible rfl)
  simp only [Act.put, List.setIfInBounds_toArray, List.set_cons_zero, List.set_cons_succ]
  refine regTake 8 (some 32) (v := ?_) rfl rfl (by kernel_rfl) (by kernel_rfl) (by kernel_rfl) (fun _ _ _ h => h) (by rfl) hHeld ?_ ?_
  rotate_left 1
  · (intro w hSw; (try dsimp only at hSw); go_simp; try with_reducible rfl)
  simp only [Act.put, List.setIfInBounds_toArray, List.set_cons_zero, List.set_cons_succ]
  refine regTake 9 (some 33) (v := ?_) rfl rfl (by kernel_rfl) (by kernel_rfl) (by kernel_rfl) (fun _ _ _ h => h) (by rfl) hHeld ?_ ?_
  rotate_left 1
  · (intro w hSw; (try dsimp only at hSw); go_simp; try with_reducible rfl)
  simp only [Act.put, List.setIfInBounds_toArray, List.set_cons_zero, List.set_cons_succ]
  refine regTake 10 (some 34) (v := ?_) rfl rfl (by kernel_rfl) (by kernel_rfl) (by kernel_rfl) (fun _ _ _ h => h) (by rfl) hHeld ?_ ?_
  rotate_left 1
  · (intro w hSw; (try dsimp only at hSw); go_simp; try with_reducible rfl)
  simp only [Act.put, List.setIfInBounds_toArray, List.set_cons_zero, List.set_cons_succ]
  refine regTake 11 (some 35) (v := ?_) rfl rfl (by kernel_rfl) (by kernel_rfl) (by kernel_rfl) (fun _ _ _ h => h) (by rfl) hHeld ?_ ?_
  rotate_left 1
  · (intro w hSw; (try dsimp only at hSw); go_simp; try with_reducible rfl)
  simp only [Act.put, List.setIfInBounds_toArray, List.set_cons_zero, List.set_cons_succ]
  refine regTake 12 (some 36) (v := ?_) rfl rfl (by kernel_rfl) (by kernel_rfl) (by kernel_rfl) (fun _ _ _ h => h) (by rfl) hHeld ?_ ?_
  rotate_left 1
  · (intro w hSw; (try dsimp only at hSw); go_simp; try with_reducible rfl)
  simp only [Act.put, List.setIfInBounds_toArray, List.set_cons_zero, List.set_cons_succ]
  refine regTake 13 (some 37) (v := ?_) rfl rfl (by kernel_rfl) (by kernel_rfl) (by kernel_rfl) (fun _ _ _ h => h) (by rfl) hHeld ?_ ?_
  rotate_left 1
  · (intro w hSw; (try dsimp only at hSw); go_simp; try with_reducible rfl)
  simp only [Act.put, List.setIfInBounds_toArray, List.set_cons_zero, List.set_cons_succ]
  refine regTake 14 (some 38) (v := ?_) rfl rfl (by kernel_rfl) (by kernel_rfl) (by kernel_rfl) (fun _ _ _ h => h) (by rfl) hHeld ?_ ?_
  rotate_left 1
  · (intro w hSw; (try dsimp only at hSw); go_simp; try with_reducible rfl)
  simp only [Act.put, List.setIfInBounds_toArray, List.set_cons_zero, List.set_cons_succ]
  refine regTake 15 (some 39) (v := ?_) rfl rfl (by kernel_rfl) (by kernel_rfl) (by kernel_rfl) (fun _ _ _ h => h) (by rfl) hHeld ?_ ?_
  rotate_left 1
  · (intro w hSw; (try dsimp only at hSw); go_simp; try with_reducible rfl)
  simp only [Act.put, List.setIfInBounds_toArray, List.set_cons_zero, List.set_cons_succ]
  refine regTake 16 (some 40) (v := ?_) rfl rfl (by kernel_rfl) (by kernel_rfl) (by kernel_rfl) (fun _ _ _ h => h) (by rfl) hHeld ?_ ?_
  rotate_left 1
  · (intro w hSw; (try dsimp only at hSw); go_simp; try with_reducible rfl)
  simp only [Act.put, List.setIfInBounds_toArray, List.set_cons_zero, List.set_cons_succ]
  refine regTake 17 (some 41) (v := ?_) rfl rfl (by kernel_rfl) (by kernel_rfl) (by kernel_rfl) (fun _ _ _ h => h) (by rfl) hHeld ?_ ?_
  rotate_left 1
  · (intro w hSw; (try dsimp only at hSw); go_simp; try with_reducible rfl)
  simp only [Act.put, List.setIfInBounds_toArray, List.set_cons_zero, List.set_cons_succ]
  refine regTake 18 (some 42) (v := ?_) rfl rfl (by kernel_rfl) (by kernel_rfl) (by kernel_rfl) (fun _ _ _ h => h) (by rfl) hHeld ?_ ?_
  rotate_left 1
  · (intro w hSw; (try dsimp only at hSw); go_simp; try with_reducible rfl)
  simp only [Act.put, List.setIfInBounds_toArray, List.set_cons_zero, List.set_cons_succ]
  refine regTake 19 (some 43) (v := ?_) rfl rfl (by kernel_rfl) (by kernel_rfl) (by kernel_rfl) (fun _ _ _ h => h) (by rfl) hHeld ?_ ?_
  rotate_left 1
  · (intro w hSw; (try dsimp only at hSw); go_simp; try with_reducible rfl)
  simp only [Act.put, List.setIfInBounds_toArray, List.set_cons_zero, List.set_cons_succ]
  refine regTake 20 (some 44) (v := ?_) rfl rfl (by kernel_rfl) (by kernel_rfl) (by kernel_rfl) (fun _ _ _ h => h) (by rfl) hHeld ?_ ?_
  rotate_left 1
  · (intro w hSw; (try dsimp only at hSw); go_simp; try with_reducible rfl)
  simp only [Act.put, List.setIfInBounds_toArray, List.set_cons_zero, List.set_cons_succ]
  refine regTake 21 (some 45) (v := ?_) rfl rfl (by kernel_rfl) (by kernel_rfl) (by kernel_rfl) (fun _ _ _ h => h) (by rfl) hHeld ?_ ?_
  rotate_left 1
  · (intro w hSw; (try dsimp only at hSw); go_simp; try with_reducible rfl)
  simp only [Act.put, List.setIfInBounds_toArray, List.set_cons_zero, List.set_cons_succ]
  refine regCall 22 (some 46) (f := 31) (args := ?_) rfl rfl (by kernel_rfl) (by rfl) ?_ ?_
  rotate_left 1
  · (go_simp; try with_reducible rfl)
  refine (HP.out _).mono ?_
  rintro e wx22 ⟨rfl, k6⟩
  refine ⟨_, rfl, ⟨(HD0.out.call k6).a.cell 0, (HD0.out.call k6).a.cell 1, (HD0.out.call k6).a.cell 2, (HD0.out.call k6).a.cell 3, (HD0.out.call k6).a.cell 4⟩, fun hHeld => ?_⟩
  simp only [Act.put, List.setIfInBounds_toArray, List.set_cons_zero, List.set_cons_succ]
  have HD6 := Lib.hid (HD0.out.call k6)
  clear k6
  refine regTake 23 (some 47) (v := ?_) rfl rfl (by kernel_rfl) (by kernel_rfl) (by kernel_rfl) (fun _ _ _ h => h) (by rfl) hHeld ?_ ?_
  rotate_left 1
  · (intro w hSw; (try dsimp only at hSw); go_simp; try with_reducible rfl)
  simp only [Act.put, List.setIfInBounds_toArray, List.set_cons_zero, List.set_cons_succ]
  refine regTake 24 (some 48) (v := ?_) rfl rfl (by kernel_rfl) (by kernel_rfl) (by kernel_rfl) (fun _ _ _ h => h) (by rfl) hHeld ?_ ?_
  rotate_left 1
  · (intro w hSw; (try dsimp only at hSw); go_simp; try with_reducible rfl)
  simp only [Act.put, List.setIfInBounds_toArray, List.set_cons_zero, List.set_cons_succ]
  have x0 := HD6.out.b.cell 0; have xf0 := HD6.out.b.frozen 0
  have x1 := HD6.out.b.cell 1; have xf1 := HD6.out.b.frozen 1
  have x2 := HD6.out.b.cell 2; have xf2 := HD6.out.b.frozen 2
  have x3 := HD6.out.b.cell 3; have xf3 := HD6.out.b.frozen 3
  have x4 := HD6.out.b.cell 4; have xf4 := HD6.out.b.frozen 4
  simp only [List.getElem?_cons_zero, List.getElem?_cons_succ] at x0 x1 x2 x3 x4
  have xl := HD6.out.b.lt
  refine regStore 25 (w' := ?_) rfl rfl (by kernel_rfl) (by rfl) ?_ ?_ (fun hHeld => ?_)
  rotate_left 1
  · (go_simp; try with_reducible rfl)
  · exact ⟨(HD6.out.put5 _ _ _ _ _).a.cell 0, (HD6.out.put5 _ _ _ _ _).a.cell 1, (HD6.out.put5 _ _ _ _ _).a.cell 2, (HD6.out.put5 _ _ _ _ _).a.cell 3, (HD6.out.put5 _ _ _ _ _).a.cell 4⟩
  refine wpAnyH_done (by kernel_rfl) ?_ _
  clear hHeld
  go_wp2_with fail
  (try simp only [Exit.inBlock, Exit.then])
  exact bodyPost_ret (resCellB rfl rfl (loadPnt (HD6.out.put5 _ _ _ _ _).b)) rfl ⟨rfl, (HD6.out.put5 _ _ _ _ _).below⟩
set_option linter.unusedSimpArgs false in
set_option linter.unusedVariables false in
set_option maxHeartbeats 8000000 in
set_option maxRecDepth 100000 in
theorem rpoint15_2 (size m sum rng last s F Y X D A1 den cen dev : Int) (n : Nat) (B : Bool) (w : World) (hm : 2 ≤ m ∧ m ≤ 25) (hs : -10000000 ≤ s ∧ s ≤ 10000000) (q1 : (size == 1) = false) (hD : wrap64 (wrap64 (s * m) - sum) = D)
    (e1 : IntKind.i64.wrap (30000 * m) = A1) (e2 : IntKind.i64.wrap (A1 * size) = den) (e3 : IntKind.i64.wrap (30000 * sum) = cen) (e4 : IntKind.i64.wrap (30000 * D) = dev) (e5 : IntKind.i64.wrap (F * rng) = Y) (e6 : IntKind.i64.wrap (Y * size) = X)
    (HP : Hid (∀ W, Calls Try.prog 31 #[.int .i64 X, .int .i64 X] W fun e w' => e = .returned (.agg #[.bool B, .int .u64 (hi n : Nat), .int .u64 (lo n : Nat)]) ∧ Below W.heap.size W w'))
    (HF : Hid (∀ W, Calls Try.prog 32 #[.int .i64 0, .int .i64 size] W fun e w' => e = .returned (.int .i64 F) ∧ Below W.heap.size W w')) :
    Calls Try.prog 18 #[.agg #[.int .i64 size, .int .i64 m, .int .i64 sum, .int .i64 rng, .int .i64 last], .int .i64 s] w fun e w' => e = .returned (.agg #[.int .i64 cen, .int .i64 den, .int .i64 dev, .int .u64 (hi n : Nat), .int .u64 (lo n : Nat)]) ∧ Below w.heap.size w w' := by
  obtain ⟨w2, hw2⟩ : ∃ w2, ((w.alloc (.cells #[.int .i64 size, .int .i64 m, .int .i64 sum, .int .i64 rng, .int .i64 last] 23)).alloc (.cells #[.int .i64 0, .int .i64 0, .int .i64 0, .int .u64 0, .int .u64 0] 38)) = w2 := ⟨_, rfl⟩
  have h2i : TwoB w w2 [.int .i64 size, .int .i64 m, .int .i64 sum, .int .i64 rng, .int .i64 last] [.int .i64 0, .int .i64 0, .int .i64 0, .int .u64 0, .int .u64 0] 23 38 := by rw [← hw2]; exact twoB w _ _ _ _
  have HI := Lib.hid h2i; have HW2 := Lib.hid hw2
  have HE1 := Lib.hid e1; have HE2 := Lib.hid e2; have HE3 := Lib.hid e3; have HE4 := Lib.hid e4; have HE5 := Lib.hid e5; have HE6 := Lib.hid e6
  have hfm := fieldM B (hi n : Nat) (lo n : Nat)
  have HFM := Lib.hid hfm
  have HDD := Lib.hid hD
  clear h2i hw2 e1 e2 e3 e4 e5 e6 hfm hD
  go_enter Try.func18, Try.ntmps18
  go_upto_region 1 with fail
  rw [HW2.out]
  have c0 := HI.out.a.cell 0
  have c1 := HI.out.a.cell 1
  have c2 := HI.out.a.cell 2
  have c3 := HI.out.a.cell 3
  have c4 := HI.out.a.cell 4
  simp only [List.getElem?_cons_zero, List.getElem?_cons_succ] at c0 c1 c2 c3 c4
  have l1 := HI.out.a.lt
  go_upto_region 5 with fail
  rw [HDD.out]
  clear c0 c1 c2 c3 c4 l1
  have e5 := HE5.out; have e6 := HE6.out
  have HD0 := Lib.hid HI.out.drew
  refine wp_region_held_drew (S := (fun W => W.cell? ⟨w.heap.size, 0, none⟩ = some (.int .i64 size) ∧ W.cell? ⟨w.heap.size, 1, none⟩ = some (.int .i64 m) ∧ W.cell? ⟨w.heap.size, 2, none⟩ = some (.int .i64 sum) ∧ W.cell? ⟨w.heap.size, 3, none⟩ = some (.int .i64 rng) ∧ W.cell? ⟨w.heap.size, 4, none⟩ = some (.int .i64 last))) (by kernel_rfl) ⟨HD0.out.a.cell 0, HD0.out.a.cell 1, HD0.out.a.cell 2, HD0.out.a.cell 3, HD0.out.a.cell 4⟩ (fun hHeld => ?_)
  refine regTake 0 (some 49) (v := ?_) rfl rfl (by kernel_rfl) (by kernel_rfl) (by kernel_rfl) (fun _ _ _ h => h) (by rfl) hHeld ?_ ?_
  rotate_left 1
  · (intro w hSw; (try dsimp only at hSw); go_simp; try with_reducible rfl)
  simp only [Act.put, List.setIfInBounds_toArray, List.set_cons_zero, List.set_cons_succ]
  refine regTake 1 (some 50) (v := ?_) rfl rfl (by kernel_rfl) (by kernel_rfl) (by kernel_rfl) (fun _ _ _ h => h) (by rfl) hHeld ?_ ?_
  rotate_left 1
  · (intro w hSw; (try dsimp only at hSw); go_simp; try with_reducible rfl)
  simp only [Act.put, List.setIfInBounds_toArray, List.set_cons_zero, List.set_cons_succ]
  refine regTake 3 (some 52) (v := ?_) rfl rfl (by kernel_rfl) (by kernel_rfl) (by kernel_rfl) (fun _ _ _ h => h) (by rfl) hHeld ?_ ?_
  rotate_left 1
  · (intro w hSw; (try dsimp only at hSw); go_simp; try with_reducible rfl)
  simp only [Act.put, List.setIfInBounds_toArray, List.set_cons_zero, List.set_cons_succ]
  refine regTake 4 (some 53) (v := ?_) rfl rfl (by kernel_rfl) (by kernel_rfl) (by kernel_rfl) (fun _ _ _ h => h) (by rfl) hHeld ?_ ?_
  rotate_left 1
  · (intro w hSw; (try dsimp only at hSw); go_simp; try with_reducible rfl)
  simp only [Act.put, List.setIfInBounds_toArray, List.set_cons_zero, List.set_cons_succ]
  refine regTake 6 (some 55) (v := ?_) rfl rfl (by kernel_rfl) (by kernel_rfl) (by kernel_rfl) (fun _ _ _ h => h) (by rfl) hHeld ?_ ?_
  rotate_left 1
  · (intro w hSw; (try dsimp only at hSw); go_simp; try with_reducible rfl)
  simp only [Act.put, List.setIfInBounds_toArray, List.set_cons_zero, List.set_cons_succ]
  refine regTake 7 (some 56) (v := ?_) rfl rfl (by kernel_rfl) (by kernel_rfl) (by kernel_rfl) (fun _ _ _ h => h) (by rfl) hHeld ?_ ?_
  rotate_left 1
  · (intro w hSw; (try dsimp only at hSw); go_simp; try with_reducible rfl)
  simp only [Act.put, List.setIfInBounds_toArray, List.set_cons_zero, List.set_cons_succ]
  refine regCall 2 (some 51) (f := 32) (args := ?_) rfl rfl (by kernel_rfl) (by rfl) ?_ ?_
  rotate_left 1
  · (go_simp; try with_reducible rfl)
  refine (HF.out _).mono ?_
  rintro e wx2 ⟨rfl, k6⟩
  refine ⟨_, rfl, ⟨(HD0.out.call k6).a.cell 0, (HD0.out.call k6).a.cell 1, (HD0.out.call k6).a.cell 2, (HD0.out.call k6).a.cell 3, (HD0.out.call k6).a.cell 4⟩, fun hHeld => ?_⟩
  simp only [Act.put, List.setIfInBounds_toArray, List.set_cons_zero, List.set_cons_succ]
  have HD6 := Lib.hid (HD0.out.call k6)
  clear k6
  refine regTake 5 (some 54) (v := ?_) rfl rfl (by kernel_rfl) (by kernel_rfl) (by kernel_rfl) (fun _ _ _ h => h) (by rfl) hHeld ?_ ?_
  rotate_left 1
  · (intro w hSw; (try dsimp only at hSw); go_simp; try with_reducible rfl)
  simp only [Act.put, List.setIfInBounds_toArray, List.set_cons_zero, List.set_cons_succ]
  refine regTake 8 (some 57) (v := ?_) rfl rfl (by kernel_rfl) (by kernel_rfl) (by kernel_rfl) (fun _ _ _ h => h) (by rfl) hHeld ?_ ?_
  rotate_left 1
  · (intro w hSw; (try dsimp only at hSw); go_simp; try with_reducible rfl)
  simp only [Act.put, List.setIfInBounds_toArray, List.set_cons_zero, List.set_cons_succ]
  refine regTake 9 (some 7) (v := ?_) rfl rfl (by kernel_rfl) (by kernel_rfl) (by kernel_rfl) (fun _ _ _ h => h) (by rfl) hHeld ?_ ?_
  rotate_left 1
  · (intro w hSw; (try dsimp only at hSw); go_simp; try with_reducible rfl)
  simp only [Act.put, List.setIfInBounds_toArray, List.set_cons_zero, List.set_cons_succ]
  refine wpAnyH_done (by kernel_rfl) ?_ _
  clear hHeld e5 e6
  go_upto_region 6 with fail
  have e1 := HE1.out; have e2 := HE2.out; have e3 := HE3.out; have e4 := HE4.out; have hfm := HFM.out
  have HI6 := Lib.hid HD6.out
  clear HD6 HD0
  have HD0 := Lib.hid HI6.out.drew
  refine wp_region_held_drew (S := (fun W => W.cell? ⟨w.heap.size, 0, none⟩ = some (.int .i64 size) ∧ W.cell? ⟨w.heap.size, 1, none⟩ = some (.int .i64 m) ∧ W.cell? ⟨w.heap.size, 2, none⟩ = some (.int .i64 sum) ∧ W.cell? ⟨w.heap.size, 3, none⟩ = some (.int .i64 rng) ∧ W.cell? ⟨w.heap.size, 4, none⟩ = some (.int .i64 last))) (by kernel_rfl) ⟨HD0.out.a.cell 0, HD0.out.a.cell 1, HD0.out.a.cell 2, HD0.out.a.cell 3, HD0.out.a.cell 4⟩ (fun hHeld => ?_)
  refine regTake 0 (some 58) (v := ?_) rfl rfl (by kernel_rfl) (by kernel_rfl) (by kernel_rfl) (fun _ _ _ h => h) (by rfl) hHeld ?_ ?_
  rotate_left 1
  · (intro w hSw; (try dsimp only at hSw); go_simp; try with_reducible rfl)
  simp only [Act.put, List.setIfInBounds_toArray, List.set_cons_zero, List.set_cons_succ]
  refine regTake 1 (some 59) (v := ?_) rfl rfl (by kernel_rfl) (by kernel_rfl) (by kernel_rfl) (fun _ _ _ h => h) (by rfl) hHeld ?_ ?_
  rotate_left 1
  · (intro w hSw; (try dsimp only at hSw); go_simp; try with_reducible rfl)
  simp only [Act.put, List.setIfInBounds_toArray, List.set_cons_zero, List.set_cons_succ]
  refine regTake 2 (some 60) (v := ?_) rfl rfl (by kernel_rfl) (by kernel_rfl) (by kernel_rfl) (fun _ _ _ h => h) (by rfl) hHeld ?_ ?_
  rotate_left 1
  · (intro w hSw; (try dsimp only at hSw); go_simp; try with_reducible rfl)
  simp only [Act.put, List.setIfInBounds_toArray, List.set_cons_zero, List.set_cons_succ]
  refine regTake 3 (some 61) (v := ?_) rfl rfl (by kernel_rfl) (by kernel_rfl) (by kernel_rfl) (fun _ _ _ h => h) (by rfl) hHeld ?_ ?_
  rotate_left 1
  · (intro w hSw; (try dsimp only at hSw); go_simp; try with_reducible rfl)
  simp only [Act.put, List.setIfInBounds_toArray, List.set_cons_zero, List.set_cons_succ]
  refine regTake 4 (some 62) (v := ?_) rfl rfl (by kernel_rfl) (by kernel_rfl) (by kernel_rfl) (fun _ _ _ h => h) (by rfl) hHeld ?_ ?_
  rotate_left 1
  · (intro w hSw; (try dsimp only at hSw); go_simp; try with_reducible rfl)
  simp only [Act.put, List.setIfInBounds_toArray, List.set_cons_zero, List.set_cons_succ]
  refine regTake 5 (some 63) (v := ?_) rfl rfl (by kernel_rfl) (by kernel_rfl) (by kernel_rfl) (fun _ _ _ h => h) (by rfl) hHeld ?_ ?_
  rotate_left 1
  · (intro w hSw; (try dsimp only at hSw); go_simp; try with_reducible rfl)
  simp only [Act.put, List.setIfInBounds_toArray, List.set_cons_zero, List.set_cons_succ]
  refine regTake 6 (some 64) (v := ?_) rfl rfl (by kernel_rfl) (by kernel_rfl) (by kernel_rfl) (fun _ _ _ h => h) (by rfl) hHeld ?_ ?_
  rotate_left 1
  · (intro w hSw; (try dsimp only at hSw); go_simp; try with_reducible rfl)
  simp only [Act.put, List.setIfInBounds_toArray, List.set_cons_zero, List.set_cons_succ]
  refine regTake 7 (some 65) (v := ?_) rfl rfl (by kernel_rfl) (by kernel_rfl) (by kernel_rfl) (fun _ _ _ h => h) (by rfl) hHeld ?_ ?_
  rotate_left 1
  · (intro w hSw; (try dsimp only at hSw); go_simp; try with_reducible rfl)
  simp only [Act.put, List.setIfInBounds_toArray, List.set_cons_zero, List.set_cons_succ]
  refine regTake 8 (some 66) (v := ?_) rfl rfl (by kernel_rfl) (by kernel_rfl) (by kernel_rfl) (fun _ _ _ h => h) (by rfl) hHeld ?_ ?_
  rotate_left 1
  · (intro w hSw; (try dsimp only at hSw); go_simp; try with_reducible rfl)
  simp only [Act.put, List.setIfInBounds_toArray, List.set_cons_zero, List.set_cons_succ]
  refine regTake 9 (some 67) (v := ?_) rfl rfl (by kernel_rfl) (by kernel_rfl) (by kernel_rfl) (fun _ _ _ h => h) (by rfl) hHeld ?_ ?_
  rotate_left 1
  · (intro w hSw; (try dsimp only at hSw); go_simp; try with_reducible rfl)
  simp only [Act.put, List.setIfInBounds_toArray, List.set_cons_zero, List.set_cons_succ]
  refine regTake 10 (some 68) (v := ?_) rfl rfl (by kernel_rfl) (by kernel_rfl) (by kernel_rfl) (fun _ _ _ h => h) (by rfl) hHeld ?_ ?_
  rotate_left 1
  · (intro w hSw; (try dsimp only at hSw); go_simp; try with_reducible rfl)
  simp only [Act.put, List.setIfInBounds_toArray, List.set_cons_zero, List.set_cons_succ]
  refine regTake 11 (some 69) (v := ?_) rfl rfl (by kernel_rfl) (by kernel_rfl) (by kernel_rfl) (fun _ _ _ h => h) (by rfl) hHeld ?_ ?_
  rotate_left 1
  · (intro w hSw; (try dsimp only at hSw); go_simp; try with_reducible rfl)
  simp only [Act.put, List.setIfInBounds_toArray, List.set_cons_zero, List.set_cons_succ]
  refine regTake 12 (some 70) (v := ?_) rfl rfl (by kernel_rfl) (by kernel_rfl) (by kernel_rfl) (fun _ _ _ h => h) (by rfl) hHeld ?_ ?_
  rotate_left 1
  · (intro w hSw; (try dsimp only at hSw); go_simp; try with_reducible rfl)
  simp only [Act.put, List.setIfInBounds_toArray, List.set_cons_zero, List.set_cons_succ]
  refine regCall 13 (some 71) (f := 31) (args := ?_) rfl rfl (by kernel_rfl) (by rfl) ?_ ?_
  rotate_left 1
  · (go_simp; try with_reducible rfl)
  refine (HP.out _).mono ?_
  rintro e wx13 ⟨rfl, k6⟩
  refine ⟨_, rfl, ⟨(HD0.out.call k6).a.cell 0, (HD0.out.call k6).a.cell 1, (HD0.out.call k6).a.cell 2, (HD0.out.call k6).a.cell 3, (HD0.out.call k6).a.cell 4⟩, fun hHeld => ?_⟩
  simp only [Act.put, List.setIfInBounds_toArray, List.set_cons_zero, List.set_cons_succ]
  have HD6 := Lib.hid (HD0.out.call k6)
  clear k6
  refine regTake 14 (some 72) (v := ?_) rfl rfl (by kernel_rfl) (by kernel_rfl) (by kernel_rfl) (fun _ _ _ h => h) (by rfl) hHeld ?_ ?_
  rotate_left 1
  · (intro w hSw; (try dsimp only at hSw); go_simp; try with_reducible rfl)
  simp only [Act.put, List.setIfInBounds_toArray, List.set_cons_zero, List.set_cons_succ]
  refine regTake 15 (some 73) (v := ?_) rfl rfl (by kernel_rfl) (by kernel_rfl) (by kernel_rfl) (fun _ _ _ h => h) (by rfl) hHeld ?_ ?_
  rotate_left 1
  · (intro w hSw; (try dsimp only at hSw); go_simp; try with_reducible rfl)
  simp only [Act.put, List.setIfInBounds_toArray, List.set_cons_zero, List.set_cons_succ]
  have x0 := HD6.out.b.cell 0; have xf0 := HD6.out.b.frozen 0
  have x1 := HD6.out.b.cell 1; have xf1 := HD6.out.b.frozen 1
  have x2 := HD6.out.b.cell 2; have xf2 := HD6.out.b.frozen 2
  have x3 := HD6.out.b.cell 3; have xf3 := HD6.out.b.frozen 3
  have x4 := HD6.out.b.cell 4; have xf4 := HD6.out.b.frozen 4
  simp only [List.getElem?_cons_zero, List.getElem?_cons_succ] at x0 x1 x2 x3 x4
  have xl := HD6.out.b.lt
  refine regStore 16 (w' := ?_) rfl rfl (by kernel_rfl) (by rfl) ?_ ?_ (fun hHeld => ?_)
  rotate_left 1
  · (go_simp; try with_reducible rfl)
  · exact ⟨(HD6.out.put5 _ _ _ _ _).a.cell 0, (HD6.out.put5 _ _ _ _ _).a.cell 1, (HD6.out.put5 _ _ _ _ _).a.cell 2, (HD6.out.put5 _ _ _ _ _).a.cell 3, (HD6.out.put5 _ _ _ _ _).a.cell 4⟩
  refine wpAnyH_done (by kernel_rfl) ?_ _
  clear hHeld
  go_wp2_with fail
  (try simp only [Exit.inBlock, Exit.then])
  exact bodyPost_ret (resCellB rfl rfl (loadPnt (HD6.out.put5 _ _ _ _ _).b)) rfl ⟨rfl, (HD6.out.put5 _ _ _ _ _).below⟩
theorem wrapI {x : Int} (h : -9000000000000000000 ≤ x ∧ x ≤ 9000000000000000000) : IntKind.i64.wrap x = x := wrap_int (by unfold IsInt; omega)
theorem wrap6 {x : Int} (h : -9000000000000000000 ≤ x ∧ x ≤ 9000000000000000000) : wrap64 x = x := by unfold wrap64; omega
theorem rpoint15_any (b : Bas) (s : Int) (hb : basOk b) (hm : 2 ≤ b.m) (hs : sumB b s = true) (w : World) : Calls Try.prog 18 #[basV b, .int .i64 s] w fun e w' => e = .returned (pntV (pntN b s)) ∧ Below w.heap.size w w' := by
  have hs2 := of_decide_eq_true hs
  have hu := sum_bounds hb
  have hst := stp_bounds hb
  have hrng := hb.2.2
  have hz := hb.1
  have hs3 : -10000000 ≤ s ∧ s ≤ 10000000 := by omega
  have hsm := mulB hs3 (show -25 ≤ b.m ∧ b.m ≤ 25 by omega)
  have hr : -50000000 ≤ b.rng ∧ b.rng ≤ 50000000 := by omega
  obtain ⟨size, m, sum, rng, last⟩ := b
  dsimp only at *
  by_cases k : size = 1
  · subst k
    have hX : IsInt (10000 * m * rng) := by
      have := mulB (show -250000 ≤ 10000 * m ∧ 10000 * m ≤ 250000 by omega) hr
      unfold IsInt; omega
    have hP := fun W => product_any (10000 * m * rng) (10000 * m * rng) hX hX W
    unfold zS at hP
    have e3 := mulB (show -282000 ≤ 11280 * m ∧ 11280 * m ≤ 282000 by omega) (show -24 ≤ m - 1 ∧ m - 1 ≤ 24 by omega)
    have e5 := mulB (show -270720 ≤ 11280 * (m - 1) ∧ 11280 * (m - 1) ≤ 270720 by omega) hu
    have e6 := mulB (show -270720 ≤ 11280 * (m - 1) ∧ 11280 * (m - 1) ≤ 270720 by omega) (show -500000000 ≤ s * m - sum ∧ s * m - sum ≤ 500000000 by omega)
    have h := rpoint15_1 m sum rng last s (10000 * m * rng) (m - 1) (s * m - sum) (11280 * m) (11280 * (m - 1)) (11280 * m * (m - 1)) (11280 * (m - 1) * sum) (11280 * (m - 1) * (s * m - sum)) ((10000 * m * rng) * (10000 * m * rng)).natAbs _ w ⟨hm, by omega⟩ hs3
      (by have := mulB (show -250000 ≤ 10000 * m ∧ 10000 * m ≤ 250000 by omega) hr; exact wrap6 (by omega)) (by rw [wrap6 (show _ ∧ _ from ⟨by omega, by omega⟩ : -9000000000000000000 ≤ s * m ∧ s * m ≤ 9000000000000000000)]; exact wrap6 (by omega)) (wrapI (by omega)) (wrapI (by omega)) (wrapI (by omega)) (wrapI (by omega)) (wrapI (by omega)) (wrapI (by omega)) (Lib.hid hP)
    rw [Int.natAbs_mul] at h
    exact h
  · have q1 : (size == 1) = false := beq_false_of_ne k
    have hF := fac_row 0 (by omega) (size - 2).toNat (by omega)
    obtain ⟨F, hFF⟩ : ∃ F, fac 0 (size - 2).toNat = F := ⟨_, rfl⟩
    rw [hFF] at hF
    have hFc := fun W => rfactor_any 0 (size - 2).toNat size F (by omega) (by omega) (by omega) hFF.symm W
    have b5 := mulB (show -32670 ≤ F ∧ F ≤ 32670 by omega) hr
    have b6 := mulB b5 (show -10 ≤ size ∧ size ≤ 10 by omega)
    have b2 := mulB (show -750000 ≤ 30000 * m ∧ 30000 * m ≤ 750000 by omega) (show -10 ≤ size ∧ size ≤ 10 by omega)
    have hX : IsInt (F * rng * size) := by unfold IsInt; omega
    have hP := fun W => product_any (F * rng * size) (F * rng * size) hX hX W
    unfold zS at hP
    have h := rpoint15_2 size m sum rng last s F (F * rng) (F * rng * size) (s * m - sum) (30000 * m) (30000 * m * size) (30000 * sum) (30000 * (s * m - sum)) ((F * rng * size) * (F * rng * size)).natAbs _ w ⟨hm, by omega⟩ hs3 q1
      (by rw [wrap6 (show _ ∧ _ from ⟨by omega, by omega⟩ : -9000000000000000000 ≤ s * m ∧ s * m ≤ 9000000000000000000)]; exact wrap6 (by omega)) (wrapI (by omega)) (wrapI (by omega)) (wrapI (by omega)) (wrapI (by omega)) (wrapI (by omega)) (wrapI (by omega)) (Lib.hid hP) (Lib.hid hFc)
    rw [Int.natAbs_mul] at h
    unfold pntN rootN
    dsimp only
    rw [if_neg k, if_neg k, hFF]
    exact h
end Go.Proofs.Ytfafkdbflmennaa
