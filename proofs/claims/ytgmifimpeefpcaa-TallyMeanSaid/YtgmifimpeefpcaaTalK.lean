/- tally's drawings; tally.Point. -/
import Derived.Test.YtgmifimpeefpcaaTalG
import Derived.Test.YtgmifimpeefpcaaMul64
namespace Go.Proofs.Ytgmifimpeefpcaa
open Go.RowKit

set_option linter.unusedSimpArgs false in
set_option linter.unusedVariables false in
set_option maxHeartbeats 8000000 in
set_option maxRecDepth 100000 in
theorem many_core (kind size m sum d A cen P dev C Q : Int) (X Y h l : Nat) (w : World) (mm : (∀ W, Calls Try.prog 29 #[.int .u64 (X : Nat), .int .u64 (Y : Nat)] W fun e w' => e = .returned (.agg #[.int .u64 (h : Nat), .int .u64 (l : Nat)]) ∧ Below W.heap.size W w')) (mu : (∀ W, Calls Try.prog 34 #[.agg #[.int .i64 kind, .int .i64 size, .int .i64 m, .int .i64 sum]] W fun e w' => e = .returned (.int .i64 A) ∧ Below W.heap.size W w')) (e2 : IntKind.i64.wrap (sum * size) = cen) (e3 : IntKind.i64.wrap (d * A) = P) (e4 : IntKind.i64.wrap (P - cen) = dev) (e5 : IntKind.i64.wrap (A - sum) = C) (e6 : IntKind.i64.wrap (sum * C) = Q) (e7 : IntKind.u64.wrap Q = (X : Nat)) (e8 : IntKind.u64.wrap size = (Y : Nat)) :
    Calls Try.prog 27 #[.agg #[.int .i64 kind, .int .i64 size, .int .i64 m, .int .i64 sum], .int .i64 d] w fun e w' => e = .returned (.agg #[.int .i64 cen, .int .i64 A, .int .i64 dev, .int .u64 (h : Nat), .int .u64 (l : Nat)]) ∧ Below w.heap.size w w' := by
  have MM := Lib.hid mm; have MU := Lib.hid mu
  clear mm mu
  obtain ⟨w2, hw2⟩ : ∃ w2, (w.alloc (.cells #[.int .i64 kind, .int .i64 size, .int .i64 m, .int .i64 sum] 23)).alloc (.cells #[.int .i64 0, .int .i64 0, .int .i64 0, .int .u64 0, .int .u64 0] 38) = w2 := ⟨_, rfl⟩
  have h2 : TwoB w w2 [.int .i64 kind, .int .i64 size, .int .i64 m, .int .i64 sum] [.int .i64 0, .int .i64 0, .int .i64 0, .int .u64 0, .int .u64 0] 23 38 := by rw [← hw2]; exact twoB w _ _ _ _
  have HB2 := Lib.hid h2.below; have HV2 := Lib.hid h2.a; have HZ2 := Lib.hid h2.b
  have HW2 := Lib.hid hw2
  clear hw2 h2
  have hbase := Nat.le_refl w.heap.size
  go_enter Try.func27, Try.ntmps27
  go_upto_region 1 with fail
  rw [HW2.out]
  have qb0_0 : w2.cell? ⟨w.heap.size, 0, none⟩ = some (.int .i64 kind) := HV2.out.cell 0
  have qb1_0 : w2.cell? ⟨w.heap.size, 1, none⟩ = some (.int .i64 size) := HV2.out.cell 1
  have qb2_0 : w2.cell? ⟨w.heap.size, 2, none⟩ = some (.int .i64 m) := HV2.out.cell 2
  have qb3_0 : w2.cell? ⟨w.heap.size, 3, none⟩ = some (.int .i64 sum) := HV2.out.cell 3
  have lb_0 : w.heap.size < w2.heap.size := HV2.out.lt
  have hcz1 := MU.out w2
  go_wp2_with fail
  refine hcz1.mono ?_
  rintro e wz1 ⟨rfl, kz1⟩
  clear hcz1 qb0_0 qb1_0 qb2_0 qb3_0 lb_0
  have HBz1 := Lib.hid (HB2.out.trans (kz1.mono (Nat.le_trans hbase HB2.out.size)))
  have Hbz1 := Lib.hid (HV2.out.call kz1)
  have Hzz1 := Lib.hid (HZ2.out.call kz1)
  clear kz1
  go_upto_region 2 with fail
  refine wp_region_held_drew (S := (fun W' => W'.cell? ⟨w.heap.size, 0, none⟩ = some (.int .i64 kind) ∧ W'.cell? ⟨w.heap.size, 1, none⟩ = some (.int .i64 size) ∧ W'.cell? ⟨w.heap.size, 2, none⟩ = some (.int .i64 m) ∧ W'.cell? ⟨w.heap.size, 3, none⟩ = some (.int .i64 sum))) (by kernel_rfl) ⟨Hbz1.out.cell 0, Hbz1.out.cell 1, Hbz1.out.cell 2, Hbz1.out.cell 3⟩ (fun hHeld => ?_)
  refine regTake 0 (some 8) (v := ?_) rfl rfl (by kernel_rfl) (by kernel_rfl) (by kernel_rfl) (fun _ _ _ h => h) (by rfl) hHeld ?_ ?_
  rotate_left 1
  · (intro w hSw; (try dsimp only at hSw); go_simp; try with_reducible rfl)
  simp only [Act.put, List.setIfInBounds_toArray, List.set_cons_zero, List.set_cons_succ]
  refine regTake 1 (some 9) (v := ?_) rfl rfl (by kernel_rfl) (by kernel_rfl) (by kernel_rfl) (fun _ _ _ h => h) (by rfl) hHeld ?_ ?_
  rotate_left 1
  · (intro w hSw; (try dsimp only at hSw); go_simp; try with_reducible rfl)
  simp only [Act.put, List.setIfInBounds_toArray, List.set_cons_zero, List.set_cons_succ]
  refine regTake 2 (some 10) (v := ?_) rfl rfl (by kernel_rfl) (by kernel_rfl) (by kernel_rfl) (fun _ _ _ h => h) (by rfl) hHeld ?_ ?_
  rotate_left 1
  · (intro w hSw; (try dsimp only at hSw); go_simp; try with_reducible rfl)
  simp only [Act.put, List.setIfInBounds_toArray, List.set_cons_zero, List.set_cons_succ]
  refine regTake 3 (some 11) (v := ?_) rfl rfl (by kernel_rfl) (by kernel_rfl) (by kernel_rfl) (fun _ _ _ h => h) (by rfl) hHeld ?_ ?_
  rotate_left 1
  · (intro w hSw; (try dsimp only at hSw); go_simp; try with_reducible rfl)
  simp only [Act.put, List.setIfInBounds_toArray, List.set_cons_zero, List.set_cons_succ]
  refine regTake 4 (some 12) (v := ?_) rfl rfl (by kernel_rfl) (by kernel_rfl) (by kernel_rfl) (fun _ _ _ h => h) (by rfl) hHeld ?_ ?_
  rotate_left 1
  · (intro w hSw; (try dsimp only at hSw); go_simp; try with_reducible rfl)
  simp only [Act.put, List.setIfInBounds_toArray, List.set_cons_zero, List.set_cons_succ]
  refine regTake 5 (some 13) (v := ?_) rfl rfl (by kernel_rfl) (by kernel_rfl) (by kernel_rfl) (fun _ _ _ h => h) (by rfl) hHeld ?_ ?_
  rotate_left 1
  · (intro w hSw; (try dsimp only at hSw); go_simp; try with_reducible rfl)
  simp only [Act.put, List.setIfInBounds_toArray, List.set_cons_zero, List.set_cons_succ]
  refine regTake 6 (some 14) (v := ?_) rfl rfl (by kernel_rfl) (by kernel_rfl) (by kernel_rfl) (fun _ _ _ h => h) (by rfl) hHeld ?_ ?_
  rotate_left 1
  · (intro w hSw; (try dsimp only at hSw); go_simp; try with_reducible rfl)
  simp only [Act.put, List.setIfInBounds_toArray, List.set_cons_zero, List.set_cons_succ]
  refine regTake 7 (some 15) (v := ?_) rfl rfl (by kernel_rfl) (by kernel_rfl) (by kernel_rfl) (fun _ _ _ h => h) (by rfl) hHeld ?_ ?_
  rotate_left 1
  · (intro w hSw; (try dsimp only at hSw); go_simp; try with_reducible rfl)
  simp only [Act.put, List.setIfInBounds_toArray, List.set_cons_zero, List.set_cons_succ]
  refine regTake 8 (some 16) (v := ?_) rfl rfl (by kernel_rfl) (by kernel_rfl) (by kernel_rfl) (fun _ _ _ h => h) (by rfl) hHeld ?_ ?_
  rotate_left 1
  · (intro w hSw; (try dsimp only at hSw); go_simp; try with_reducible rfl)
  simp only [Act.put, List.setIfInBounds_toArray, List.set_cons_zero, List.set_cons_succ]
  refine regTake 9 (some 17) (v := ?_) rfl rfl (by kernel_rfl) (by kernel_rfl) (by kernel_rfl) (fun _ _ _ h => h) (by rfl) hHeld ?_ ?_
  rotate_left 1
  · (intro w hSw; (try dsimp only at hSw); go_simp; try with_reducible rfl)
  simp only [Act.put, List.setIfInBounds_toArray, List.set_cons_zero, List.set_cons_succ]
  refine regTake 10 (some 18) (v := ?_) rfl rfl (by kernel_rfl) (by kernel_rfl) (by kernel_rfl) (fun _ _ _ h => h) (by rfl) hHeld ?_ ?_
  rotate_left 1
  · (intro w hSw; (try dsimp only at hSw); go_simp; try with_reducible rfl)
  simp only [Act.put, List.setIfInBounds_toArray, List.set_cons_zero, List.set_cons_succ]
  refine regTake 11 (some 19) (v := ?_) rfl rfl (by kernel_rfl) (by kernel_rfl) (by kernel_rfl) (fun _ _ _ h => h) (by rfl) hHeld ?_ ?_
  rotate_left 1
  · (intro w hSw; (try dsimp only at hSw); go_simp; try with_reducible rfl)
  simp only [Act.put, List.setIfInBounds_toArray, List.set_cons_zero, List.set_cons_succ]
  refine regTake 12 (some 20) (v := ?_) rfl rfl (by kernel_rfl) (by kernel_rfl) (by kernel_rfl) (fun _ _ _ h => h) (by rfl) hHeld ?_ ?_
  rotate_left 1
  · (intro w hSw; (try dsimp only at hSw); go_simp; try with_reducible rfl)
  simp only [Act.put, List.setIfInBounds_toArray, List.set_cons_zero, List.set_cons_succ]
  refine regTake 13 (some 21) (v := ?_) rfl rfl (by kernel_rfl) (by kernel_rfl) (by kernel_rfl) (fun _ _ _ h => h) (by rfl) hHeld ?_ ?_
  rotate_left 1
  · (intro w hSw; (try dsimp only at hSw); go_simp; try with_reducible rfl)
  simp only [Act.put, List.setIfInBounds_toArray, List.set_cons_zero, List.set_cons_succ]
  refine regTake 14 (some 22) (v := ?_) rfl rfl (by kernel_rfl) (by kernel_rfl) (by kernel_rfl) (fun _ _ _ h => h) (by rfl) hHeld ?_ ?_
  rotate_left 1
  · (intro w hSw; (try dsimp only at hSw); go_simp; try with_reducible rfl)
  simp only [Act.put, List.setIfInBounds_toArray, List.set_cons_zero, List.set_cons_succ]
  refine regTake 15 (some 23) (v := ?_) rfl rfl (by kernel_rfl) (by kernel_rfl) (by kernel_rfl) (fun _ _ _ h => h) (by rfl) hHeld ?_ ?_
  rotate_left 1
  · (intro w hSw; (try dsimp only at hSw); go_simp; try with_reducible rfl)
  simp only [Act.put, List.setIfInBounds_toArray, List.set_cons_zero, List.set_cons_succ]
  refine regTake 16 (some 24) (v := ?_) rfl rfl (by kernel_rfl) (by kernel_rfl) (by kernel_rfl) (fun _ _ _ h => h) (by rfl) hHeld ?_ ?_
  rotate_left 1
  · (intro w hSw; (try dsimp only at hSw); go_simp; try with_reducible rfl)
  simp only [Act.put, List.setIfInBounds_toArray, List.set_cons_zero, List.set_cons_succ]
  refine regTake 17 (some 25) (v := ?_) rfl rfl (by kernel_rfl) (by kernel_rfl) (by kernel_rfl) (fun _ _ _ h => h) (by rfl) hHeld ?_ ?_
  rotate_left 1
  · (intro w hSw; (try dsimp only at hSw); go_simp; try with_reducible rfl)
  simp only [Act.put, List.setIfInBounds_toArray, List.set_cons_zero, List.set_cons_succ]
  refine regTake 18 (some 26) (v := ?_) rfl rfl (by kernel_rfl) (by kernel_rfl) (by kernel_rfl) (fun _ _ _ h => h) (by rfl) hHeld ?_ ?_
  rotate_left 1
  · (intro w hSw; (try dsimp only at hSw); go_simp; try with_reducible rfl)
  simp only [Act.put, List.setIfInBounds_toArray, List.set_cons_zero, List.set_cons_succ]
  refine regTake 19 (some 27) (v := ?_) rfl rfl (by kernel_rfl) (by kernel_rfl) (by kernel_rfl) (fun _ _ _ h => h) (by rfl) hHeld ?_ ?_
  rotate_left 1
  · (intro w hSw; (try dsimp only at hSw); go_simp; try with_reducible rfl)
  simp only [Act.put, List.setIfInBounds_toArray, List.set_cons_zero, List.set_cons_succ]
  refine regTake 20 (some 28) (v := ?_) rfl rfl (by kernel_rfl) (by kernel_rfl) (by kernel_rfl) (fun _ _ _ h => h) (by rfl) hHeld ?_ ?_
  rotate_left 1
  · (intro w hSw; (try dsimp only at hSw); go_simp; try with_reducible rfl)
  simp only [Act.put, List.setIfInBounds_toArray, List.set_cons_zero, List.set_cons_succ]
  refine regTake 21 (some 29) (v := ?_) rfl rfl (by kernel_rfl) (by kernel_rfl) (by kernel_rfl) (fun _ _ _ h => h) (by rfl) hHeld ?_ ?_
  rotate_left 1
  · (intro w hSw; (try dsimp only at hSw); go_simp; try with_reducible rfl)
  simp only [Act.put, List.setIfInBounds_toArray, List.set_cons_zero, List.set_cons_succ]
  refine regTake 22 (some 30) (v := ?_) rfl rfl (by kernel_rfl) (by kernel_rfl) (by kernel_rfl) (fun _ _ _ h => h) (by rfl) hHeld ?_ ?_
  rotate_left 1
  · (intro w hSw; (try dsimp only at hSw); go_simp; try with_reducible rfl)
  simp only [Act.put, List.setIfInBounds_toArray, List.set_cons_zero, List.set_cons_succ]
  refine regTake 23 (some 31) (v := ?_) rfl rfl (by kernel_rfl) (by kernel_rfl) (by kernel_rfl) (fun _ _ _ h => h) (by rfl) hHeld ?_ ?_
  rotate_left 1
  · (intro w hSw; (try dsimp only at hSw); go_simp; try with_reducible rfl)
  simp only [Act.put, List.setIfInBounds_toArray, List.set_cons_zero, List.set_cons_succ]
  refine regTake 24 (some 32) (v := ?_) rfl rfl (by kernel_rfl) (by kernel_rfl) (by kernel_rfl) (fun _ _ _ h => h) (by rfl) hHeld ?_ ?_
  rotate_left 1
  · (intro w hSw; (try dsimp only at hSw); go_simp; try with_reducible rfl)
  simp only [Act.put, List.setIfInBounds_toArray, List.set_cons_zero, List.set_cons_succ]
  refine regTake 25 (some 33) (v := ?_) rfl rfl (by kernel_rfl) (by kernel_rfl) (by kernel_rfl) (fun _ _ _ h => h) (by rfl) hHeld ?_ ?_
  rotate_left 1
  · (intro w hSw; (try dsimp only at hSw); go_simp; try with_reducible rfl)
  simp only [Act.put, List.setIfInBounds_toArray, List.set_cons_zero, List.set_cons_succ]
  refine regCall 26 (some 34) (f := 29) (args := ?_) rfl rfl (by kernel_rfl) (by rfl) ?_ ?_
  rotate_left 1
  · (go_simp; try with_reducible rfl)
  refine (MM.out _).mono ?_
  rintro e wx26 ⟨rfl, kg2⟩
  refine ⟨_, rfl, ⟨(Hbz1.out.step kg2 rfl).cell 0, (Hbz1.out.step kg2 rfl).cell 1, (Hbz1.out.step kg2 rfl).cell 2, (Hbz1.out.step kg2 rfl).cell 3⟩, fun hHeld => ?_⟩
  simp only [Act.put, List.setIfInBounds_toArray, List.set_cons_zero, List.set_cons_succ]
  have HBg2 := Lib.hid ((HBz1.out.drew).trans (kg2.mono (Nat.le_trans hbase (HBz1.out.drew).size)))
  have Hbg2 := Lib.hid (Hbz1.out.step kg2 rfl)
  have Hzg2 := Lib.hid (Hzz1.out.step kg2 rfl)
  clear kg2
  refine regTake 27 (some 35) (v := ?_) rfl rfl (by kernel_rfl) (by kernel_rfl) (by kernel_rfl) (fun _ _ _ h => h) (by rfl) hHeld ?_ ?_
  rotate_left 1
  · (intro w hSw; (try dsimp only at hSw); go_simp; try with_reducible rfl)
  simp only [Act.put, List.setIfInBounds_toArray, List.set_cons_zero, List.set_cons_succ]
  have xs0 := Hzg2.out.cell 0; have xf0 := Hzg2.out.frozen 0
  have xs1 := Hzg2.out.cell 1; have xf1 := Hzg2.out.frozen 1
  have xs2 := Hzg2.out.cell 2; have xf2 := Hzg2.out.frozen 2
  have xs3 := Hzg2.out.cell 3; have xf3 := Hzg2.out.frozen 3
  have xs4 := Hzg2.out.cell 4; have xf4 := Hzg2.out.frozen 4
  simp only [List.getElem?_cons_zero, List.getElem?_cons_succ] at xs0 xs1 xs2 xs3 xs4
  have xsl := Hzg2.out.lt
  refine regStore 28 (w' := ?_) rfl rfl (by kernel_rfl) (by rfl) ?_ ?_ (fun hHeld => ?_)
  rotate_left 1
  · (go_simp; try with_reducible rfl)
  · exact ⟨(((((Hbg2.out.other (p := ⟨w.heap.size + 1, 0, none⟩) (by dsimp only; omega) (.int .i64 cen)).other (p := ⟨w.heap.size + 1, 1, none⟩) (by dsimp only; omega) (.int .i64 A)).other (p := ⟨w.heap.size + 1, 2, none⟩) (by dsimp only; omega) (.int .i64 dev)).other (p := ⟨w.heap.size + 1, 3, none⟩) (by dsimp only; omega) (.int .u64 (h : Nat))).other (p := ⟨w.heap.size + 1, 4, none⟩) (by dsimp only; omega) (.int .u64 (l : Nat))).cell 0, (((((Hbg2.out.other (p := ⟨w.heap.size + 1, 0, none⟩) (by dsimp only; omega) (.int .i64 cen)).other (p := ⟨w.heap.size + 1, 1, none⟩) (by dsimp only; omega) (.int .i64 A)).other (p := ⟨w.heap.size + 1, 2, none⟩) (by dsimp only; omega) (.int .i64 dev)).other (p := ⟨w.heap.size + 1, 3, none⟩) (by dsimp only; omega) (.int .u64 (h : Nat))).other (p := ⟨w.heap.size + 1, 4, none⟩) (by dsimp only; omega) (.int .u64 (l : Nat))).cell 1, (((((Hbg2.out.other (p := ⟨w.heap.size + 1, 0, none⟩) (by dsimp only; omega) (.int .i64 cen)).other (p := ⟨w.heap.size + 1, 1, none⟩) (by dsimp only; omega) (.int .i64 A)).other (p := ⟨w.heap.size + 1, 2, none⟩) (by dsimp only; omega) (.int .i64 dev)).other (p := ⟨w.heap.size + 1, 3, none⟩) (by dsimp only; omega) (.int .u64 (h : Nat))).other (p := ⟨w.heap.size + 1, 4, none⟩) (by dsimp only; omega) (.int .u64 (l : Nat))).cell 2, (((((Hbg2.out.other (p := ⟨w.heap.size + 1, 0, none⟩) (by dsimp only; omega) (.int .i64 cen)).other (p := ⟨w.heap.size + 1, 1, none⟩) (by dsimp only; omega) (.int .i64 A)).other (p := ⟨w.heap.size + 1, 2, none⟩) (by dsimp only; omega) (.int .i64 dev)).other (p := ⟨w.heap.size + 1, 3, none⟩) (by dsimp only; omega) (.int .u64 (h : Nat))).other (p := ⟨w.heap.size + 1, 4, none⟩) (by dsimp only; omega) (.int .u64 (l : Nat))).cell 3⟩
  have HBg3 := Lib.hid ((((((HBg2.out.setCell (p := ⟨w.heap.size + 1, 0, none⟩) (by first | exact Nat.le_refl _ | (dsimp only; omega)) (.int .i64 cen)).setCell (p := ⟨w.heap.size + 1, 1, none⟩) (by first | exact Nat.le_refl _ | (dsimp only; omega)) (.int .i64 A)).setCell (p := ⟨w.heap.size + 1, 2, none⟩) (by first | exact Nat.le_refl _ | (dsimp only; omega)) (.int .i64 dev)).setCell (p := ⟨w.heap.size + 1, 3, none⟩) (by first | exact Nat.le_refl _ | (dsimp only; omega)) (.int .u64 (h : Nat))).setCell (p := ⟨w.heap.size + 1, 4, none⟩) (by first | exact Nat.le_refl _ | (dsimp only; omega)) (.int .u64 (l : Nat))))
  have Hbg3 := Lib.hid (((((Hbg2.out.other (p := ⟨w.heap.size + 1, 0, none⟩) (by dsimp only; omega) (.int .i64 cen)).other (p := ⟨w.heap.size + 1, 1, none⟩) (by dsimp only; omega) (.int .i64 A)).other (p := ⟨w.heap.size + 1, 2, none⟩) (by dsimp only; omega) (.int .i64 dev)).other (p := ⟨w.heap.size + 1, 3, none⟩) (by dsimp only; omega) (.int .u64 (h : Nat))).other (p := ⟨w.heap.size + 1, 4, none⟩) (by dsimp only; omega) (.int .u64 (l : Nat)))
  have Hzg3 := Lib.hid (((((Hzg2.out.set 0 (.int .i64 cen)).set 1 (.int .i64 A)).set 2 (.int .i64 dev)).set 3 (.int .u64 (h : Nat))).set 4 (.int .u64 (l : Nat)))
  clear xs0 xf0 xs1 xf1 xs2 xf2 xs3 xf3 xs4 xf4 xsl
  refine wpAnyH_done (by kernel_rfl) ?_ _
  clear hHeld
  go_wp2_with fail
  (try simp only [Exit.inBlock, Exit.then])
  exact bodyPost_ret (resCellB rfl rfl (loadPnt Hzg3.out)) rfl ⟨rfl, HBg3.out⟩
set_option linter.unusedSimpArgs false in
set_option linter.unusedVariables false in
set_option maxHeartbeats 8000000 in
set_option maxRecDepth 100000 in
theorem share_core (kind size m sum d A cen dev den : Int) (h l : Nat) (w : World) (mh : (∀ W, Calls Try.prog 27 #[.agg #[.int .i64 kind, .int .i64 size, .int .i64 m, .int .i64 sum], .int .i64 d] W fun e w' => e = .returned (.agg #[.int .i64 cen, .int .i64 A, .int .i64 dev, .int .u64 (h : Nat), .int .u64 (l : Nat)]) ∧ Below W.heap.size W w')) (e1 : wrap64 (A * size) = den) :
    Calls Try.prog 26 #[.agg #[.int .i64 kind, .int .i64 size, .int .i64 m, .int .i64 sum], .int .i64 d] w fun e w' => e = .returned (.agg #[.int .i64 cen, .int .i64 den, .int .i64 dev, .int .u64 (h : Nat), .int .u64 (l : Nat)]) ∧ Below w.heap.size w w' := by
  have MH := Lib.hid mh
  clear mh
  obtain ⟨w2, hw2⟩ : ∃ w2, (w.alloc (.cells #[.int .i64 kind, .int .i64 size, .int .i64 m, .int .i64 sum] 23)).alloc (.cells #[.int .i64 0, .int .i64 0, .int .i64 0, .int .u64 0, .int .u64 0] 38) = w2 := ⟨_, rfl⟩
  have h2 : TwoB w w2 [.int .i64 kind, .int .i64 size, .int .i64 m, .int .i64 sum] [.int .i64 0, .int .i64 0, .int .i64 0, .int .u64 0, .int .u64 0] 23 38 := by rw [← hw2]; exact twoB w _ _ _ _
  have HB2 := Lib.hid h2.below; have HV2 := Lib.hid h2.a; have HZ2 := Lib.hid h2.b
  have HW2 := Lib.hid hw2
  clear hw2 h2
  have hbase := Nat.le_refl w.heap.size
  go_enter Try.func26, Try.ntmps26
  go_upto_region 1 with fail
  rw [HW2.out]
  have qb0_0 : w2.cell? ⟨w.heap.size, 0, none⟩ = some (.int .i64 kind) := HV2.out.cell 0
  have qb1_0 : w2.cell? ⟨w.heap.size, 1, none⟩ = some (.int .i64 size) := HV2.out.cell 1
  have qb2_0 : w2.cell? ⟨w.heap.size, 2, none⟩ = some (.int .i64 m) := HV2.out.cell 2
  have qb3_0 : w2.cell? ⟨w.heap.size, 3, none⟩ = some (.int .i64 sum) := HV2.out.cell 3
  have lb_0 : w.heap.size < w2.heap.size := HV2.out.lt
  have hcz1 := MH.out w2
  go_wp2_with fail
  refine hcz1.mono ?_
  rintro e wz1 ⟨rfl, kz1⟩
  clear hcz1 qb0_0 qb1_0 qb2_0 qb3_0 lb_0
  have HBz1 := Lib.hid (HB2.out.trans (kz1.mono (Nat.le_trans hbase HB2.out.size)))
  have Hbz1 := Lib.hid (HV2.out.call kz1)
  have Hzz1 := Lib.hid (HZ2.out.call kz1)
  clear kz1
  obtain ⟨wz2, hwz2⟩ : ∃ wz2, wz1.alloc (.cells #[.int .i64 cen, .int .i64 A, .int .i64 dev, .int .u64 (h : Nat), .int .u64 (l : Nat)] 38) = wz2 := ⟨_, rfl⟩
  have kz2 : Below wz1.heap.size wz1 wz2 := by rw [← hwz2]; exact (Below.refl _ _).alloc (Nat.le_refl _) _
  have Htz2 := Lib.hid (show Has wz2 wz1.heap.size [.int .i64 cen, .int .i64 A, .int .i64 dev, .int .u64 (h : Nat), .int .u64 (l : Nat)] 38 by rw [← hwz2]; exact Has.new _ _ _)
  have HWz2 := Lib.hid hwz2
  clear hwz2
  have HBz2 := Lib.hid (HBz1.out.trans (kz2.mono (Nat.le_trans hbase HBz1.out.size)))
  have Hbz2 := Lib.hid (Hbz1.out.call kz2)
  have Hzz2 := Lib.hid (Hzz1.out.call kz2)
  clear kz2
  go_upto_region 2 with fail
  rw [HWz2.out]
  have qb0_2 : wz2.cell? ⟨w.heap.size, 0, none⟩ = some (.int .i64 kind) := Hbz2.out.cell 0
  have qb1_2 : wz2.cell? ⟨w.heap.size, 1, none⟩ = some (.int .i64 size) := Hbz2.out.cell 1
  have qb2_2 : wz2.cell? ⟨w.heap.size, 2, none⟩ = some (.int .i64 m) := Hbz2.out.cell 2
  have qb3_2 : wz2.cell? ⟨w.heap.size, 3, none⟩ = some (.int .i64 sum) := Hbz2.out.cell 3
  have lb_2 : w.heap.size < wz2.heap.size := Hbz2.out.lt
  have qt0_2 : wz2.cell? ⟨wz1.heap.size, 0, none⟩ = some (.int .i64 cen) := Htz2.out.cell 0
  have qt1_2 : wz2.cell? ⟨wz1.heap.size, 1, none⟩ = some (.int .i64 A) := Htz2.out.cell 1
  have qt2_2 : wz2.cell? ⟨wz1.heap.size, 2, none⟩ = some (.int .i64 dev) := Htz2.out.cell 2
  have qt3_2 : wz2.cell? ⟨wz1.heap.size, 3, none⟩ = some (.int .u64 (h : Nat)) := Htz2.out.cell 3
  have qt4_2 : wz2.cell? ⟨wz1.heap.size, 4, none⟩ = some (.int .u64 (l : Nat)) := Htz2.out.cell 4
  have lt_2 : wz1.heap.size < wz2.heap.size := Htz2.out.lt
  have qz0_2 : wz2.cell? ⟨w.heap.size + 1, 0, none⟩ = some (.int .i64 0) := Hzz2.out.cell 0
  have qz1_2 : wz2.cell? ⟨w.heap.size + 1, 1, none⟩ = some (.int .i64 0) := Hzz2.out.cell 1
  have qz2_2 : wz2.cell? ⟨w.heap.size + 1, 2, none⟩ = some (.int .i64 0) := Hzz2.out.cell 2
  have qz3_2 : wz2.cell? ⟨w.heap.size + 1, 3, none⟩ = some (.int .u64 0) := Hzz2.out.cell 3
  have qz4_2 : wz2.cell? ⟨w.heap.size + 1, 4, none⟩ = some (.int .u64 0) := Hzz2.out.cell 4
  have lz_2 : w.heap.size + 1 < wz2.heap.size := Hzz2.out.lt
  have zt0_2 : wz2.frozen? ⟨wz1.heap.size, 0, none⟩ = false := Htz2.out.frozen 0
  have zt1_2 : wz2.frozen? ⟨wz1.heap.size, 1, none⟩ = false := Htz2.out.frozen 1
  have zt2_2 : wz2.frozen? ⟨wz1.heap.size, 2, none⟩ = false := Htz2.out.frozen 2
  have zt3_2 : wz2.frozen? ⟨wz1.heap.size, 3, none⟩ = false := Htz2.out.frozen 3
  have zt4_2 : wz2.frozen? ⟨wz1.heap.size, 4, none⟩ = false := Htz2.out.frozen 4
  have zz0_2 : wz2.frozen? ⟨w.heap.size + 1, 0, none⟩ = false := Hzz2.out.frozen 0
  have zz1_2 : wz2.frozen? ⟨w.heap.size + 1, 1, none⟩ = false := Hzz2.out.frozen 1
  have zz2_2 : wz2.frozen? ⟨w.heap.size + 1, 2, none⟩ = false := Hzz2.out.frozen 2
  have zz3_2 : wz2.frozen? ⟨w.heap.size + 1, 3, none⟩ = false := Hzz2.out.frozen 3
  have zz4_2 : wz2.frozen? ⟨w.heap.size + 1, 4, none⟩ = false := Hzz2.out.frozen 4
  have hle : w.heap.size + 1 < wz1.heap.size := Hzz1.out.lt
  have HP := Lib.hid ((Hzz2.out.other (p := ⟨wz1.heap.size, 1, none⟩) (by dsimp only; omega) (.int .i64 den)).put5B (.int .i64 cen) (.int .i64 den) (.int .i64 dev) (.int .u64 (h : Nat)) (.int .u64 (l : Nat)))
  have HQ := Lib.hid (Below.put5B (HBz2.out.setCell (p := ⟨wz1.heap.size, 1, none⟩) (by first | exact Nat.le_refl _ | (dsimp only; omega)) (.int .i64 den)) (b := w.heap.size + 1) (by omega) (.int .i64 cen) (.int .i64 den) (.int .i64 dev) (.int .u64 (h : Nat)) (.int .u64 (l : Nat)))
  go_wp2_with fail
  (try simp only [Exit.inBlock, Exit.then])
  exact bodyPost_ret (resCellB rfl rfl (loadPnt HP.out)) rfl ⟨rfl, HQ.out⟩
set_option linter.unusedSimpArgs false in
set_option linter.unusedVariables false in
set_option maxHeartbeats 8000000 in
set_option maxRecDepth 100000 in
theorem often_core (kind size m sum d A P dev : Int) (X Y h l : Nat) (w : World) (mm : (∀ W, Calls Try.prog 29 #[.int .u64 (X : Nat), .int .u64 (Y : Nat)] W fun e w' => e = .returned (.agg #[.int .u64 (h : Nat), .int .u64 (l : Nat)]) ∧ Below W.heap.size W w')) (mu : (∀ W, Calls Try.prog 34 #[.agg #[.int .i64 kind, .int .i64 size, .int .i64 m, .int .i64 sum]] W fun e w' => e = .returned (.int .i64 A) ∧ Below W.heap.size W w')) (e3 : IntKind.i64.wrap (d * m) = P) (e4 : IntKind.i64.wrap (P - sum) = dev) (e7 : IntKind.u64.wrap sum = (X : Nat)) (e8 : IntKind.u64.wrap m = (Y : Nat)) :
    Calls Try.prog 28 #[.agg #[.int .i64 kind, .int .i64 size, .int .i64 m, .int .i64 sum], .int .i64 d] w fun e w' => e = .returned (.agg #[.int .i64 sum, .int .i64 A, .int .i64 dev, .int .u64 (h : Nat), .int .u64 (l : Nat)]) ∧ Below w.heap.size w w' := by
  have MM := Lib.hid mm; have MU := Lib.hid mu
  clear mm mu
  obtain ⟨w2, hw2⟩ : ∃ w2, (w.alloc (.cells #[.int .i64 kind, .int .i64 size, .int .i64 m, .int .i64 sum] 23)).alloc (.cells #[.int .i64 0, .int .i64 0, .int .i64 0, .int .u64 0, .int .u64 0] 38) = w2 := ⟨_, rfl⟩
  have h2 : TwoB w w2 [.int .i64 kind, .int .i64 size, .int .i64 m, .int .i64 sum] [.int .i64 0, .int .i64 0, .int .i64 0, .int .u64 0, .int .u64 0] 23 38 := by rw [← hw2]; exact twoB w _ _ _ _
  have HB2 := Lib.hid h2.below; have HV2 := Lib.hid h2.a; have HZ2 := Lib.hid h2.b
  have HW2 := Lib.hid hw2
  clear hw2 h2
  have hbase := Nat.le_refl w.heap.size
  go_enter Try.func28, Try.ntmps28
  go_upto_region 1 with fail
  rw [HW2.out]
  refine wp_region_held_drew (S := (fun W' => W'.cell? ⟨w.heap.size, 0, none⟩ = some (.int .i64 kind) ∧ W'.cell? ⟨w.heap.size, 1, none⟩ = some (.int .i64 size) ∧ W'.cell? ⟨w.heap.size, 2, none⟩ = some (.int .i64 m) ∧ W'.cell? ⟨w.heap.size, 3, none⟩ = some (.int .i64 sum))) (by kernel_rfl) ⟨HV2.out.cell 0, HV2.out.cell 1, HV2.out.cell 2, HV2.out.cell 3⟩ (fun hHeld => ?_)
  refine regTake 0 (some 5) (v := ?_) rfl rfl (by kernel_rfl) (by kernel_rfl) (by kernel_rfl) (fun _ _ _ h => h) (by rfl) hHeld ?_ ?_
  rotate_left 1
  · (intro w hSw; (try dsimp only at hSw); go_simp; try with_reducible rfl)
  simp only [Act.put, List.setIfInBounds_toArray, List.set_cons_zero, List.set_cons_succ]
  refine regTake 1 (some 6) (v := ?_) rfl rfl (by kernel_rfl) (by kernel_rfl) (by kernel_rfl) (fun _ _ _ h => h) (by rfl) hHeld ?_ ?_
  rotate_left 1
  · (intro w hSw; (try dsimp only at hSw); go_simp; try with_reducible rfl)
  simp only [Act.put, List.setIfInBounds_toArray, List.set_cons_zero, List.set_cons_succ]
  refine regTake 2 (some 7) (v := ?_) rfl rfl (by kernel_rfl) (by kernel_rfl) (by kernel_rfl) (fun _ _ _ h => h) (by rfl) hHeld ?_ ?_
  rotate_left 1
  · (intro w hSw; (try dsimp only at hSw); go_simp; try with_reducible rfl)
  simp only [Act.put, List.setIfInBounds_toArray, List.set_cons_zero, List.set_cons_succ]
  refine regTake 4 (some 9) (v := ?_) rfl rfl (by kernel_rfl) (by kernel_rfl) (by kernel_rfl) (fun _ _ _ h => h) (by rfl) hHeld ?_ ?_
  rotate_left 1
  · (intro w hSw; (try dsimp only at hSw); go_simp; try with_reducible rfl)
  simp only [Act.put, List.setIfInBounds_toArray, List.set_cons_zero, List.set_cons_succ]
  refine regTake 5 (some 10) (v := ?_) rfl rfl (by kernel_rfl) (by kernel_rfl) (by kernel_rfl) (fun _ _ _ h => h) (by rfl) hHeld ?_ ?_
  rotate_left 1
  · (intro w hSw; (try dsimp only at hSw); go_simp; try with_reducible rfl)
  simp only [Act.put, List.setIfInBounds_toArray, List.set_cons_zero, List.set_cons_succ]
  refine regTake 6 (some 11) (v := ?_) rfl rfl (by kernel_rfl) (by kernel_rfl) (by kernel_rfl) (fun _ _ _ h => h) (by rfl) hHeld ?_ ?_
  rotate_left 1
  · (intro w hSw; (try dsimp only at hSw); go_simp; try with_reducible rfl)
  simp only [Act.put, List.setIfInBounds_toArray, List.set_cons_zero, List.set_cons_succ]
  refine regTake 7 (some 12) (v := ?_) rfl rfl (by kernel_rfl) (by kernel_rfl) (by kernel_rfl) (fun _ _ _ h => h) (by rfl) hHeld ?_ ?_
  rotate_left 1
  · (intro w hSw; (try dsimp only at hSw); go_simp; try with_reducible rfl)
  simp only [Act.put, List.setIfInBounds_toArray, List.set_cons_zero, List.set_cons_succ]
  refine regTake 8 (some 13) (v := ?_) rfl rfl (by kernel_rfl) (by kernel_rfl) (by kernel_rfl) (fun _ _ _ h => h) (by rfl) hHeld ?_ ?_
  rotate_left 1
  · (intro w hSw; (try dsimp only at hSw); go_simp; try with_reducible rfl)
  simp only [Act.put, List.setIfInBounds_toArray, List.set_cons_zero, List.set_cons_succ]
  refine regTake 9 (some 14) (v := ?_) rfl rfl (by kernel_rfl) (by kernel_rfl) (by kernel_rfl) (fun _ _ _ h => h) (by rfl) hHeld ?_ ?_
  rotate_left 1
  · (intro w hSw; (try dsimp only at hSw); go_simp; try with_reducible rfl)
  simp only [Act.put, List.setIfInBounds_toArray, List.set_cons_zero, List.set_cons_succ]
  refine regTake 10 (some 15) (v := ?_) rfl rfl (by kernel_rfl) (by kernel_rfl) (by kernel_rfl) (fun _ _ _ h => h) (by rfl) hHeld ?_ ?_
  rotate_left 1
  · (intro w hSw; (try dsimp only at hSw); go_simp; try with_reducible rfl)
  simp only [Act.put, List.setIfInBounds_toArray, List.set_cons_zero, List.set_cons_succ]
  refine regTake 11 (some 16) (v := ?_) rfl rfl (by kernel_rfl) (by kernel_rfl) (by kernel_rfl) (fun _ _ _ h => h) (by rfl) hHeld ?_ ?_
  rotate_left 1
  · (intro w hSw; (try dsimp only at hSw); go_simp; try with_reducible rfl)
  simp only [Act.put, List.setIfInBounds_toArray, List.set_cons_zero, List.set_cons_succ]
  refine regTake 12 (some 17) (v := ?_) rfl rfl (by kernel_rfl) (by kernel_rfl) (by kernel_rfl) (fun _ _ _ h => h) (by rfl) hHeld ?_ ?_
  rotate_left 1
  · (intro w hSw; (try dsimp only at hSw); go_simp; try with_reducible rfl)
  simp only [Act.put, List.setIfInBounds_toArray, List.set_cons_zero, List.set_cons_succ]
  refine regTake 13 (some 18) (v := ?_) rfl rfl (by kernel_rfl) (by kernel_rfl) (by kernel_rfl) (fun _ _ _ h => h) (by rfl) hHeld ?_ ?_
  rotate_left 1
  · (intro w hSw; (try dsimp only at hSw); go_simp; try with_reducible rfl)
  simp only [Act.put, List.setIfInBounds_toArray, List.set_cons_zero, List.set_cons_succ]
  refine regTake 14 (some 19) (v := ?_) rfl rfl (by kernel_rfl) (by kernel_rfl) (by kernel_rfl) (fun _ _ _ h => h) (by rfl) hHeld ?_ ?_
  rotate_left 1
  · (intro w hSw; (try dsimp only at hSw); go_simp; try with_reducible rfl)
  simp only [Act.put, List.setIfInBounds_toArray, List.set_cons_zero, List.set_cons_succ]
  refine regTake 15 (some 20) (v := ?_) rfl rfl (by kernel_rfl) (by kernel_rfl) (by kernel_rfl) (fun _ _ _ h => h) (by rfl) hHeld ?_ ?_
  rotate_left 1
  · (intro w hSw; (try dsimp only at hSw); go_simp; try with_reducible rfl)
  simp only [Act.put, List.setIfInBounds_toArray, List.set_cons_zero, List.set_cons_succ]
  refine regTake 16 (some 21) (v := ?_) rfl rfl (by kernel_rfl) (by kernel_rfl) (by kernel_rfl) (fun _ _ _ h => h) (by rfl) hHeld ?_ ?_
  rotate_left 1
  · (intro w hSw; (try dsimp only at hSw); go_simp; try with_reducible rfl)
  simp only [Act.put, List.setIfInBounds_toArray, List.set_cons_zero, List.set_cons_succ]
  refine regCall 3 (some 8) (f := 34) (args := ?_) rfl rfl (by kernel_rfl) (by rfl) ?_ ?_
  rotate_left 1
  · (go_simp; try with_reducible rfl)
  refine (MU.out _).mono ?_
  rintro e wx3 ⟨rfl, kg1⟩
  refine ⟨_, rfl, ⟨(HV2.out.step kg1 rfl).cell 0, (HV2.out.step kg1 rfl).cell 1, (HV2.out.step kg1 rfl).cell 2, (HV2.out.step kg1 rfl).cell 3⟩, fun hHeld => ?_⟩
  simp only [Act.put, List.setIfInBounds_toArray, List.set_cons_zero, List.set_cons_succ]
  have HBg1 := Lib.hid ((HB2.out.drew).trans (kg1.mono (Nat.le_trans hbase (HB2.out.drew).size)))
  have Hbg1 := Lib.hid (HV2.out.step kg1 rfl)
  have Hzg1 := Lib.hid (HZ2.out.step kg1 rfl)
  clear kg1
  refine regCall 17 (some 22) (f := 29) (args := ?_) rfl rfl (by kernel_rfl) (by rfl) ?_ ?_
  rotate_left 1
  · (go_simp; try with_reducible rfl)
  refine (MM.out _).mono ?_
  rintro e wx17 ⟨rfl, kg2⟩
  refine ⟨_, rfl, ⟨(Hbg1.out.step kg2 rfl).cell 0, (Hbg1.out.step kg2 rfl).cell 1, (Hbg1.out.step kg2 rfl).cell 2, (Hbg1.out.step kg2 rfl).cell 3⟩, fun hHeld => ?_⟩
  simp only [Act.put, List.setIfInBounds_toArray, List.set_cons_zero, List.set_cons_succ]
  have HBg2 := Lib.hid ((HBg1.out).trans (kg2.mono (Nat.le_trans hbase (HBg1.out).size)))
  have Hbg2 := Lib.hid (Hbg1.out.step kg2 rfl)
  have Hzg2 := Lib.hid (Hzg1.out.step kg2 rfl)
  clear kg2
  refine regTake 18 (some 23) (v := ?_) rfl rfl (by kernel_rfl) (by kernel_rfl) (by kernel_rfl) (fun _ _ _ h => h) (by rfl) hHeld ?_ ?_
  rotate_left 1
  · (intro w hSw; (try dsimp only at hSw); go_simp; try with_reducible rfl)
  simp only [Act.put, List.setIfInBounds_toArray, List.set_cons_zero, List.set_cons_succ]
  have xs0 := Hzg2.out.cell 0; have xf0 := Hzg2.out.frozen 0
  have xs1 := Hzg2.out.cell 1; have xf1 := Hzg2.out.frozen 1
  have xs2 := Hzg2.out.cell 2; have xf2 := Hzg2.out.frozen 2
  have xs3 := Hzg2.out.cell 3; have xf3 := Hzg2.out.frozen 3
  have xs4 := Hzg2.out.cell 4; have xf4 := Hzg2.out.frozen 4
  simp only [List.getElem?_cons_zero, List.getElem?_cons_succ] at xs0 xs1 xs2 xs3 xs4
  have xsl := Hzg2.out.lt
  refine regStore 19 (w' := ?_) rfl rfl (by kernel_rfl) (by rfl) ?_ ?_ (fun hHeld => ?_)
  rotate_left 1
  · (go_simp; try with_reducible rfl)
  · exact ⟨(((((Hbg2.out.other (p := ⟨w.heap.size + 1, 0, none⟩) (by dsimp only; omega) (.int .i64 sum)).other (p := ⟨w.heap.size + 1, 1, none⟩) (by dsimp only; omega) (.int .i64 A)).other (p := ⟨w.heap.size + 1, 2, none⟩) (by dsimp only; omega) (.int .i64 dev)).other (p := ⟨w.heap.size + 1, 3, none⟩) (by dsimp only; omega) (.int .u64 (h : Nat))).other (p := ⟨w.heap.size + 1, 4, none⟩) (by dsimp only; omega) (.int .u64 (l : Nat))).cell 0, (((((Hbg2.out.other (p := ⟨w.heap.size + 1, 0, none⟩) (by dsimp only; omega) (.int .i64 sum)).other (p := ⟨w.heap.size + 1, 1, none⟩) (by dsimp only; omega) (.int .i64 A)).other (p := ⟨w.heap.size + 1, 2, none⟩) (by dsimp only; omega) (.int .i64 dev)).other (p := ⟨w.heap.size + 1, 3, none⟩) (by dsimp only; omega) (.int .u64 (h : Nat))).other (p := ⟨w.heap.size + 1, 4, none⟩) (by dsimp only; omega) (.int .u64 (l : Nat))).cell 1, (((((Hbg2.out.other (p := ⟨w.heap.size + 1, 0, none⟩) (by dsimp only; omega) (.int .i64 sum)).other (p := ⟨w.heap.size + 1, 1, none⟩) (by dsimp only; omega) (.int .i64 A)).other (p := ⟨w.heap.size + 1, 2, none⟩) (by dsimp only; omega) (.int .i64 dev)).other (p := ⟨w.heap.size + 1, 3, none⟩) (by dsimp only; omega) (.int .u64 (h : Nat))).other (p := ⟨w.heap.size + 1, 4, none⟩) (by dsimp only; omega) (.int .u64 (l : Nat))).cell 2, (((((Hbg2.out.other (p := ⟨w.heap.size + 1, 0, none⟩) (by dsimp only; omega) (.int .i64 sum)).other (p := ⟨w.heap.size + 1, 1, none⟩) (by dsimp only; omega) (.int .i64 A)).other (p := ⟨w.heap.size + 1, 2, none⟩) (by dsimp only; omega) (.int .i64 dev)).other (p := ⟨w.heap.size + 1, 3, none⟩) (by dsimp only; omega) (.int .u64 (h : Nat))).other (p := ⟨w.heap.size + 1, 4, none⟩) (by dsimp only; omega) (.int .u64 (l : Nat))).cell 3⟩
  have HBg3 := Lib.hid ((((((HBg2.out.setCell (p := ⟨w.heap.size + 1, 0, none⟩) (by first | exact Nat.le_refl _ | (dsimp only; omega)) (.int .i64 sum)).setCell (p := ⟨w.heap.size + 1, 1, none⟩) (by first | exact Nat.le_refl _ | (dsimp only; omega)) (.int .i64 A)).setCell (p := ⟨w.heap.size + 1, 2, none⟩) (by first | exact Nat.le_refl _ | (dsimp only; omega)) (.int .i64 dev)).setCell (p := ⟨w.heap.size + 1, 3, none⟩) (by first | exact Nat.le_refl _ | (dsimp only; omega)) (.int .u64 (h : Nat))).setCell (p := ⟨w.heap.size + 1, 4, none⟩) (by first | exact Nat.le_refl _ | (dsimp only; omega)) (.int .u64 (l : Nat))))
  have Hbg3 := Lib.hid (((((Hbg2.out.other (p := ⟨w.heap.size + 1, 0, none⟩) (by dsimp only; omega) (.int .i64 sum)).other (p := ⟨w.heap.size + 1, 1, none⟩) (by dsimp only; omega) (.int .i64 A)).other (p := ⟨w.heap.size + 1, 2, none⟩) (by dsimp only; omega) (.int .i64 dev)).other (p := ⟨w.heap.size + 1, 3, none⟩) (by dsimp only; omega) (.int .u64 (h : Nat))).other (p := ⟨w.heap.size + 1, 4, none⟩) (by dsimp only; omega) (.int .u64 (l : Nat)))
  have Hzg3 := Lib.hid (((((Hzg2.out.set 0 (.int .i64 sum)).set 1 (.int .i64 A)).set 2 (.int .i64 dev)).set 3 (.int .u64 (h : Nat))).set 4 (.int .u64 (l : Nat)))
  clear xs0 xf0 xs1 xf1 xs2 xf2 xs3 xf3 xs4 xf4 xsl
  refine wpAnyH_done (by kernel_rfl) ?_ _
  clear hHeld
  go_wp2_with fail
  (try simp only [Exit.inBlock, Exit.then])
  exact bodyPost_ret (resCellB rfl rfl (loadPnt Hzg3.out)) rfl ⟨rfl, HBg3.out⟩
set_option linter.unusedSimpArgs false in
set_option linter.unusedVariables false in
set_option maxHeartbeats 8000000 in
set_option maxRecDepth 100000 in
theorem tpoint_0 (kind size m sum d : Int) (w : World) (mr : (∀ W, Calls Try.prog 9 #[.agg #[.int .i64 kind, .int .i64 size, .int .i64 m, .int .i64 sum]] W fun e w' => e = .returned (.bool false) ∧ Below W.heap.size W w'))  :
    Calls Try.prog 15 #[.agg #[.int .i64 kind, .int .i64 size, .int .i64 m, .int .i64 sum], .int .i64 d] w fun e w' => e = .returned (.tuple #[.agg #[.int .i64 0, .int .i64 0, .int .i64 0, .int .u64 0, .int .u64 0], .int .i64 1]) ∧ Below w.heap.size w w' := by
  have MR := Lib.hid mr
  clear mr
  obtain ⟨w2, hw2⟩ : ∃ w2, (w.alloc (.cells #[.int .i64 kind, .int .i64 size, .int .i64 m, .int .i64 sum] 23)).alloc (.cells #[.int .i64 0, .int .i64 0, .int .i64 0, .int .u64 0, .int .u64 0] 38) = w2 := ⟨_, rfl⟩
  have h2 : TwoB w w2 [.int .i64 kind, .int .i64 size, .int .i64 m, .int .i64 sum] [.int .i64 0, .int .i64 0, .int .i64 0, .int .u64 0, .int .u64 0] 23 38 := by rw [← hw2]; exact twoB w _ _ _ _
  have HB2 := Lib.hid h2.below; have HV2 := Lib.hid h2.a; have HZ2 := Lib.hid h2.b
  have HW2 := Lib.hid hw2
  clear hw2 h2
  have hbase := Nat.le_refl w.heap.size
  go_enter Try.func15, Try.ntmps15
  go_upto_region 1 with fail
  rw [HW2.out]
  have qb0_0 : w2.cell? ⟨w.heap.size, 0, none⟩ = some (.int .i64 kind) := HV2.out.cell 0
  have qb1_0 : w2.cell? ⟨w.heap.size, 1, none⟩ = some (.int .i64 size) := HV2.out.cell 1
  have qb2_0 : w2.cell? ⟨w.heap.size, 2, none⟩ = some (.int .i64 m) := HV2.out.cell 2
  have qb3_0 : w2.cell? ⟨w.heap.size, 3, none⟩ = some (.int .i64 sum) := HV2.out.cell 3
  have lb_0 : w.heap.size < w2.heap.size := HV2.out.lt
  have hcz1 := MR.out w2
  go_wp2_with fail
  refine hcz1.mono ?_
  rintro e wz1 ⟨rfl, kz1⟩
  clear hcz1 qb0_0 qb1_0 qb2_0 qb3_0 lb_0
  have HBz1 := Lib.hid (HB2.out.trans (kz1.mono (Nat.le_trans hbase HB2.out.size)))
  have Hbz1 := Lib.hid (HV2.out.call kz1)
  have Hzz1 := Lib.hid (HZ2.out.call kz1)
  clear kz1
  have qb0_1 : wz1.cell? ⟨w.heap.size, 0, none⟩ = some (.int .i64 kind) := Hbz1.out.cell 0
  have qb1_1 : wz1.cell? ⟨w.heap.size, 1, none⟩ = some (.int .i64 size) := Hbz1.out.cell 1
  have qb2_1 : wz1.cell? ⟨w.heap.size, 2, none⟩ = some (.int .i64 m) := Hbz1.out.cell 2
  have qb3_1 : wz1.cell? ⟨w.heap.size, 3, none⟩ = some (.int .i64 sum) := Hbz1.out.cell 3
  have lb_1 : w.heap.size < wz1.heap.size := Hbz1.out.lt
  have qz0_1 : wz1.cell? ⟨w.heap.size + 1, 0, none⟩ = some (.int .i64 0) := Hzz1.out.cell 0
  have qz1_1 : wz1.cell? ⟨w.heap.size + 1, 1, none⟩ = some (.int .i64 0) := Hzz1.out.cell 1
  have qz2_1 : wz1.cell? ⟨w.heap.size + 1, 2, none⟩ = some (.int .i64 0) := Hzz1.out.cell 2
  have qz3_1 : wz1.cell? ⟨w.heap.size + 1, 3, none⟩ = some (.int .u64 0) := Hzz1.out.cell 3
  have qz4_1 : wz1.cell? ⟨w.heap.size + 1, 4, none⟩ = some (.int .u64 0) := Hzz1.out.cell 4
  have lz_1 : w.heap.size + 1 < wz1.heap.size := Hzz1.out.lt
  have zz0_1 : wz1.frozen? ⟨w.heap.size + 1, 0, none⟩ = false := Hzz1.out.frozen 0
  have zz1_1 : wz1.frozen? ⟨w.heap.size + 1, 1, none⟩ = false := Hzz1.out.frozen 1
  have zz2_1 : wz1.frozen? ⟨w.heap.size + 1, 2, none⟩ = false := Hzz1.out.frozen 2
  have zz3_1 : wz1.frozen? ⟨w.heap.size + 1, 3, none⟩ = false := Hzz1.out.frozen 3
  have zz4_1 : wz1.frozen? ⟨w.heap.size + 1, 4, none⟩ = false := Hzz1.out.frozen 4
  have HP := Lib.hid (Hzz1.out.put5B (.int .i64 0) (.int .i64 0) (.int .i64 0) (.int .u64 0) (.int .u64 0))
  have HQ := Lib.hid (Below.put5B HBz1.out (b := w.heap.size + 1) (by omega) (.int .i64 0) (.int .i64 0) (.int .i64 0) (.int .u64 0) (.int .u64 0))
  go_wp2_with fail
  (try simp only [Exit.inBlock, Exit.then])
  exact bodyPost_ret (results_cell_tmp rfl rfl (loadPnt HP.out)) rfl ⟨rfl, HQ.out⟩
set_option linter.unusedSimpArgs false in
set_option linter.unusedVariables false in
set_option maxHeartbeats 8000000 in
set_option maxRecDepth 100000 in
theorem tpoint_1 (kind size m sum d : Int) (w : World) (mr : (∀ W, Calls Try.prog 9 #[.agg #[.int .i64 kind, .int .i64 size, .int .i64 m, .int .i64 sum]] W fun e w' => e = .returned (.bool true) ∧ Below W.heap.size W w')) (mc : (∀ W, Calls Try.prog 19 #[.agg #[.int .i64 kind, .int .i64 size, .int .i64 m, .int .i64 sum], .int .i64 d] W fun e w' => e = .returned (.bool false) ∧ Below W.heap.size W w'))  :
    Calls Try.prog 15 #[.agg #[.int .i64 kind, .int .i64 size, .int .i64 m, .int .i64 sum], .int .i64 d] w fun e w' => e = .returned (.tuple #[.agg #[.int .i64 0, .int .i64 0, .int .i64 0, .int .u64 0, .int .u64 0], .int .i64 1]) ∧ Below w.heap.size w w' := by
  have MR := Lib.hid mr; have MC := Lib.hid mc
  clear mr mc
  obtain ⟨w2, hw2⟩ : ∃ w2, (w.alloc (.cells #[.int .i64 kind, .int .i64 size, .int .i64 m, .int .i64 sum] 23)).alloc (.cells #[.int .i64 0, .int .i64 0, .int .i64 0, .int .u64 0, .int .u64 0] 38) = w2 := ⟨_, rfl⟩
  have h2 : TwoB w w2 [.int .i64 kind, .int .i64 size, .int .i64 m, .int .i64 sum] [.int .i64 0, .int .i64 0, .int .i64 0, .int .u64 0, .int .u64 0] 23 38 := by rw [← hw2]; exact twoB w _ _ _ _
  have HB2 := Lib.hid h2.below; have HV2 := Lib.hid h2.a; have HZ2 := Lib.hid h2.b
  have HW2 := Lib.hid hw2
  clear hw2 h2
  have hbase := Nat.le_refl w.heap.size
  go_enter Try.func15, Try.ntmps15
  go_upto_region 1 with fail
  rw [HW2.out]
  have qb0_0 : w2.cell? ⟨w.heap.size, 0, none⟩ = some (.int .i64 kind) := HV2.out.cell 0
  have qb1_0 : w2.cell? ⟨w.heap.size, 1, none⟩ = some (.int .i64 size) := HV2.out.cell 1
  have qb2_0 : w2.cell? ⟨w.heap.size, 2, none⟩ = some (.int .i64 m) := HV2.out.cell 2
  have qb3_0 : w2.cell? ⟨w.heap.size, 3, none⟩ = some (.int .i64 sum) := HV2.out.cell 3
  have lb_0 : w.heap.size < w2.heap.size := HV2.out.lt
  have hcz1 := MR.out w2
  go_wp2_with fail
  refine hcz1.mono ?_
  rintro e wz1 ⟨rfl, kz1⟩
  clear hcz1 qb0_0 qb1_0 qb2_0 qb3_0 lb_0
  have HBz1 := Lib.hid (HB2.out.trans (kz1.mono (Nat.le_trans hbase HB2.out.size)))
  have Hbz1 := Lib.hid (HV2.out.call kz1)
  have Hzz1 := Lib.hid (HZ2.out.call kz1)
  clear kz1
  have qb0_1 : wz1.cell? ⟨w.heap.size, 0, none⟩ = some (.int .i64 kind) := Hbz1.out.cell 0
  have qb1_1 : wz1.cell? ⟨w.heap.size, 1, none⟩ = some (.int .i64 size) := Hbz1.out.cell 1
  have qb2_1 : wz1.cell? ⟨w.heap.size, 2, none⟩ = some (.int .i64 m) := Hbz1.out.cell 2
  have qb3_1 : wz1.cell? ⟨w.heap.size, 3, none⟩ = some (.int .i64 sum) := Hbz1.out.cell 3
  have lb_1 : w.heap.size < wz1.heap.size := Hbz1.out.lt
  have hcz2 := MC.out wz1
  go_wp2_with fail
  refine hcz2.mono ?_
  rintro e wz2 ⟨rfl, kz2⟩
  clear hcz2 qb0_1 qb1_1 qb2_1 qb3_1 lb_1
  have HBz2 := Lib.hid (HBz1.out.trans (kz2.mono (Nat.le_trans hbase HBz1.out.size)))
  have Hbz2 := Lib.hid (Hbz1.out.call kz2)
  have Hzz2 := Lib.hid (Hzz1.out.call kz2)
  clear kz2
  have qb0_2 : wz2.cell? ⟨w.heap.size, 0, none⟩ = some (.int .i64 kind) := Hbz2.out.cell 0
  have qb1_2 : wz2.cell? ⟨w.heap.size, 1, none⟩ = some (.int .i64 size) := Hbz2.out.cell 1
  have qb2_2 : wz2.cell? ⟨w.heap.size, 2, none⟩ = some (.int .i64 m) := Hbz2.out.cell 2
  have qb3_2 : wz2.cell? ⟨w.heap.size, 3, none⟩ = some (.int .i64 sum) := Hbz2.out.cell 3
  have lb_2 : w.heap.size < wz2.heap.size := Hbz2.out.lt
  have qz0_2 : wz2.cell? ⟨w.heap.size + 1, 0, none⟩ = some (.int .i64 0) := Hzz2.out.cell 0
  have qz1_2 : wz2.cell? ⟨w.heap.size + 1, 1, none⟩ = some (.int .i64 0) := Hzz2.out.cell 1
  have qz2_2 : wz2.cell? ⟨w.heap.size + 1, 2, none⟩ = some (.int .i64 0) := Hzz2.out.cell 2
  have qz3_2 : wz2.cell? ⟨w.heap.size + 1, 3, none⟩ = some (.int .u64 0) := Hzz2.out.cell 3
  have qz4_2 : wz2.cell? ⟨w.heap.size + 1, 4, none⟩ = some (.int .u64 0) := Hzz2.out.cell 4
  have lz_2 : w.heap.size + 1 < wz2.heap.size := Hzz2.out.lt
  have zz0_2 : wz2.frozen? ⟨w.heap.size + 1, 0, none⟩ = false := Hzz2.out.frozen 0
  have zz1_2 : wz2.frozen? ⟨w.heap.size + 1, 1, none⟩ = false := Hzz2.out.frozen 1
  have zz2_2 : wz2.frozen? ⟨w.heap.size + 1, 2, none⟩ = false := Hzz2.out.frozen 2
  have zz3_2 : wz2.frozen? ⟨w.heap.size + 1, 3, none⟩ = false := Hzz2.out.frozen 3
  have zz4_2 : wz2.frozen? ⟨w.heap.size + 1, 4, none⟩ = false := Hzz2.out.frozen 4
  have HP := Lib.hid (Hzz2.out.put5B (.int .i64 0) (.int .i64 0) (.int .i64 0) (.int .u64 0) (.int .u64 0))
  have HQ := Lib.hid (Below.put5B HBz2.out (b := w.heap.size + 1) (by omega) (.int .i64 0) (.int .i64 0) (.int .i64 0) (.int .u64 0) (.int .u64 0))
  go_wp2_with fail
  (try simp only [Exit.inBlock, Exit.then])
  exact bodyPost_ret (results_cell_tmp rfl rfl (loadPnt HP.out)) rfl ⟨rfl, HQ.out⟩
set_option linter.unusedSimpArgs false in
set_option linter.unusedVariables false in
set_option maxHeartbeats 8000000 in
set_option maxRecDepth 100000 in
theorem tpoint_2 (kind size m sum d : Int) (w : World) (mr : (∀ W, Calls Try.prog 9 #[.agg #[.int .i64 kind, .int .i64 size, .int .i64 m, .int .i64 sum]] W fun e w' => e = .returned (.bool true) ∧ Below W.heap.size W w')) (mc : (∀ W, Calls Try.prog 19 #[.agg #[.int .i64 kind, .int .i64 size, .int .i64 m, .int .i64 sum], .int .i64 d] W fun e w' => e = .returned (.bool true) ∧ Below W.heap.size W w')) (g : (m == 0) = true) :
    Calls Try.prog 15 #[.agg #[.int .i64 kind, .int .i64 size, .int .i64 m, .int .i64 sum], .int .i64 d] w fun e w' => e = .returned (.tuple #[.agg #[.int .i64 0, .int .i64 0, .int .i64 0, .int .u64 0, .int .u64 0], .int .i64 12]) ∧ Below w.heap.size w w' := by
  have MR := Lib.hid mr; have MC := Lib.hid mc
  clear mr mc
  obtain ⟨w2, hw2⟩ : ∃ w2, (w.alloc (.cells #[.int .i64 kind, .int .i64 size, .int .i64 m, .int .i64 sum] 23)).alloc (.cells #[.int .i64 0, .int .i64 0, .int .i64 0, .int .u64 0, .int .u64 0] 38) = w2 := ⟨_, rfl⟩
  have h2 : TwoB w w2 [.int .i64 kind, .int .i64 size, .int .i64 m, .int .i64 sum] [.int .i64 0, .int .i64 0, .int .i64 0, .int .u64 0, .int .u64 0] 23 38 := by rw [← hw2]; exact twoB w _ _ _ _
  have HB2 := Lib.hid h2.below; have HV2 := Lib.hid h2.a; have HZ2 := Lib.hid h2.b
  have HW2 := Lib.hid hw2
  clear hw2 h2
  have hbase := Nat.le_refl w.heap.size
  go_enter Try.func15, Try.ntmps15
  go_upto_region 1 with fail
  rw [HW2.out]
  have qb0_0 : w2.cell? ⟨w.heap.size, 0, none⟩ = some (.int .i64 kind) := HV2.out.cell 0
  have qb1_0 : w2.cell? ⟨w.heap.size, 1, none⟩ = some (.int .i64 size) := HV2.out.cell 1
  have qb2_0 : w2.cell? ⟨w.heap.size, 2, none⟩ = some (.int .i64 m) := HV2.out.cell 2
  have qb3_0 : w2.cell? ⟨w.heap.size, 3, none⟩ = some (.int .i64 sum) := HV2.out.cell 3
  have lb_0 : w.heap.size < w2.heap.size := HV2.out.lt
  have hcz1 := MR.out w2
  go_wp2_with fail
  refine hcz1.mono ?_
  rintro e wz1 ⟨rfl, kz1⟩
  clear hcz1 qb0_0 qb1_0 qb2_0 qb3_0 lb_0
  have HBz1 := Lib.hid (HB2.out.trans (kz1.mono (Nat.le_trans hbase HB2.out.size)))
  have Hbz1 := Lib.hid (HV2.out.call kz1)
  have Hzz1 := Lib.hid (HZ2.out.call kz1)
  clear kz1
  have qb0_1 : wz1.cell? ⟨w.heap.size, 0, none⟩ = some (.int .i64 kind) := Hbz1.out.cell 0
  have qb1_1 : wz1.cell? ⟨w.heap.size, 1, none⟩ = some (.int .i64 size) := Hbz1.out.cell 1
  have qb2_1 : wz1.cell? ⟨w.heap.size, 2, none⟩ = some (.int .i64 m) := Hbz1.out.cell 2
  have qb3_1 : wz1.cell? ⟨w.heap.size, 3, none⟩ = some (.int .i64 sum) := Hbz1.out.cell 3
  have lb_1 : w.heap.size < wz1.heap.size := Hbz1.out.lt
  have hcz2 := MC.out wz1
  go_wp2_with fail
  refine hcz2.mono ?_
  rintro e wz2 ⟨rfl, kz2⟩
  clear hcz2 qb0_1 qb1_1 qb2_1 qb3_1 lb_1
  have HBz2 := Lib.hid (HBz1.out.trans (kz2.mono (Nat.le_trans hbase HBz1.out.size)))
  have Hbz2 := Lib.hid (Hbz1.out.call kz2)
  have Hzz2 := Lib.hid (Hzz1.out.call kz2)
  clear kz2
  have qb0_2 : wz2.cell? ⟨w.heap.size, 0, none⟩ = some (.int .i64 kind) := Hbz2.out.cell 0
  have qb1_2 : wz2.cell? ⟨w.heap.size, 1, none⟩ = some (.int .i64 size) := Hbz2.out.cell 1
  have qb2_2 : wz2.cell? ⟨w.heap.size, 2, none⟩ = some (.int .i64 m) := Hbz2.out.cell 2
  have qb3_2 : wz2.cell? ⟨w.heap.size, 3, none⟩ = some (.int .i64 sum) := Hbz2.out.cell 3
  have lb_2 : w.heap.size < wz2.heap.size := Hbz2.out.lt
  have qz0_2 : wz2.cell? ⟨w.heap.size + 1, 0, none⟩ = some (.int .i64 0) := Hzz2.out.cell 0
  have qz1_2 : wz2.cell? ⟨w.heap.size + 1, 1, none⟩ = some (.int .i64 0) := Hzz2.out.cell 1
  have qz2_2 : wz2.cell? ⟨w.heap.size + 1, 2, none⟩ = some (.int .i64 0) := Hzz2.out.cell 2
  have qz3_2 : wz2.cell? ⟨w.heap.size + 1, 3, none⟩ = some (.int .u64 0) := Hzz2.out.cell 3
  have qz4_2 : wz2.cell? ⟨w.heap.size + 1, 4, none⟩ = some (.int .u64 0) := Hzz2.out.cell 4
  have lz_2 : w.heap.size + 1 < wz2.heap.size := Hzz2.out.lt
  have zz0_2 : wz2.frozen? ⟨w.heap.size + 1, 0, none⟩ = false := Hzz2.out.frozen 0
  have zz1_2 : wz2.frozen? ⟨w.heap.size + 1, 1, none⟩ = false := Hzz2.out.frozen 1
  have zz2_2 : wz2.frozen? ⟨w.heap.size + 1, 2, none⟩ = false := Hzz2.out.frozen 2
  have zz3_2 : wz2.frozen? ⟨w.heap.size + 1, 3, none⟩ = false := Hzz2.out.frozen 3
  have zz4_2 : wz2.frozen? ⟨w.heap.size + 1, 4, none⟩ = false := Hzz2.out.frozen 4
  have HP := Lib.hid (Hzz2.out.put5B (.int .i64 0) (.int .i64 0) (.int .i64 0) (.int .u64 0) (.int .u64 0))
  have HQ := Lib.hid (Below.put5B HBz2.out (b := w.heap.size + 1) (by omega) (.int .i64 0) (.int .i64 0) (.int .i64 0) (.int .u64 0) (.int .u64 0))
  go_wp2_with fail
  (try simp only [Exit.inBlock, Exit.then])
  exact bodyPost_ret (results_cell_tmp rfl rfl (loadPnt HP.out)) rfl ⟨rfl, HQ.out⟩
set_option linter.unusedSimpArgs false in
set_option linter.unusedVariables false in
set_option maxHeartbeats 8000000 in
set_option maxRecDepth 100000 in
theorem tpoint_3 (kind size m sum d cen den dev : Int) (h l : Nat) (w : World) (mr : (∀ W, Calls Try.prog 9 #[.agg #[.int .i64 kind, .int .i64 size, .int .i64 m, .int .i64 sum]] W fun e w' => e = .returned (.bool true) ∧ Below W.heap.size W w')) (mc : (∀ W, Calls Try.prog 19 #[.agg #[.int .i64 kind, .int .i64 size, .int .i64 m, .int .i64 sum], .int .i64 d] W fun e w' => e = .returned (.bool true) ∧ Below W.heap.size W w')) (md : (∀ W, Calls Try.prog 20 #[] W fun e w' => e = .returned (.map (some W.heap.size)) ∧ w'.heap[W.heap.size]? = some (.map dEs 4) ∧ Below W.heap.size W w')) (mf : (∀ W, Calls Try.prog 26 #[.agg #[.int .i64 kind, .int .i64 size, .int .i64 m, .int .i64 sum], .int .i64 d] W fun e w' => e = .returned (.agg #[.int .i64 cen, .int .i64 den, .int .i64 dev, .int .u64 (h : Nat), .int .u64 (l : Nat)]) ∧ Below W.heap.size W w')) (hk : (∀ (W : World) (b : Nat), W.heap[b]? = some (.map dEs 4) → (Instr.lookup 51 (.map (some b)) (.int .i64 kind) false).run Try.prog W = .ok (dFun 26) W)) (g : (m == 0) = false) :
    Calls Try.prog 15 #[.agg #[.int .i64 kind, .int .i64 size, .int .i64 m, .int .i64 sum], .int .i64 d] w fun e w' => e = .returned (.tuple #[.agg #[.int .i64 cen, .int .i64 den, .int .i64 dev, .int .u64 (h : Nat), .int .u64 (l : Nat)], .int .i64 0]) ∧ Below w.heap.size w w' := by
  have MR := Lib.hid mr; have MC := Lib.hid mc; have MD := Lib.hid md; have MF := Lib.hid mf; have HK := Lib.hid hk
  clear mr mc md mf hk
  obtain ⟨w2, hw2⟩ : ∃ w2, (w.alloc (.cells #[.int .i64 kind, .int .i64 size, .int .i64 m, .int .i64 sum] 23)).alloc (.cells #[.int .i64 0, .int .i64 0, .int .i64 0, .int .u64 0, .int .u64 0] 38) = w2 := ⟨_, rfl⟩
  have h2 : TwoB w w2 [.int .i64 kind, .int .i64 size, .int .i64 m, .int .i64 sum] [.int .i64 0, .int .i64 0, .int .i64 0, .int .u64 0, .int .u64 0] 23 38 := by rw [← hw2]; exact twoB w _ _ _ _
  have HB2 := Lib.hid h2.below; have HV2 := Lib.hid h2.a; have HZ2 := Lib.hid h2.b
  have HW2 := Lib.hid hw2
  clear hw2 h2
  have hbase := Nat.le_refl w.heap.size
  go_enter Try.func15, Try.ntmps15
  go_upto_region 1 with fail
  rw [HW2.out]
  have qb0_0 : w2.cell? ⟨w.heap.size, 0, none⟩ = some (.int .i64 kind) := HV2.out.cell 0
  have qb1_0 : w2.cell? ⟨w.heap.size, 1, none⟩ = some (.int .i64 size) := HV2.out.cell 1
  have qb2_0 : w2.cell? ⟨w.heap.size, 2, none⟩ = some (.int .i64 m) := HV2.out.cell 2
  have qb3_0 : w2.cell? ⟨w.heap.size, 3, none⟩ = some (.int .i64 sum) := HV2.out.cell 3
  have lb_0 : w.heap.size < w2.heap.size := HV2.out.lt
  have hcz1 := MR.out w2
  go_wp2_with fail
  refine hcz1.mono ?_
  rintro e wz1 ⟨rfl, kz1⟩
  clear hcz1 qb0_0 qb1_0 qb2_0 qb3_0 lb_0
  have HBz1 := Lib.hid (HB2.out.trans (kz1.mono (Nat.le_trans hbase HB2.out.size)))
  have Hbz1 := Lib.hid (HV2.out.call kz1)
  have Hzz1 := Lib.hid (HZ2.out.call kz1)
  clear kz1
  have qb0_1 : wz1.cell? ⟨w.heap.size, 0, none⟩ = some (.int .i64 kind) := Hbz1.out.cell 0
  have qb1_1 : wz1.cell? ⟨w.heap.size, 1, none⟩ = some (.int .i64 size) := Hbz1.out.cell 1
  have qb2_1 : wz1.cell? ⟨w.heap.size, 2, none⟩ = some (.int .i64 m) := Hbz1.out.cell 2
  have qb3_1 : wz1.cell? ⟨w.heap.size, 3, none⟩ = some (.int .i64 sum) := Hbz1.out.cell 3
  have lb_1 : w.heap.size < wz1.heap.size := Hbz1.out.lt
  have hcz2 := MC.out wz1
  go_wp2_with fail
  refine hcz2.mono ?_
  rintro e wz2 ⟨rfl, kz2⟩
  clear hcz2 qb0_1 qb1_1 qb2_1 qb3_1 lb_1
  have HBz2 := Lib.hid (HBz1.out.trans (kz2.mono (Nat.le_trans hbase HBz1.out.size)))
  have Hbz2 := Lib.hid (Hbz1.out.call kz2)
  have Hzz2 := Lib.hid (Hzz1.out.call kz2)
  clear kz2
  have qb0_2 : wz2.cell? ⟨w.heap.size, 0, none⟩ = some (.int .i64 kind) := Hbz2.out.cell 0
  have qb1_2 : wz2.cell? ⟨w.heap.size, 1, none⟩ = some (.int .i64 size) := Hbz2.out.cell 1
  have qb2_2 : wz2.cell? ⟨w.heap.size, 2, none⟩ = some (.int .i64 m) := Hbz2.out.cell 2
  have qb3_2 : wz2.cell? ⟨w.heap.size, 3, none⟩ = some (.int .i64 sum) := Hbz2.out.cell 3
  have lb_2 : w.heap.size < wz2.heap.size := Hbz2.out.lt
  go_upto_region 5 with fail
  clear qb0_2 qb1_2 qb2_2 qb3_2 lb_2
  refine wp_region_held_drew (S := (fun W' => W'.cell? ⟨w.heap.size, 0, none⟩ = some (.int .i64 kind) ∧ W'.cell? ⟨w.heap.size, 1, none⟩ = some (.int .i64 size) ∧ W'.cell? ⟨w.heap.size, 2, none⟩ = some (.int .i64 m) ∧ W'.cell? ⟨w.heap.size, 3, none⟩ = some (.int .i64 sum))) (by kernel_rfl) ⟨Hbz2.out.cell 0, Hbz2.out.cell 1, Hbz2.out.cell 2, Hbz2.out.cell 3⟩ (fun hHeld => ?_)
  refine regTake 1 (some 21) (v := ?_) rfl rfl (by kernel_rfl) (by kernel_rfl) (by kernel_rfl) (fun _ _ _ h => h) (by rfl) hHeld ?_ ?_
  rotate_left 1
  · (intro w hSw; (try dsimp only at hSw); go_simp; try with_reducible rfl)
  simp only [Act.put, List.setIfInBounds_toArray, List.set_cons_zero, List.set_cons_succ]
  refine regTake 2 (some 22) (v := ?_) rfl rfl (by kernel_rfl) (by kernel_rfl) (by kernel_rfl) (fun _ _ _ h => h) (by rfl) hHeld ?_ ?_
  rotate_left 1
  · (intro w hSw; (try dsimp only at hSw); go_simp; try with_reducible rfl)
  simp only [Act.put, List.setIfInBounds_toArray, List.set_cons_zero, List.set_cons_succ]
  refine regTake 4 (some 24) (v := ?_) rfl rfl (by kernel_rfl) (by kernel_rfl) (by kernel_rfl) (fun _ _ _ h => h) (by rfl) hHeld ?_ ?_
  rotate_left 1
  · (intro w hSw; (try dsimp only at hSw); go_simp; try with_reducible rfl)
  simp only [Act.put, List.setIfInBounds_toArray, List.set_cons_zero, List.set_cons_succ]
  refine regTake 5 (some 25) (v := ?_) rfl rfl (by kernel_rfl) (by kernel_rfl) (by kernel_rfl) (fun _ _ _ h => h) (by rfl) hHeld ?_ ?_
  rotate_left 1
  · (intro w hSw; (try dsimp only at hSw); go_simp; try with_reducible rfl)
  simp only [Act.put, List.setIfInBounds_toArray, List.set_cons_zero, List.set_cons_succ]
  refine regCall 0 (some 20) (f := 20) (args := ?_) rfl rfl (by kernel_rfl) (by rfl) ?_ ?_
  rotate_left 1
  · (go_simp; try with_reducible rfl)
  refine (MD.out _).mono ?_
  rintro e wx0 ⟨rfl, hmap, kg3⟩
  refine ⟨_, rfl, ⟨(Hbz2.out.step kg3 rfl).cell 0, (Hbz2.out.step kg3 rfl).cell 1, (Hbz2.out.step kg3 rfl).cell 2, (Hbz2.out.step kg3 rfl).cell 3⟩, fun hHeld => ?_⟩
  simp only [Act.put, List.setIfInBounds_toArray, List.set_cons_zero, List.set_cons_succ]
  have HBg3 := Lib.hid ((HBz2.out.drew).trans (kg3.mono (Nat.le_trans hbase (HBz2.out.drew).size)))
  have Hbg3 := Lib.hid (Hbz2.out.step kg3 rfl)
  have Hzg3 := Lib.hid (Hzz2.out.step kg3 rfl)
  clear kg3
  refine regDo 3 (some 23) (v := dFun 26) (w' := wx0) rfl rfl (by kernel_rfl) (by rfl) ?_ ?_ (fun hHeld => ?_)
  · (have hl := HK.out _ wz2.heap.size hmap; go_simp)
  · exact ⟨Hbg3.out.cell 0, Hbg3.out.cell 1, Hbg3.out.cell 2, Hbg3.out.cell 3⟩
  simp only [Act.put, List.setIfInBounds_toArray, List.set_cons_zero, List.set_cons_succ]
  refine regCall 6 (some 26) (f := 26) (args := ?_) rfl rfl (by kernel_rfl) (by rfl) ?_ ?_
  rotate_left 1
  · (go_simp; try with_reducible rfl)
  refine (MF.out _).mono ?_
  rintro e wx6 ⟨rfl, kg4⟩
  refine ⟨_, rfl, ⟨(Hbg3.out.step kg4 rfl).cell 0, (Hbg3.out.step kg4 rfl).cell 1, (Hbg3.out.step kg4 rfl).cell 2, (Hbg3.out.step kg4 rfl).cell 3⟩, fun hHeld => ?_⟩
  simp only [Act.put, List.setIfInBounds_toArray, List.set_cons_zero, List.set_cons_succ]
  have HBg4 := Lib.hid ((HBg3.out).trans (kg4.mono (Nat.le_trans hbase (HBg3.out).size)))
  have Hbg4 := Lib.hid (Hbg3.out.step kg4 rfl)
  have Hzg4 := Lib.hid (Hzg3.out.step kg4 rfl)
  clear kg4
  have xs0 := Hzg4.out.cell 0; have xf0 := Hzg4.out.frozen 0
  have xs1 := Hzg4.out.cell 1; have xf1 := Hzg4.out.frozen 1
  have xs2 := Hzg4.out.cell 2; have xf2 := Hzg4.out.frozen 2
  have xs3 := Hzg4.out.cell 3; have xf3 := Hzg4.out.frozen 3
  have xs4 := Hzg4.out.cell 4; have xf4 := Hzg4.out.frozen 4
  simp only [List.getElem?_cons_zero, List.getElem?_cons_succ] at xs0 xs1 xs2 xs3 xs4
  have xsl := Hzg4.out.lt
  refine regStore 7 (w' := ?_) rfl rfl (by kernel_rfl) (by rfl) ?_ ?_ (fun hHeld => ?_)
  rotate_left 1
  · (go_simp; try with_reducible rfl)
  · exact ⟨(((((Hbg4.out.other (p := ⟨w.heap.size + 1, 0, none⟩) (by dsimp only; omega) (.int .i64 cen)).other (p := ⟨w.heap.size + 1, 1, none⟩) (by dsimp only; omega) (.int .i64 den)).other (p := ⟨w.heap.size + 1, 2, none⟩) (by dsimp only; omega) (.int .i64 dev)).other (p := ⟨w.heap.size + 1, 3, none⟩) (by dsimp only; omega) (.int .u64 (h : Nat))).other (p := ⟨w.heap.size + 1, 4, none⟩) (by dsimp only; omega) (.int .u64 (l : Nat))).cell 0, (((((Hbg4.out.other (p := ⟨w.heap.size + 1, 0, none⟩) (by dsimp only; omega) (.int .i64 cen)).other (p := ⟨w.heap.size + 1, 1, none⟩) (by dsimp only; omega) (.int .i64 den)).other (p := ⟨w.heap.size + 1, 2, none⟩) (by dsimp only; omega) (.int .i64 dev)).other (p := ⟨w.heap.size + 1, 3, none⟩) (by dsimp only; omega) (.int .u64 (h : Nat))).other (p := ⟨w.heap.size + 1, 4, none⟩) (by dsimp only; omega) (.int .u64 (l : Nat))).cell 1, (((((Hbg4.out.other (p := ⟨w.heap.size + 1, 0, none⟩) (by dsimp only; omega) (.int .i64 cen)).other (p := ⟨w.heap.size + 1, 1, none⟩) (by dsimp only; omega) (.int .i64 den)).other (p := ⟨w.heap.size + 1, 2, none⟩) (by dsimp only; omega) (.int .i64 dev)).other (p := ⟨w.heap.size + 1, 3, none⟩) (by dsimp only; omega) (.int .u64 (h : Nat))).other (p := ⟨w.heap.size + 1, 4, none⟩) (by dsimp only; omega) (.int .u64 (l : Nat))).cell 2, (((((Hbg4.out.other (p := ⟨w.heap.size + 1, 0, none⟩) (by dsimp only; omega) (.int .i64 cen)).other (p := ⟨w.heap.size + 1, 1, none⟩) (by dsimp only; omega) (.int .i64 den)).other (p := ⟨w.heap.size + 1, 2, none⟩) (by dsimp only; omega) (.int .i64 dev)).other (p := ⟨w.heap.size + 1, 3, none⟩) (by dsimp only; omega) (.int .u64 (h : Nat))).other (p := ⟨w.heap.size + 1, 4, none⟩) (by dsimp only; omega) (.int .u64 (l : Nat))).cell 3⟩
  have HBg5 := Lib.hid ((((((HBg4.out.setCell (p := ⟨w.heap.size + 1, 0, none⟩) (by first | exact Nat.le_refl _ | (dsimp only; omega)) (.int .i64 cen)).setCell (p := ⟨w.heap.size + 1, 1, none⟩) (by first | exact Nat.le_refl _ | (dsimp only; omega)) (.int .i64 den)).setCell (p := ⟨w.heap.size + 1, 2, none⟩) (by first | exact Nat.le_refl _ | (dsimp only; omega)) (.int .i64 dev)).setCell (p := ⟨w.heap.size + 1, 3, none⟩) (by first | exact Nat.le_refl _ | (dsimp only; omega)) (.int .u64 (h : Nat))).setCell (p := ⟨w.heap.size + 1, 4, none⟩) (by first | exact Nat.le_refl _ | (dsimp only; omega)) (.int .u64 (l : Nat))))
  have Hbg5 := Lib.hid (((((Hbg4.out.other (p := ⟨w.heap.size + 1, 0, none⟩) (by dsimp only; omega) (.int .i64 cen)).other (p := ⟨w.heap.size + 1, 1, none⟩) (by dsimp only; omega) (.int .i64 den)).other (p := ⟨w.heap.size + 1, 2, none⟩) (by dsimp only; omega) (.int .i64 dev)).other (p := ⟨w.heap.size + 1, 3, none⟩) (by dsimp only; omega) (.int .u64 (h : Nat))).other (p := ⟨w.heap.size + 1, 4, none⟩) (by dsimp only; omega) (.int .u64 (l : Nat)))
  have Hzg5 := Lib.hid (((((Hzg4.out.set 0 (.int .i64 cen)).set 1 (.int .i64 den)).set 2 (.int .i64 dev)).set 3 (.int .u64 (h : Nat))).set 4 (.int .u64 (l : Nat)))
  clear xs0 xf0 xs1 xf1 xs2 xf2 xs3 xf3 xs4 xf4 xsl
  refine regTake 8 (some 5) (v := ?_) rfl rfl (by kernel_rfl) (by kernel_rfl) (by kernel_rfl) (fun _ _ _ h => h) (by rfl) hHeld ?_ ?_
  rotate_left 1
  · (intro w hSw; (try dsimp only at hSw); go_simp; try with_reducible rfl)
  simp only [Act.put, List.setIfInBounds_toArray, List.set_cons_zero, List.set_cons_succ]
  refine wpAnyH_done (by kernel_rfl) ?_ _
  clear hHeld
  go_wp2_with fail
  (try simp only [Exit.inBlock, Exit.then])
  exact bodyPost_ret (results_cell_tmp rfl rfl (loadPnt Hzg5.out)) rfl ⟨rfl, HBg5.out⟩
set_option linter.unusedSimpArgs false in
set_option linter.unusedVariables false in
set_option maxHeartbeats 8000000 in
set_option maxRecDepth 100000 in
theorem tpoint_4 (kind size m sum d cen den dev : Int) (h l : Nat) (w : World) (mr : (∀ W, Calls Try.prog 9 #[.agg #[.int .i64 kind, .int .i64 size, .int .i64 m, .int .i64 sum]] W fun e w' => e = .returned (.bool true) ∧ Below W.heap.size W w')) (mc : (∀ W, Calls Try.prog 19 #[.agg #[.int .i64 kind, .int .i64 size, .int .i64 m, .int .i64 sum], .int .i64 d] W fun e w' => e = .returned (.bool true) ∧ Below W.heap.size W w')) (md : (∀ W, Calls Try.prog 20 #[] W fun e w' => e = .returned (.map (some W.heap.size)) ∧ w'.heap[W.heap.size]? = some (.map dEs 4) ∧ Below W.heap.size W w')) (mf : (∀ W, Calls Try.prog 27 #[.agg #[.int .i64 kind, .int .i64 size, .int .i64 m, .int .i64 sum], .int .i64 d] W fun e w' => e = .returned (.agg #[.int .i64 cen, .int .i64 den, .int .i64 dev, .int .u64 (h : Nat), .int .u64 (l : Nat)]) ∧ Below W.heap.size W w')) (hk : (∀ (W : World) (b : Nat), W.heap[b]? = some (.map dEs 4) → (Instr.lookup 51 (.map (some b)) (.int .i64 kind) false).run Try.prog W = .ok (dFun 27) W)) (g : (m == 0) = false) :
    Calls Try.prog 15 #[.agg #[.int .i64 kind, .int .i64 size, .int .i64 m, .int .i64 sum], .int .i64 d] w fun e w' => e = .returned (.tuple #[.agg #[.int .i64 cen, .int .i64 den, .int .i64 dev, .int .u64 (h : Nat), .int .u64 (l : Nat)], .int .i64 0]) ∧ Below w.heap.size w w' := by
  have MR := Lib.hid mr; have MC := Lib.hid mc; have MD := Lib.hid md; have MF := Lib.hid mf; have HK := Lib.hid hk
  clear mr mc md mf hk
  obtain ⟨w2, hw2⟩ : ∃ w2, (w.alloc (.cells #[.int .i64 kind, .int .i64 size, .int .i64 m, .int .i64 sum] 23)).alloc (.cells #[.int .i64 0, .int .i64 0, .int .i64 0, .int .u64 0, .int .u64 0] 38) = w2 := ⟨_, rfl⟩
  have h2 : TwoB w w2 [.int .i64 kind, .int .i64 size, .int .i64 m, .int .i64 sum] [.int .i64 0, .int .i64 0, .int .i64 0, .int .u64 0, .int .u64 0] 23 38 := by rw [← hw2]; exact twoB w _ _ _ _
  have HB2 := Lib.hid h2.below; have HV2 := Lib.hid h2.a; have HZ2 := Lib.hid h2.b
  have HW2 := Lib.hid hw2
  clear hw2 h2
  have hbase := Nat.le_refl w.heap.size
  go_enter Try.func15, Try.ntmps15
  go_upto_region 1 with fail
  rw [HW2.out]
  have qb0_0 : w2.cell? ⟨w.heap.size, 0, none⟩ = some (.int .i64 kind) := HV2.out.cell 0
  have qb1_0 : w2.cell? ⟨w.heap.size, 1, none⟩ = some (.int .i64 size) := HV2.out.cell 1
  have qb2_0 : w2.cell? ⟨w.heap.size, 2, none⟩ = some (.int .i64 m) := HV2.out.cell 2
  have qb3_0 : w2.cell? ⟨w.heap.size, 3, none⟩ = some (.int .i64 sum) := HV2.out.cell 3
  have lb_0 : w.heap.size < w2.heap.size := HV2.out.lt
  have hcz1 := MR.out w2
  go_wp2_with fail
  refine hcz1.mono ?_
  rintro e wz1 ⟨rfl, kz1⟩
  clear hcz1 qb0_0 qb1_0 qb2_0 qb3_0 lb_0
  have HBz1 := Lib.hid (HB2.out.trans (kz1.mono (Nat.le_trans hbase HB2.out.size)))
  have Hbz1 := Lib.hid (HV2.out.call kz1)
  have Hzz1 := Lib.hid (HZ2.out.call kz1)
  clear kz1
  have qb0_1 : wz1.cell? ⟨w.heap.size, 0, none⟩ = some (.int .i64 kind) := Hbz1.out.cell 0
  have qb1_1 : wz1.cell? ⟨w.heap.size, 1, none⟩ = some (.int .i64 size) := Hbz1.out.cell 1
  have qb2_1 : wz1.cell? ⟨w.heap.size, 2, none⟩ = some (.int .i64 m) := Hbz1.out.cell 2
  have qb3_1 : wz1.cell? ⟨w.heap.size, 3, none⟩ = some (.int .i64 sum) := Hbz1.out.cell 3
  have lb_1 : w.heap.size < wz1.heap.size := Hbz1.out.lt
  have hcz2 := MC.out wz1
  go_wp2_with fail
  refine hcz2.mono ?_
  rintro e wz2 ⟨rfl, kz2⟩
  clear hcz2 qb0_1 qb1_1 qb2_1 qb3_1 lb_1
  have HBz2 := Lib.hid (HBz1.out.trans (kz2.mono (Nat.le_trans hbase HBz1.out.size)))
  have Hbz2 := Lib.hid (Hbz1.out.call kz2)
  have Hzz2 := Lib.hid (Hzz1.out.call kz2)
  clear kz2
  have qb0_2 : wz2.cell? ⟨w.heap.size, 0, none⟩ = some (.int .i64 kind) := Hbz2.out.cell 0
  have qb1_2 : wz2.cell? ⟨w.heap.size, 1, none⟩ = some (.int .i64 size) := Hbz2.out.cell 1
  have qb2_2 : wz2.cell? ⟨w.heap.size, 2, none⟩ = some (.int .i64 m) := Hbz2.out.cell 2
  have qb3_2 : wz2.cell? ⟨w.heap.size, 3, none⟩ = some (.int .i64 sum) := Hbz2.out.cell 3
  have lb_2 : w.heap.size < wz2.heap.size := Hbz2.out.lt
  go_upto_region 5 with fail
  clear qb0_2 qb1_2 qb2_2 qb3_2 lb_2
  refine wp_region_held_drew (S := (fun W' => W'.cell? ⟨w.heap.size, 0, none⟩ = some (.int .i64 kind) ∧ W'.cell? ⟨w.heap.size, 1, none⟩ = some (.int .i64 size) ∧ W'.cell? ⟨w.heap.size, 2, none⟩ = some (.int .i64 m) ∧ W'.cell? ⟨w.heap.size, 3, none⟩ = some (.int .i64 sum))) (by kernel_rfl) ⟨Hbz2.out.cell 0, Hbz2.out.cell 1, Hbz2.out.cell 2, Hbz2.out.cell 3⟩ (fun hHeld => ?_)
  refine regTake 1 (some 21) (v := ?_) rfl rfl (by kernel_rfl) (by kernel_rfl) (by kernel_rfl) (fun _ _ _ h => h) (by rfl) hHeld ?_ ?_
  rotate_left 1
  · (intro w hSw; (try dsimp only at hSw); go_simp; try with_reducible rfl)
  simp only [Act.put, List.setIfInBounds_toArray, List.set_cons_zero, List.set_cons_succ]
  refine regTake 2 (some 22) (v := ?_) rfl rfl (by kernel_rfl) (by kernel_rfl) (by kernel_rfl) (fun _ _ _ h => h) (by rfl) hHeld ?_ ?_
  rotate_left 1
  · (intro w hSw; (try dsimp only at hSw); go_simp; try with_reducible rfl)
  simp only [Act.put, List.setIfInBounds_toArray, List.set_cons_zero, List.set_cons_succ]
  refine regTake 4 (some 24) (v := ?_) rfl rfl (by kernel_rfl) (by kernel_rfl) (by kernel_rfl) (fun _ _ _ h => h) (by rfl) hHeld ?_ ?_
  rotate_left 1
  · (intro w hSw; (try dsimp only at hSw); go_simp; try with_reducible rfl)
  simp only [Act.put, List.setIfInBounds_toArray, List.set_cons_zero, List.set_cons_succ]
  refine regTake 5 (some 25) (v := ?_) rfl rfl (by kernel_rfl) (by kernel_rfl) (by kernel_rfl) (fun _ _ _ h => h) (by rfl) hHeld ?_ ?_
  rotate_left 1
  · (intro w hSw; (try dsimp only at hSw); go_simp; try with_reducible rfl)
  simp only [Act.put, List.setIfInBounds_toArray, List.set_cons_zero, List.set_cons_succ]
  refine regCall 0 (some 20) (f := 20) (args := ?_) rfl rfl (by kernel_rfl) (by rfl) ?_ ?_
  rotate_left 1
  · (go_simp; try with_reducible rfl)
  refine (MD.out _).mono ?_
  rintro e wx0 ⟨rfl, hmap, kg3⟩
  refine ⟨_, rfl, ⟨(Hbz2.out.step kg3 rfl).cell 0, (Hbz2.out.step kg3 rfl).cell 1, (Hbz2.out.step kg3 rfl).cell 2, (Hbz2.out.step kg3 rfl).cell 3⟩, fun hHeld => ?_⟩
  simp only [Act.put, List.setIfInBounds_toArray, List.set_cons_zero, List.set_cons_succ]
  have HBg3 := Lib.hid ((HBz2.out.drew).trans (kg3.mono (Nat.le_trans hbase (HBz2.out.drew).size)))
  have Hbg3 := Lib.hid (Hbz2.out.step kg3 rfl)
  have Hzg3 := Lib.hid (Hzz2.out.step kg3 rfl)
  clear kg3
  refine regDo 3 (some 23) (v := dFun 27) (w' := wx0) rfl rfl (by kernel_rfl) (by rfl) ?_ ?_ (fun hHeld => ?_)
  · (have hl := HK.out _ wz2.heap.size hmap; go_simp)
  · exact ⟨Hbg3.out.cell 0, Hbg3.out.cell 1, Hbg3.out.cell 2, Hbg3.out.cell 3⟩
  simp only [Act.put, List.setIfInBounds_toArray, List.set_cons_zero, List.set_cons_succ]
  refine regCall 6 (some 26) (f := 27) (args := ?_) rfl rfl (by kernel_rfl) (by rfl) ?_ ?_
  rotate_left 1
  · (go_simp; try with_reducible rfl)
  refine (MF.out _).mono ?_
  rintro e wx6 ⟨rfl, kg4⟩
  refine ⟨_, rfl, ⟨(Hbg3.out.step kg4 rfl).cell 0, (Hbg3.out.step kg4 rfl).cell 1, (Hbg3.out.step kg4 rfl).cell 2, (Hbg3.out.step kg4 rfl).cell 3⟩, fun hHeld => ?_⟩
  simp only [Act.put, List.setIfInBounds_toArray, List.set_cons_zero, List.set_cons_succ]
  have HBg4 := Lib.hid ((HBg3.out).trans (kg4.mono (Nat.le_trans hbase (HBg3.out).size)))
  have Hbg4 := Lib.hid (Hbg3.out.step kg4 rfl)
  have Hzg4 := Lib.hid (Hzg3.out.step kg4 rfl)
  clear kg4
  have xs0 := Hzg4.out.cell 0; have xf0 := Hzg4.out.frozen 0
  have xs1 := Hzg4.out.cell 1; have xf1 := Hzg4.out.frozen 1
  have xs2 := Hzg4.out.cell 2; have xf2 := Hzg4.out.frozen 2
  have xs3 := Hzg4.out.cell 3; have xf3 := Hzg4.out.frozen 3
  have xs4 := Hzg4.out.cell 4; have xf4 := Hzg4.out.frozen 4
  simp only [List.getElem?_cons_zero, List.getElem?_cons_succ] at xs0 xs1 xs2 xs3 xs4
  have xsl := Hzg4.out.lt
  refine regStore 7 (w' := ?_) rfl rfl (by kernel_rfl) (by rfl) ?_ ?_ (fun hHeld => ?_)
  rotate_left 1
  · (go_simp; try with_reducible rfl)
  · exact ⟨(((((Hbg4.out.other (p := ⟨w.heap.size + 1, 0, none⟩) (by dsimp only; omega) (.int .i64 cen)).other (p := ⟨w.heap.size + 1, 1, none⟩) (by dsimp only; omega) (.int .i64 den)).other (p := ⟨w.heap.size + 1, 2, none⟩) (by dsimp only; omega) (.int .i64 dev)).other (p := ⟨w.heap.size + 1, 3, none⟩) (by dsimp only; omega) (.int .u64 (h : Nat))).other (p := ⟨w.heap.size + 1, 4, none⟩) (by dsimp only; omega) (.int .u64 (l : Nat))).cell 0, (((((Hbg4.out.other (p := ⟨w.heap.size + 1, 0, none⟩) (by dsimp only; omega) (.int .i64 cen)).other (p := ⟨w.heap.size + 1, 1, none⟩) (by dsimp only; omega) (.int .i64 den)).other (p := ⟨w.heap.size + 1, 2, none⟩) (by dsimp only; omega) (.int .i64 dev)).other (p := ⟨w.heap.size + 1, 3, none⟩) (by dsimp only; omega) (.int .u64 (h : Nat))).other (p := ⟨w.heap.size + 1, 4, none⟩) (by dsimp only; omega) (.int .u64 (l : Nat))).cell 1, (((((Hbg4.out.other (p := ⟨w.heap.size + 1, 0, none⟩) (by dsimp only; omega) (.int .i64 cen)).other (p := ⟨w.heap.size + 1, 1, none⟩) (by dsimp only; omega) (.int .i64 den)).other (p := ⟨w.heap.size + 1, 2, none⟩) (by dsimp only; omega) (.int .i64 dev)).other (p := ⟨w.heap.size + 1, 3, none⟩) (by dsimp only; omega) (.int .u64 (h : Nat))).other (p := ⟨w.heap.size + 1, 4, none⟩) (by dsimp only; omega) (.int .u64 (l : Nat))).cell 2, (((((Hbg4.out.other (p := ⟨w.heap.size + 1, 0, none⟩) (by dsimp only; omega) (.int .i64 cen)).other (p := ⟨w.heap.size + 1, 1, none⟩) (by dsimp only; omega) (.int .i64 den)).other (p := ⟨w.heap.size + 1, 2, none⟩) (by dsimp only; omega) (.int .i64 dev)).other (p := ⟨w.heap.size + 1, 3, none⟩) (by dsimp only; omega) (.int .u64 (h : Nat))).other (p := ⟨w.heap.size + 1, 4, none⟩) (by dsimp only; omega) (.int .u64 (l : Nat))).cell 3⟩
  have HBg5 := Lib.hid ((((((HBg4.out.setCell (p := ⟨w.heap.size + 1, 0, none⟩) (by first | exact Nat.le_refl _ | (dsimp only; omega)) (.int .i64 cen)).setCell (p := ⟨w.heap.size + 1, 1, none⟩) (by first | exact Nat.le_refl _ | (dsimp only; omega)) (.int .i64 den)).setCell (p := ⟨w.heap.size + 1, 2, none⟩) (by first | exact Nat.le_refl _ | (dsimp only; omega)) (.int .i64 dev)).setCell (p := ⟨w.heap.size + 1, 3, none⟩) (by first | exact Nat.le_refl _ | (dsimp only; omega)) (.int .u64 (h : Nat))).setCell (p := ⟨w.heap.size + 1, 4, none⟩) (by first | exact Nat.le_refl _ | (dsimp only; omega)) (.int .u64 (l : Nat))))
  have Hbg5 := Lib.hid (((((Hbg4.out.other (p := ⟨w.heap.size + 1, 0, none⟩) (by dsimp only; omega) (.int .i64 cen)).other (p := ⟨w.heap.size + 1, 1, none⟩) (by dsimp only; omega) (.int .i64 den)).other (p := ⟨w.heap.size + 1, 2, none⟩) (by dsimp only; omega) (.int .i64 dev)).other (p := ⟨w.heap.size + 1, 3, none⟩) (by dsimp only; omega) (.int .u64 (h : Nat))).other (p := ⟨w.heap.size + 1, 4, none⟩) (by dsimp only; omega) (.int .u64 (l : Nat)))
  have Hzg5 := Lib.hid (((((Hzg4.out.set 0 (.int .i64 cen)).set 1 (.int .i64 den)).set 2 (.int .i64 dev)).set 3 (.int .u64 (h : Nat))).set 4 (.int .u64 (l : Nat)))
  clear xs0 xf0 xs1 xf1 xs2 xf2 xs3 xf3 xs4 xf4 xsl
  refine regTake 8 (some 5) (v := ?_) rfl rfl (by kernel_rfl) (by kernel_rfl) (by kernel_rfl) (fun _ _ _ h => h) (by rfl) hHeld ?_ ?_
  rotate_left 1
  · (intro w hSw; (try dsimp only at hSw); go_simp; try with_reducible rfl)
  simp only [Act.put, List.setIfInBounds_toArray, List.set_cons_zero, List.set_cons_succ]
  refine wpAnyH_done (by kernel_rfl) ?_ _
  clear hHeld
  go_wp2_with fail
  (try simp only [Exit.inBlock, Exit.then])
  exact bodyPost_ret (results_cell_tmp rfl rfl (loadPnt Hzg5.out)) rfl ⟨rfl, HBg5.out⟩
set_option linter.unusedSimpArgs false in
set_option linter.unusedVariables false in
set_option maxHeartbeats 8000000 in
set_option maxRecDepth 100000 in
theorem tpoint_5 (kind size m sum d cen den dev : Int) (h l : Nat) (w : World) (mr : (∀ W, Calls Try.prog 9 #[.agg #[.int .i64 kind, .int .i64 size, .int .i64 m, .int .i64 sum]] W fun e w' => e = .returned (.bool true) ∧ Below W.heap.size W w')) (mc : (∀ W, Calls Try.prog 19 #[.agg #[.int .i64 kind, .int .i64 size, .int .i64 m, .int .i64 sum], .int .i64 d] W fun e w' => e = .returned (.bool true) ∧ Below W.heap.size W w')) (md : (∀ W, Calls Try.prog 20 #[] W fun e w' => e = .returned (.map (some W.heap.size)) ∧ w'.heap[W.heap.size]? = some (.map dEs 4) ∧ Below W.heap.size W w')) (mf : (∀ W, Calls Try.prog 28 #[.agg #[.int .i64 kind, .int .i64 size, .int .i64 m, .int .i64 sum], .int .i64 d] W fun e w' => e = .returned (.agg #[.int .i64 cen, .int .i64 den, .int .i64 dev, .int .u64 (h : Nat), .int .u64 (l : Nat)]) ∧ Below W.heap.size W w')) (hk : (∀ (W : World) (b : Nat), W.heap[b]? = some (.map dEs 4) → (Instr.lookup 51 (.map (some b)) (.int .i64 kind) false).run Try.prog W = .ok (dFun 28) W)) (g : (m == 0) = false) :
    Calls Try.prog 15 #[.agg #[.int .i64 kind, .int .i64 size, .int .i64 m, .int .i64 sum], .int .i64 d] w fun e w' => e = .returned (.tuple #[.agg #[.int .i64 cen, .int .i64 den, .int .i64 dev, .int .u64 (h : Nat), .int .u64 (l : Nat)], .int .i64 0]) ∧ Below w.heap.size w w' := by
  have MR := Lib.hid mr; have MC := Lib.hid mc; have MD := Lib.hid md; have MF := Lib.hid mf; have HK := Lib.hid hk
  clear mr mc md mf hk
  obtain ⟨w2, hw2⟩ : ∃ w2, (w.alloc (.cells #[.int .i64 kind, .int .i64 size, .int .i64 m, .int .i64 sum] 23)).alloc (.cells #[.int .i64 0, .int .i64 0, .int .i64 0, .int .u64 0, .int .u64 0] 38) = w2 := ⟨_, rfl⟩
  have h2 : TwoB w w2 [.int .i64 kind, .int .i64 size, .int .i64 m, .int .i64 sum] [.int .i64 0, .int .i64 0, .int .i64 0, .int .u64 0, .int .u64 0] 23 38 := by rw [← hw2]; exact twoB w _ _ _ _
  have HB2 := Lib.hid h2.below; have HV2 := Lib.hid h2.a; have HZ2 := Lib.hid h2.b
  have HW2 := Lib.hid hw2
  clear hw2 h2
  have hbase := Nat.le_refl w.heap.size
  go_enter Try.func15, Try.ntmps15
  go_upto_region 1 with fail
  rw [HW2.out]
  have qb0_0 : w2.cell? ⟨w.heap.size, 0, none⟩ = some (.int .i64 kind) := HV2.out.cell 0
  have qb1_0 : w2.cell? ⟨w.heap.size, 1, none⟩ = some (.int .i64 size) := HV2.out.cell 1
  have qb2_0 : w2.cell? ⟨w.heap.size, 2, none⟩ = some (.int .i64 m) := HV2.out.cell 2
  have qb3_0 : w2.cell? ⟨w.heap.size, 3, none⟩ = some (.int .i64 sum) := HV2.out.cell 3
  have lb_0 : w.heap.size < w2.heap.size := HV2.out.lt
  have hcz1 := MR.out w2
  go_wp2_with fail
  refine hcz1.mono ?_
  rintro e wz1 ⟨rfl, kz1⟩
  clear hcz1 qb0_0 qb1_0 qb2_0 qb3_0 lb_0
  have HBz1 := Lib.hid (HB2.out.trans (kz1.mono (Nat.le_trans hbase HB2.out.size)))
  have Hbz1 := Lib.hid (HV2.out.call kz1)
  have Hzz1 := Lib.hid (HZ2.out.call kz1)
  clear kz1
  have qb0_1 : wz1.cell? ⟨w.heap.size, 0, none⟩ = some (.int .i64 kind) := Hbz1.out.cell 0
  have qb1_1 : wz1.cell? ⟨w.heap.size, 1, none⟩ = some (.int .i64 size) := Hbz1.out.cell 1
  have qb2_1 : wz1.cell? ⟨w.heap.size, 2, none⟩ = some (.int .i64 m) := Hbz1.out.cell 2
  have qb3_1 : wz1.cell? ⟨w.heap.size, 3, none⟩ = some (.int .i64 sum) := Hbz1.out.cell 3
  have lb_1 : w.heap.size < wz1.heap.size := Hbz1.out.lt
  have hcz2 := MC.out wz1
  go_wp2_with fail
  refine hcz2.mono ?_
  rintro e wz2 ⟨rfl, kz2⟩
  clear hcz2 qb0_1 qb1_1 qb2_1 qb3_1 lb_1
  have HBz2 := Lib.hid (HBz1.out.trans (kz2.mono (Nat.le_trans hbase HBz1.out.size)))
  have Hbz2 := Lib.hid (Hbz1.out.call kz2)
  have Hzz2 := Lib.hid (Hzz1.out.call kz2)
  clear kz2
  have qb0_2 : wz2.cell? ⟨w.heap.size, 0, none⟩ = some (.int .i64 kind) := Hbz2.out.cell 0
  have qb1_2 : wz2.cell? ⟨w.heap.size, 1, none⟩ = some (.int .i64 size) := Hbz2.out.cell 1
  have qb2_2 : wz2.cell? ⟨w.heap.size, 2, none⟩ = some (.int .i64 m) := Hbz2.out.cell 2
  have qb3_2 : wz2.cell? ⟨w.heap.size, 3, none⟩ = some (.int .i64 sum) := Hbz2.out.cell 3
  have lb_2 : w.heap.size < wz2.heap.size := Hbz2.out.lt
  go_upto_region 5 with fail
  clear qb0_2 qb1_2 qb2_2 qb3_2 lb_2
  refine wp_region_held_drew (S := (fun W' => W'.cell? ⟨w.heap.size, 0, none⟩ = some (.int .i64 kind) ∧ W'.cell? ⟨w.heap.size, 1, none⟩ = some (.int .i64 size) ∧ W'.cell? ⟨w.heap.size, 2, none⟩ = some (.int .i64 m) ∧ W'.cell? ⟨w.heap.size, 3, none⟩ = some (.int .i64 sum))) (by kernel_rfl) ⟨Hbz2.out.cell 0, Hbz2.out.cell 1, Hbz2.out.cell 2, Hbz2.out.cell 3⟩ (fun hHeld => ?_)
  refine regTake 1 (some 21) (v := ?_) rfl rfl (by kernel_rfl) (by kernel_rfl) (by kernel_rfl) (fun _ _ _ h => h) (by rfl) hHeld ?_ ?_
  rotate_left 1
  · (intro w hSw; (try dsimp only at hSw); go_simp; try with_reducible rfl)
  simp only [Act.put, List.setIfInBounds_toArray, List.set_cons_zero, List.set_cons_succ]
  refine regTake 2 (some 22) (v := ?_) rfl rfl (by kernel_rfl) (by kernel_rfl) (by kernel_rfl) (fun _ _ _ h => h) (by rfl) hHeld ?_ ?_
  rotate_left 1
  · (intro w hSw; (try dsimp only at hSw); go_simp; try with_reducible rfl)
  simp only [Act.put, List.setIfInBounds_toArray, List.set_cons_zero, List.set_cons_succ]
  refine regTake 4 (some 24) (v := ?_) rfl rfl (by kernel_rfl) (by kernel_rfl) (by kernel_rfl) (fun _ _ _ h => h) (by rfl) hHeld ?_ ?_
  rotate_left 1
  · (intro w hSw; (try dsimp only at hSw); go_simp; try with_reducible rfl)
  simp only [Act.put, List.setIfInBounds_toArray, List.set_cons_zero, List.set_cons_succ]
  refine regTake 5 (some 25) (v := ?_) rfl rfl (by kernel_rfl) (by kernel_rfl) (by kernel_rfl) (fun _ _ _ h => h) (by rfl) hHeld ?_ ?_
  rotate_left 1
  · (intro w hSw; (try dsimp only at hSw); go_simp; try with_reducible rfl)
  simp only [Act.put, List.setIfInBounds_toArray, List.set_cons_zero, List.set_cons_succ]
  refine regCall 0 (some 20) (f := 20) (args := ?_) rfl rfl (by kernel_rfl) (by rfl) ?_ ?_
  rotate_left 1
  · (go_simp; try with_reducible rfl)
  refine (MD.out _).mono ?_
  rintro e wx0 ⟨rfl, hmap, kg3⟩
  refine ⟨_, rfl, ⟨(Hbz2.out.step kg3 rfl).cell 0, (Hbz2.out.step kg3 rfl).cell 1, (Hbz2.out.step kg3 rfl).cell 2, (Hbz2.out.step kg3 rfl).cell 3⟩, fun hHeld => ?_⟩
  simp only [Act.put, List.setIfInBounds_toArray, List.set_cons_zero, List.set_cons_succ]
  have HBg3 := Lib.hid ((HBz2.out.drew).trans (kg3.mono (Nat.le_trans hbase (HBz2.out.drew).size)))
  have Hbg3 := Lib.hid (Hbz2.out.step kg3 rfl)
  have Hzg3 := Lib.hid (Hzz2.out.step kg3 rfl)
  clear kg3
  refine regDo 3 (some 23) (v := dFun 28) (w' := wx0) rfl rfl (by kernel_rfl) (by rfl) ?_ ?_ (fun hHeld => ?_)
  · (have hl := HK.out _ wz2.heap.size hmap; go_simp)
  · exact ⟨Hbg3.out.cell 0, Hbg3.out.cell 1, Hbg3.out.cell 2, Hbg3.out.cell 3⟩
  simp only [Act.put, List.setIfInBounds_toArray, List.set_cons_zero, List.set_cons_succ]
  refine regCall 6 (some 26) (f := 28) (args := ?_) rfl rfl (by kernel_rfl) (by rfl) ?_ ?_
  rotate_left 1
  · (go_simp; try with_reducible rfl)
  refine (MF.out _).mono ?_
  rintro e wx6 ⟨rfl, kg4⟩
  refine ⟨_, rfl, ⟨(Hbg3.out.step kg4 rfl).cell 0, (Hbg3.out.step kg4 rfl).cell 1, (Hbg3.out.step kg4 rfl).cell 2, (Hbg3.out.step kg4 rfl).cell 3⟩, fun hHeld => ?_⟩
  simp only [Act.put, List.setIfInBounds_toArray, List.set_cons_zero, List.set_cons_succ]
  have HBg4 := Lib.hid ((HBg3.out).trans (kg4.mono (Nat.le_trans hbase (HBg3.out).size)))
  have Hbg4 := Lib.hid (Hbg3.out.step kg4 rfl)
  have Hzg4 := Lib.hid (Hzg3.out.step kg4 rfl)
  clear kg4
  have xs0 := Hzg4.out.cell 0; have xf0 := Hzg4.out.frozen 0
  have xs1 := Hzg4.out.cell 1; have xf1 := Hzg4.out.frozen 1
  have xs2 := Hzg4.out.cell 2; have xf2 := Hzg4.out.frozen 2
  have xs3 := Hzg4.out.cell 3; have xf3 := Hzg4.out.frozen 3
  have xs4 := Hzg4.out.cell 4; have xf4 := Hzg4.out.frozen 4
  simp only [List.getElem?_cons_zero, List.getElem?_cons_succ] at xs0 xs1 xs2 xs3 xs4
  have xsl := Hzg4.out.lt
  refine regStore 7 (w' := ?_) rfl rfl (by kernel_rfl) (by rfl) ?_ ?_ (fun hHeld => ?_)
  rotate_left 1
  · (go_simp; try with_reducible rfl)
  · exact ⟨(((((Hbg4.out.other (p := ⟨w.heap.size + 1, 0, none⟩) (by dsimp only; omega) (.int .i64 cen)).other (p := ⟨w.heap.size + 1, 1, none⟩) (by dsimp only; omega) (.int .i64 den)).other (p := ⟨w.heap.size + 1, 2, none⟩) (by dsimp only; omega) (.int .i64 dev)).other (p := ⟨w.heap.size + 1, 3, none⟩) (by dsimp only; omega) (.int .u64 (h : Nat))).other (p := ⟨w.heap.size + 1, 4, none⟩) (by dsimp only; omega) (.int .u64 (l : Nat))).cell 0, (((((Hbg4.out.other (p := ⟨w.heap.size + 1, 0, none⟩) (by dsimp only; omega) (.int .i64 cen)).other (p := ⟨w.heap.size + 1, 1, none⟩) (by dsimp only; omega) (.int .i64 den)).other (p := ⟨w.heap.size + 1, 2, none⟩) (by dsimp only; omega) (.int .i64 dev)).other (p := ⟨w.heap.size + 1, 3, none⟩) (by dsimp only; omega) (.int .u64 (h : Nat))).other (p := ⟨w.heap.size + 1, 4, none⟩) (by dsimp only; omega) (.int .u64 (l : Nat))).cell 1, (((((Hbg4.out.other (p := ⟨w.heap.size + 1, 0, none⟩) (by dsimp only; omega) (.int .i64 cen)).other (p := ⟨w.heap.size + 1, 1, none⟩) (by dsimp only; omega) (.int .i64 den)).other (p := ⟨w.heap.size + 1, 2, none⟩) (by dsimp only; omega) (.int .i64 dev)).other (p := ⟨w.heap.size + 1, 3, none⟩) (by dsimp only; omega) (.int .u64 (h : Nat))).other (p := ⟨w.heap.size + 1, 4, none⟩) (by dsimp only; omega) (.int .u64 (l : Nat))).cell 2, (((((Hbg4.out.other (p := ⟨w.heap.size + 1, 0, none⟩) (by dsimp only; omega) (.int .i64 cen)).other (p := ⟨w.heap.size + 1, 1, none⟩) (by dsimp only; omega) (.int .i64 den)).other (p := ⟨w.heap.size + 1, 2, none⟩) (by dsimp only; omega) (.int .i64 dev)).other (p := ⟨w.heap.size + 1, 3, none⟩) (by dsimp only; omega) (.int .u64 (h : Nat))).other (p := ⟨w.heap.size + 1, 4, none⟩) (by dsimp only; omega) (.int .u64 (l : Nat))).cell 3⟩
  have HBg5 := Lib.hid ((((((HBg4.out.setCell (p := ⟨w.heap.size + 1, 0, none⟩) (by first | exact Nat.le_refl _ | (dsimp only; omega)) (.int .i64 cen)).setCell (p := ⟨w.heap.size + 1, 1, none⟩) (by first | exact Nat.le_refl _ | (dsimp only; omega)) (.int .i64 den)).setCell (p := ⟨w.heap.size + 1, 2, none⟩) (by first | exact Nat.le_refl _ | (dsimp only; omega)) (.int .i64 dev)).setCell (p := ⟨w.heap.size + 1, 3, none⟩) (by first | exact Nat.le_refl _ | (dsimp only; omega)) (.int .u64 (h : Nat))).setCell (p := ⟨w.heap.size + 1, 4, none⟩) (by first | exact Nat.le_refl _ | (dsimp only; omega)) (.int .u64 (l : Nat))))
  have Hbg5 := Lib.hid (((((Hbg4.out.other (p := ⟨w.heap.size + 1, 0, none⟩) (by dsimp only; omega) (.int .i64 cen)).other (p := ⟨w.heap.size + 1, 1, none⟩) (by dsimp only; omega) (.int .i64 den)).other (p := ⟨w.heap.size + 1, 2, none⟩) (by dsimp only; omega) (.int .i64 dev)).other (p := ⟨w.heap.size + 1, 3, none⟩) (by dsimp only; omega) (.int .u64 (h : Nat))).other (p := ⟨w.heap.size + 1, 4, none⟩) (by dsimp only; omega) (.int .u64 (l : Nat)))
  have Hzg5 := Lib.hid (((((Hzg4.out.set 0 (.int .i64 cen)).set 1 (.int .i64 den)).set 2 (.int .i64 dev)).set 3 (.int .u64 (h : Nat))).set 4 (.int .u64 (l : Nat)))
  clear xs0 xf0 xs1 xf1 xs2 xf2 xs3 xf3 xs4 xf4 xsl
  refine regTake 8 (some 5) (v := ?_) rfl rfl (by kernel_rfl) (by kernel_rfl) (by kernel_rfl) (fun _ _ _ h => h) (by rfl) hHeld ?_ ?_
  rotate_left 1
  · (intro w hSw; (try dsimp only at hSw); go_simp; try with_reducible rfl)
  simp only [Act.put, List.setIfInBounds_toArray, List.set_cons_zero, List.set_cons_succ]
  refine wpAnyH_done (by kernel_rfl) ?_ _
  clear hHeld
  go_wp2_with fail
  (try simp only [Exit.inBlock, Exit.then])
  exact bodyPost_ret (results_cell_tmp rfl rfl (loadPnt Hzg5.out)) rfl ⟨rfl, HBg5.out⟩
end Go.Proofs.Ytgmifimpeefpcaa
