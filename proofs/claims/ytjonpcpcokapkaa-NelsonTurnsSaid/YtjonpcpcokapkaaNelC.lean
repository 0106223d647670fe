/- The reference's next, of all rules but 3 and 4. -/
import Derived.Test.YtjonpcpcokapkaaNelB
namespace Go.Proofs.Ytjonpcpcokapkaa
open Go.RowKit

/-- What lies in memory while next goes on. -/
structure NexJ (w w2 : World) (n a b l p q : Int) : Prop where
  below : Below w.heap.size w w2
  box : Has w2 w.heap.size [.int .i64 n, .int .i64 a, .int .i64 b, .int .i64 l] 64
  res : Has w2 (w.heap.size + 1) [.int .i64 0, .int .i64 0, .int .i64 0, .int .i64 0] 64
  out : Has w2 (w.heap.size + 2) [.int .i64 (n + 1), .int .i64 p, .int .i64 q, .int .i64 0] 64
theorem NexI.j {w w2 : World} {n a b l : Int} (h : NexI w w2 n a b l 0) : NexJ w w2 n a b l a b := ⟨h.below, h.box, h.res, h.out⟩
theorem NexJ.call {w w2 w3 : World} {n a b l p q : Int} (h : NexJ w w2 n a b l p q) (k : Below w2.heap.size w2 w3) : NexJ w w3 n a b l p q :=
  ⟨h.below.trans (k.mono h.below.size), h.box.call k, h.res.call k, h.out.call k⟩
theorem NexJ.drew {w w2 : World} {n a b l p q : Int} (h : NexJ w w2 n a b l p q) : NexJ w w2.drew n a b l p q := ⟨h.below.drew, h.box.of rfl, h.res.of rfl, h.out.of rfl⟩
theorem NexJ.put1 {w w2 : World} {n a b l p q : Int} (h : NexJ w w2 n a b l p q) (z : Int) : NexJ w (w2.setCell ⟨w.heap.size + 2, 1, none⟩ (.int .i64 z)) n a b l z q :=
  ⟨h.below.setCell (by dsimp only; omega) _, h.box.other (p := ⟨w.heap.size + 2, 1, none⟩) (by dsimp only; omega) _, h.res.other (p := ⟨w.heap.size + 2, 1, none⟩) (by dsimp only; omega) _, h.out.set 1 _⟩
theorem NexJ.put2 {w w2 : World} {n a b l p q : Int} (h : NexJ w w2 n a b l p q) (z : Int) : NexJ w (w2.setCell ⟨w.heap.size + 2, 2, none⟩ (.int .i64 z)) n a b l p z :=
  ⟨h.below.setCell (by dsimp only; omega) _, h.box.other (p := ⟨w.heap.size + 2, 2, none⟩) (by dsimp only; omega) _, h.res.other (p := ⟨w.heap.size + 2, 2, none⟩) (by dsimp only; omega) _, h.out.set 2 _⟩
def tab8 (w : World) : World := w.alloc (.cells #[.int .i64 4, .int .i64 1, .int .i64 0, .int .i64 0, .int .i64 3, .int .i64 2, .int .i64 0, .int .i64 2] 3)
theorem NexJ.tab {w w2 : World} {n a b l p q : Int} (h : NexJ w w2 n a b l p q) : NexJ w (tab8 w2) n a b l p q := h.call ((Below.refl _ _).alloc (Nat.le_refl _) _)
set_option linter.unusedSimpArgs false in
set_option linter.unusedVariables false in
set_option maxHeartbeats 16000000 in
set_option maxRecDepth 100000 in
theorem nextO_core (r : Nat) (n a b l c f P Q : Int) (hr : r = 1 ∨ r = 2 ∨ r = 5 ∨ r = 6) (hf : fromN r = f) (hP : a + oneN (decide (f ≤ c)) = P) (hQ : b + oneN (decide (c ≤ 0 - f)) = Q) (hn : 0 ≤ n ∧ n ≤ 15) (ha : 0 ≤ a ∧ a ≤ 15) (hb : 0 ≤ b ∧ b ≤ 15) (w : World) :
    Calls Try.prog 46 #[.int .i64 (r : Nat), .agg #[.int .i64 n, .int .i64 a, .int .i64 b, .int .i64 l], .int .i64 c] w fun e w' => e = .returned (.agg #[.int .i64 (n + 1), .int .i64 P, .int .i64 Q, .int .i64 0]) ∧ Below w.heap.size w w' := by
  have q3 : ((r : Int) == 3) = false := beq_false_of_ne (by omega)
  have q4 : ((r : Int) == 4) = false := beq_false_of_ne (by omega)
  have q7 : ((r : Int) == 7) = false := beq_false_of_ne (by omega)
  have q8 : ((r : Int) == 8) = false := beq_false_of_ne (by omega)
  have hfb : 0 ≤ f ∧ f ≤ 4 := by
    rw [← hf]
    rcases hr with rfl | rfl | rfl | rfl <;> decide
  have w1 : IntKind.i64.wrap (a + oneN (decide (f ≤ c))) = P := by rw [← hP]; have := oneN_bounds (decide (f ≤ c)); exact wrap_int (by unfold IsInt; omega)
  have w0 : IntKind.i64.wrap (-f) = 0 - f := by rw [wrap_int (by unfold IsInt; omega)]; omega
  have w3 : IntKind.i64.wrap (b + oneN (decide (c ≤ IntKind.i64.wrap (-f)))) = Q := by rw [w0, ← hQ]; have := oneN_bounds (decide (c ≤ 0 - f)); exact wrap_int (by unfold IsInt; omega)
  have W1 := Lib.hid w1; have W3 := Lib.hid w3
  have HF := Lib.hid hf; have HP := Lib.hid hP; have HQ := Lib.hid hQ; have HR0 := Lib.hid hr; have HFB := Lib.hid hfb
  clear w0 w1 w3 hf hP hQ hr hfb ha hb
  have e1 : wrap64 (n + 1) = n + 1 := by unfold wrap64; omega
  obtain ⟨w2, hw2⟩ : ∃ w2, (((w.alloc (.cells #[.int .i64 n, .int .i64 a, .int .i64 b, .int .i64 l] 64)).alloc (.cells #[.int .i64 0, .int .i64 0, .int .i64 0, .int .i64 0] 64)).alloc (.cells #[.int .i64 (n + 1), .int .i64 a, .int .i64 b, .int .i64 0] 64)) = w2 := ⟨_, rfl⟩
  have hi : NexI w w2 n a b l 0 := by rw [← hw2]; exact nexI w n a b l 0
  have HI := Lib.hid hi.j
  have HW2 := Lib.hid hw2
  clear hw2 hi
  go_enter Try.func46, Try.ntmps46
  go_upto_region 2 with fail
  rw [HW2.out]
  go_upto_region 11 with fail
  go_cut [10] (fun s10 wx => s10 = .int .i64 f ∧ Hid (NexJ w wx n a b l a b))
  case first =>
    have HT := Lib.hid HI.out.tab
    rcases HR0.out with rfl | rfl | rfl | rfl
    all_goals
      go_wp2_with fail
      go_meet
      exact ⟨by rw [← HF.out]; rfl, HT⟩
  case rest =>
    obtain ⟨rfl, HI3⟩ := hcut
    obtain ⟨w5, hw5⟩ : ∃ w5 : World, w5 = wc := ⟨_, rfl⟩
    rw [← hw5] at HI3 ⊢
    clear hw5
    go_upto_region 18 with fail
    go_cut [] (fun wx => Hid (NexJ w wx n a b l P b))
    case first =>
      have HJ := Lib.hid HI3.out.drew
      refine wp_region_held_drew (S := (fun W => W.cell? ⟨w.heap.size, 0, none⟩ = some (.int .i64 n) ∧ W.cell? ⟨w.heap.size, 1, none⟩ = some (.int .i64 a) ∧ W.cell? ⟨w.heap.size, 2, none⟩ = some (.int .i64 b) ∧ W.cell? ⟨w.heap.size, 3, none⟩ = some (.int .i64 l))) (by kernel_rfl) ⟨HJ.out.box.cell 0, HJ.out.box.cell 1, HJ.out.box.cell 2, HJ.out.box.cell 3⟩ (fun hHeld => ?_)
      refine regTake 0 (some 115) (v := ?_) rfl rfl (by kernel_rfl) (by kernel_rfl) (by kernel_rfl) (fun _ _ _ h => h) (by rfl) hHeld ?_ ?_
      rotate_left 1
      · (intro w hSw; (try dsimp only at hSw); go_simp; try with_reducible rfl)
      simp only [Act.put, List.setIfInBounds_toArray, List.set_cons_zero, List.set_cons_succ]
      refine regTake 1 (some 116) (v := ?_) rfl rfl (by kernel_rfl) (by kernel_rfl) (by kernel_rfl) (fun _ _ _ h => h) (by rfl) hHeld ?_ ?_
      rotate_left 1
      · (intro w hSw; (try dsimp only at hSw); go_simp; try with_reducible rfl)
      simp only [Act.put, List.setIfInBounds_toArray, List.set_cons_zero, List.set_cons_succ]
      refine regTake 2 (some 117) (v := ?_) rfl rfl (by kernel_rfl) (by kernel_rfl) (by kernel_rfl) (fun _ _ _ h => h) (by rfl) hHeld ?_ ?_
      rotate_left 1
      · (intro w hSw; (try dsimp only at hSw); go_simp; try with_reducible rfl)
      simp only [Act.put, List.setIfInBounds_toArray, List.set_cons_zero, List.set_cons_succ]
      refine regTake 3 (some 118) (v := ?_) rfl rfl (by kernel_rfl) (by kernel_rfl) (by kernel_rfl) (fun _ _ _ h => h) (by rfl) hHeld ?_ ?_
      rotate_left 1
      · (intro w hSw; (try dsimp only at hSw); go_simp; try with_reducible rfl)
      simp only [Act.put, List.setIfInBounds_toArray, List.set_cons_zero, List.set_cons_succ]
      refine regTake 4 (some 119) (v := ?_) rfl rfl (by kernel_rfl) (by kernel_rfl) (by kernel_rfl) (fun _ _ _ h => h) (by rfl) hHeld ?_ ?_
      rotate_left 1
      · (intro w hSw; (try dsimp only at hSw); go_simp; try with_reducible rfl)
      simp only [Act.put, List.setIfInBounds_toArray, List.set_cons_zero, List.set_cons_succ]
      refine regCall 5 (some 120) (f := 55) (args := ?_) rfl rfl (by kernel_rfl) (by rfl) ?_ ?_
      rotate_left 1
      · (go_simp; try with_reducible rfl)
      refine (one14_any _ _).mono ?_
      rintro e wx5 ⟨rfl, rfl⟩
      refine ⟨_, rfl, hHeld, fun hHeld => ?_⟩
      simp only [Act.put, List.setIfInBounds_toArray, List.set_cons_zero, List.set_cons_succ]
      refine regTake 6 (some 121) (v := ?_) rfl rfl (by kernel_rfl) (by kernel_rfl) (by kernel_rfl) (fun _ _ _ h => h) (by rfl) hHeld ?_ ?_
      rotate_left 1
      · (intro w hSw; (try dsimp only at hSw); go_simp; try with_reducible rfl)
      simp only [Act.put, List.setIfInBounds_toArray, List.set_cons_zero, List.set_cons_succ]
      refine regTake 7 (some 122) (v := ?_) rfl rfl (by kernel_rfl) (by kernel_rfl) (by kernel_rfl) (fun _ _ _ h => h) (by rfl) hHeld ?_ ?_
      rotate_left 1
      · (intro w hSw; (try dsimp only at hSw); go_simp; try with_reducible rfl)
      simp only [Act.put, List.setIfInBounds_toArray, List.set_cons_zero, List.set_cons_succ]
      have x1 := HJ.out.out.cell 1
      have y1 := HJ.out.out.frozen 1
      have z1 := HJ.out.out.lt
      refine regStore 8 (w' := ?_) rfl rfl (by kernel_rfl) (by rfl) ?_ ?_ (fun hHeld => ?_)
      rotate_left 1
      · (go_simp; try with_reducible rfl)
      · exact ⟨(HJ.out.put1 _).box.cell 0, (HJ.out.put1 _).box.cell 1, (HJ.out.put1 _).box.cell 2, (HJ.out.put1 _).box.cell 3⟩
      refine wpAnyH_done (by kernel_rfl) ?_ _
      clear hHeld x1 y1 z1
      go_wp2_with fail
      go_meet
      rw [W1.out]
      exact Lib.hid (HJ.out.put1 _)
    case rest =>
      have HI4 := hcut
      clear hcut
      obtain ⟨wn18, hwn18⟩ : ∃ wn : World, wn = wc := ⟨_, rfl⟩
      rw [← hwn18] at HI4 ⊢
      clear hwn18
      go_upto_region 19 with fail
      go_cut [] (fun wx => Hid (NexJ w wx n a b l P Q))
      case first =>
        have HJ := Lib.hid HI4.out.drew
        refine wp_region_held_drew (S := (fun W => W.cell? ⟨w.heap.size, 0, none⟩ = some (.int .i64 n) ∧ W.cell? ⟨w.heap.size, 1, none⟩ = some (.int .i64 a) ∧ W.cell? ⟨w.heap.size, 2, none⟩ = some (.int .i64 b) ∧ W.cell? ⟨w.heap.size, 3, none⟩ = some (.int .i64 l))) (by kernel_rfl) ⟨HJ.out.box.cell 0, HJ.out.box.cell 1, HJ.out.box.cell 2, HJ.out.box.cell 3⟩ (fun hHeld => ?_)
        refine regTake 0 (some 123) (v := ?_) rfl rfl (by kernel_rfl) (by kernel_rfl) (by kernel_rfl) (fun _ _ _ h => h) (by rfl) hHeld ?_ ?_
        rotate_left 1
        · (intro w hSw; (try dsimp only at hSw); go_simp; try with_reducible rfl)
        simp only [Act.put, List.setIfInBounds_toArray, List.set_cons_zero, List.set_cons_succ]
        refine regTake 1 (some 124) (v := ?_) rfl rfl (by kernel_rfl) (by kernel_rfl) (by kernel_rfl) (fun _ _ _ h => h) (by rfl) hHeld ?_ ?_
        rotate_left 1
        · (intro w hSw; (try dsimp only at hSw); go_simp; try with_reducible rfl)
        simp only [Act.put, List.setIfInBounds_toArray, List.set_cons_zero, List.set_cons_succ]
        refine regTake 2 (some 125) (v := ?_) rfl rfl (by kernel_rfl) (by kernel_rfl) (by kernel_rfl) (fun _ _ _ h => h) (by rfl) hHeld ?_ ?_
        rotate_left 1
        · (intro w hSw; (try dsimp only at hSw); go_simp; try with_reducible rfl)
        simp only [Act.put, List.setIfInBounds_toArray, List.set_cons_zero, List.set_cons_succ]
        refine regTake 3 (some 126) (v := ?_) rfl rfl (by kernel_rfl) (by kernel_rfl) (by kernel_rfl) (fun _ _ _ h => h) (by rfl) hHeld ?_ ?_
        rotate_left 1
        · (intro w hSw; (try dsimp only at hSw); go_simp; try with_reducible rfl)
        simp only [Act.put, List.setIfInBounds_toArray, List.set_cons_zero, List.set_cons_succ]
        refine regTake 4 (some 127) (v := ?_) rfl rfl (by kernel_rfl) (by kernel_rfl) (by kernel_rfl) (fun _ _ _ h => h) (by rfl) hHeld ?_ ?_
        rotate_left 1
        · (intro w hSw; (try dsimp only at hSw); go_simp; try with_reducible rfl)
        simp only [Act.put, List.setIfInBounds_toArray, List.set_cons_zero, List.set_cons_succ]
        refine regTake 5 (some 128) (v := ?_) rfl rfl (by kernel_rfl) (by kernel_rfl) (by kernel_rfl) (fun _ _ _ h => h) (by rfl) hHeld ?_ ?_
        rotate_left 1
        · (intro w hSw; (try dsimp only at hSw); go_simp; try with_reducible rfl)
        simp only [Act.put, List.setIfInBounds_toArray, List.set_cons_zero, List.set_cons_succ]
        refine regCall 6 (some 129) (f := 55) (args := ?_) rfl rfl (by kernel_rfl) (by rfl) ?_ ?_
        rotate_left 1
        · (go_simp; try with_reducible rfl)
        refine (one14_any _ _).mono ?_
        rintro e wx6 ⟨rfl, rfl⟩
        refine ⟨_, rfl, hHeld, fun hHeld => ?_⟩
        simp only [Act.put, List.setIfInBounds_toArray, List.set_cons_zero, List.set_cons_succ]
        refine regTake 7 (some 130) (v := ?_) rfl rfl (by kernel_rfl) (by kernel_rfl) (by kernel_rfl) (fun _ _ _ h => h) (by rfl) hHeld ?_ ?_
        rotate_left 1
        · (intro w hSw; (try dsimp only at hSw); go_simp; try with_reducible rfl)
        simp only [Act.put, List.setIfInBounds_toArray, List.set_cons_zero, List.set_cons_succ]
        refine regTake 8 (some 131) (v := ?_) rfl rfl (by kernel_rfl) (by kernel_rfl) (by kernel_rfl) (fun _ _ _ h => h) (by rfl) hHeld ?_ ?_
        rotate_left 1
        · (intro w hSw; (try dsimp only at hSw); go_simp; try with_reducible rfl)
        simp only [Act.put, List.setIfInBounds_toArray, List.set_cons_zero, List.set_cons_succ]
        have x1 := HJ.out.out.cell 2
        have y1 := HJ.out.out.frozen 2
        have z1 := HJ.out.out.lt
        refine regStore 9 (w' := ?_) rfl rfl (by kernel_rfl) (by rfl) ?_ ?_ (fun hHeld => ?_)
        rotate_left 1
        · (go_simp; try with_reducible rfl)
        · exact ⟨(HJ.out.put2 _).box.cell 0, (HJ.out.put2 _).box.cell 1, (HJ.out.put2 _).box.cell 2, (HJ.out.put2 _).box.cell 3⟩
        refine wpAnyH_done (by kernel_rfl) ?_ _
        clear hHeld x1 y1 z1
        go_wp2_with fail
        go_meet
        rw [W3.out]
        exact Lib.hid (HJ.out.put2 _)
      case rest =>
        have HI5 := hcut
        clear hcut
        obtain ⟨wn19, hwn19⟩ : ∃ wn : World, wn = wc := ⟨_, rfl⟩
        rw [← hwn19] at HI5 ⊢
        clear hwn19
        have c0 : wn19.cell? ⟨w.heap.size, 0, none⟩ = some (.int .i64 n) := HI5.out.box.cell 0
        have c1 : wn19.cell? ⟨w.heap.size, 1, none⟩ = some (.int .i64 a) := HI5.out.box.cell 1
        have c2 : wn19.cell? ⟨w.heap.size, 2, none⟩ = some (.int .i64 b) := HI5.out.box.cell 2
        have c3 : wn19.cell? ⟨w.heap.size, 3, none⟩ = some (.int .i64 l) := HI5.out.box.cell 3
        have d0 : wn19.cell? ⟨w.heap.size + 2, 0, none⟩ = some (.int .i64 (n + 1)) := HI5.out.out.cell 0
        have f0 := HI5.out.out.frozen 0
        have d1 : wn19.cell? ⟨w.heap.size + 2, 1, none⟩ = some (.int .i64 P) := HI5.out.out.cell 1
        have f1 := HI5.out.out.frozen 1
        have d2 : wn19.cell? ⟨w.heap.size + 2, 2, none⟩ = some (.int .i64 Q) := HI5.out.out.cell 2
        have f2 := HI5.out.out.frozen 2
        have d3 : wn19.cell? ⟨w.heap.size + 2, 3, none⟩ = some (.int .i64 0) := HI5.out.out.cell 3
        have f3 := HI5.out.out.frozen 3
        have z0 : wn19.cell? ⟨w.heap.size + 1, 0, none⟩ = some (.int .i64 0) := HI5.out.res.cell 0
        have y0 := HI5.out.res.frozen 0
        have z1 : wn19.cell? ⟨w.heap.size + 1, 1, none⟩ = some (.int .i64 0) := HI5.out.res.cell 1
        have y1 := HI5.out.res.frozen 1
        have z2 : wn19.cell? ⟨w.heap.size + 1, 2, none⟩ = some (.int .i64 0) := HI5.out.res.cell 2
        have y2 := HI5.out.res.frozen 2
        have z3 : wn19.cell? ⟨w.heap.size + 1, 3, none⟩ = some (.int .i64 0) := HI5.out.res.cell 3
        have y3 := HI5.out.res.frozen 3
        have l1 := HI5.out.res.lt
        have l0 := HI5.out.box.lt
        have l2 := HI5.out.out.lt
        have HR := Lib.hid (HI5.out.res.put4S (.int .i64 (n + 1)) (.int .i64 P) (.int .i64 Q) (.int .i64 0))
        have HB := Lib.hid (Below.put4S HI5.out.below (b := w.heap.size + 1) (by omega) (.int .i64 (n + 1)) (.int .i64 P) (.int .i64 Q) (.int .i64 0))
        go_wp2
        (try simp only [Exit.inBlock, Exit.then])
        exact bodyPost_ret (resCellS Try.results46 rfl (loadS HR.out)) rfl ⟨rfl, HB.out⟩
set_option linter.unusedSimpArgs false in
set_option linter.unusedVariables false in
set_option maxHeartbeats 16000000 in
set_option maxRecDepth 100000 in
theorem next7_core (n a b l c P : Int) (hP : a + oneN (decide (-1 ≤ c) && decide (c ≤ 1)) = P) (hn : 0 ≤ n ∧ n ≤ 15) (ha : 0 ≤ a ∧ a ≤ 15) (hb : 0 ≤ b ∧ b ≤ 15) (w : World) :
    Calls Try.prog 46 #[.int .i64 7, .agg #[.int .i64 n, .int .i64 a, .int .i64 b, .int .i64 l], .int .i64 c] w fun e w' => e = .returned (.agg #[.int .i64 (n + 1), .int .i64 P, .int .i64 b, .int .i64 0]) ∧ Below w.heap.size w w' := by
  have w1 : IntKind.i64.wrap P = P := by rw [← hP]; have := oneN_bounds (decide (-1 ≤ c) && decide (c ≤ 1)); exact wrap_int (by unfold IsInt; omega)
  have W1 := Lib.hid w1
  clear w1 ha hb
  have e1 : wrap64 (n + 1) = n + 1 := by unfold wrap64; omega
  obtain ⟨w2, hw2⟩ : ∃ w2, (((w.alloc (.cells #[.int .i64 n, .int .i64 a, .int .i64 b, .int .i64 l] 64)).alloc (.cells #[.int .i64 0, .int .i64 0, .int .i64 0, .int .i64 0] 64)).alloc (.cells #[.int .i64 (n + 1), .int .i64 a, .int .i64 b, .int .i64 0] 64)) = w2 := ⟨_, rfl⟩
  have hi : NexI w w2 n a b l 0 := by rw [← hw2]; exact nexI w n a b l 0
  have HI := Lib.hid hi.j
  have HW2 := Lib.hid hw2
  clear hw2 hi
  go_enter Try.func46, Try.ntmps46
  go_upto_region 2 with fail
  rw [HW2.out]
  go_upto_region 11 with fail
  go_cut [10] (fun s10 wx => Hid (NexJ w wx n a b l a b))
  case first =>
    have HT := Lib.hid HI.out.tab
    go_wp2_with fail
    go_meet
    exact HT
  case rest =>
    have HI3 := hcut
    clear hcut
    obtain ⟨w5, hw5⟩ : ∃ w5 : World, w5 = wc := ⟨_, rfl⟩
    rw [← hw5] at HI3 ⊢
    clear hw5
    go_upto_region 13 with fail
    go_cut [] (fun wx => Hid (NexJ w wx n a b l P b))
    case first =>
      by_cases g1 : -1 ≤ c
      · by_cases g2 : c ≤ 1
        · skip
          have hv : a + oneN true = P := by rw [← hP]; rw [decide_eq_true g1, decide_eq_true g2]; rfl
          have HV := Lib.hid (show IntKind.i64.wrap (a + oneN true) = P by rw [hv]; exact W1.out)
          clear hv hP
          have HJ := Lib.hid HI3.out.drew
          refine wp_region_held_drew (S := (fun W => W.cell? ⟨w.heap.size, 0, none⟩ = some (.int .i64 n) ∧ W.cell? ⟨w.heap.size, 1, none⟩ = some (.int .i64 a) ∧ W.cell? ⟨w.heap.size, 2, none⟩ = some (.int .i64 b) ∧ W.cell? ⟨w.heap.size, 3, none⟩ = some (.int .i64 l))) (by kernel_rfl) ⟨HJ.out.box.cell 0, HJ.out.box.cell 1, HJ.out.box.cell 2, HJ.out.box.cell 3⟩ (fun hHeld => ?_)
          refine regTake 0 (some 89) (v := ?_) rfl rfl (by kernel_rfl) (by kernel_rfl) (by kernel_rfl) (fun _ _ _ h => h) (by rfl) hHeld ?_ ?_
          rotate_left 1
          · (intro w hSw; (try dsimp only at hSw); go_simp; try with_reducible rfl)
          simp only [Act.put, List.setIfInBounds_toArray, List.set_cons_zero, List.set_cons_succ]
          refine regTake 1 (some 90) (v := ?_) rfl rfl (by kernel_rfl) (by kernel_rfl) (by kernel_rfl) (fun _ _ _ h => h) (by rfl) hHeld ?_ ?_
          rotate_left 1
          · (intro w hSw; (try dsimp only at hSw); go_simp; try with_reducible rfl)
          simp only [Act.put, List.setIfInBounds_toArray, List.set_cons_zero, List.set_cons_succ]
          refine regTake 2 (some 91) (v := ?_) rfl rfl (by kernel_rfl) (by kernel_rfl) (by kernel_rfl) (fun _ _ _ h => h) (by rfl) hHeld ?_ ?_
          rotate_left 1
          · (intro w hSw; (try dsimp only at hSw); go_simp; try with_reducible rfl)
          simp only [Act.put, List.setIfInBounds_toArray, List.set_cons_zero, List.set_cons_succ]
          refine regTake 3 (some 92) (v := .bool true) rfl rfl (by kernel_rfl) (by kernel_rfl) (by kernel_rfl) (fun _ _ _ h => h) (by rfl) hHeld ?_ ?_
          · (intro w hSw; (try dsimp only at hSw); go_simp; try with_reducible rfl)
          simp only [Act.put, List.setIfInBounds_toArray, List.set_cons_zero, List.set_cons_succ]
          refine regTake 4 (some 93) (v := ?_) rfl rfl (by kernel_rfl) (by kernel_rfl) (by kernel_rfl) (fun _ _ _ h => h) (by rfl) hHeld ?_ ?_
          rotate_left 1
          · (intro w hSw; (try dsimp only at hSw); go_simp; try with_reducible rfl)
          simp only [Act.put, List.setIfInBounds_toArray, List.set_cons_zero, List.set_cons_succ]
          refine regTake 5 (some 94) (v := ?_) rfl rfl (by kernel_rfl) (by kernel_rfl) (by kernel_rfl) (fun _ _ _ h => h) (by rfl) hHeld ?_ ?_
          rotate_left 1
          · (intro w hSw; (try dsimp only at hSw); go_simp; try with_reducible rfl)
          simp only [Act.put, List.setIfInBounds_toArray, List.set_cons_zero, List.set_cons_succ]
          refine regTake 6 (some 95) (v := .bool true) rfl rfl (by kernel_rfl) (by kernel_rfl) (by kernel_rfl) (fun _ _ _ h => h) (by rfl) hHeld ?_ ?_
          · (intro w hSw; (try dsimp only at hSw); go_simp; try with_reducible rfl)
          simp only [Act.put, List.setIfInBounds_toArray, List.set_cons_zero, List.set_cons_succ]
          refine regTake 7 (some 96) (v := ?_) rfl rfl (by kernel_rfl) (by kernel_rfl) (by kernel_rfl) (fun _ _ _ h => h) (by rfl) hHeld ?_ ?_
          rotate_left 1
          · (intro w hSw; (try dsimp only at hSw); go_simp; try with_reducible rfl)
          simp only [Act.put, List.setIfInBounds_toArray, List.set_cons_zero, List.set_cons_succ]
          refine regCall 8 (some 97) (f := 55) (args := ?_) rfl rfl (by kernel_rfl) (by rfl) ?_ ?_
          rotate_left 1
          · (go_simp; try with_reducible rfl)
          refine (one14_any true _).mono ?_
          rintro e wx8 ⟨rfl, rfl⟩
          refine ⟨_, rfl, hHeld, fun hHeld => ?_⟩
          simp only [Act.put, List.setIfInBounds_toArray, List.set_cons_zero, List.set_cons_succ]
          refine regTake 9 (some 98) (v := ?_) rfl rfl (by kernel_rfl) (by kernel_rfl) (by kernel_rfl) (fun _ _ _ h => h) (by rfl) hHeld ?_ ?_
          rotate_left 1
          · (intro w hSw; (try dsimp only at hSw); go_simp; try with_reducible rfl)
          simp only [Act.put, List.setIfInBounds_toArray, List.set_cons_zero, List.set_cons_succ]
          refine regTake 10 (some 99) (v := ?_) rfl rfl (by kernel_rfl) (by kernel_rfl) (by kernel_rfl) (fun _ _ _ h => h) (by rfl) hHeld ?_ ?_
          rotate_left 1
          · (intro w hSw; (try dsimp only at hSw); go_simp; try with_reducible rfl)
          simp only [Act.put, List.setIfInBounds_toArray, List.set_cons_zero, List.set_cons_succ]
          have x1 := HJ.out.out.cell 1
          have y1 := HJ.out.out.frozen 1
          have z1 := HJ.out.out.lt
          refine regStore 11 (w' := ?_) rfl rfl (by kernel_rfl) (by rfl) ?_ ?_ (fun hHeld => ?_)
          rotate_left 1
          · (go_simp; try with_reducible rfl)
          · exact ⟨(HJ.out.put1 _).box.cell 0, (HJ.out.put1 _).box.cell 1, (HJ.out.put1 _).box.cell 2, (HJ.out.put1 _).box.cell 3⟩
          refine wpAnyH_done (by kernel_rfl) ?_ _
          clear hHeld x1 y1 z1
          go_wp2_with fail
          go_meet
          rw [HV.out]
          exact Lib.hid (HJ.out.put1 _)
        · skip
          have hv : a + oneN false = P := by rw [← hP]; rw [decide_eq_true g1, decide_eq_false g2]; rfl
          have HV := Lib.hid (show IntKind.i64.wrap (a + oneN false) = P by rw [hv]; exact W1.out)
          clear hv hP
          have HJ := Lib.hid HI3.out.drew
          refine wp_region_held_drew (S := (fun W => W.cell? ⟨w.heap.size, 0, none⟩ = some (.int .i64 n) ∧ W.cell? ⟨w.heap.size, 1, none⟩ = some (.int .i64 a) ∧ W.cell? ⟨w.heap.size, 2, none⟩ = some (.int .i64 b) ∧ W.cell? ⟨w.heap.size, 3, none⟩ = some (.int .i64 l))) (by kernel_rfl) ⟨HJ.out.box.cell 0, HJ.out.box.cell 1, HJ.out.box.cell 2, HJ.out.box.cell 3⟩ (fun hHeld => ?_)
          refine regTake 0 (some 89) (v := ?_) rfl rfl (by kernel_rfl) (by kernel_rfl) (by kernel_rfl) (fun _ _ _ h => h) (by rfl) hHeld ?_ ?_
          rotate_left 1
          · (intro w hSw; (try dsimp only at hSw); go_simp; try with_reducible rfl)
          simp only [Act.put, List.setIfInBounds_toArray, List.set_cons_zero, List.set_cons_succ]
          refine regTake 1 (some 90) (v := ?_) rfl rfl (by kernel_rfl) (by kernel_rfl) (by kernel_rfl) (fun _ _ _ h => h) (by rfl) hHeld ?_ ?_
          rotate_left 1
          · (intro w hSw; (try dsimp only at hSw); go_simp; try with_reducible rfl)
          simp only [Act.put, List.setIfInBounds_toArray, List.set_cons_zero, List.set_cons_succ]
          refine regTake 2 (some 91) (v := ?_) rfl rfl (by kernel_rfl) (by kernel_rfl) (by kernel_rfl) (fun _ _ _ h => h) (by rfl) hHeld ?_ ?_
          rotate_left 1
          · (intro w hSw; (try dsimp only at hSw); go_simp; try with_reducible rfl)
          simp only [Act.put, List.setIfInBounds_toArray, List.set_cons_zero, List.set_cons_succ]
          refine regTake 3 (some 92) (v := .bool true) rfl rfl (by kernel_rfl) (by kernel_rfl) (by kernel_rfl) (fun _ _ _ h => h) (by rfl) hHeld ?_ ?_
          · (intro w hSw; (try dsimp only at hSw); go_simp; try with_reducible rfl)
          simp only [Act.put, List.setIfInBounds_toArray, List.set_cons_zero, List.set_cons_succ]
          refine regTake 4 (some 93) (v := ?_) rfl rfl (by kernel_rfl) (by kernel_rfl) (by kernel_rfl) (fun _ _ _ h => h) (by rfl) hHeld ?_ ?_
          rotate_left 1
          · (intro w hSw; (try dsimp only at hSw); go_simp; try with_reducible rfl)
          simp only [Act.put, List.setIfInBounds_toArray, List.set_cons_zero, List.set_cons_succ]
          refine regTake 5 (some 94) (v := ?_) rfl rfl (by kernel_rfl) (by kernel_rfl) (by kernel_rfl) (fun _ _ _ h => h) (by rfl) hHeld ?_ ?_
          rotate_left 1
          · (intro w hSw; (try dsimp only at hSw); go_simp; try with_reducible rfl)
          simp only [Act.put, List.setIfInBounds_toArray, List.set_cons_zero, List.set_cons_succ]
          refine regTake 6 (some 95) (v := .bool false) rfl rfl (by kernel_rfl) (by kernel_rfl) (by kernel_rfl) (fun _ _ _ h => h) (by rfl) hHeld ?_ ?_
          · (intro w hSw; (try dsimp only at hSw); go_simp; try with_reducible rfl)
          simp only [Act.put, List.setIfInBounds_toArray, List.set_cons_zero, List.set_cons_succ]
          refine regTake 7 (some 96) (v := ?_) rfl rfl (by kernel_rfl) (by kernel_rfl) (by kernel_rfl) (fun _ _ _ h => h) (by rfl) hHeld ?_ ?_
          rotate_left 1
          · (intro w hSw; (try dsimp only at hSw); go_simp; try with_reducible rfl)
          simp only [Act.put, List.setIfInBounds_toArray, List.set_cons_zero, List.set_cons_succ]
          refine regCall 8 (some 97) (f := 55) (args := ?_) rfl rfl (by kernel_rfl) (by rfl) ?_ ?_
          rotate_left 1
          · (go_simp; try with_reducible rfl)
          refine (one14_any false _).mono ?_
          rintro e wx8 ⟨rfl, rfl⟩
          refine ⟨_, rfl, hHeld, fun hHeld => ?_⟩
          simp only [Act.put, List.setIfInBounds_toArray, List.set_cons_zero, List.set_cons_succ]
          refine regTake 9 (some 98) (v := ?_) rfl rfl (by kernel_rfl) (by kernel_rfl) (by kernel_rfl) (fun _ _ _ h => h) (by rfl) hHeld ?_ ?_
          rotate_left 1
          · (intro w hSw; (try dsimp only at hSw); go_simp; try with_reducible rfl)
          simp only [Act.put, List.setIfInBounds_toArray, List.set_cons_zero, List.set_cons_succ]
          refine regTake 10 (some 99) (v := ?_) rfl rfl (by kernel_rfl) (by kernel_rfl) (by kernel_rfl) (fun _ _ _ h => h) (by rfl) hHeld ?_ ?_
          rotate_left 1
          · (intro w hSw; (try dsimp only at hSw); go_simp; try with_reducible rfl)
          simp only [Act.put, List.setIfInBounds_toArray, List.set_cons_zero, List.set_cons_succ]
          have x1 := HJ.out.out.cell 1
          have y1 := HJ.out.out.frozen 1
          have z1 := HJ.out.out.lt
          refine regStore 11 (w' := ?_) rfl rfl (by kernel_rfl) (by rfl) ?_ ?_ (fun hHeld => ?_)
          rotate_left 1
          · (go_simp; try with_reducible rfl)
          · exact ⟨(HJ.out.put1 _).box.cell 0, (HJ.out.put1 _).box.cell 1, (HJ.out.put1 _).box.cell 2, (HJ.out.put1 _).box.cell 3⟩
          refine wpAnyH_done (by kernel_rfl) ?_ _
          clear hHeld x1 y1 z1
          go_wp2_with fail
          go_meet
          rw [HV.out]
          exact Lib.hid (HJ.out.put1 _)
      · skip
        have hv : a + oneN false = P := by rw [← hP]; rw [decide_eq_false g1]; rfl
        have HV := Lib.hid (show IntKind.i64.wrap (a + oneN false) = P by rw [hv]; exact W1.out)
        clear hv hP
        have HJ := Lib.hid HI3.out.drew
        refine wp_region_held_drew (S := (fun W => W.cell? ⟨w.heap.size, 0, none⟩ = some (.int .i64 n) ∧ W.cell? ⟨w.heap.size, 1, none⟩ = some (.int .i64 a) ∧ W.cell? ⟨w.heap.size, 2, none⟩ = some (.int .i64 b) ∧ W.cell? ⟨w.heap.size, 3, none⟩ = some (.int .i64 l))) (by kernel_rfl) ⟨HJ.out.box.cell 0, HJ.out.box.cell 1, HJ.out.box.cell 2, HJ.out.box.cell 3⟩ (fun hHeld => ?_)
        refine regTake 0 (some 89) (v := ?_) rfl rfl (by kernel_rfl) (by kernel_rfl) (by kernel_rfl) (fun _ _ _ h => h) (by rfl) hHeld ?_ ?_
        rotate_left 1
        · (intro w hSw; (try dsimp only at hSw); go_simp; try with_reducible rfl)
        simp only [Act.put, List.setIfInBounds_toArray, List.set_cons_zero, List.set_cons_succ]
        refine regTake 1 (some 90) (v := ?_) rfl rfl (by kernel_rfl) (by kernel_rfl) (by kernel_rfl) (fun _ _ _ h => h) (by rfl) hHeld ?_ ?_
        rotate_left 1
        · (intro w hSw; (try dsimp only at hSw); go_simp; try with_reducible rfl)
        simp only [Act.put, List.setIfInBounds_toArray, List.set_cons_zero, List.set_cons_succ]
        refine regTake 2 (some 91) (v := ?_) rfl rfl (by kernel_rfl) (by kernel_rfl) (by kernel_rfl) (fun _ _ _ h => h) (by rfl) hHeld ?_ ?_
        rotate_left 1
        · (intro w hSw; (try dsimp only at hSw); go_simp; try with_reducible rfl)
        simp only [Act.put, List.setIfInBounds_toArray, List.set_cons_zero, List.set_cons_succ]
        refine regTake 3 (some 92) (v := .bool false) rfl rfl (by kernel_rfl) (by kernel_rfl) (by kernel_rfl) (fun _ _ _ h => h) (by rfl) hHeld ?_ ?_
        · (intro w hSw; (try dsimp only at hSw); go_simp; try with_reducible rfl)
        simp only [Act.put, List.setIfInBounds_toArray, List.set_cons_zero, List.set_cons_succ]
        refine regTake 4 (some 93) (v := ?_) rfl rfl (by kernel_rfl) (by kernel_rfl) (by kernel_rfl) (fun _ _ _ h => h) (by rfl) hHeld ?_ ?_
        rotate_left 1
        · (intro w hSw; (try dsimp only at hSw); go_simp; try with_reducible rfl)
        simp only [Act.put, List.setIfInBounds_toArray, List.set_cons_zero, List.set_cons_succ]
        refine regSkip 5 (some 94) rfl rfl (by kernel_rfl) (by kernel_rfl) (by kernel_rfl) (fun _ _ _ h => h) (by rfl) hHeld ?_
        simp only [Act.put, List.setIfInBounds_toArray, List.set_cons_zero, List.set_cons_succ]
        refine regSkip 6 (some 95) rfl rfl (by kernel_rfl) (by kernel_rfl) (by kernel_rfl) (fun _ _ _ h => h) (by rfl) hHeld ?_
        simp only [Act.put, List.setIfInBounds_toArray, List.set_cons_zero, List.set_cons_succ]
        refine regTake 7 (some 96) (v := ?_) rfl rfl (by kernel_rfl) (by kernel_rfl) (by kernel_rfl) (fun _ _ _ h => h) (by rfl) hHeld ?_ ?_
        rotate_left 1
        · (intro w hSw; (try dsimp only at hSw); go_simp; try with_reducible rfl)
        simp only [Act.put, List.setIfInBounds_toArray, List.set_cons_zero, List.set_cons_succ]
        refine regCall 8 (some 97) (f := 55) (args := ?_) rfl rfl (by kernel_rfl) (by rfl) ?_ ?_
        rotate_left 1
        · (go_simp; try with_reducible rfl)
        refine (one14_any false _).mono ?_
        rintro e wx8 ⟨rfl, rfl⟩
        refine ⟨_, rfl, hHeld, fun hHeld => ?_⟩
        simp only [Act.put, List.setIfInBounds_toArray, List.set_cons_zero, List.set_cons_succ]
        refine regTake 9 (some 98) (v := ?_) rfl rfl (by kernel_rfl) (by kernel_rfl) (by kernel_rfl) (fun _ _ _ h => h) (by rfl) hHeld ?_ ?_
        rotate_left 1
        · (intro w hSw; (try dsimp only at hSw); go_simp; try with_reducible rfl)
        simp only [Act.put, List.setIfInBounds_toArray, List.set_cons_zero, List.set_cons_succ]
        refine regTake 10 (some 99) (v := ?_) rfl rfl (by kernel_rfl) (by kernel_rfl) (by kernel_rfl) (fun _ _ _ h => h) (by rfl) hHeld ?_ ?_
        rotate_left 1
        · (intro w hSw; (try dsimp only at hSw); go_simp; try with_reducible rfl)
        simp only [Act.put, List.setIfInBounds_toArray, List.set_cons_zero, List.set_cons_succ]
        have x1 := HJ.out.out.cell 1
        have y1 := HJ.out.out.frozen 1
        have z1 := HJ.out.out.lt
        refine regStore 11 (w' := ?_) rfl rfl (by kernel_rfl) (by rfl) ?_ ?_ (fun hHeld => ?_)
        rotate_left 1
        · (go_simp; try with_reducible rfl)
        · exact ⟨(HJ.out.put1 _).box.cell 0, (HJ.out.put1 _).box.cell 1, (HJ.out.put1 _).box.cell 2, (HJ.out.put1 _).box.cell 3⟩
        refine wpAnyH_done (by kernel_rfl) ?_ _
        clear hHeld x1 y1 z1
        go_wp2_with fail
        go_meet
        rw [HV.out]
        exact Lib.hid (HJ.out.put1 _)
    case rest =>
      have HI4 := hcut
      clear hcut
      obtain ⟨wn13, hwn13⟩ : ∃ wn : World, wn = wc := ⟨_, rfl⟩
      rw [← hwn13] at HI4 ⊢
      clear hwn13
      have c0 : wn13.cell? ⟨w.heap.size, 0, none⟩ = some (.int .i64 n) := HI4.out.box.cell 0
      have c1 : wn13.cell? ⟨w.heap.size, 1, none⟩ = some (.int .i64 a) := HI4.out.box.cell 1
      have c2 : wn13.cell? ⟨w.heap.size, 2, none⟩ = some (.int .i64 b) := HI4.out.box.cell 2
      have c3 : wn13.cell? ⟨w.heap.size, 3, none⟩ = some (.int .i64 l) := HI4.out.box.cell 3
      have d0 : wn13.cell? ⟨w.heap.size + 2, 0, none⟩ = some (.int .i64 (n + 1)) := HI4.out.out.cell 0
      have f0 := HI4.out.out.frozen 0
      have d1 : wn13.cell? ⟨w.heap.size + 2, 1, none⟩ = some (.int .i64 P) := HI4.out.out.cell 1
      have f1 := HI4.out.out.frozen 1
      have d2 : wn13.cell? ⟨w.heap.size + 2, 2, none⟩ = some (.int .i64 b) := HI4.out.out.cell 2
      have f2 := HI4.out.out.frozen 2
      have d3 : wn13.cell? ⟨w.heap.size + 2, 3, none⟩ = some (.int .i64 0) := HI4.out.out.cell 3
      have f3 := HI4.out.out.frozen 3
      have z0 : wn13.cell? ⟨w.heap.size + 1, 0, none⟩ = some (.int .i64 0) := HI4.out.res.cell 0
      have y0 := HI4.out.res.frozen 0
      have z1 : wn13.cell? ⟨w.heap.size + 1, 1, none⟩ = some (.int .i64 0) := HI4.out.res.cell 1
      have y1 := HI4.out.res.frozen 1
      have z2 : wn13.cell? ⟨w.heap.size + 1, 2, none⟩ = some (.int .i64 0) := HI4.out.res.cell 2
      have y2 := HI4.out.res.frozen 2
      have z3 : wn13.cell? ⟨w.heap.size + 1, 3, none⟩ = some (.int .i64 0) := HI4.out.res.cell 3
      have y3 := HI4.out.res.frozen 3
      have l1 := HI4.out.res.lt
      have l0 := HI4.out.box.lt
      have l2 := HI4.out.out.lt
      have HR := Lib.hid (HI4.out.res.put4S (.int .i64 (n + 1)) (.int .i64 P) (.int .i64 b) (.int .i64 0))
      have HB := Lib.hid (Below.put4S HI4.out.below (b := w.heap.size + 1) (by omega) (.int .i64 (n + 1)) (.int .i64 P) (.int .i64 b) (.int .i64 0))
      go_wp2
      (try simp only [Exit.inBlock, Exit.then])
      exact bodyPost_ret (resCellS Try.results46 rfl (loadS HR.out)) rfl ⟨rfl, HB.out⟩
set_option linter.unusedSimpArgs false in
set_option linter.unusedVariables false in
set_option maxHeartbeats 16000000 in
set_option maxRecDepth 100000 in
theorem next8_core (n a b l c P : Int) (hP : a + oneN (decide (2 ≤ c) || decide (c ≤ -2)) = P) (hn : 0 ≤ n ∧ n ≤ 15) (ha : 0 ≤ a ∧ a ≤ 15) (hb : 0 ≤ b ∧ b ≤ 15) (w : World) :
    Calls Try.prog 46 #[.int .i64 8, .agg #[.int .i64 n, .int .i64 a, .int .i64 b, .int .i64 l], .int .i64 c] w fun e w' => e = .returned (.agg #[.int .i64 (n + 1), .int .i64 P, .int .i64 b, .int .i64 0]) ∧ Below w.heap.size w w' := by
  have w1 : IntKind.i64.wrap P = P := by rw [← hP]; have := oneN_bounds (decide (2 ≤ c) || decide (c ≤ -2)); exact wrap_int (by unfold IsInt; omega)
  have W1 := Lib.hid w1
  clear w1 ha hb
  have e1 : wrap64 (n + 1) = n + 1 := by unfold wrap64; omega
  obtain ⟨w2, hw2⟩ : ∃ w2, (((w.alloc (.cells #[.int .i64 n, .int .i64 a, .int .i64 b, .int .i64 l] 64)).alloc (.cells #[.int .i64 0, .int .i64 0, .int .i64 0, .int .i64 0] 64)).alloc (.cells #[.int .i64 (n + 1), .int .i64 a, .int .i64 b, .int .i64 0] 64)) = w2 := ⟨_, rfl⟩
  have hi : NexI w w2 n a b l 0 := by rw [← hw2]; exact nexI w n a b l 0
  have HI := Lib.hid hi.j
  have HW2 := Lib.hid hw2
  clear hw2 hi
  go_enter Try.func46, Try.ntmps46
  go_upto_region 2 with fail
  rw [HW2.out]
  go_upto_region 11 with fail
  go_cut [10] (fun s10 wx => Hid (NexJ w wx n a b l a b))
  case first =>
    have HT := Lib.hid HI.out.tab
    go_wp2_with fail
    go_meet
    exact HT
  case rest =>
    have HI3 := hcut
    clear hcut
    obtain ⟨w5, hw5⟩ : ∃ w5 : World, w5 = wc := ⟨_, rfl⟩
    rw [← hw5] at HI3 ⊢
    clear hw5
    go_upto_region 16 with fail
    go_cut [] (fun wx => Hid (NexJ w wx n a b l P b))
    case first =>
      by_cases g1 : 2 ≤ c
      · skip
        have hv : a + oneN true = P := by rw [← hP]; rw [decide_eq_true g1]; rfl
        have HV := Lib.hid (show IntKind.i64.wrap (a + oneN true) = P by rw [hv]; exact W1.out)
        clear hv hP
        have HJ := Lib.hid HI3.out.drew
        refine wp_region_held_drew (S := (fun W => W.cell? ⟨w.heap.size, 0, none⟩ = some (.int .i64 n) ∧ W.cell? ⟨w.heap.size, 1, none⟩ = some (.int .i64 a) ∧ W.cell? ⟨w.heap.size, 2, none⟩ = some (.int .i64 b) ∧ W.cell? ⟨w.heap.size, 3, none⟩ = some (.int .i64 l))) (by kernel_rfl) ⟨HJ.out.box.cell 0, HJ.out.box.cell 1, HJ.out.box.cell 2, HJ.out.box.cell 3⟩ (fun hHeld => ?_)
        refine regTake 0 (some 103) (v := ?_) rfl rfl (by kernel_rfl) (by kernel_rfl) (by kernel_rfl) (fun _ _ _ h => h) (by rfl) hHeld ?_ ?_
        rotate_left 1
        · (intro w hSw; (try dsimp only at hSw); go_simp; try with_reducible rfl)
        simp only [Act.put, List.setIfInBounds_toArray, List.set_cons_zero, List.set_cons_succ]
        refine regTake 1 (some 104) (v := ?_) rfl rfl (by kernel_rfl) (by kernel_rfl) (by kernel_rfl) (fun _ _ _ h => h) (by rfl) hHeld ?_ ?_
        rotate_left 1
        · (intro w hSw; (try dsimp only at hSw); go_simp; try with_reducible rfl)
        simp only [Act.put, List.setIfInBounds_toArray, List.set_cons_zero, List.set_cons_succ]
        refine regTake 2 (some 105) (v := ?_) rfl rfl (by kernel_rfl) (by kernel_rfl) (by kernel_rfl) (fun _ _ _ h => h) (by rfl) hHeld ?_ ?_
        rotate_left 1
        · (intro w hSw; (try dsimp only at hSw); go_simp; try with_reducible rfl)
        simp only [Act.put, List.setIfInBounds_toArray, List.set_cons_zero, List.set_cons_succ]
        refine regTake 3 (some 106) (v := .bool true) rfl rfl (by kernel_rfl) (by kernel_rfl) (by kernel_rfl) (fun _ _ _ h => h) (by rfl) hHeld ?_ ?_
        · (intro w hSw; (try dsimp only at hSw); go_simp; try with_reducible rfl)
        simp only [Act.put, List.setIfInBounds_toArray, List.set_cons_zero, List.set_cons_succ]
        refine regTake 4 (some 107) (v := ?_) rfl rfl (by kernel_rfl) (by kernel_rfl) (by kernel_rfl) (fun _ _ _ h => h) (by rfl) hHeld ?_ ?_
        rotate_left 1
        · (intro w hSw; (try dsimp only at hSw); go_simp; try with_reducible rfl)
        simp only [Act.put, List.setIfInBounds_toArray, List.set_cons_zero, List.set_cons_succ]
        refine regSkip 5 (some 108) rfl rfl (by kernel_rfl) (by kernel_rfl) (by kernel_rfl) (fun _ _ _ h => h) (by rfl) hHeld ?_
        simp only [Act.put, List.setIfInBounds_toArray, List.set_cons_zero, List.set_cons_succ]
        refine regSkip 6 (some 109) rfl rfl (by kernel_rfl) (by kernel_rfl) (by kernel_rfl) (fun _ _ _ h => h) (by rfl) hHeld ?_
        simp only [Act.put, List.setIfInBounds_toArray, List.set_cons_zero, List.set_cons_succ]
        refine regTake 7 (some 110) (v := ?_) rfl rfl (by kernel_rfl) (by kernel_rfl) (by kernel_rfl) (fun _ _ _ h => h) (by rfl) hHeld ?_ ?_
        rotate_left 1
        · (intro w hSw; (try dsimp only at hSw); go_simp; try with_reducible rfl)
        simp only [Act.put, List.setIfInBounds_toArray, List.set_cons_zero, List.set_cons_succ]
        refine regCall 8 (some 111) (f := 55) (args := ?_) rfl rfl (by kernel_rfl) (by rfl) ?_ ?_
        rotate_left 1
        · (go_simp; try with_reducible rfl)
        refine (one14_any true _).mono ?_
        rintro e wx8 ⟨rfl, rfl⟩
        refine ⟨_, rfl, hHeld, fun hHeld => ?_⟩
        simp only [Act.put, List.setIfInBounds_toArray, List.set_cons_zero, List.set_cons_succ]
        refine regTake 9 (some 112) (v := ?_) rfl rfl (by kernel_rfl) (by kernel_rfl) (by kernel_rfl) (fun _ _ _ h => h) (by rfl) hHeld ?_ ?_
        rotate_left 1
        · (intro w hSw; (try dsimp only at hSw); go_simp; try with_reducible rfl)
        simp only [Act.put, List.setIfInBounds_toArray, List.set_cons_zero, List.set_cons_succ]
        refine regTake 10 (some 113) (v := ?_) rfl rfl (by kernel_rfl) (by kernel_rfl) (by kernel_rfl) (fun _ _ _ h => h) (by rfl) hHeld ?_ ?_
        rotate_left 1
        · (intro w hSw; (try dsimp only at hSw); go_simp; try with_reducible rfl)
        simp only [Act.put, List.setIfInBounds_toArray, List.set_cons_zero, List.set_cons_succ]
        have x1 := HJ.out.out.cell 1
        have y1 := HJ.out.out.frozen 1
        have z1 := HJ.out.out.lt
        refine regStore 11 (w' := ?_) rfl rfl (by kernel_rfl) (by rfl) ?_ ?_ (fun hHeld => ?_)
        rotate_left 1
        · (go_simp; try with_reducible rfl)
        · exact ⟨(HJ.out.put1 _).box.cell 0, (HJ.out.put1 _).box.cell 1, (HJ.out.put1 _).box.cell 2, (HJ.out.put1 _).box.cell 3⟩
        refine wpAnyH_done (by kernel_rfl) ?_ _
        clear hHeld x1 y1 z1
        go_wp2_with fail
        go_meet
        rw [HV.out]
        exact Lib.hid (HJ.out.put1 _)
      · by_cases g2 : c ≤ -2
        · skip
          have hv : a + oneN true = P := by rw [← hP]; rw [decide_eq_false g1, decide_eq_true g2]; rfl
          have HV := Lib.hid (show IntKind.i64.wrap (a + oneN true) = P by rw [hv]; exact W1.out)
          clear hv hP
          have HJ := Lib.hid HI3.out.drew
          refine wp_region_held_drew (S := (fun W => W.cell? ⟨w.heap.size, 0, none⟩ = some (.int .i64 n) ∧ W.cell? ⟨w.heap.size, 1, none⟩ = some (.int .i64 a) ∧ W.cell? ⟨w.heap.size, 2, none⟩ = some (.int .i64 b) ∧ W.cell? ⟨w.heap.size, 3, none⟩ = some (.int .i64 l))) (by kernel_rfl) ⟨HJ.out.box.cell 0, HJ.out.box.cell 1, HJ.out.box.cell 2, HJ.out.box.cell 3⟩ (fun hHeld => ?_)
          refine regTake 0 (some 103) (v := ?_) rfl rfl (by kernel_rfl) (by kernel_rfl) (by kernel_rfl) (fun _ _ _ h => h) (by rfl) hHeld ?_ ?_
          rotate_left 1
          · (intro w hSw; (try dsimp only at hSw); go_simp; try with_reducible rfl)
          simp only [Act.put, List.setIfInBounds_toArray, List.set_cons_zero, List.set_cons_succ]
          refine regTake 1 (some 104) (v := ?_) rfl rfl (by kernel_rfl) (by kernel_rfl) (by kernel_rfl) (fun _ _ _ h => h) (by rfl) hHeld ?_ ?_
          rotate_left 1
          · (intro w hSw; (try dsimp only at hSw); go_simp; try with_reducible rfl)
          simp only [Act.put, List.setIfInBounds_toArray, List.set_cons_zero, List.set_cons_succ]
          refine regTake 2 (some 105) (v := ?_) rfl rfl (by kernel_rfl) (by kernel_rfl) (by kernel_rfl) (fun _ _ _ h => h) (by rfl) hHeld ?_ ?_
          rotate_left 1
          · (intro w hSw; (try dsimp only at hSw); go_simp; try with_reducible rfl)
          simp only [Act.put, List.setIfInBounds_toArray, List.set_cons_zero, List.set_cons_succ]
          refine regTake 3 (some 106) (v := .bool false) rfl rfl (by kernel_rfl) (by kernel_rfl) (by kernel_rfl) (fun _ _ _ h => h) (by rfl) hHeld ?_ ?_
          · (intro w hSw; (try dsimp only at hSw); go_simp; try with_reducible rfl)
          simp only [Act.put, List.setIfInBounds_toArray, List.set_cons_zero, List.set_cons_succ]
          refine regTake 4 (some 107) (v := ?_) rfl rfl (by kernel_rfl) (by kernel_rfl) (by kernel_rfl) (fun _ _ _ h => h) (by rfl) hHeld ?_ ?_
          rotate_left 1
          · (intro w hSw; (try dsimp only at hSw); go_simp; try with_reducible rfl)
          simp only [Act.put, List.setIfInBounds_toArray, List.set_cons_zero, List.set_cons_succ]
          refine regTake 5 (some 108) (v := ?_) rfl rfl (by kernel_rfl) (by kernel_rfl) (by kernel_rfl) (fun _ _ _ h => h) (by rfl) hHeld ?_ ?_
          rotate_left 1
          · (intro w hSw; (try dsimp only at hSw); go_simp; try with_reducible rfl)
          simp only [Act.put, List.setIfInBounds_toArray, List.set_cons_zero, List.set_cons_succ]
          refine regTake 6 (some 109) (v := .bool true) rfl rfl (by kernel_rfl) (by kernel_rfl) (by kernel_rfl) (fun _ _ _ h => h) (by rfl) hHeld ?_ ?_
          · (intro w hSw; (try dsimp only at hSw); go_simp; try with_reducible rfl)
          simp only [Act.put, List.setIfInBounds_toArray, List.set_cons_zero, List.set_cons_succ]
          refine regTake 7 (some 110) (v := ?_) rfl rfl (by kernel_rfl) (by kernel_rfl) (by kernel_rfl) (fun _ _ _ h => h) (by rfl) hHeld ?_ ?_
          rotate_left 1
          · (intro w hSw; (try dsimp only at hSw); go_simp; try with_reducible rfl)
          simp only [Act.put, List.setIfInBounds_toArray, List.set_cons_zero, List.set_cons_succ]
          refine regCall 8 (some 111) (f := 55) (args := ?_) rfl rfl (by kernel_rfl) (by rfl) ?_ ?_
          rotate_left 1
          · (go_simp; try with_reducible rfl)
          refine (one14_any true _).mono ?_
          rintro e wx8 ⟨rfl, rfl⟩
          refine ⟨_, rfl, hHeld, fun hHeld => ?_⟩
          simp only [Act.put, List.setIfInBounds_toArray, List.set_cons_zero, List.set_cons_succ]
          refine regTake 9 (some 112) (v := ?_) rfl rfl (by kernel_rfl) (by kernel_rfl) (by kernel_rfl) (fun _ _ _ h => h) (by rfl) hHeld ?_ ?_
          rotate_left 1
          · (intro w hSw; (try dsimp only at hSw); go_simp; try with_reducible rfl)
          simp only [Act.put, List.setIfInBounds_toArray, List.set_cons_zero, List.set_cons_succ]
          refine regTake 10 (some 113) (v := ?_) rfl rfl (by kernel_rfl) (by kernel_rfl) (by kernel_rfl) (fun _ _ _ h => h) (by rfl) hHeld ?_ ?_
          rotate_left 1
          · (intro w hSw; (try dsimp only at hSw); go_simp; try with_reducible rfl)
          simp only [Act.put, List.setIfInBounds_toArray, List.set_cons_zero, List.set_cons_succ]
          have x1 := HJ.out.out.cell 1
          have y1 := HJ.out.out.frozen 1
          have z1 := HJ.out.out.lt
          refine regStore 11 (w' := ?_) rfl rfl (by kernel_rfl) (by rfl) ?_ ?_ (fun hHeld => ?_)
          rotate_left 1
          · (go_simp; try with_reducible rfl)
          · exact ⟨(HJ.out.put1 _).box.cell 0, (HJ.out.put1 _).box.cell 1, (HJ.out.put1 _).box.cell 2, (HJ.out.put1 _).box.cell 3⟩
          refine wpAnyH_done (by kernel_rfl) ?_ _
          clear hHeld x1 y1 z1
          go_wp2_with fail
          go_meet
          rw [HV.out]
          exact Lib.hid (HJ.out.put1 _)
        · skip
          have hv : a + oneN false = P := by rw [← hP]; rw [decide_eq_false g1, decide_eq_false g2]; rfl
          have HV := Lib.hid (show IntKind.i64.wrap (a + oneN false) = P by rw [hv]; exact W1.out)
          clear hv hP
          have HJ := Lib.hid HI3.out.drew
          refine wp_region_held_drew (S := (fun W => W.cell? ⟨w.heap.size, 0, none⟩ = some (.int .i64 n) ∧ W.cell? ⟨w.heap.size, 1, none⟩ = some (.int .i64 a) ∧ W.cell? ⟨w.heap.size, 2, none⟩ = some (.int .i64 b) ∧ W.cell? ⟨w.heap.size, 3, none⟩ = some (.int .i64 l))) (by kernel_rfl) ⟨HJ.out.box.cell 0, HJ.out.box.cell 1, HJ.out.box.cell 2, HJ.out.box.cell 3⟩ (fun hHeld => ?_)
          refine regTake 0 (some 103) (v := ?_) rfl rfl (by kernel_rfl) (by kernel_rfl) (by kernel_rfl) (fun _ _ _ h => h) (by rfl) hHeld ?_ ?_
          rotate_left 1
          · (intro w hSw; (try dsimp only at hSw); go_simp; try with_reducible rfl)
          simp only [Act.put, List.setIfInBounds_toArray, List.set_cons_zero, List.set_cons_succ]
          refine regTake 1 (some 104) (v := ?_) rfl rfl (by kernel_rfl) (by kernel_rfl) (by kernel_rfl) (fun _ _ _ h => h) (by rfl) hHeld ?_ ?_
          rotate_left 1
          · (intro w hSw; (try dsimp only at hSw); go_simp; try with_reducible rfl)
          simp only [Act.put, List.setIfInBounds_toArray, List.set_cons_zero, List.set_cons_succ]
          refine regTake 2 (some 105) (v := ?_) rfl rfl (by kernel_rfl) (by kernel_rfl) (by kernel_rfl) (fun _ _ _ h => h) (by rfl) hHeld ?_ ?_
          rotate_left 1
          · (intro w hSw; (try dsimp only at hSw); go_simp; try with_reducible rfl)
          simp only [Act.put, List.setIfInBounds_toArray, List.set_cons_zero, List.set_cons_succ]
          refine regTake 3 (some 106) (v := .bool false) rfl rfl (by kernel_rfl) (by kernel_rfl) (by kernel_rfl) (fun _ _ _ h => h) (by rfl) hHeld ?_ ?_
          · (intro w hSw; (try dsimp only at hSw); go_simp; try with_reducible rfl)
          simp only [Act.put, List.setIfInBounds_toArray, List.set_cons_zero, List.set_cons_succ]
          refine regTake 4 (some 107) (v := ?_) rfl rfl (by kernel_rfl) (by kernel_rfl) (by kernel_rfl) (fun _ _ _ h => h) (by rfl) hHeld ?_ ?_
          rotate_left 1
          · (intro w hSw; (try dsimp only at hSw); go_simp; try with_reducible rfl)
          simp only [Act.put, List.setIfInBounds_toArray, List.set_cons_zero, List.set_cons_succ]
          refine regTake 5 (some 108) (v := ?_) rfl rfl (by kernel_rfl) (by kernel_rfl) (by kernel_rfl) (fun _ _ _ h => h) (by rfl) hHeld ?_ ?_
          rotate_left 1
          · (intro w hSw; (try dsimp only at hSw); go_simp; try with_reducible rfl)
          simp only [Act.put, List.setIfInBounds_toArray, List.set_cons_zero, List.set_cons_succ]
          refine regTake 6 (some 109) (v := .bool false) rfl rfl (by kernel_rfl) (by kernel_rfl) (by kernel_rfl) (fun _ _ _ h => h) (by rfl) hHeld ?_ ?_
          · (intro w hSw; (try dsimp only at hSw); go_simp; try with_reducible rfl)
          simp only [Act.put, List.setIfInBounds_toArray, List.set_cons_zero, List.set_cons_succ]
          refine regTake 7 (some 110) (v := ?_) rfl rfl (by kernel_rfl) (by kernel_rfl) (by kernel_rfl) (fun _ _ _ h => h) (by rfl) hHeld ?_ ?_
          rotate_left 1
          · (intro w hSw; (try dsimp only at hSw); go_simp; try with_reducible rfl)
          simp only [Act.put, List.setIfInBounds_toArray, List.set_cons_zero, List.set_cons_succ]
          refine regCall 8 (some 111) (f := 55) (args := ?_) rfl rfl (by kernel_rfl) (by rfl) ?_ ?_
          rotate_left 1
          · (go_simp; try with_reducible rfl)
          refine (one14_any false _).mono ?_
          rintro e wx8 ⟨rfl, rfl⟩
          refine ⟨_, rfl, hHeld, fun hHeld => ?_⟩
          simp only [Act.put, List.setIfInBounds_toArray, List.set_cons_zero, List.set_cons_succ]
          refine regTake 9 (some 112) (v := ?_) rfl rfl (by kernel_rfl) (by kernel_rfl) (by kernel_rfl) (fun _ _ _ h => h) (by rfl) hHeld ?_ ?_
          rotate_left 1
          · (intro w hSw; (try dsimp only at hSw); go_simp; try with_reducible rfl)
          simp only [Act.put, List.setIfInBounds_toArray, List.set_cons_zero, List.set_cons_succ]
          refine regTake 10 (some 113) (v := ?_) rfl rfl (by kernel_rfl) (by kernel_rfl) (by kernel_rfl) (fun _ _ _ h => h) (by rfl) hHeld ?_ ?_
          rotate_left 1
          · (intro w hSw; (try dsimp only at hSw); go_simp; try with_reducible rfl)
          simp only [Act.put, List.setIfInBounds_toArray, List.set_cons_zero, List.set_cons_succ]
          have x1 := HJ.out.out.cell 1
          have y1 := HJ.out.out.frozen 1
          have z1 := HJ.out.out.lt
          refine regStore 11 (w' := ?_) rfl rfl (by kernel_rfl) (by rfl) ?_ ?_ (fun hHeld => ?_)
          rotate_left 1
          · (go_simp; try with_reducible rfl)
          · exact ⟨(HJ.out.put1 _).box.cell 0, (HJ.out.put1 _).box.cell 1, (HJ.out.put1 _).box.cell 2, (HJ.out.put1 _).box.cell 3⟩
          refine wpAnyH_done (by kernel_rfl) ?_ _
          clear hHeld x1 y1 z1
          go_wp2_with fail
          go_meet
          rw [HV.out]
          exact Lib.hid (HJ.out.put1 _)
    case rest =>
      have HI4 := hcut
      clear hcut
      obtain ⟨wn16, hwn16⟩ : ∃ wn : World, wn = wc := ⟨_, rfl⟩
      rw [← hwn16] at HI4 ⊢
      clear hwn16
      have c0 : wn16.cell? ⟨w.heap.size, 0, none⟩ = some (.int .i64 n) := HI4.out.box.cell 0
      have c1 : wn16.cell? ⟨w.heap.size, 1, none⟩ = some (.int .i64 a) := HI4.out.box.cell 1
      have c2 : wn16.cell? ⟨w.heap.size, 2, none⟩ = some (.int .i64 b) := HI4.out.box.cell 2
      have c3 : wn16.cell? ⟨w.heap.size, 3, none⟩ = some (.int .i64 l) := HI4.out.box.cell 3
      have d0 : wn16.cell? ⟨w.heap.size + 2, 0, none⟩ = some (.int .i64 (n + 1)) := HI4.out.out.cell 0
      have f0 := HI4.out.out.frozen 0
      have d1 : wn16.cell? ⟨w.heap.size + 2, 1, none⟩ = some (.int .i64 P) := HI4.out.out.cell 1
      have f1 := HI4.out.out.frozen 1
      have d2 : wn16.cell? ⟨w.heap.size + 2, 2, none⟩ = some (.int .i64 b) := HI4.out.out.cell 2
      have f2 := HI4.out.out.frozen 2
      have d3 : wn16.cell? ⟨w.heap.size + 2, 3, none⟩ = some (.int .i64 0) := HI4.out.out.cell 3
      have f3 := HI4.out.out.frozen 3
      have z0 : wn16.cell? ⟨w.heap.size + 1, 0, none⟩ = some (.int .i64 0) := HI4.out.res.cell 0
      have y0 := HI4.out.res.frozen 0
      have z1 : wn16.cell? ⟨w.heap.size + 1, 1, none⟩ = some (.int .i64 0) := HI4.out.res.cell 1
      have y1 := HI4.out.res.frozen 1
      have z2 : wn16.cell? ⟨w.heap.size + 1, 2, none⟩ = some (.int .i64 0) := HI4.out.res.cell 2
      have y2 := HI4.out.res.frozen 2
      have z3 : wn16.cell? ⟨w.heap.size + 1, 3, none⟩ = some (.int .i64 0) := HI4.out.res.cell 3
      have y3 := HI4.out.res.frozen 3
      have l1 := HI4.out.res.lt
      have l0 := HI4.out.box.lt
      have l2 := HI4.out.out.lt
      have HR := Lib.hid (HI4.out.res.put4S (.int .i64 (n + 1)) (.int .i64 P) (.int .i64 b) (.int .i64 0))
      have HB := Lib.hid (Below.put4S HI4.out.below (b := w.heap.size + 1) (by omega) (.int .i64 (n + 1)) (.int .i64 P) (.int .i64 b) (.int .i64 0))
      go_wp2
      (try simp only [Exit.inBlock, Exit.then])
      exact bodyPost_ret (resCellS Try.results46 rfl (loadS HR.out)) rfl ⟨rfl, HB.out⟩
/-- The reference's next, of every rule. -/
theorem next14_any (r : Nat) (h1 : 1 ≤ r) (h8 : r ≤ 8) (k : Nat) (hk : k ≤ 15) (s : Seen) (hs : StB k s) (c : Int) (w : World) :
    Calls Try.prog 46 #[.int .i64 (r : Nat), .agg #[.int .i64 s.n, .int .i64 s.a, .int .i64 s.b, .int .i64 s.last], .int .i64 c] w fun e w' => e = .returned (.agg #[.int .i64 (nextN r s c).n, .int .i64 (nextN r s c).a, .int .i64 (nextN r s c).b, .int .i64 (nextN r s c).last]) ∧ Below w.heap.size w w' := by
  obtain ⟨s1, s2, s3, s4⟩ := hs
  have hc : r = 3 ∨ r = 4 ∨ r = 7 ∨ r = 8 ∨ (r = 1 ∨ r = 2 ∨ r = 5 ∨ r = 6) := by omega
  rcases hc with rfl | rfl | rfl | rfl | hr
  · exact next3_any s.n s.a s.b s.last c (by omega) w
  · exact next4_any s.n s.a s.b s.last c (by omega) w
  · have := next7_core s.n s.a s.b s.last c _ rfl (by omega) (by omega) (by omega) w
    have e : nextN 7 s c = ⟨s.n + 1, s.a + oneN (decide (-1 ≤ c) && decide (c ≤ 1)), s.b, 0⟩ := rfl
    rw [e]
    exact this
  · have := next8_core s.n s.a s.b s.last c _ rfl (by omega) (by omega) (by omega) w
    have e : nextN 8 s c = ⟨s.n + 1, s.a + oneN (decide (2 ≤ c) || decide (c ≤ -2)), s.b, 0⟩ := rfl
    rw [e]
    exact this
  · have := nextO_core r s.n s.a s.b s.last c _ _ _ hr rfl rfl rfl (by omega) (by omega) (by omega) w
    have e : nextN r s c = ⟨s.n + 1, s.a + oneN (decide (fromN r ≤ c)), s.b + oneN (decide (c ≤ 0 - fromN r)), 0⟩ := by
      unfold nextN
      rw [if_neg (by omega), if_neg (by omega), if_neg (by omega)]
    rw [e]
    exact this
end Go.Proofs.Ytjonpcpcokapkaa
