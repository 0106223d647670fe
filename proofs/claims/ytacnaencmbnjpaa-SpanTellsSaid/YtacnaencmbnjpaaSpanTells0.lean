/- The law SpanTells, walked: where the program and the reference say the same, it answers true; nothing that was in memory before is changed. -/
import Derived.Test.YtacnaencmbnjpaaAlive5
import Derived.Test.YtacnaencmbnjpaaSpanRef2
import Derived.Test.YtacnaencmbnjpaaAb
namespace Go.Proofs.Ytacnaencmbnjpaa
open Go.RowKit

theorem eqS (x y : Int) (w : World) : (Op.equalIn 10000 23 (.agg #[.int .i64 x, .int .i64 y]) (.agg #[.int .i64 x, .int .i64 y])).run Try.prog w = .ok true w := by go_simp
theorem eqS0 (w : World) : (Op.equalIn 10000 23 (.agg #[.int .i64 0, .int .i64 0]) (.agg #[.int .i64 0, .int .i64 0])).run Try.prog w = .ok true w := eqS 0 0 w
set_option maxRecDepth 100000 in
set_option maxHeartbeats 2000000 in
theorem stells_ok (a b c d x j0 j1 s0 s1 se d0 d1 de : Int) (R H : Bool) (w : World)
    (m1 : ∀ w, Calls Try.prog 8 #[.agg #[.int .i64 a, .int .i64 b], .agg #[.int .i64 c, .int .i64 d]] w fun en w' => en = .returned (.tuple #[.agg #[.int .i64 j0, .int .i64 j1], .int .i64 0]) ∧ Below w.heap.size w w')
    (m2 : ∀ w, Calls Try.prog 9 #[.agg #[.int .i64 a, .int .i64 b], .agg #[.int .i64 c, .int .i64 d]] w fun en w' => en = .returned (.tuple #[.agg #[.int .i64 s0, .int .i64 s1], .int .i64 se]) ∧ Below w.heap.size w w')
    (m3 : ∀ w, Calls Try.prog 10 #[.agg #[.int .i64 a, .int .i64 b], .agg #[.int .i64 c, .int .i64 d]] w fun en w' => en = .returned (.tuple #[.agg #[.int .i64 d0, .int .i64 d1], .int .i64 de]) ∧ Below w.heap.size w w')
    (m4 : ∀ w, Calls Try.prog 11 #[.agg #[.int .i64 a, .int .i64 b]] w fun en w' => en = .returned (.bool R) ∧ Below w.heap.size w w')
    (m5 : ∀ w, Calls Try.prog 12 #[.agg #[.int .i64 a, .int .i64 b]] w fun en w' => en = .returned (.bool R) ∧ Below w.heap.size w w')
    (m6 : ∀ w, Calls Try.prog 13 #[.agg #[.int .i64 a, .int .i64 b], .int .i64 x] w fun en w' => en = .returned (.bool H) ∧ Below w.heap.size w w')
    (m7 : ∀ w, Calls Try.prog 14 #[.agg #[.int .i64 a, .int .i64 b], .int .i64 x] w fun en w' => en = .returned (.bool H) ∧ Below w.heap.size w w')
    (hR : R = true)
    (m8 : ∀ w, Calls Try.prog 12 #[.agg #[.int .i64 c, .int .i64 d]] w fun en w' => en = .returned (.bool true) ∧ Below w.heap.size w w')
    (n1 : ∀ w, Calls Try.prog 18 #[.agg #[.int .i64 a, .int .i64 b], .agg #[.int .i64 c, .int .i64 d]] w fun en w' => en = .returned (.agg #[.int .i64 j0, .int .i64 j1]) ∧ Below w.heap.size w w')
    (n2 : ∀ w, Calls Try.prog 16 #[.agg #[.int .i64 a, .int .i64 b], .agg #[.int .i64 c, .int .i64 d]] w fun en w' => en = .returned (.tuple #[.agg #[.int .i64 s0, .int .i64 s1], .int .i64 se]) ∧ Below w.heap.size w w')
    (n3 : ∀ w, Calls Try.prog 17 #[.agg #[.int .i64 a, .int .i64 b], .agg #[.int .i64 c, .int .i64 d]] w fun en w' => en = .returned (.tuple #[.agg #[.int .i64 d0, .int .i64 d1], .int .i64 de]) ∧ Below w.heap.size w w') :
    Calls Try.prog 3 #[.agg #[.int .i64 a, .int .i64 b], .agg #[.int .i64 c, .int .i64 d], .int .i64 x] w fun en w' => en = .returned (.bool true) ∧ Below w.heap.size w w' := by
  subst hR
  have M1 := Lib.hid m1; have M2 := Lib.hid m2; have M3 := Lib.hid m3; have M4 := Lib.hid m4; have M5 := Lib.hid m5; have M6 := Lib.hid m6; have M7 := Lib.hid m7; have M8 := Lib.hid m8; have N1 := Lib.hid n1; have N2 := Lib.hid n2; have N3 := Lib.hid n3
  clear m1 m2 m3 m4 m5 m6 m7 m8 n1 n2 n3
  go_enter Try.func3, Try.ntmps3
  go_wp2_with fail
  refine (M1.out _).mono ?_
  rintro e w1 ⟨rfl, hb⟩
  have ka : Blk w1 w.heap.size #[.int .i64 a, .int .i64 b] := ((Blk.new _ _ _).alloc _).call hb
  have kc : Blk w1 (w.heap.size + 1) #[.int .i64 c, .int .i64 d] := (Blk.newAt (by simp)).call hb
  have kw : Below w.heap.size w w1 := (((Below.refl w.heap.size w).alloc (Nat.le_refl _) _).alloc (by simp) _).trans (hb.mono (by simp; omega))
  have Ba := Lib.hid ka
  have Bc := Lib.hid kc
  have HW1 := Lib.hid kw
  clear hb kw ka kc
  have la := Ba.out.lt
  have ca0 : w1.cell? ⟨w.heap.size, 0, none⟩ = some (.int .i64 a) := Ba.out.cell rfl
  have ca1 : w1.cell? ⟨w.heap.size, 1, none⟩ = some (.int .i64 b) := Ba.out.cell rfl
  have lc := Bc.out.lt
  have cc0 : w1.cell? ⟨(w.heap.size + 1), 0, none⟩ = some (.int .i64 c) := Bc.out.cell rfl
  have cc1 : w1.cell? ⟨(w.heap.size + 1), 1, none⟩ = some (.int .i64 d) := Bc.out.cell rfl
  go_wp2_with fail
  refine (M2.out _).mono ?_
  rintro e w2 ⟨rfl, hb⟩
  have ka : Blk w2 w.heap.size #[.int .i64 a, .int .i64 b] := (Ba.out.alloc _).call hb
  have kc : Blk w2 (w.heap.size + 1) #[.int .i64 c, .int .i64 d] := (Bc.out.alloc _).call hb
  have kj : Blk w2 w1.heap.size #[.int .i64 j0, .int .i64 j1] := (Blk.new _ _ _).call hb
  have kw : Below w.heap.size w w2 := (HW1.out.alloc HW1.out.size _).trans (hb.mono (by have := HW1.out.size; simp; omega))
  clear la ca0 ca1 lc cc0 cc1 Ba Bc HW1
  have Ba := Lib.hid ka
  have Bc := Lib.hid kc
  have Bj := Lib.hid kj
  have HW2 := Lib.hid kw
  clear hb kw ka kc kj
  have la := Ba.out.lt
  have ca0 : w2.cell? ⟨w.heap.size, 0, none⟩ = some (.int .i64 a) := Ba.out.cell rfl
  have ca1 : w2.cell? ⟨w.heap.size, 1, none⟩ = some (.int .i64 b) := Ba.out.cell rfl
  have lc := Bc.out.lt
  have cc0 : w2.cell? ⟨(w.heap.size + 1), 0, none⟩ = some (.int .i64 c) := Bc.out.cell rfl
  have cc1 : w2.cell? ⟨(w.heap.size + 1), 1, none⟩ = some (.int .i64 d) := Bc.out.cell rfl
  go_wp2_with fail
  refine (M3.out _).mono ?_
  rintro e w3 ⟨rfl, hb⟩
  have ka : Blk w3 w.heap.size #[.int .i64 a, .int .i64 b] := (Ba.out.alloc _).call hb
  have kc : Blk w3 (w.heap.size + 1) #[.int .i64 c, .int .i64 d] := (Bc.out.alloc _).call hb
  have kj : Blk w3 w1.heap.size #[.int .i64 j0, .int .i64 j1] := (Bj.out.alloc _).call hb
  have ks : Blk w3 w2.heap.size #[.int .i64 s0, .int .i64 s1] := (Blk.new _ _ _).call hb
  have kw : Below w.heap.size w w3 := (HW2.out.alloc HW2.out.size _).trans (hb.mono (by have := HW2.out.size; simp; omega))
  clear la ca0 ca1 lc cc0 cc1 Ba Bc Bj HW2
  have Ba := Lib.hid ka
  have Bc := Lib.hid kc
  have Bj := Lib.hid kj
  have Bs := Lib.hid ks
  have HW3 := Lib.hid kw
  clear hb kw ka kc kj ks
  go_upto_region 4 with fail
  obtain ⟨W4x, hW4x⟩ : ∃ W4x, (w3.alloc (.cells #[.int .i64 d0, .int .i64 d1] 23)) = W4x := ⟨_, rfl⟩
  have ba : Blk W4x w.heap.size #[.int .i64 a, .int .i64 b] := by rw [← hW4x]; exact (Ba.out.alloc _)
  have bc : Blk W4x (w.heap.size + 1) #[.int .i64 c, .int .i64 d] := by rw [← hW4x]; exact (Bc.out.alloc _)
  have bj : Blk W4x w1.heap.size #[.int .i64 j0, .int .i64 j1] := by rw [← hW4x]; exact (Bj.out.alloc _)
  have bs : Blk W4x w2.heap.size #[.int .i64 s0, .int .i64 s1] := by rw [← hW4x]; exact (Bs.out.alloc _)
  have bd : Blk W4x w3.heap.size #[.int .i64 d0, .int .i64 d1] := by rw [← hW4x]; exact (Blk.new _ _ _)
  have hw : Below w.heap.size w W4x := by rw [← hW4x]; exact (HW3.out.alloc HW3.out.size _)
  rw [hW4x]
  clear hW4x Ba Bc Bj Bs HW3
  have hok : OwnOk (fun w' => w'.cell? ⟨w.heap.size, 0, none⟩ = some (.int .i64 a) ∧ w'.cell? ⟨w.heap.size, 1, none⟩ = some (.int .i64 b) ∧ Hid (Blk w' w.heap.size #[.int .i64 a, .int .i64 b] ∧ Blk w' (w.heap.size + 1) #[.int .i64 c, .int .i64 d] ∧ Blk w' w1.heap.size #[.int .i64 j0, .int .i64 j1] ∧ Blk w' w2.heap.size #[.int .i64 s0, .int .i64 s1] ∧ Blk w' w3.heap.size #[.int .i64 d0, .int .i64 d1] ∧ Below w.heap.size w w')) W4x.heap.size [] := own0_ok (fun v1 v2 h hb => ⟨((h.2.2.out.1).below hb ba.lt).cell rfl, ((h.2.2.out.1).below hb ba.lt).cell rfl, Lib.hid ⟨(h.2.2.out.1).below hb ba.lt, (h.2.2.out.2.1).below hb bc.lt, (h.2.2.out.2.2.1).below hb bj.lt, (h.2.2.out.2.2.2.1).below hb bs.lt, (h.2.2.out.2.2.2.2.1).below hb bd.lt, (h.2.2.out.2.2.2.2.2).trans (hb.mono hw.size)⟩⟩)
  have hfit : ∀ i, (∀ e ∈ ([] : List Ent), e.x ≠ i ∧ e.s ≠ i) → Fit (fun w' => w'.cell? ⟨w.heap.size, 0, none⟩ = some (.int .i64 a) ∧ w'.cell? ⟨w.heap.size, 1, none⟩ = some (.int .i64 b) ∧ Hid (Blk w' w.heap.size #[.int .i64 a, .int .i64 b] ∧ Blk w' (w.heap.size + 1) #[.int .i64 c, .int .i64 d] ∧ Blk w' w1.heap.size #[.int .i64 j0, .int .i64 j1] ∧ Blk w' w2.heap.size #[.int .i64 s0, .int .i64 s1] ∧ Blk w' w3.heap.size #[.int .i64 d0, .int .i64 d1] ∧ Below w.heap.size w w')) (Sof (fun w' => w'.cell? ⟨w.heap.size, 0, none⟩ = some (.int .i64 a) ∧ w'.cell? ⟨w.heap.size, 1, none⟩ = some (.int .i64 b) ∧ Hid (Blk w' w.heap.size #[.int .i64 a, .int .i64 b] ∧ Blk w' (w.heap.size + 1) #[.int .i64 c, .int .i64 d] ∧ Blk w' w1.heap.size #[.int .i64 j0, .int .i64 j1] ∧ Blk w' w2.heap.size #[.int .i64 s0, .int .i64 s1] ∧ Blk w' w3.heap.size #[.int .i64 d0, .int .i64 d1] ∧ Below w.heap.size w w')) W4x.heap.size []) i := fun i hi => sof_fit hok.st hok.loc hi
  have HOK := Lib.hid hok; have HF := Lib.hid hfit; clear hok hfit
  refine wp_region_ab (S0 := (fun w' => w'.cell? ⟨w.heap.size, 0, none⟩ = some (.int .i64 a) ∧ w'.cell? ⟨w.heap.size, 1, none⟩ = some (.int .i64 b) ∧ Hid (Blk w' w.heap.size #[.int .i64 a, .int .i64 b] ∧ Blk w' (w.heap.size + 1) #[.int .i64 c, .int .i64 d] ∧ Blk w' w1.heap.size #[.int .i64 j0, .int .i64 j1] ∧ Blk w' w2.heap.size #[.int .i64 s0, .int .i64 s1] ∧ Blk w' w3.heap.size #[.int .i64 d0, .int .i64 d1] ∧ Below w.heap.size w w'))) W4x.heap.size [] (by kernel_rfl) ⟨(ba.drew).cell rfl, (ba.drew).cell rfl, Lib.hid ⟨ba.drew, bc.drew, bj.drew, bs.drew, bd.drew, hw.drew⟩⟩ (Nat.le_refl _) (by simp) ?_
  clear ba bc bj bs bd
  refine abTake 0 (some 36) (v := ?_) rfl rfl (by kernel_rfl) (by kernel_rfl) (by kernel_rfl) (fun _ _ _ h => h) (HF.out _ (by simp)) (by rfl) ?_ ?_
  rotate_left 1
  · (intro w hSw; (try dsimp only at hSw); go_simp; try with_reducible rfl)
  simp only [Act.put, List.setIfInBounds_toArray, List.set_cons_zero, List.set_cons_succ]
  refine abCall 1 (some 37) rfl rfl (by kernel_rfl) (by kernel_rfl) (by kernel_rfl) (fun _ _ _ h => h) (HF.out _ (by simp)) (by rfl) ?_ (fun w hSw => M4.out w) ?_
  · (intro w hSw; (try dsimp only at hSw); go_simp; try with_reducible rfl)
  simp only [Act.put, List.setIfInBounds_toArray, List.set_cons_zero, List.set_cons_succ]
  refine abTake 2 (some 38) (v := ?_) rfl rfl (by kernel_rfl) (by kernel_rfl) (by kernel_rfl) (fun _ _ _ h => h) (HF.out _ (by simp)) (by rfl) ?_ ?_
  rotate_left 1
  · (intro w hSw; (try dsimp only at hSw); go_simp; try with_reducible rfl)
  simp only [Act.put, List.setIfInBounds_toArray, List.set_cons_zero, List.set_cons_succ]
  refine abCall 3 (some 39) rfl rfl (by kernel_rfl) (by kernel_rfl) (by kernel_rfl) (fun _ _ _ h => h) (HF.out _ (by simp)) (by rfl) ?_ (fun w hSw => M5.out w) ?_
  · (intro w hSw; (try dsimp only at hSw); go_simp; try with_reducible rfl)
  simp only [Act.put, List.setIfInBounds_toArray, List.set_cons_zero, List.set_cons_succ]
  refine abTake 4 (some 40) (v := ?_) rfl rfl (by kernel_rfl) (by kernel_rfl) (by kernel_rfl) (fun _ _ _ h => h) (HF.out _ (by simp)) (by rfl) ?_ ?_
  rotate_left 1
  · (intro w hSw; (try dsimp only at hSw); go_simp; try with_reducible rfl)
  simp only [Act.put, List.setIfInBounds_toArray, List.set_cons_zero, List.set_cons_succ]
  refine abTake 5 (some 41) (v := ?_) rfl rfl (by kernel_rfl) (by kernel_rfl) (by kernel_rfl) (fun _ _ _ h => h) (HF.out _ (by simp)) (by rfl) ?_ ?_
  rotate_left 1
  · (intro w hSw; (try dsimp only at hSw); go_simp; try with_reducible rfl)
  simp only [Act.put, List.setIfInBounds_toArray, List.set_cons_zero, List.set_cons_succ]
  refine abTake 6 (some 42) (v := ?_) rfl rfl (by kernel_rfl) (by kernel_rfl) (by kernel_rfl) (fun _ _ _ h => h) (HF.out _ (by simp)) (by rfl) ?_ ?_
  rotate_left 1
  · (intro w hSw; (try dsimp only at hSw); go_simp; try with_reducible rfl)
  simp only [Act.put, List.setIfInBounds_toArray, List.set_cons_zero, List.set_cons_succ]
  refine abTake 7 (some 43) (v := ?_) rfl rfl (by kernel_rfl) (by kernel_rfl) (by kernel_rfl) (fun _ _ _ h => h) (HF.out _ (by simp)) (by rfl) ?_ ?_
  rotate_left 1
  · (intro w hSw; (try dsimp only at hSw); go_simp; try with_reducible rfl)
  simp only [Act.put, List.setIfInBounds_toArray, List.set_cons_zero, List.set_cons_succ]
  refine abCall 8 (some 44) rfl rfl (by kernel_rfl) (by kernel_rfl) (by kernel_rfl) (fun _ _ _ h => h) (HF.out _ (by simp)) (by rfl) ?_ (fun w hSw => M6.out w) ?_
  · (intro w hSw; (try dsimp only at hSw); go_simp; try with_reducible rfl)
  simp only [Act.put, List.setIfInBounds_toArray, List.set_cons_zero, List.set_cons_succ]
  refine abTake 9 (some 45) (v := ?_) rfl rfl (by kernel_rfl) (by kernel_rfl) (by kernel_rfl) (fun _ _ _ h => h) (HF.out _ (by simp)) (by rfl) ?_ ?_
  rotate_left 1
  · (intro w hSw; (try dsimp only at hSw); go_simp; try with_reducible rfl)
  simp only [Act.put, List.setIfInBounds_toArray, List.set_cons_zero, List.set_cons_succ]
  refine abTake 10 (some 46) (v := ?_) rfl rfl (by kernel_rfl) (by kernel_rfl) (by kernel_rfl) (fun _ _ _ h => h) (HF.out _ (by simp)) (by rfl) ?_ ?_
  rotate_left 1
  · (intro w hSw; (try dsimp only at hSw); go_simp; try with_reducible rfl)
  simp only [Act.put, List.setIfInBounds_toArray, List.set_cons_zero, List.set_cons_succ]
  refine abCall 11 (some 47) rfl rfl (by kernel_rfl) (by kernel_rfl) (by kernel_rfl) (fun _ _ _ h => h) (HF.out _ (by simp)) (by rfl) ?_ (fun w hSw => M7.out w) ?_
  · (intro w hSw; (try dsimp only at hSw); go_simp; try with_reducible rfl)
  simp only [Act.put, List.setIfInBounds_toArray, List.set_cons_zero, List.set_cons_succ]
  refine abTake 12 (some 48) (v := ?_) rfl rfl (by kernel_rfl) (by kernel_rfl) (by kernel_rfl) (fun _ _ _ h => h) (HF.out _ (by simp)) (by rfl) ?_ ?_
  rotate_left 1
  · (intro w hSw; (try dsimp only at hSw); go_simp; try with_reducible rfl)
  simp only [Act.put, List.setIfInBounds_toArray, List.set_cons_zero, List.set_cons_succ]
  refine abTake 13 (some 49) (v := ?_) rfl rfl (by kernel_rfl) (by kernel_rfl) (by kernel_rfl) (fun _ _ _ h => h) (HF.out _ (by simp)) (by rfl) ?_ ?_
  rotate_left 1
  · (intro w hSw; (try dsimp only at hSw); go_simp; try with_reducible rfl)
  simp only [Act.put, List.setIfInBounds_toArray, List.set_cons_zero, List.set_cons_succ]
  refine abTake 14 (some 50) (v := ?_) rfl rfl (by kernel_rfl) (by kernel_rfl) (by kernel_rfl) (fun _ _ _ h => h) (HF.out _ (by simp)) (by rfl) ?_ ?_
  rotate_left 1
  · (intro w hSw; (try dsimp only at hSw); go_simp; try with_reducible rfl)
  simp only [Act.put, List.setIfInBounds_toArray, List.set_cons_zero, List.set_cons_succ]
  refine abCall 15 (some 51) rfl rfl (by kernel_rfl) (by kernel_rfl) (by kernel_rfl) (fun _ _ _ h => h) (HF.out _ (by simp)) (by rfl) ?_ (fun w hSw => alive5 w) ?_
  · (intro w hSw; (try dsimp only at hSw); go_simp; try with_reducible rfl)
  simp only [Act.put, List.setIfInBounds_toArray, List.set_cons_zero, List.set_cons_succ]
  refine abTake 16 (some 52) (v := ?_) rfl rfl (by kernel_rfl) (by kernel_rfl) (by kernel_rfl) (fun _ _ _ h => h) (HF.out _ (by simp)) (by rfl) ?_ ?_
  rotate_left 1
  · (intro w hSw; (try dsimp only at hSw); go_simp; try with_reducible rfl)
  simp only [Act.put, List.setIfInBounds_toArray, List.set_cons_zero, List.set_cons_succ]
  refine abTake 17 (some 53) (v := ?_) rfl rfl (by kernel_rfl) (by kernel_rfl) (by kernel_rfl) (fun _ _ _ h => h) (HF.out _ (by simp)) (by rfl) ?_ ?_
  rotate_left 1
  · (intro w hSw; (try dsimp only at hSw); go_simp; try with_reducible rfl)
  simp only [Act.put, List.setIfInBounds_toArray, List.set_cons_zero, List.set_cons_succ]
  refine abDone (by kernel_rfl) ?_ _
  rintro w4 hS
  have Ba := Lib.hid (hS.1.2.2.out.1)
  have Bc := Lib.hid (hS.1.2.2.out.2.1)
  have Bj := Lib.hid (hS.1.2.2.out.2.2.1)
  have Bs := Lib.hid (hS.1.2.2.out.2.2.2.1)
  have Bd := Lib.hid (hS.1.2.2.out.2.2.2.2.1)
  have Hw4 := Lib.hid (hS.1.2.2.out.2.2.2.2.2)
  clear hS HOK HF hw
  have la := Ba.out.lt
  have ca0 : w4.cell? ⟨w.heap.size, 0, none⟩ = some (.int .i64 a) := Ba.out.cell rfl
  have ca1 : w4.cell? ⟨w.heap.size, 1, none⟩ = some (.int .i64 b) := Ba.out.cell rfl
  go_wp2_with fail
  refine (M5.out _).mono ?_
  rintro e w5 ⟨rfl, hb⟩
  have ka : Blk w5 w.heap.size #[.int .i64 a, .int .i64 b] := (Ba.out.alloc _).call hb
  have kc : Blk w5 (w.heap.size + 1) #[.int .i64 c, .int .i64 d] := (Bc.out.alloc _).call hb
  have kj : Blk w5 w1.heap.size #[.int .i64 j0, .int .i64 j1] := (Bj.out.alloc _).call hb
  have ks : Blk w5 w2.heap.size #[.int .i64 s0, .int .i64 s1] := (Bs.out.alloc _).call hb
  have kd : Blk w5 w3.heap.size #[.int .i64 d0, .int .i64 d1] := (Bd.out.alloc _).call hb
  have kn : Blk w5 w4.heap.size #[.int .i64 0, .int .i64 0] := (Blk.new _ _ _).call hb
  have kw : Below w.heap.size w w5 := (Hw4.out.alloc Hw4.out.size _).trans (hb.mono (by have := Hw4.out.size; simp; omega))
  clear la ca0 ca1 Ba Bc Bj Bs Bd Hw4
  have Ba := Lib.hid ka
  have Bc := Lib.hid kc
  have Bj := Lib.hid kj
  have Bs := Lib.hid ks
  have Bd := Lib.hid kd
  have Bn := Lib.hid kn
  have HW5 := Lib.hid kw
  clear hb kw ka kc kj ks kd kn
  have lc := Bc.out.lt
  have cc0 : w5.cell? ⟨(w.heap.size + 1), 0, none⟩ = some (.int .i64 c) := Bc.out.cell rfl
  have cc1 : w5.cell? ⟨(w.heap.size + 1), 1, none⟩ = some (.int .i64 d) := Bc.out.cell rfl
  go_wp2_with fail
  refine (M8.out _).mono ?_
  rintro e w6 ⟨rfl, hb⟩
  have ka : Blk w6 w.heap.size #[.int .i64 a, .int .i64 b] := Ba.out.call hb
  have kc : Blk w6 (w.heap.size + 1) #[.int .i64 c, .int .i64 d] := Bc.out.call hb
  have kj : Blk w6 w1.heap.size #[.int .i64 j0, .int .i64 j1] := Bj.out.call hb
  have ks : Blk w6 w2.heap.size #[.int .i64 s0, .int .i64 s1] := Bs.out.call hb
  have kd : Blk w6 w3.heap.size #[.int .i64 d0, .int .i64 d1] := Bd.out.call hb
  have kn : Blk w6 w4.heap.size #[.int .i64 0, .int .i64 0] := Bn.out.call hb
  have kw : Below w.heap.size w w6 := HW5.out.trans (hb.mono HW5.out.size)
  clear lc cc0 cc1 Ba Bc Bj Bs Bd Bn HW5
  have Ba := Lib.hid ka
  have Bc := Lib.hid kc
  have Bj := Lib.hid kj
  have Bs := Lib.hid ks
  have Bd := Lib.hid kd
  have Bn := Lib.hid kn
  have HW6 := Lib.hid kw
  clear hb kw ka kc kj ks kd kn
  have la := Ba.out.lt
  have ca0 : w6.cell? ⟨w.heap.size, 0, none⟩ = some (.int .i64 a) := Ba.out.cell rfl
  have ca1 : w6.cell? ⟨w.heap.size, 1, none⟩ = some (.int .i64 b) := Ba.out.cell rfl
  have lc := Bc.out.lt
  have cc0 : w6.cell? ⟨(w.heap.size + 1), 0, none⟩ = some (.int .i64 c) := Bc.out.cell rfl
  have cc1 : w6.cell? ⟨(w.heap.size + 1), 1, none⟩ = some (.int .i64 d) := Bc.out.cell rfl
  go_wp2_with fail
  refine (N2.out _).mono ?_
  rintro e w7 ⟨rfl, hb⟩
  have ka : Blk w7 w.heap.size #[.int .i64 a, .int .i64 b] := Ba.out.call hb
  have kc : Blk w7 (w.heap.size + 1) #[.int .i64 c, .int .i64 d] := Bc.out.call hb
  have kj : Blk w7 w1.heap.size #[.int .i64 j0, .int .i64 j1] := Bj.out.call hb
  have ks : Blk w7 w2.heap.size #[.int .i64 s0, .int .i64 s1] := Bs.out.call hb
  have kd : Blk w7 w3.heap.size #[.int .i64 d0, .int .i64 d1] := Bd.out.call hb
  have kn : Blk w7 w4.heap.size #[.int .i64 0, .int .i64 0] := Bn.out.call hb
  have kw : Below w.heap.size w w7 := HW6.out.trans (hb.mono HW6.out.size)
  clear la ca0 ca1 lc cc0 cc1 Ba Bc Bj Bs Bd Bn HW6
  have Ba := Lib.hid ka
  have Bc := Lib.hid kc
  have Bj := Lib.hid kj
  have Bs := Lib.hid ks
  have Bd := Lib.hid kd
  have Bn := Lib.hid kn
  have HW7 := Lib.hid kw
  clear hb kw ka kc kj ks kd kn
  have la := Ba.out.lt
  have ca0 : w7.cell? ⟨w.heap.size, 0, none⟩ = some (.int .i64 a) := Ba.out.cell rfl
  have ca1 : w7.cell? ⟨w.heap.size, 1, none⟩ = some (.int .i64 b) := Ba.out.cell rfl
  have lc := Bc.out.lt
  have cc0 : w7.cell? ⟨(w.heap.size + 1), 0, none⟩ = some (.int .i64 c) := Bc.out.cell rfl
  have cc1 : w7.cell? ⟨(w.heap.size + 1), 1, none⟩ = some (.int .i64 d) := Bc.out.cell rfl
  go_wp2_with fail
  refine (N3.out _).mono ?_
  rintro e w8 ⟨rfl, hb⟩
  have ka : Blk w8 w.heap.size #[.int .i64 a, .int .i64 b] := (Ba.out.alloc _).call hb
  have kc : Blk w8 (w.heap.size + 1) #[.int .i64 c, .int .i64 d] := (Bc.out.alloc _).call hb
  have kj : Blk w8 w1.heap.size #[.int .i64 j0, .int .i64 j1] := (Bj.out.alloc _).call hb
  have ks : Blk w8 w2.heap.size #[.int .i64 s0, .int .i64 s1] := (Bs.out.alloc _).call hb
  have kd : Blk w8 w3.heap.size #[.int .i64 d0, .int .i64 d1] := (Bd.out.alloc _).call hb
  have kn : Blk w8 w4.heap.size #[.int .i64 0, .int .i64 0] := (Bn.out.alloc _).call hb
  have kp : Blk w8 w7.heap.size #[.int .i64 s0, .int .i64 s1] := (Blk.new _ _ _).call hb
  have kw : Below w.heap.size w w8 := (HW7.out.alloc HW7.out.size _).trans (hb.mono (by have := HW7.out.size; simp; omega))
  clear la ca0 ca1 lc cc0 cc1 Ba Bc Bj Bs Bd Bn HW7
  have Ba := Lib.hid ka
  have Bc := Lib.hid kc
  have Bj := Lib.hid kj
  have Bs := Lib.hid ks
  have Bd := Lib.hid kd
  have Bn := Lib.hid kn
  have Bp := Lib.hid kp
  have HW8 := Lib.hid kw
  clear hb kw ka kc kj ks kd kn kp
  have ej := eqS j0 j1; have es := eqS s0 s1; have ed := eqS d0 d1
  go_upto_region 11 with fail
  obtain ⟨W11x, hW11x⟩ : ∃ W11x, (w8.alloc (.cells #[.int .i64 d0, .int .i64 d1] 23)) = W11x := ⟨_, rfl⟩
  have ba : Blk W11x w.heap.size #[.int .i64 a, .int .i64 b] := by rw [← hW11x]; exact (Ba.out.alloc _)
  have bc : Blk W11x (w.heap.size + 1) #[.int .i64 c, .int .i64 d] := by rw [← hW11x]; exact (Bc.out.alloc _)
  have bj : Blk W11x w1.heap.size #[.int .i64 j0, .int .i64 j1] := by rw [← hW11x]; exact (Bj.out.alloc _)
  have bs : Blk W11x w2.heap.size #[.int .i64 s0, .int .i64 s1] := by rw [← hW11x]; exact (Bs.out.alloc _)
  have bd : Blk W11x w3.heap.size #[.int .i64 d0, .int .i64 d1] := by rw [← hW11x]; exact (Bd.out.alloc _)
  have bp : Blk W11x w7.heap.size #[.int .i64 s0, .int .i64 s1] := by rw [← hW11x]; exact (Bp.out.alloc _)
  have bq : Blk W11x w8.heap.size #[.int .i64 d0, .int .i64 d1] := by rw [← hW11x]; exact (Blk.new _ _ _)
  have hw : Below w.heap.size w W11x := by rw [← hW11x]; exact (HW8.out.alloc HW8.out.size _)
  rw [hW11x]
  clear hW11x Ba Bc Bj Bs Bd Bn Bp HW8
  have hok : OwnOk (fun w' => w'.cell? ⟨w.heap.size, 0, none⟩ = some (.int .i64 a) ∧ w'.cell? ⟨w.heap.size, 1, none⟩ = some (.int .i64 b) ∧ w'.cell? ⟨(w.heap.size + 1), 0, none⟩ = some (.int .i64 c) ∧ w'.cell? ⟨(w.heap.size + 1), 1, none⟩ = some (.int .i64 d) ∧ w'.cell? ⟨w1.heap.size, 0, none⟩ = some (.int .i64 j0) ∧ w'.cell? ⟨w1.heap.size, 1, none⟩ = some (.int .i64 j1) ∧ w'.cell? ⟨w2.heap.size, 0, none⟩ = some (.int .i64 s0) ∧ w'.cell? ⟨w2.heap.size, 1, none⟩ = some (.int .i64 s1) ∧ w'.cell? ⟨w3.heap.size, 0, none⟩ = some (.int .i64 d0) ∧ w'.cell? ⟨w3.heap.size, 1, none⟩ = some (.int .i64 d1) ∧ w'.cell? ⟨w7.heap.size, 0, none⟩ = some (.int .i64 s0) ∧ w'.cell? ⟨w7.heap.size, 1, none⟩ = some (.int .i64 s1) ∧ w'.cell? ⟨w8.heap.size, 0, none⟩ = some (.int .i64 d0) ∧ w'.cell? ⟨w8.heap.size, 1, none⟩ = some (.int .i64 d1) ∧ Hid (Blk w' w.heap.size #[.int .i64 a, .int .i64 b] ∧ Blk w' (w.heap.size + 1) #[.int .i64 c, .int .i64 d] ∧ Blk w' w1.heap.size #[.int .i64 j0, .int .i64 j1] ∧ Blk w' w2.heap.size #[.int .i64 s0, .int .i64 s1] ∧ Blk w' w3.heap.size #[.int .i64 d0, .int .i64 d1] ∧ Blk w' w7.heap.size #[.int .i64 s0, .int .i64 s1] ∧ Blk w' w8.heap.size #[.int .i64 d0, .int .i64 d1] ∧ Below w.heap.size w w')) W11x.heap.size [] := own0_ok (fun v1 v2 h hb => ⟨((h.2.2.2.2.2.2.2.2.2.2.2.2.2.2.out.1).below hb ba.lt).cell rfl, ((h.2.2.2.2.2.2.2.2.2.2.2.2.2.2.out.1).below hb ba.lt).cell rfl, ((h.2.2.2.2.2.2.2.2.2.2.2.2.2.2.out.2.1).below hb bc.lt).cell rfl, ((h.2.2.2.2.2.2.2.2.2.2.2.2.2.2.out.2.1).below hb bc.lt).cell rfl, ((h.2.2.2.2.2.2.2.2.2.2.2.2.2.2.out.2.2.1).below hb bj.lt).cell rfl, ((h.2.2.2.2.2.2.2.2.2.2.2.2.2.2.out.2.2.1).below hb bj.lt).cell rfl, ((h.2.2.2.2.2.2.2.2.2.2.2.2.2.2.out.2.2.2.1).below hb bs.lt).cell rfl, ((h.2.2.2.2.2.2.2.2.2.2.2.2.2.2.out.2.2.2.1).below hb bs.lt).cell rfl, ((h.2.2.2.2.2.2.2.2.2.2.2.2.2.2.out.2.2.2.2.1).below hb bd.lt).cell rfl, ((h.2.2.2.2.2.2.2.2.2.2.2.2.2.2.out.2.2.2.2.1).below hb bd.lt).cell rfl, ((h.2.2.2.2.2.2.2.2.2.2.2.2.2.2.out.2.2.2.2.2.1).below hb bp.lt).cell rfl, ((h.2.2.2.2.2.2.2.2.2.2.2.2.2.2.out.2.2.2.2.2.1).below hb bp.lt).cell rfl, ((h.2.2.2.2.2.2.2.2.2.2.2.2.2.2.out.2.2.2.2.2.2.1).below hb bq.lt).cell rfl, ((h.2.2.2.2.2.2.2.2.2.2.2.2.2.2.out.2.2.2.2.2.2.1).below hb bq.lt).cell rfl, Lib.hid ⟨(h.2.2.2.2.2.2.2.2.2.2.2.2.2.2.out.1).below hb ba.lt, (h.2.2.2.2.2.2.2.2.2.2.2.2.2.2.out.2.1).below hb bc.lt, (h.2.2.2.2.2.2.2.2.2.2.2.2.2.2.out.2.2.1).below hb bj.lt, (h.2.2.2.2.2.2.2.2.2.2.2.2.2.2.out.2.2.2.1).below hb bs.lt, (h.2.2.2.2.2.2.2.2.2.2.2.2.2.2.out.2.2.2.2.1).below hb bd.lt, (h.2.2.2.2.2.2.2.2.2.2.2.2.2.2.out.2.2.2.2.2.1).below hb bp.lt, (h.2.2.2.2.2.2.2.2.2.2.2.2.2.2.out.2.2.2.2.2.2.1).below hb bq.lt, (h.2.2.2.2.2.2.2.2.2.2.2.2.2.2.out.2.2.2.2.2.2.2).trans (hb.mono hw.size)⟩⟩)
  have hfit : ∀ i, (∀ e ∈ ([] : List Ent), e.x ≠ i ∧ e.s ≠ i) → Fit (fun w' => w'.cell? ⟨w.heap.size, 0, none⟩ = some (.int .i64 a) ∧ w'.cell? ⟨w.heap.size, 1, none⟩ = some (.int .i64 b) ∧ w'.cell? ⟨(w.heap.size + 1), 0, none⟩ = some (.int .i64 c) ∧ w'.cell? ⟨(w.heap.size + 1), 1, none⟩ = some (.int .i64 d) ∧ w'.cell? ⟨w1.heap.size, 0, none⟩ = some (.int .i64 j0) ∧ w'.cell? ⟨w1.heap.size, 1, none⟩ = some (.int .i64 j1) ∧ w'.cell? ⟨w2.heap.size, 0, none⟩ = some (.int .i64 s0) ∧ w'.cell? ⟨w2.heap.size, 1, none⟩ = some (.int .i64 s1) ∧ w'.cell? ⟨w3.heap.size, 0, none⟩ = some (.int .i64 d0) ∧ w'.cell? ⟨w3.heap.size, 1, none⟩ = some (.int .i64 d1) ∧ w'.cell? ⟨w7.heap.size, 0, none⟩ = some (.int .i64 s0) ∧ w'.cell? ⟨w7.heap.size, 1, none⟩ = some (.int .i64 s1) ∧ w'.cell? ⟨w8.heap.size, 0, none⟩ = some (.int .i64 d0) ∧ w'.cell? ⟨w8.heap.size, 1, none⟩ = some (.int .i64 d1) ∧ Hid (Blk w' w.heap.size #[.int .i64 a, .int .i64 b] ∧ Blk w' (w.heap.size + 1) #[.int .i64 c, .int .i64 d] ∧ Blk w' w1.heap.size #[.int .i64 j0, .int .i64 j1] ∧ Blk w' w2.heap.size #[.int .i64 s0, .int .i64 s1] ∧ Blk w' w3.heap.size #[.int .i64 d0, .int .i64 d1] ∧ Blk w' w7.heap.size #[.int .i64 s0, .int .i64 s1] ∧ Blk w' w8.heap.size #[.int .i64 d0, .int .i64 d1] ∧ Below w.heap.size w w')) (Sof (fun w' => w'.cell? ⟨w.heap.size, 0, none⟩ = some (.int .i64 a) ∧ w'.cell? ⟨w.heap.size, 1, none⟩ = some (.int .i64 b) ∧ w'.cell? ⟨(w.heap.size + 1), 0, none⟩ = some (.int .i64 c) ∧ w'.cell? ⟨(w.heap.size + 1), 1, none⟩ = some (.int .i64 d) ∧ w'.cell? ⟨w1.heap.size, 0, none⟩ = some (.int .i64 j0) ∧ w'.cell? ⟨w1.heap.size, 1, none⟩ = some (.int .i64 j1) ∧ w'.cell? ⟨w2.heap.size, 0, none⟩ = some (.int .i64 s0) ∧ w'.cell? ⟨w2.heap.size, 1, none⟩ = some (.int .i64 s1) ∧ w'.cell? ⟨w3.heap.size, 0, none⟩ = some (.int .i64 d0) ∧ w'.cell? ⟨w3.heap.size, 1, none⟩ = some (.int .i64 d1) ∧ w'.cell? ⟨w7.heap.size, 0, none⟩ = some (.int .i64 s0) ∧ w'.cell? ⟨w7.heap.size, 1, none⟩ = some (.int .i64 s1) ∧ w'.cell? ⟨w8.heap.size, 0, none⟩ = some (.int .i64 d0) ∧ w'.cell? ⟨w8.heap.size, 1, none⟩ = some (.int .i64 d1) ∧ Hid (Blk w' w.heap.size #[.int .i64 a, .int .i64 b] ∧ Blk w' (w.heap.size + 1) #[.int .i64 c, .int .i64 d] ∧ Blk w' w1.heap.size #[.int .i64 j0, .int .i64 j1] ∧ Blk w' w2.heap.size #[.int .i64 s0, .int .i64 s1] ∧ Blk w' w3.heap.size #[.int .i64 d0, .int .i64 d1] ∧ Blk w' w7.heap.size #[.int .i64 s0, .int .i64 s1] ∧ Blk w' w8.heap.size #[.int .i64 d0, .int .i64 d1] ∧ Below w.heap.size w w')) W11x.heap.size []) i := fun i hi => sof_fit hok.st hok.loc hi
  have HOK := Lib.hid hok; have HF := Lib.hid hfit; clear hok hfit
  refine wp_region_ab (S0 := (fun w' => w'.cell? ⟨w.heap.size, 0, none⟩ = some (.int .i64 a) ∧ w'.cell? ⟨w.heap.size, 1, none⟩ = some (.int .i64 b) ∧ w'.cell? ⟨(w.heap.size + 1), 0, none⟩ = some (.int .i64 c) ∧ w'.cell? ⟨(w.heap.size + 1), 1, none⟩ = some (.int .i64 d) ∧ w'.cell? ⟨w1.heap.size, 0, none⟩ = some (.int .i64 j0) ∧ w'.cell? ⟨w1.heap.size, 1, none⟩ = some (.int .i64 j1) ∧ w'.cell? ⟨w2.heap.size, 0, none⟩ = some (.int .i64 s0) ∧ w'.cell? ⟨w2.heap.size, 1, none⟩ = some (.int .i64 s1) ∧ w'.cell? ⟨w3.heap.size, 0, none⟩ = some (.int .i64 d0) ∧ w'.cell? ⟨w3.heap.size, 1, none⟩ = some (.int .i64 d1) ∧ w'.cell? ⟨w7.heap.size, 0, none⟩ = some (.int .i64 s0) ∧ w'.cell? ⟨w7.heap.size, 1, none⟩ = some (.int .i64 s1) ∧ w'.cell? ⟨w8.heap.size, 0, none⟩ = some (.int .i64 d0) ∧ w'.cell? ⟨w8.heap.size, 1, none⟩ = some (.int .i64 d1) ∧ Hid (Blk w' w.heap.size #[.int .i64 a, .int .i64 b] ∧ Blk w' (w.heap.size + 1) #[.int .i64 c, .int .i64 d] ∧ Blk w' w1.heap.size #[.int .i64 j0, .int .i64 j1] ∧ Blk w' w2.heap.size #[.int .i64 s0, .int .i64 s1] ∧ Blk w' w3.heap.size #[.int .i64 d0, .int .i64 d1] ∧ Blk w' w7.heap.size #[.int .i64 s0, .int .i64 s1] ∧ Blk w' w8.heap.size #[.int .i64 d0, .int .i64 d1] ∧ Below w.heap.size w w'))) W11x.heap.size [] (by kernel_rfl) ⟨(ba.drew).cell rfl, (ba.drew).cell rfl, (bc.drew).cell rfl, (bc.drew).cell rfl, (bj.drew).cell rfl, (bj.drew).cell rfl, (bs.drew).cell rfl, (bs.drew).cell rfl, (bd.drew).cell rfl, (bd.drew).cell rfl, (bp.drew).cell rfl, (bp.drew).cell rfl, (bq.drew).cell rfl, (bq.drew).cell rfl, Lib.hid ⟨ba.drew, bc.drew, bj.drew, bs.drew, bd.drew, bp.drew, bq.drew, hw.drew⟩⟩ (Nat.le_refl _) (by simp) ?_
  clear ba bc bj bs bd bp bq
  refine abTake 0 (some 100) (v := ?_) rfl rfl (by kernel_rfl) (by kernel_rfl) (by kernel_rfl) (fun _ _ _ h => h) (HF.out _ (by simp)) (by rfl) ?_ ?_
  rotate_left 1
  · (intro w hSw; (try dsimp only at hSw); go_simp; try with_reducible rfl)
  simp only [Act.put, List.setIfInBounds_toArray, List.set_cons_zero, List.set_cons_succ]
  refine abTake 1 (some 101) (v := ?_) rfl rfl (by kernel_rfl) (by kernel_rfl) (by kernel_rfl) (fun _ _ _ h => h) (HF.out _ (by simp)) (by rfl) ?_ ?_
  rotate_left 1
  · (intro w hSw; (try dsimp only at hSw); go_simp; try with_reducible rfl)
  simp only [Act.put, List.setIfInBounds_toArray, List.set_cons_zero, List.set_cons_succ]
  refine abTake 2 (some 102) (v := ?_) rfl rfl (by kernel_rfl) (by kernel_rfl) (by kernel_rfl) (fun _ _ _ h => h) (HF.out _ (by simp)) (by rfl) ?_ ?_
  rotate_left 1
  · (intro w hSw; (try dsimp only at hSw); go_simp; try with_reducible rfl)
  simp only [Act.put, List.setIfInBounds_toArray, List.set_cons_zero, List.set_cons_succ]
  refine abTake 3 (some 103) (v := ?_) rfl rfl (by kernel_rfl) (by kernel_rfl) (by kernel_rfl) (fun _ _ _ h => h) (HF.out _ (by simp)) (by rfl) ?_ ?_
  rotate_left 1
  · (intro w hSw; (try dsimp only at hSw); go_simp; try with_reducible rfl)
  simp only [Act.put, List.setIfInBounds_toArray, List.set_cons_zero, List.set_cons_succ]
  refine abTake 4 (some 104) (v := ?_) rfl rfl (by kernel_rfl) (by kernel_rfl) (by kernel_rfl) (fun _ _ _ h => h) (HF.out _ (by simp)) (by rfl) ?_ ?_
  rotate_left 1
  · (intro w hSw; (try dsimp only at hSw); go_simp; try with_reducible rfl)
  simp only [Act.put, List.setIfInBounds_toArray, List.set_cons_zero, List.set_cons_succ]
  refine abTake 5 (some 105) (v := ?_) rfl rfl (by kernel_rfl) (by kernel_rfl) (by kernel_rfl) (fun _ _ _ h => h) (HF.out _ (by simp)) (by rfl) ?_ ?_
  rotate_left 1
  · (intro w hSw; (try dsimp only at hSw); go_simp; try with_reducible rfl)
  simp only [Act.put, List.setIfInBounds_toArray, List.set_cons_zero, List.set_cons_succ]
  refine abCall 6 (some 106) rfl rfl (by kernel_rfl) (by kernel_rfl) (by kernel_rfl) (fun _ _ _ h => h) (HF.out _ (by simp)) (by rfl) ?_ (fun w hSw => N1.out w) ?_
  · (intro w hSw; (try dsimp only at hSw); go_simp; try with_reducible rfl)
  simp only [Act.put, List.setIfInBounds_toArray, List.set_cons_zero, List.set_cons_succ]
  refine abTake 7 (some 107) (v := ?_) rfl rfl (by kernel_rfl) (by kernel_rfl) (by kernel_rfl) (fun _ _ _ h => h) (HF.out _ (by simp)) (by rfl) ?_ ?_
  rotate_left 1
  · (intro w hSw; (try dsimp only at hSw); go_simp; try with_reducible rfl)
  simp only [Act.put, List.setIfInBounds_toArray, List.set_cons_zero, List.set_cons_succ]
  refine abTake 8 (some 108) (v := ?_) rfl rfl (by kernel_rfl) (by kernel_rfl) (by kernel_rfl) (fun _ _ _ h => h) (HF.out _ (by simp)) (by rfl) ?_ ?_
  rotate_left 1
  · (intro w hSw; (try dsimp only at hSw); go_simp; try with_reducible rfl)
  simp only [Act.put, List.setIfInBounds_toArray, List.set_cons_zero, List.set_cons_succ]
  refine abTake 9 (some 109) (v := ?_) rfl rfl (by kernel_rfl) (by kernel_rfl) (by kernel_rfl) (fun _ _ _ h => h) (HF.out _ (by simp)) (by rfl) ?_ ?_
  rotate_left 1
  · (intro w hSw; (try dsimp only at hSw); go_simp; try with_reducible rfl)
  simp only [Act.put, List.setIfInBounds_toArray, List.set_cons_zero, List.set_cons_succ]
  refine abTake 10 (some 110) (v := ?_) rfl rfl (by kernel_rfl) (by kernel_rfl) (by kernel_rfl) (fun _ _ _ h => h) (HF.out _ (by simp)) (by rfl) ?_ ?_
  rotate_left 1
  · (intro w hSw; (try dsimp only at hSw); go_simp; try with_reducible rfl)
  simp only [Act.put, List.setIfInBounds_toArray, List.set_cons_zero, List.set_cons_succ]
  refine abTake 11 (some 111) (v := ?_) rfl rfl (by kernel_rfl) (by kernel_rfl) (by kernel_rfl) (fun _ _ _ h => h) (HF.out _ (by simp)) (by rfl) ?_ ?_
  rotate_left 1
  · (intro w hSw; (try dsimp only at hSw); go_simp; try with_reducible rfl)
  simp only [Act.put, List.setIfInBounds_toArray, List.set_cons_zero, List.set_cons_succ]
  refine abTake 12 (some 112) (v := ?_) rfl rfl (by kernel_rfl) (by kernel_rfl) (by kernel_rfl) (fun _ _ _ h => h) (HF.out _ (by simp)) (by rfl) ?_ ?_
  rotate_left 1
  · (intro w hSw; (try dsimp only at hSw); go_simp; try with_reducible rfl)
  simp only [Act.put, List.setIfInBounds_toArray, List.set_cons_zero, List.set_cons_succ]
  refine abTake 13 (some 113) (v := ?_) rfl rfl (by kernel_rfl) (by kernel_rfl) (by kernel_rfl) (fun _ _ _ h => h) (HF.out _ (by simp)) (by rfl) ?_ ?_
  rotate_left 1
  · (intro w hSw; (try dsimp only at hSw); go_simp; try with_reducible rfl)
  simp only [Act.put, List.setIfInBounds_toArray, List.set_cons_zero, List.set_cons_succ]
  refine abTake 14 (some 114) (v := ?_) rfl rfl (by kernel_rfl) (by kernel_rfl) (by kernel_rfl) (fun _ _ _ h => h) (HF.out _ (by simp)) (by rfl) ?_ ?_
  rotate_left 1
  · (intro w hSw; (try dsimp only at hSw); go_simp; try with_reducible rfl)
  simp only [Act.put, List.setIfInBounds_toArray, List.set_cons_zero, List.set_cons_succ]
  refine abTake 15 (some 115) (v := ?_) rfl rfl (by kernel_rfl) (by kernel_rfl) (by kernel_rfl) (fun _ _ _ h => h) (HF.out _ (by simp)) (by rfl) ?_ ?_
  rotate_left 1
  · (intro w hSw; (try dsimp only at hSw); go_simp; try with_reducible rfl)
  simp only [Act.put, List.setIfInBounds_toArray, List.set_cons_zero, List.set_cons_succ]
  refine abTake 16 (some 116) (v := ?_) rfl rfl (by kernel_rfl) (by kernel_rfl) (by kernel_rfl) (fun _ _ _ h => h) (HF.out _ (by simp)) (by rfl) ?_ ?_
  rotate_left 1
  · (intro w hSw; (try dsimp only at hSw); go_simp; try with_reducible rfl)
  simp only [Act.put, List.setIfInBounds_toArray, List.set_cons_zero, List.set_cons_succ]
  refine abTake 17 (some 117) (v := ?_) rfl rfl (by kernel_rfl) (by kernel_rfl) (by kernel_rfl) (fun _ _ _ h => h) (HF.out _ (by simp)) (by rfl) ?_ ?_
  rotate_left 1
  · (intro w hSw; (try dsimp only at hSw); go_simp; try with_reducible rfl)
  simp only [Act.put, List.setIfInBounds_toArray, List.set_cons_zero, List.set_cons_succ]
  refine abTake 18 (some 118) (v := ?_) rfl rfl (by kernel_rfl) (by kernel_rfl) (by kernel_rfl) (fun _ _ _ h => h) (HF.out _ (by simp)) (by rfl) ?_ ?_
  rotate_left 1
  · (intro w hSw; (try dsimp only at hSw); go_simp; try with_reducible rfl)
  simp only [Act.put, List.setIfInBounds_toArray, List.set_cons_zero, List.set_cons_succ]
  refine abTake 19 (some 119) (v := ?_) rfl rfl (by kernel_rfl) (by kernel_rfl) (by kernel_rfl) (fun _ _ _ h => h) (HF.out _ (by simp)) (by rfl) ?_ ?_
  rotate_left 1
  · (intro w hSw; (try dsimp only at hSw); go_simp; try with_reducible rfl)
  simp only [Act.put, List.setIfInBounds_toArray, List.set_cons_zero, List.set_cons_succ]
  refine abTake 20 (some 120) (v := ?_) rfl rfl (by kernel_rfl) (by kernel_rfl) (by kernel_rfl) (fun _ _ _ h => h) (HF.out _ (by simp)) (by rfl) ?_ ?_
  rotate_left 1
  · (intro w hSw; (try dsimp only at hSw); go_simp; try with_reducible rfl)
  simp only [Act.put, List.setIfInBounds_toArray, List.set_cons_zero, List.set_cons_succ]
  refine abTake 21 (some 121) (v := ?_) rfl rfl (by kernel_rfl) (by kernel_rfl) (by kernel_rfl) (fun _ _ _ h => h) (HF.out _ (by simp)) (by rfl) ?_ ?_
  rotate_left 1
  · (intro w hSw; (try dsimp only at hSw); go_simp; try with_reducible rfl)
  simp only [Act.put, List.setIfInBounds_toArray, List.set_cons_zero, List.set_cons_succ]
  refine abTake 22 (some 122) (v := ?_) rfl rfl (by kernel_rfl) (by kernel_rfl) (by kernel_rfl) (fun _ _ _ h => h) (HF.out _ (by simp)) (by rfl) ?_ ?_
  rotate_left 1
  · (intro w hSw; (try dsimp only at hSw); go_simp; try with_reducible rfl)
  simp only [Act.put, List.setIfInBounds_toArray, List.set_cons_zero, List.set_cons_succ]
  refine abTake 23 (some 123) (v := ?_) rfl rfl (by kernel_rfl) (by kernel_rfl) (by kernel_rfl) (fun _ _ _ h => h) (HF.out _ (by simp)) (by rfl) ?_ ?_
  rotate_left 1
  · (intro w hSw; (try dsimp only at hSw); go_simp; try with_reducible rfl)
  simp only [Act.put, List.setIfInBounds_toArray, List.set_cons_zero, List.set_cons_succ]
  refine abTake 24 (some 124) (v := ?_) rfl rfl (by kernel_rfl) (by kernel_rfl) (by kernel_rfl) (fun _ _ _ h => h) (HF.out _ (by simp)) (by rfl) ?_ ?_
  rotate_left 1
  · (intro w hSw; (try dsimp only at hSw); go_simp; try with_reducible rfl)
  simp only [Act.put, List.setIfInBounds_toArray, List.set_cons_zero, List.set_cons_succ]
  refine abTake 25 (some 125) (v := ?_) rfl rfl (by kernel_rfl) (by kernel_rfl) (by kernel_rfl) (fun _ _ _ h => h) (HF.out _ (by simp)) (by rfl) ?_ ?_
  rotate_left 1
  · (intro w hSw; (try dsimp only at hSw); go_simp; try with_reducible rfl)
  simp only [Act.put, List.setIfInBounds_toArray, List.set_cons_zero, List.set_cons_succ]
  refine abTake 26 (some 126) (v := ?_) rfl rfl (by kernel_rfl) (by kernel_rfl) (by kernel_rfl) (fun _ _ _ h => h) (HF.out _ (by simp)) (by rfl) ?_ ?_
  rotate_left 1
  · (intro w hSw; (try dsimp only at hSw); go_simp; try with_reducible rfl)
  simp only [Act.put, List.setIfInBounds_toArray, List.set_cons_zero, List.set_cons_succ]
  refine abTake 27 (some 127) (v := ?_) rfl rfl (by kernel_rfl) (by kernel_rfl) (by kernel_rfl) (fun _ _ _ h => h) (HF.out _ (by simp)) (by rfl) ?_ ?_
  rotate_left 1
  · (intro w hSw; (try dsimp only at hSw); go_simp; try with_reducible rfl)
  simp only [Act.put, List.setIfInBounds_toArray, List.set_cons_zero, List.set_cons_succ]
  refine abTake 28 (some 128) (v := ?_) rfl rfl (by kernel_rfl) (by kernel_rfl) (by kernel_rfl) (fun _ _ _ h => h) (HF.out _ (by simp)) (by rfl) ?_ ?_
  rotate_left 1
  · (intro w hSw; (try dsimp only at hSw); go_simp; try with_reducible rfl)
  simp only [Act.put, List.setIfInBounds_toArray, List.set_cons_zero, List.set_cons_succ]
  refine abTake 29 (some 6) (v := ?_) rfl rfl (by kernel_rfl) (by kernel_rfl) (by kernel_rfl) (fun _ _ _ h => h) (HF.out _ (by simp)) (by rfl) ?_ ?_
  rotate_left 1
  · (intro w hSw; (try dsimp only at hSw); go_simp; try with_reducible rfl)
  simp only [Act.put, List.setIfInBounds_toArray, List.set_cons_zero, List.set_cons_succ]
  refine abDone (by kernel_rfl) ?_ _
  rintro w9 hS
  have Ba := Lib.hid (hS.1.2.2.2.2.2.2.2.2.2.2.2.2.2.2.out.1)
  have Bc := Lib.hid (hS.1.2.2.2.2.2.2.2.2.2.2.2.2.2.2.out.2.1)
  have Bj := Lib.hid (hS.1.2.2.2.2.2.2.2.2.2.2.2.2.2.2.out.2.2.1)
  have Bs := Lib.hid (hS.1.2.2.2.2.2.2.2.2.2.2.2.2.2.2.out.2.2.2.1)
  have Bd := Lib.hid (hS.1.2.2.2.2.2.2.2.2.2.2.2.2.2.2.out.2.2.2.2.1)
  have Bp := Lib.hid (hS.1.2.2.2.2.2.2.2.2.2.2.2.2.2.2.out.2.2.2.2.2.1)
  have Bq := Lib.hid (hS.1.2.2.2.2.2.2.2.2.2.2.2.2.2.2.out.2.2.2.2.2.2.1)
  have Hw9 := Lib.hid (hS.1.2.2.2.2.2.2.2.2.2.2.2.2.2.2.out.2.2.2.2.2.2.2)
  clear hS HOK HF hw
  go_wp2_with fail
  go_ret
  exact ⟨rfl, Hw9.out⟩
set_option maxRecDepth 100000 in
set_option maxHeartbeats 2000000 in
theorem stells_no1 (a b c d x : Int) (R H : Bool) (w : World)
    (m1 : ∀ w, Calls Try.prog 8 #[.agg #[.int .i64 a, .int .i64 b], .agg #[.int .i64 c, .int .i64 d]] w fun en w' => en = .returned (.tuple #[.agg #[.int .i64 0, .int .i64 0], .int .i64 1]) ∧ Below w.heap.size w w')
    (m2 : ∀ w, Calls Try.prog 9 #[.agg #[.int .i64 a, .int .i64 b], .agg #[.int .i64 c, .int .i64 d]] w fun en w' => en = .returned (.tuple #[.agg #[.int .i64 0, .int .i64 0], .int .i64 1]) ∧ Below w.heap.size w w')
    (m3 : ∀ w, Calls Try.prog 10 #[.agg #[.int .i64 a, .int .i64 b], .agg #[.int .i64 c, .int .i64 d]] w fun en w' => en = .returned (.tuple #[.agg #[.int .i64 0, .int .i64 0], .int .i64 1]) ∧ Below w.heap.size w w')
    (m4 : ∀ w, Calls Try.prog 11 #[.agg #[.int .i64 a, .int .i64 b]] w fun en w' => en = .returned (.bool R) ∧ Below w.heap.size w w')
    (m5 : ∀ w, Calls Try.prog 12 #[.agg #[.int .i64 a, .int .i64 b]] w fun en w' => en = .returned (.bool R) ∧ Below w.heap.size w w')
    (m6 : ∀ w, Calls Try.prog 13 #[.agg #[.int .i64 a, .int .i64 b], .int .i64 x] w fun en w' => en = .returned (.bool H) ∧ Below w.heap.size w w')
    (m7 : ∀ w, Calls Try.prog 14 #[.agg #[.int .i64 a, .int .i64 b], .int .i64 x] w fun en w' => en = .returned (.bool H) ∧ Below w.heap.size w w')
    (hR : R = false) :
    Calls Try.prog 3 #[.agg #[.int .i64 a, .int .i64 b], .agg #[.int .i64 c, .int .i64 d], .int .i64 x] w fun en w' => en = .returned (.bool true) ∧ Below w.heap.size w w' := by
  subst hR
  have M1 := Lib.hid m1; have M2 := Lib.hid m2; have M3 := Lib.hid m3; have M4 := Lib.hid m4; have M5 := Lib.hid m5; have M6 := Lib.hid m6; have M7 := Lib.hid m7
  clear m1 m2 m3 m4 m5 m6 m7
  go_enter Try.func3, Try.ntmps3
  go_wp2_with fail
  refine (M1.out _).mono ?_
  rintro e w1 ⟨rfl, hb⟩
  have ka : Blk w1 w.heap.size #[.int .i64 a, .int .i64 b] := ((Blk.new _ _ _).alloc _).call hb
  have kc : Blk w1 (w.heap.size + 1) #[.int .i64 c, .int .i64 d] := (Blk.newAt (by simp)).call hb
  have kw : Below w.heap.size w w1 := (((Below.refl w.heap.size w).alloc (Nat.le_refl _) _).alloc (by simp) _).trans (hb.mono (by simp; omega))
  have Ba := Lib.hid ka
  have Bc := Lib.hid kc
  have HW1 := Lib.hid kw
  clear hb kw ka kc
  have la := Ba.out.lt
  have ca0 : w1.cell? ⟨w.heap.size, 0, none⟩ = some (.int .i64 a) := Ba.out.cell rfl
  have ca1 : w1.cell? ⟨w.heap.size, 1, none⟩ = some (.int .i64 b) := Ba.out.cell rfl
  have lc := Bc.out.lt
  have cc0 : w1.cell? ⟨(w.heap.size + 1), 0, none⟩ = some (.int .i64 c) := Bc.out.cell rfl
  have cc1 : w1.cell? ⟨(w.heap.size + 1), 1, none⟩ = some (.int .i64 d) := Bc.out.cell rfl
  go_wp2_with fail
  refine (M2.out _).mono ?_
  rintro e w2 ⟨rfl, hb⟩
  have ka : Blk w2 w.heap.size #[.int .i64 a, .int .i64 b] := (Ba.out.alloc _).call hb
  have kc : Blk w2 (w.heap.size + 1) #[.int .i64 c, .int .i64 d] := (Bc.out.alloc _).call hb
  have kj : Blk w2 w1.heap.size #[.int .i64 0, .int .i64 0] := (Blk.new _ _ _).call hb
  have kw : Below w.heap.size w w2 := (HW1.out.alloc HW1.out.size _).trans (hb.mono (by have := HW1.out.size; simp; omega))
  clear la ca0 ca1 lc cc0 cc1 Ba Bc HW1
  have Ba := Lib.hid ka
  have Bc := Lib.hid kc
  have Bj := Lib.hid kj
  have HW2 := Lib.hid kw
  clear hb kw ka kc kj
  have la := Ba.out.lt
  have ca0 : w2.cell? ⟨w.heap.size, 0, none⟩ = some (.int .i64 a) := Ba.out.cell rfl
  have ca1 : w2.cell? ⟨w.heap.size, 1, none⟩ = some (.int .i64 b) := Ba.out.cell rfl
  have lc := Bc.out.lt
  have cc0 : w2.cell? ⟨(w.heap.size + 1), 0, none⟩ = some (.int .i64 c) := Bc.out.cell rfl
  have cc1 : w2.cell? ⟨(w.heap.size + 1), 1, none⟩ = some (.int .i64 d) := Bc.out.cell rfl
  go_wp2_with fail
  refine (M3.out _).mono ?_
  rintro e w3 ⟨rfl, hb⟩
  have ka : Blk w3 w.heap.size #[.int .i64 a, .int .i64 b] := (Ba.out.alloc _).call hb
  have kc : Blk w3 (w.heap.size + 1) #[.int .i64 c, .int .i64 d] := (Bc.out.alloc _).call hb
  have kj : Blk w3 w1.heap.size #[.int .i64 0, .int .i64 0] := (Bj.out.alloc _).call hb
  have ks : Blk w3 w2.heap.size #[.int .i64 0, .int .i64 0] := (Blk.new _ _ _).call hb
  have kw : Below w.heap.size w w3 := (HW2.out.alloc HW2.out.size _).trans (hb.mono (by have := HW2.out.size; simp; omega))
  clear la ca0 ca1 lc cc0 cc1 Ba Bc Bj HW2
  have Ba := Lib.hid ka
  have Bc := Lib.hid kc
  have Bj := Lib.hid kj
  have Bs := Lib.hid ks
  have HW3 := Lib.hid kw
  clear hb kw ka kc kj ks
  go_upto_region 4 with fail
  obtain ⟨W4x, hW4x⟩ : ∃ W4x, (w3.alloc (.cells #[.int .i64 0, .int .i64 0] 23)) = W4x := ⟨_, rfl⟩
  have ba : Blk W4x w.heap.size #[.int .i64 a, .int .i64 b] := by rw [← hW4x]; exact (Ba.out.alloc _)
  have bc : Blk W4x (w.heap.size + 1) #[.int .i64 c, .int .i64 d] := by rw [← hW4x]; exact (Bc.out.alloc _)
  have bj : Blk W4x w1.heap.size #[.int .i64 0, .int .i64 0] := by rw [← hW4x]; exact (Bj.out.alloc _)
  have bs : Blk W4x w2.heap.size #[.int .i64 0, .int .i64 0] := by rw [← hW4x]; exact (Bs.out.alloc _)
  have bd : Blk W4x w3.heap.size #[.int .i64 0, .int .i64 0] := by rw [← hW4x]; exact (Blk.new _ _ _)
  have hw : Below w.heap.size w W4x := by rw [← hW4x]; exact (HW3.out.alloc HW3.out.size _)
  rw [hW4x]
  clear hW4x Ba Bc Bj Bs HW3
  have hok : OwnOk (fun w' => w'.cell? ⟨w.heap.size, 0, none⟩ = some (.int .i64 a) ∧ w'.cell? ⟨w.heap.size, 1, none⟩ = some (.int .i64 b) ∧ Hid (Blk w' w.heap.size #[.int .i64 a, .int .i64 b] ∧ Blk w' (w.heap.size + 1) #[.int .i64 c, .int .i64 d] ∧ Blk w' w1.heap.size #[.int .i64 0, .int .i64 0] ∧ Blk w' w2.heap.size #[.int .i64 0, .int .i64 0] ∧ Blk w' w3.heap.size #[.int .i64 0, .int .i64 0] ∧ Below w.heap.size w w')) W4x.heap.size [] := own0_ok (fun v1 v2 h hb => ⟨((h.2.2.out.1).below hb ba.lt).cell rfl, ((h.2.2.out.1).below hb ba.lt).cell rfl, Lib.hid ⟨(h.2.2.out.1).below hb ba.lt, (h.2.2.out.2.1).below hb bc.lt, (h.2.2.out.2.2.1).below hb bj.lt, (h.2.2.out.2.2.2.1).below hb bs.lt, (h.2.2.out.2.2.2.2.1).below hb bd.lt, (h.2.2.out.2.2.2.2.2).trans (hb.mono hw.size)⟩⟩)
  have hfit : ∀ i, (∀ e ∈ ([] : List Ent), e.x ≠ i ∧ e.s ≠ i) → Fit (fun w' => w'.cell? ⟨w.heap.size, 0, none⟩ = some (.int .i64 a) ∧ w'.cell? ⟨w.heap.size, 1, none⟩ = some (.int .i64 b) ∧ Hid (Blk w' w.heap.size #[.int .i64 a, .int .i64 b] ∧ Blk w' (w.heap.size + 1) #[.int .i64 c, .int .i64 d] ∧ Blk w' w1.heap.size #[.int .i64 0, .int .i64 0] ∧ Blk w' w2.heap.size #[.int .i64 0, .int .i64 0] ∧ Blk w' w3.heap.size #[.int .i64 0, .int .i64 0] ∧ Below w.heap.size w w')) (Sof (fun w' => w'.cell? ⟨w.heap.size, 0, none⟩ = some (.int .i64 a) ∧ w'.cell? ⟨w.heap.size, 1, none⟩ = some (.int .i64 b) ∧ Hid (Blk w' w.heap.size #[.int .i64 a, .int .i64 b] ∧ Blk w' (w.heap.size + 1) #[.int .i64 c, .int .i64 d] ∧ Blk w' w1.heap.size #[.int .i64 0, .int .i64 0] ∧ Blk w' w2.heap.size #[.int .i64 0, .int .i64 0] ∧ Blk w' w3.heap.size #[.int .i64 0, .int .i64 0] ∧ Below w.heap.size w w')) W4x.heap.size []) i := fun i hi => sof_fit hok.st hok.loc hi
  have HOK := Lib.hid hok; have HF := Lib.hid hfit; clear hok hfit
  refine wp_region_ab (S0 := (fun w' => w'.cell? ⟨w.heap.size, 0, none⟩ = some (.int .i64 a) ∧ w'.cell? ⟨w.heap.size, 1, none⟩ = some (.int .i64 b) ∧ Hid (Blk w' w.heap.size #[.int .i64 a, .int .i64 b] ∧ Blk w' (w.heap.size + 1) #[.int .i64 c, .int .i64 d] ∧ Blk w' w1.heap.size #[.int .i64 0, .int .i64 0] ∧ Blk w' w2.heap.size #[.int .i64 0, .int .i64 0] ∧ Blk w' w3.heap.size #[.int .i64 0, .int .i64 0] ∧ Below w.heap.size w w'))) W4x.heap.size [] (by kernel_rfl) ⟨(ba.drew).cell rfl, (ba.drew).cell rfl, Lib.hid ⟨ba.drew, bc.drew, bj.drew, bs.drew, bd.drew, hw.drew⟩⟩ (Nat.le_refl _) (by simp) ?_
  clear ba bc bj bs bd
  refine abTake 0 (some 36) (v := ?_) rfl rfl (by kernel_rfl) (by kernel_rfl) (by kernel_rfl) (fun _ _ _ h => h) (HF.out _ (by simp)) (by rfl) ?_ ?_
  rotate_left 1
  · (intro w hSw; (try dsimp only at hSw); go_simp; try with_reducible rfl)
  simp only [Act.put, List.setIfInBounds_toArray, List.set_cons_zero, List.set_cons_succ]
  refine abCall 1 (some 37) rfl rfl (by kernel_rfl) (by kernel_rfl) (by kernel_rfl) (fun _ _ _ h => h) (HF.out _ (by simp)) (by rfl) ?_ (fun w hSw => M4.out w) ?_
  · (intro w hSw; (try dsimp only at hSw); go_simp; try with_reducible rfl)
  simp only [Act.put, List.setIfInBounds_toArray, List.set_cons_zero, List.set_cons_succ]
  refine abTake 2 (some 38) (v := ?_) rfl rfl (by kernel_rfl) (by kernel_rfl) (by kernel_rfl) (fun _ _ _ h => h) (HF.out _ (by simp)) (by rfl) ?_ ?_
  rotate_left 1
  · (intro w hSw; (try dsimp only at hSw); go_simp; try with_reducible rfl)
  simp only [Act.put, List.setIfInBounds_toArray, List.set_cons_zero, List.set_cons_succ]
  refine abCall 3 (some 39) rfl rfl (by kernel_rfl) (by kernel_rfl) (by kernel_rfl) (fun _ _ _ h => h) (HF.out _ (by simp)) (by rfl) ?_ (fun w hSw => M5.out w) ?_
  · (intro w hSw; (try dsimp only at hSw); go_simp; try with_reducible rfl)
  simp only [Act.put, List.setIfInBounds_toArray, List.set_cons_zero, List.set_cons_succ]
  refine abTake 4 (some 40) (v := ?_) rfl rfl (by kernel_rfl) (by kernel_rfl) (by kernel_rfl) (fun _ _ _ h => h) (HF.out _ (by simp)) (by rfl) ?_ ?_
  rotate_left 1
  · (intro w hSw; (try dsimp only at hSw); go_simp; try with_reducible rfl)
  simp only [Act.put, List.setIfInBounds_toArray, List.set_cons_zero, List.set_cons_succ]
  refine abTake 5 (some 41) (v := ?_) rfl rfl (by kernel_rfl) (by kernel_rfl) (by kernel_rfl) (fun _ _ _ h => h) (HF.out _ (by simp)) (by rfl) ?_ ?_
  rotate_left 1
  · (intro w hSw; (try dsimp only at hSw); go_simp; try with_reducible rfl)
  simp only [Act.put, List.setIfInBounds_toArray, List.set_cons_zero, List.set_cons_succ]
  refine abTake 6 (some 42) (v := ?_) rfl rfl (by kernel_rfl) (by kernel_rfl) (by kernel_rfl) (fun _ _ _ h => h) (HF.out _ (by simp)) (by rfl) ?_ ?_
  rotate_left 1
  · (intro w hSw; (try dsimp only at hSw); go_simp; try with_reducible rfl)
  simp only [Act.put, List.setIfInBounds_toArray, List.set_cons_zero, List.set_cons_succ]
  refine abTake 7 (some 43) (v := ?_) rfl rfl (by kernel_rfl) (by kernel_rfl) (by kernel_rfl) (fun _ _ _ h => h) (HF.out _ (by simp)) (by rfl) ?_ ?_
  rotate_left 1
  · (intro w hSw; (try dsimp only at hSw); go_simp; try with_reducible rfl)
  simp only [Act.put, List.setIfInBounds_toArray, List.set_cons_zero, List.set_cons_succ]
  refine abCall 8 (some 44) rfl rfl (by kernel_rfl) (by kernel_rfl) (by kernel_rfl) (fun _ _ _ h => h) (HF.out _ (by simp)) (by rfl) ?_ (fun w hSw => M6.out w) ?_
  · (intro w hSw; (try dsimp only at hSw); go_simp; try with_reducible rfl)
  simp only [Act.put, List.setIfInBounds_toArray, List.set_cons_zero, List.set_cons_succ]
  refine abTake 9 (some 45) (v := ?_) rfl rfl (by kernel_rfl) (by kernel_rfl) (by kernel_rfl) (fun _ _ _ h => h) (HF.out _ (by simp)) (by rfl) ?_ ?_
  rotate_left 1
  · (intro w hSw; (try dsimp only at hSw); go_simp; try with_reducible rfl)
  simp only [Act.put, List.setIfInBounds_toArray, List.set_cons_zero, List.set_cons_succ]
  refine abTake 10 (some 46) (v := ?_) rfl rfl (by kernel_rfl) (by kernel_rfl) (by kernel_rfl) (fun _ _ _ h => h) (HF.out _ (by simp)) (by rfl) ?_ ?_
  rotate_left 1
  · (intro w hSw; (try dsimp only at hSw); go_simp; try with_reducible rfl)
  simp only [Act.put, List.setIfInBounds_toArray, List.set_cons_zero, List.set_cons_succ]
  refine abCall 11 (some 47) rfl rfl (by kernel_rfl) (by kernel_rfl) (by kernel_rfl) (fun _ _ _ h => h) (HF.out _ (by simp)) (by rfl) ?_ (fun w hSw => M7.out w) ?_
  · (intro w hSw; (try dsimp only at hSw); go_simp; try with_reducible rfl)
  simp only [Act.put, List.setIfInBounds_toArray, List.set_cons_zero, List.set_cons_succ]
  refine abTake 12 (some 48) (v := ?_) rfl rfl (by kernel_rfl) (by kernel_rfl) (by kernel_rfl) (fun _ _ _ h => h) (HF.out _ (by simp)) (by rfl) ?_ ?_
  rotate_left 1
  · (intro w hSw; (try dsimp only at hSw); go_simp; try with_reducible rfl)
  simp only [Act.put, List.setIfInBounds_toArray, List.set_cons_zero, List.set_cons_succ]
  refine abTake 13 (some 49) (v := ?_) rfl rfl (by kernel_rfl) (by kernel_rfl) (by kernel_rfl) (fun _ _ _ h => h) (HF.out _ (by simp)) (by rfl) ?_ ?_
  rotate_left 1
  · (intro w hSw; (try dsimp only at hSw); go_simp; try with_reducible rfl)
  simp only [Act.put, List.setIfInBounds_toArray, List.set_cons_zero, List.set_cons_succ]
  refine abTake 14 (some 50) (v := ?_) rfl rfl (by kernel_rfl) (by kernel_rfl) (by kernel_rfl) (fun _ _ _ h => h) (HF.out _ (by simp)) (by rfl) ?_ ?_
  rotate_left 1
  · (intro w hSw; (try dsimp only at hSw); go_simp; try with_reducible rfl)
  simp only [Act.put, List.setIfInBounds_toArray, List.set_cons_zero, List.set_cons_succ]
  refine abCall 15 (some 51) rfl rfl (by kernel_rfl) (by kernel_rfl) (by kernel_rfl) (fun _ _ _ h => h) (HF.out _ (by simp)) (by rfl) ?_ (fun w hSw => alive5 w) ?_
  · (intro w hSw; (try dsimp only at hSw); go_simp; try with_reducible rfl)
  simp only [Act.put, List.setIfInBounds_toArray, List.set_cons_zero, List.set_cons_succ]
  refine abTake 16 (some 52) (v := ?_) rfl rfl (by kernel_rfl) (by kernel_rfl) (by kernel_rfl) (fun _ _ _ h => h) (HF.out _ (by simp)) (by rfl) ?_ ?_
  rotate_left 1
  · (intro w hSw; (try dsimp only at hSw); go_simp; try with_reducible rfl)
  simp only [Act.put, List.setIfInBounds_toArray, List.set_cons_zero, List.set_cons_succ]
  refine abTake 17 (some 53) (v := ?_) rfl rfl (by kernel_rfl) (by kernel_rfl) (by kernel_rfl) (fun _ _ _ h => h) (HF.out _ (by simp)) (by rfl) ?_ ?_
  rotate_left 1
  · (intro w hSw; (try dsimp only at hSw); go_simp; try with_reducible rfl)
  simp only [Act.put, List.setIfInBounds_toArray, List.set_cons_zero, List.set_cons_succ]
  refine abDone (by kernel_rfl) ?_ _
  rintro w4 hS
  have Ba := Lib.hid (hS.1.2.2.out.1)
  have Bc := Lib.hid (hS.1.2.2.out.2.1)
  have Bj := Lib.hid (hS.1.2.2.out.2.2.1)
  have Bs := Lib.hid (hS.1.2.2.out.2.2.2.1)
  have Bd := Lib.hid (hS.1.2.2.out.2.2.2.2.1)
  have Hw4 := Lib.hid (hS.1.2.2.out.2.2.2.2.2)
  clear hS HOK HF hw
  have la := Ba.out.lt
  have ca0 : w4.cell? ⟨w.heap.size, 0, none⟩ = some (.int .i64 a) := Ba.out.cell rfl
  have ca1 : w4.cell? ⟨w.heap.size, 1, none⟩ = some (.int .i64 b) := Ba.out.cell rfl
  go_wp2_with fail
  refine (M5.out _).mono ?_
  rintro e w5 ⟨rfl, hb⟩
  have ka : Blk w5 w.heap.size #[.int .i64 a, .int .i64 b] := (Ba.out.alloc _).call hb
  have kc : Blk w5 (w.heap.size + 1) #[.int .i64 c, .int .i64 d] := (Bc.out.alloc _).call hb
  have kj : Blk w5 w1.heap.size #[.int .i64 0, .int .i64 0] := (Bj.out.alloc _).call hb
  have ks : Blk w5 w2.heap.size #[.int .i64 0, .int .i64 0] := (Bs.out.alloc _).call hb
  have kd : Blk w5 w3.heap.size #[.int .i64 0, .int .i64 0] := (Bd.out.alloc _).call hb
  have kn : Blk w5 w4.heap.size #[.int .i64 0, .int .i64 0] := (Blk.new _ _ _).call hb
  have kw : Below w.heap.size w w5 := (Hw4.out.alloc Hw4.out.size _).trans (hb.mono (by have := Hw4.out.size; simp; omega))
  clear la ca0 ca1 Ba Bc Bj Bs Bd Hw4
  have Ba := Lib.hid ka
  have Bc := Lib.hid kc
  have Bj := Lib.hid kj
  have Bs := Lib.hid ks
  have Bd := Lib.hid kd
  have Bn := Lib.hid kn
  have HW5 := Lib.hid kw
  clear hb kw ka kc kj ks kd kn
  have e0 := eqS0
  have lj := Bj.out.lt
  have cj0 : w5.cell? ⟨w1.heap.size, 0, none⟩ = some (.int .i64 0) := Bj.out.cell rfl
  have cj1 : w5.cell? ⟨w1.heap.size, 1, none⟩ = some (.int .i64 0) := Bj.out.cell rfl
  have ls := Bs.out.lt
  have cs0 : w5.cell? ⟨w2.heap.size, 0, none⟩ = some (.int .i64 0) := Bs.out.cell rfl
  have cs1 : w5.cell? ⟨w2.heap.size, 1, none⟩ = some (.int .i64 0) := Bs.out.cell rfl
  have ld := Bd.out.lt
  have cd0 : w5.cell? ⟨w3.heap.size, 0, none⟩ = some (.int .i64 0) := Bd.out.cell rfl
  have cd1 : w5.cell? ⟨w3.heap.size, 1, none⟩ = some (.int .i64 0) := Bd.out.cell rfl
  have ln := Bn.out.lt
  have cn0 : w5.cell? ⟨w4.heap.size, 0, none⟩ = some (.int .i64 0) := Bn.out.cell rfl
  have cn1 : w5.cell? ⟨w4.heap.size, 1, none⟩ = some (.int .i64 0) := Bn.out.cell rfl
  go_wp2_with fail
  go_ret
  exact ⟨rfl, HW5.out⟩
set_option maxRecDepth 100000 in
set_option maxHeartbeats 2000000 in
theorem stells_no2 (a b c d x : Int) (R H : Bool) (w : World)
    (m1 : ∀ w, Calls Try.prog 8 #[.agg #[.int .i64 a, .int .i64 b], .agg #[.int .i64 c, .int .i64 d]] w fun en w' => en = .returned (.tuple #[.agg #[.int .i64 0, .int .i64 0], .int .i64 1]) ∧ Below w.heap.size w w')
    (m2 : ∀ w, Calls Try.prog 9 #[.agg #[.int .i64 a, .int .i64 b], .agg #[.int .i64 c, .int .i64 d]] w fun en w' => en = .returned (.tuple #[.agg #[.int .i64 0, .int .i64 0], .int .i64 1]) ∧ Below w.heap.size w w')
    (m3 : ∀ w, Calls Try.prog 10 #[.agg #[.int .i64 a, .int .i64 b], .agg #[.int .i64 c, .int .i64 d]] w fun en w' => en = .returned (.tuple #[.agg #[.int .i64 0, .int .i64 0], .int .i64 1]) ∧ Below w.heap.size w w')
    (m4 : ∀ w, Calls Try.prog 11 #[.agg #[.int .i64 a, .int .i64 b]] w fun en w' => en = .returned (.bool R) ∧ Below w.heap.size w w')
    (m5 : ∀ w, Calls Try.prog 12 #[.agg #[.int .i64 a, .int .i64 b]] w fun en w' => en = .returned (.bool R) ∧ Below w.heap.size w w')
    (m6 : ∀ w, Calls Try.prog 13 #[.agg #[.int .i64 a, .int .i64 b], .int .i64 x] w fun en w' => en = .returned (.bool H) ∧ Below w.heap.size w w')
    (m7 : ∀ w, Calls Try.prog 14 #[.agg #[.int .i64 a, .int .i64 b], .int .i64 x] w fun en w' => en = .returned (.bool H) ∧ Below w.heap.size w w')
    (hR : R = true)
    (m8 : ∀ w, Calls Try.prog 12 #[.agg #[.int .i64 c, .int .i64 d]] w fun en w' => en = .returned (.bool false) ∧ Below w.heap.size w w') :
    Calls Try.prog 3 #[.agg #[.int .i64 a, .int .i64 b], .agg #[.int .i64 c, .int .i64 d], .int .i64 x] w fun en w' => en = .returned (.bool true) ∧ Below w.heap.size w w' := by
  subst hR
  have M1 := Lib.hid m1; have M2 := Lib.hid m2; have M3 := Lib.hid m3; have M4 := Lib.hid m4; have M5 := Lib.hid m5; have M6 := Lib.hid m6; have M7 := Lib.hid m7; have M8 := Lib.hid m8
  clear m1 m2 m3 m4 m5 m6 m7 m8
  go_enter Try.func3, Try.ntmps3
  go_wp2_with fail
  refine (M1.out _).mono ?_
  rintro e w1 ⟨rfl, hb⟩
  have ka : Blk w1 w.heap.size #[.int .i64 a, .int .i64 b] := ((Blk.new _ _ _).alloc _).call hb
  have kc : Blk w1 (w.heap.size + 1) #[.int .i64 c, .int .i64 d] := (Blk.newAt (by simp)).call hb
  have kw : Below w.heap.size w w1 := (((Below.refl w.heap.size w).alloc (Nat.le_refl _) _).alloc (by simp) _).trans (hb.mono (by simp; omega))
  have Ba := Lib.hid ka
  have Bc := Lib.hid kc
  have HW1 := Lib.hid kw
  clear hb kw ka kc
  have la := Ba.out.lt
  have ca0 : w1.cell? ⟨w.heap.size, 0, none⟩ = some (.int .i64 a) := Ba.out.cell rfl
  have ca1 : w1.cell? ⟨w.heap.size, 1, none⟩ = some (.int .i64 b) := Ba.out.cell rfl
  have lc := Bc.out.lt
  have cc0 : w1.cell? ⟨(w.heap.size + 1), 0, none⟩ = some (.int .i64 c) := Bc.out.cell rfl
  have cc1 : w1.cell? ⟨(w.heap.size + 1), 1, none⟩ = some (.int .i64 d) := Bc.out.cell rfl
  go_wp2_with fail
  refine (M2.out _).mono ?_
  rintro e w2 ⟨rfl, hb⟩
  have ka : Blk w2 w.heap.size #[.int .i64 a, .int .i64 b] := (Ba.out.alloc _).call hb
  have kc : Blk w2 (w.heap.size + 1) #[.int .i64 c, .int .i64 d] := (Bc.out.alloc _).call hb
  have kj : Blk w2 w1.heap.size #[.int .i64 0, .int .i64 0] := (Blk.new _ _ _).call hb
  have kw : Below w.heap.size w w2 := (HW1.out.alloc HW1.out.size _).trans (hb.mono (by have := HW1.out.size; simp; omega))
  clear la ca0 ca1 lc cc0 cc1 Ba Bc HW1
  have Ba := Lib.hid ka
  have Bc := Lib.hid kc
  have Bj := Lib.hid kj
  have HW2 := Lib.hid kw
  clear hb kw ka kc kj
  have la := Ba.out.lt
  have ca0 : w2.cell? ⟨w.heap.size, 0, none⟩ = some (.int .i64 a) := Ba.out.cell rfl
  have ca1 : w2.cell? ⟨w.heap.size, 1, none⟩ = some (.int .i64 b) := Ba.out.cell rfl
  have lc := Bc.out.lt
  have cc0 : w2.cell? ⟨(w.heap.size + 1), 0, none⟩ = some (.int .i64 c) := Bc.out.cell rfl
  have cc1 : w2.cell? ⟨(w.heap.size + 1), 1, none⟩ = some (.int .i64 d) := Bc.out.cell rfl
  go_wp2_with fail
  refine (M3.out _).mono ?_
  rintro e w3 ⟨rfl, hb⟩
  have ka : Blk w3 w.heap.size #[.int .i64 a, .int .i64 b] := (Ba.out.alloc _).call hb
  have kc : Blk w3 (w.heap.size + 1) #[.int .i64 c, .int .i64 d] := (Bc.out.alloc _).call hb
  have kj : Blk w3 w1.heap.size #[.int .i64 0, .int .i64 0] := (Bj.out.alloc _).call hb
  have ks : Blk w3 w2.heap.size #[.int .i64 0, .int .i64 0] := (Blk.new _ _ _).call hb
  have kw : Below w.heap.size w w3 := (HW2.out.alloc HW2.out.size _).trans (hb.mono (by have := HW2.out.size; simp; omega))
  clear la ca0 ca1 lc cc0 cc1 Ba Bc Bj HW2
  have Ba := Lib.hid ka
  have Bc := Lib.hid kc
  have Bj := Lib.hid kj
  have Bs := Lib.hid ks
  have HW3 := Lib.hid kw
  clear hb kw ka kc kj ks
  go_upto_region 4 with fail
  obtain ⟨W4x, hW4x⟩ : ∃ W4x, (w3.alloc (.cells #[.int .i64 0, .int .i64 0] 23)) = W4x := ⟨_, rfl⟩
  have ba : Blk W4x w.heap.size #[.int .i64 a, .int .i64 b] := by rw [← hW4x]; exact (Ba.out.alloc _)
  have bc : Blk W4x (w.heap.size + 1) #[.int .i64 c, .int .i64 d] := by rw [← hW4x]; exact (Bc.out.alloc _)
  have bj : Blk W4x w1.heap.size #[.int .i64 0, .int .i64 0] := by rw [← hW4x]; exact (Bj.out.alloc _)
  have bs : Blk W4x w2.heap.size #[.int .i64 0, .int .i64 0] := by rw [← hW4x]; exact (Bs.out.alloc _)
  have bd : Blk W4x w3.heap.size #[.int .i64 0, .int .i64 0] := by rw [← hW4x]; exact (Blk.new _ _ _)
  have hw : Below w.heap.size w W4x := by rw [← hW4x]; exact (HW3.out.alloc HW3.out.size _)
  rw [hW4x]
  clear hW4x Ba Bc Bj Bs HW3
  have hok : OwnOk (fun w' => w'.cell? ⟨w.heap.size, 0, none⟩ = some (.int .i64 a) ∧ w'.cell? ⟨w.heap.size, 1, none⟩ = some (.int .i64 b) ∧ Hid (Blk w' w.heap.size #[.int .i64 a, .int .i64 b] ∧ Blk w' (w.heap.size + 1) #[.int .i64 c, .int .i64 d] ∧ Blk w' w1.heap.size #[.int .i64 0, .int .i64 0] ∧ Blk w' w2.heap.size #[.int .i64 0, .int .i64 0] ∧ Blk w' w3.heap.size #[.int .i64 0, .int .i64 0] ∧ Below w.heap.size w w')) W4x.heap.size [] := own0_ok (fun v1 v2 h hb => ⟨((h.2.2.out.1).below hb ba.lt).cell rfl, ((h.2.2.out.1).below hb ba.lt).cell rfl, Lib.hid ⟨(h.2.2.out.1).below hb ba.lt, (h.2.2.out.2.1).below hb bc.lt, (h.2.2.out.2.2.1).below hb bj.lt, (h.2.2.out.2.2.2.1).below hb bs.lt, (h.2.2.out.2.2.2.2.1).below hb bd.lt, (h.2.2.out.2.2.2.2.2).trans (hb.mono hw.size)⟩⟩)
  have hfit : ∀ i, (∀ e ∈ ([] : List Ent), e.x ≠ i ∧ e.s ≠ i) → Fit (fun w' => w'.cell? ⟨w.heap.size, 0, none⟩ = some (.int .i64 a) ∧ w'.cell? ⟨w.heap.size, 1, none⟩ = some (.int .i64 b) ∧ Hid (Blk w' w.heap.size #[.int .i64 a, .int .i64 b] ∧ Blk w' (w.heap.size + 1) #[.int .i64 c, .int .i64 d] ∧ Blk w' w1.heap.size #[.int .i64 0, .int .i64 0] ∧ Blk w' w2.heap.size #[.int .i64 0, .int .i64 0] ∧ Blk w' w3.heap.size #[.int .i64 0, .int .i64 0] ∧ Below w.heap.size w w')) (Sof (fun w' => w'.cell? ⟨w.heap.size, 0, none⟩ = some (.int .i64 a) ∧ w'.cell? ⟨w.heap.size, 1, none⟩ = some (.int .i64 b) ∧ Hid (Blk w' w.heap.size #[.int .i64 a, .int .i64 b] ∧ Blk w' (w.heap.size + 1) #[.int .i64 c, .int .i64 d] ∧ Blk w' w1.heap.size #[.int .i64 0, .int .i64 0] ∧ Blk w' w2.heap.size #[.int .i64 0, .int .i64 0] ∧ Blk w' w3.heap.size #[.int .i64 0, .int .i64 0] ∧ Below w.heap.size w w')) W4x.heap.size []) i := fun i hi => sof_fit hok.st hok.loc hi
  have HOK := Lib.hid hok; have HF := Lib.hid hfit; clear hok hfit
  refine wp_region_ab (S0 := (fun w' => w'.cell? ⟨w.heap.size, 0, none⟩ = some (.int .i64 a) ∧ w'.cell? ⟨w.heap.size, 1, none⟩ = some (.int .i64 b) ∧ Hid (Blk w' w.heap.size #[.int .i64 a, .int .i64 b] ∧ Blk w' (w.heap.size + 1) #[.int .i64 c, .int .i64 d] ∧ Blk w' w1.heap.size #[.int .i64 0, .int .i64 0] ∧ Blk w' w2.heap.size #[.int .i64 0, .int .i64 0] ∧ Blk w' w3.heap.size #[.int .i64 0, .int .i64 0] ∧ Below w.heap.size w w'))) W4x.heap.size [] (by kernel_rfl) ⟨(ba.drew).cell rfl, (ba.drew).cell rfl, Lib.hid ⟨ba.drew, bc.drew, bj.drew, bs.drew, bd.drew, hw.drew⟩⟩ (Nat.le_refl _) (by simp) ?_
  clear ba bc bj bs bd
  refine abTake 0 (some 36) (v := ?_) rfl rfl (by kernel_rfl) (by kernel_rfl) (by kernel_rfl) (fun _ _ _ h => h) (HF.out _ (by simp)) (by rfl) ?_ ?_
  rotate_left 1
  · (intro w hSw; (try dsimp only at hSw); go_simp; try with_reducible rfl)
  simp only [Act.put, List.setIfInBounds_toArray, List.set_cons_zero, List.set_cons_succ]
  refine abCall 1 (some 37) rfl rfl (by kernel_rfl) (by kernel_rfl) (by kernel_rfl) (fun _ _ _ h => h) (HF.out _ (by simp)) (by rfl) ?_ (fun w hSw => M4.out w) ?_
  · (intro w hSw; (try dsimp only at hSw); go_simp; try with_reducible rfl)
  simp only [Act.put, List.setIfInBounds_toArray, List.set_cons_zero, List.set_cons_succ]
  refine abTake 2 (some 38) (v := ?_) rfl rfl (by kernel_rfl) (by kernel_rfl) (by kernel_rfl) (fun _ _ _ h => h) (HF.out _ (by simp)) (by rfl) ?_ ?_
  rotate_left 1
  · (intro w hSw; (try dsimp only at hSw); go_simp; try with_reducible rfl)
  simp only [Act.put, List.setIfInBounds_toArray, List.set_cons_zero, List.set_cons_succ]
  refine abCall 3 (some 39) rfl rfl (by kernel_rfl) (by kernel_rfl) (by kernel_rfl) (fun _ _ _ h => h) (HF.out _ (by simp)) (by rfl) ?_ (fun w hSw => M5.out w) ?_
  · (intro w hSw; (try dsimp only at hSw); go_simp; try with_reducible rfl)
  simp only [Act.put, List.setIfInBounds_toArray, List.set_cons_zero, List.set_cons_succ]
  refine abTake 4 (some 40) (v := ?_) rfl rfl (by kernel_rfl) (by kernel_rfl) (by kernel_rfl) (fun _ _ _ h => h) (HF.out _ (by simp)) (by rfl) ?_ ?_
  rotate_left 1
  · (intro w hSw; (try dsimp only at hSw); go_simp; try with_reducible rfl)
  simp only [Act.put, List.setIfInBounds_toArray, List.set_cons_zero, List.set_cons_succ]
  refine abTake 5 (some 41) (v := ?_) rfl rfl (by kernel_rfl) (by kernel_rfl) (by kernel_rfl) (fun _ _ _ h => h) (HF.out _ (by simp)) (by rfl) ?_ ?_
  rotate_left 1
  · (intro w hSw; (try dsimp only at hSw); go_simp; try with_reducible rfl)
  simp only [Act.put, List.setIfInBounds_toArray, List.set_cons_zero, List.set_cons_succ]
  refine abTake 6 (some 42) (v := ?_) rfl rfl (by kernel_rfl) (by kernel_rfl) (by kernel_rfl) (fun _ _ _ h => h) (HF.out _ (by simp)) (by rfl) ?_ ?_
  rotate_left 1
  · (intro w hSw; (try dsimp only at hSw); go_simp; try with_reducible rfl)
  simp only [Act.put, List.setIfInBounds_toArray, List.set_cons_zero, List.set_cons_succ]
  refine abTake 7 (some 43) (v := ?_) rfl rfl (by kernel_rfl) (by kernel_rfl) (by kernel_rfl) (fun _ _ _ h => h) (HF.out _ (by simp)) (by rfl) ?_ ?_
  rotate_left 1
  · (intro w hSw; (try dsimp only at hSw); go_simp; try with_reducible rfl)
  simp only [Act.put, List.setIfInBounds_toArray, List.set_cons_zero, List.set_cons_succ]
  refine abCall 8 (some 44) rfl rfl (by kernel_rfl) (by kernel_rfl) (by kernel_rfl) (fun _ _ _ h => h) (HF.out _ (by simp)) (by rfl) ?_ (fun w hSw => M6.out w) ?_
  · (intro w hSw; (try dsimp only at hSw); go_simp; try with_reducible rfl)
  simp only [Act.put, List.setIfInBounds_toArray, List.set_cons_zero, List.set_cons_succ]
  refine abTake 9 (some 45) (v := ?_) rfl rfl (by kernel_rfl) (by kernel_rfl) (by kernel_rfl) (fun _ _ _ h => h) (HF.out _ (by simp)) (by rfl) ?_ ?_
  rotate_left 1
  · (intro w hSw; (try dsimp only at hSw); go_simp; try with_reducible rfl)
  simp only [Act.put, List.setIfInBounds_toArray, List.set_cons_zero, List.set_cons_succ]
  refine abTake 10 (some 46) (v := ?_) rfl rfl (by kernel_rfl) (by kernel_rfl) (by kernel_rfl) (fun _ _ _ h => h) (HF.out _ (by simp)) (by rfl) ?_ ?_
  rotate_left 1
  · (intro w hSw; (try dsimp only at hSw); go_simp; try with_reducible rfl)
  simp only [Act.put, List.setIfInBounds_toArray, List.set_cons_zero, List.set_cons_succ]
  refine abCall 11 (some 47) rfl rfl (by kernel_rfl) (by kernel_rfl) (by kernel_rfl) (fun _ _ _ h => h) (HF.out _ (by simp)) (by rfl) ?_ (fun w hSw => M7.out w) ?_
  · (intro w hSw; (try dsimp only at hSw); go_simp; try with_reducible rfl)
  simp only [Act.put, List.setIfInBounds_toArray, List.set_cons_zero, List.set_cons_succ]
  refine abTake 12 (some 48) (v := ?_) rfl rfl (by kernel_rfl) (by kernel_rfl) (by kernel_rfl) (fun _ _ _ h => h) (HF.out _ (by simp)) (by rfl) ?_ ?_
  rotate_left 1
  · (intro w hSw; (try dsimp only at hSw); go_simp; try with_reducible rfl)
  simp only [Act.put, List.setIfInBounds_toArray, List.set_cons_zero, List.set_cons_succ]
  refine abTake 13 (some 49) (v := ?_) rfl rfl (by kernel_rfl) (by kernel_rfl) (by kernel_rfl) (fun _ _ _ h => h) (HF.out _ (by simp)) (by rfl) ?_ ?_
  rotate_left 1
  · (intro w hSw; (try dsimp only at hSw); go_simp; try with_reducible rfl)
  simp only [Act.put, List.setIfInBounds_toArray, List.set_cons_zero, List.set_cons_succ]
  refine abTake 14 (some 50) (v := ?_) rfl rfl (by kernel_rfl) (by kernel_rfl) (by kernel_rfl) (fun _ _ _ h => h) (HF.out _ (by simp)) (by rfl) ?_ ?_
  rotate_left 1
  · (intro w hSw; (try dsimp only at hSw); go_simp; try with_reducible rfl)
  simp only [Act.put, List.setIfInBounds_toArray, List.set_cons_zero, List.set_cons_succ]
  refine abCall 15 (some 51) rfl rfl (by kernel_rfl) (by kernel_rfl) (by kernel_rfl) (fun _ _ _ h => h) (HF.out _ (by simp)) (by rfl) ?_ (fun w hSw => alive5 w) ?_
  · (intro w hSw; (try dsimp only at hSw); go_simp; try with_reducible rfl)
  simp only [Act.put, List.setIfInBounds_toArray, List.set_cons_zero, List.set_cons_succ]
  refine abTake 16 (some 52) (v := ?_) rfl rfl (by kernel_rfl) (by kernel_rfl) (by kernel_rfl) (fun _ _ _ h => h) (HF.out _ (by simp)) (by rfl) ?_ ?_
  rotate_left 1
  · (intro w hSw; (try dsimp only at hSw); go_simp; try with_reducible rfl)
  simp only [Act.put, List.setIfInBounds_toArray, List.set_cons_zero, List.set_cons_succ]
  refine abTake 17 (some 53) (v := ?_) rfl rfl (by kernel_rfl) (by kernel_rfl) (by kernel_rfl) (fun _ _ _ h => h) (HF.out _ (by simp)) (by rfl) ?_ ?_
  rotate_left 1
  · (intro w hSw; (try dsimp only at hSw); go_simp; try with_reducible rfl)
  simp only [Act.put, List.setIfInBounds_toArray, List.set_cons_zero, List.set_cons_succ]
  refine abDone (by kernel_rfl) ?_ _
  rintro w4 hS
  have Ba := Lib.hid (hS.1.2.2.out.1)
  have Bc := Lib.hid (hS.1.2.2.out.2.1)
  have Bj := Lib.hid (hS.1.2.2.out.2.2.1)
  have Bs := Lib.hid (hS.1.2.2.out.2.2.2.1)
  have Bd := Lib.hid (hS.1.2.2.out.2.2.2.2.1)
  have Hw4 := Lib.hid (hS.1.2.2.out.2.2.2.2.2)
  clear hS HOK HF hw
  have la := Ba.out.lt
  have ca0 : w4.cell? ⟨w.heap.size, 0, none⟩ = some (.int .i64 a) := Ba.out.cell rfl
  have ca1 : w4.cell? ⟨w.heap.size, 1, none⟩ = some (.int .i64 b) := Ba.out.cell rfl
  go_wp2_with fail
  refine (M5.out _).mono ?_
  rintro e w5 ⟨rfl, hb⟩
  have ka : Blk w5 w.heap.size #[.int .i64 a, .int .i64 b] := (Ba.out.alloc _).call hb
  have kc : Blk w5 (w.heap.size + 1) #[.int .i64 c, .int .i64 d] := (Bc.out.alloc _).call hb
  have kj : Blk w5 w1.heap.size #[.int .i64 0, .int .i64 0] := (Bj.out.alloc _).call hb
  have ks : Blk w5 w2.heap.size #[.int .i64 0, .int .i64 0] := (Bs.out.alloc _).call hb
  have kd : Blk w5 w3.heap.size #[.int .i64 0, .int .i64 0] := (Bd.out.alloc _).call hb
  have kn : Blk w5 w4.heap.size #[.int .i64 0, .int .i64 0] := (Blk.new _ _ _).call hb
  have kw : Below w.heap.size w w5 := (Hw4.out.alloc Hw4.out.size _).trans (hb.mono (by have := Hw4.out.size; simp; omega))
  clear la ca0 ca1 Ba Bc Bj Bs Bd Hw4
  have Ba := Lib.hid ka
  have Bc := Lib.hid kc
  have Bj := Lib.hid kj
  have Bs := Lib.hid ks
  have Bd := Lib.hid kd
  have Bn := Lib.hid kn
  have HW5 := Lib.hid kw
  clear hb kw ka kc kj ks kd kn
  have lc := Bc.out.lt
  have cc0 : w5.cell? ⟨(w.heap.size + 1), 0, none⟩ = some (.int .i64 c) := Bc.out.cell rfl
  have cc1 : w5.cell? ⟨(w.heap.size + 1), 1, none⟩ = some (.int .i64 d) := Bc.out.cell rfl
  go_wp2_with fail
  refine (M8.out _).mono ?_
  rintro e w6 ⟨rfl, hb⟩
  have ka : Blk w6 w.heap.size #[.int .i64 a, .int .i64 b] := Ba.out.call hb
  have kc : Blk w6 (w.heap.size + 1) #[.int .i64 c, .int .i64 d] := Bc.out.call hb
  have kj : Blk w6 w1.heap.size #[.int .i64 0, .int .i64 0] := Bj.out.call hb
  have ks : Blk w6 w2.heap.size #[.int .i64 0, .int .i64 0] := Bs.out.call hb
  have kd : Blk w6 w3.heap.size #[.int .i64 0, .int .i64 0] := Bd.out.call hb
  have kn : Blk w6 w4.heap.size #[.int .i64 0, .int .i64 0] := Bn.out.call hb
  have kw : Below w.heap.size w w6 := HW5.out.trans (hb.mono HW5.out.size)
  clear lc cc0 cc1 Ba Bc Bj Bs Bd Bn HW5
  have Ba := Lib.hid ka
  have Bc := Lib.hid kc
  have Bj := Lib.hid kj
  have Bs := Lib.hid ks
  have Bd := Lib.hid kd
  have Bn := Lib.hid kn
  have HW6 := Lib.hid kw
  clear hb kw ka kc kj ks kd kn
  have e0 := eqS0
  have lj := Bj.out.lt
  have cj0 : w6.cell? ⟨w1.heap.size, 0, none⟩ = some (.int .i64 0) := Bj.out.cell rfl
  have cj1 : w6.cell? ⟨w1.heap.size, 1, none⟩ = some (.int .i64 0) := Bj.out.cell rfl
  have ls := Bs.out.lt
  have cs0 : w6.cell? ⟨w2.heap.size, 0, none⟩ = some (.int .i64 0) := Bs.out.cell rfl
  have cs1 : w6.cell? ⟨w2.heap.size, 1, none⟩ = some (.int .i64 0) := Bs.out.cell rfl
  have ld := Bd.out.lt
  have cd0 : w6.cell? ⟨w3.heap.size, 0, none⟩ = some (.int .i64 0) := Bd.out.cell rfl
  have cd1 : w6.cell? ⟨w3.heap.size, 1, none⟩ = some (.int .i64 0) := Bd.out.cell rfl
  have ln := Bn.out.lt
  have cn0 : w6.cell? ⟨w4.heap.size, 0, none⟩ = some (.int .i64 0) := Bn.out.cell rfl
  have cn1 : w6.cell? ⟨w4.heap.size, 1, none⟩ = some (.int .i64 0) := Bn.out.cell rfl
  go_wp2_with fail
  go_ret
  exact ⟨rfl, HW6.out⟩
end Go.Proofs.Ytacnaencmbnjpaa
