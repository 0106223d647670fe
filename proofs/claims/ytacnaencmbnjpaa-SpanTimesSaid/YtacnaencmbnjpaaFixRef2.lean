/- The reference of stage 4: Sub, Product, Mul. -/
import Derived.Test.YtacnaencmbnjpaaFixRef
namespace Go.Proofs.Ytacnaencmbnjpaa
open Go.RowKit

theorem rsub_neg (a b x y p q k l : Int) (n : Nat) (A C : Bool) (w : World)
    (m1 : ∀ w, Calls Try.prog 62 #[.int .i64 a] w fun en w' => en = .returned (.agg #[.bool A, .int .u64 p, .int .u64 q]) ∧ Below w.heap.size w w')
    (m2 : ∀ w, Calls Try.prog 62 #[.int .i64 b] w fun en w' => en = .returned (.agg #[.bool true, .int .u64 (hi n : Nat), .int .u64 (lo n : Nat)]) ∧ Below w.heap.size w w')
    (m3 : ∀ w, Calls Try.prog 61 #[.agg #[.bool A, .int .u64 p, .int .u64 q], .agg #[.bool (false), .int .u64 (hi n : Nat), .int .u64 (lo n : Nat)]] w fun en w' => en = .returned (.agg #[.bool C, .int .u64 k, .int .u64 l]) ∧ Below w.heap.size w w')
    (m4 : ∀ w, Calls Try.prog 60 #[.agg #[.bool C, .int .u64 k, .int .u64 l]] w fun en w' => en = .returned (.tuple #[.int .i64 x, .int .i64 y]) ∧ Below w.heap.size w w') :
    Calls Try.prog 37 #[.int .i64 a, .int .i64 b] w fun en w' => en = .returned (.tuple #[.int .i64 x, .int .i64 y]) ∧ Below w.heap.size w w' := by
  have M1 := Lib.hid m1; have M2 := Lib.hid m2; have M3 := Lib.hid m3; have M4 := Lib.hid m4
  clear m1 m2 m3 m4
  go_enter Try.func37, Try.ntmps37
  go_wp2_with fail
  refine (M2.out _).mono ?_
  rintro e w1 ⟨rfl, hb⟩
  have kw : Below w.heap.size w w1 := (Below.refl w.heap.size w).trans (hb.mono (Nat.le_refl _))
  have HW1 := Lib.hid kw
  clear hb kw
  go_upto_region 3 with fail
  obtain ⟨W0, hW0⟩ : ∃ W0, w1.alloc (.cells #[.bool (false), .int .u64 (hi n : Nat), .int .u64 (lo n : Nat)] 78) = W0 := ⟨_, rfl⟩
  have bo : Blk W0 w1.heap.size #[.bool (false), .int .u64 (hi n : Nat), .int .u64 (lo n : Nat)] := by rw [← hW0]; exact Blk.new _ _ _
  have hw0 : Below w.heap.size w W0 := by rw [← hW0]; exact (HW1.out.alloc HW1.out.size _)
  rw [hW0]
  clear hW0 HW1
  have hok : OwnOk (fun w' => w'.cell? ⟨w1.heap.size, 0, none⟩ = some (.bool (false)) ∧ w'.cell? ⟨w1.heap.size, 1, none⟩ = some (.int .u64 (hi n : Nat)) ∧ w'.cell? ⟨w1.heap.size, 2, none⟩ = some (.int .u64 (lo n : Nat)) ∧ Hid (Blk w' w1.heap.size #[.bool (false), .int .u64 (hi n : Nat), .int .u64 (lo n : Nat)] ∧ Below w.heap.size w w')) W0.heap.size [] := own0_ok (fun v1 v2 h hb => ⟨(h.2.2.2.out.1.below hb bo.lt).cell rfl, (h.2.2.2.out.1.below hb bo.lt).cell rfl, (h.2.2.2.out.1.below hb bo.lt).cell rfl, Lib.hid ⟨(h.2.2.2.out.1.below hb bo.lt), (h.2.2.2.out.2.trans (hb.mono hw0.size))⟩⟩)
  have hfit : ∀ i, (∀ e ∈ ([] : List Ent), e.x ≠ i ∧ e.s ≠ i) → Fit (fun w' => w'.cell? ⟨w1.heap.size, 0, none⟩ = some (.bool (false)) ∧ w'.cell? ⟨w1.heap.size, 1, none⟩ = some (.int .u64 (hi n : Nat)) ∧ w'.cell? ⟨w1.heap.size, 2, none⟩ = some (.int .u64 (lo n : Nat)) ∧ Hid (Blk w' w1.heap.size #[.bool (false), .int .u64 (hi n : Nat), .int .u64 (lo n : Nat)] ∧ Below w.heap.size w w')) (Sof (fun w' => w'.cell? ⟨w1.heap.size, 0, none⟩ = some (.bool (false)) ∧ w'.cell? ⟨w1.heap.size, 1, none⟩ = some (.int .u64 (hi n : Nat)) ∧ w'.cell? ⟨w1.heap.size, 2, none⟩ = some (.int .u64 (lo n : Nat)) ∧ Hid (Blk w' w1.heap.size #[.bool (false), .int .u64 (hi n : Nat), .int .u64 (lo n : Nat)] ∧ Below w.heap.size w w')) W0.heap.size []) i := fun i hi => sof_fit hok.st hok.loc hi
  have HOK := Lib.hid hok; have HF := Lib.hid hfit; clear hok hfit
  refine wp_region_ab (S0 := (fun w' => w'.cell? ⟨w1.heap.size, 0, none⟩ = some (.bool (false)) ∧ w'.cell? ⟨w1.heap.size, 1, none⟩ = some (.int .u64 (hi n : Nat)) ∧ w'.cell? ⟨w1.heap.size, 2, none⟩ = some (.int .u64 (lo n : Nat)) ∧ Hid (Blk w' w1.heap.size #[.bool (false), .int .u64 (hi n : Nat), .int .u64 (lo n : Nat)] ∧ Below w.heap.size w w'))) W0.heap.size [] (by kernel_rfl) ⟨bo.drew.cell rfl, bo.drew.cell rfl, bo.drew.cell rfl, Lib.hid ⟨bo.drew, hw0.drew⟩⟩ (Nat.le_refl _) (by simp) ?_
  clear bo hw0
  refine abTake 0 (some 19) (v := ?_) rfl rfl (by kernel_rfl) (by kernel_rfl) (by kernel_rfl) (fun _ _ _ h => h) (HF.out _ (by simp)) (by rfl) ?_ ?_
  rotate_left 1
  · (intro w hSw; (try dsimp only at hSw); go_simp; try with_reducible rfl)
  simp only [Act.put, List.setIfInBounds_toArray, List.set_cons_zero, List.set_cons_succ]
  refine abCall 1 (some 20) rfl rfl (by kernel_rfl) (by kernel_rfl) (by kernel_rfl) (fun _ _ _ h => h) (HF.out _ (by simp)) (by rfl) ?_ (fun w hSw => M1.out w) ?_
  · (intro w hSw; (try dsimp only at hSw); go_simp; try with_reducible rfl)
  simp only [Act.put, List.setIfInBounds_toArray, List.set_cons_zero, List.set_cons_succ]
  refine abTake 2 (some 21) (v := ?_) rfl rfl (by kernel_rfl) (by kernel_rfl) (by kernel_rfl) (fun _ _ _ h => h) (HF.out _ (by simp)) (by rfl) ?_ ?_
  rotate_left 1
  · (intro w hSw; (try dsimp only at hSw); go_simp; try with_reducible rfl)
  simp only [Act.put, List.setIfInBounds_toArray, List.set_cons_zero, List.set_cons_succ]
  refine abCall 3 (some 22) rfl rfl (by kernel_rfl) (by kernel_rfl) (by kernel_rfl) (fun _ _ _ h => h) (HF.out _ (by simp)) (by rfl) ?_ (fun w hSw => M3.out w) ?_
  · (intro w hSw; (try dsimp only at hSw); go_simp; try with_reducible rfl)
  simp only [Act.put, List.setIfInBounds_toArray, List.set_cons_zero, List.set_cons_succ]
  refine abCall 4 (some 23) rfl rfl (by kernel_rfl) (by kernel_rfl) (by kernel_rfl) (fun _ _ _ h => h) (HF.out _ (by simp)) (by rfl) ?_ (fun w hSw => M4.out w) ?_
  · (intro w hSw; (try dsimp only at hSw); go_simp; try with_reducible rfl)
  simp only [Act.put, List.setIfInBounds_toArray, List.set_cons_zero, List.set_cons_succ]
  refine abTake 5 (some 24) (v := ?_) rfl rfl (by kernel_rfl) (by kernel_rfl) (by kernel_rfl) (fun _ _ _ h => h) (HF.out _ (by simp)) (by rfl) ?_ ?_
  rotate_left 1
  · (intro w hSw; (try dsimp only at hSw); go_simp; try with_reducible rfl)
  simp only [Act.put, List.setIfInBounds_toArray, List.set_cons_zero, List.set_cons_succ]
  refine abTake 6 (some 25) (v := ?_) rfl rfl (by kernel_rfl) (by kernel_rfl) (by kernel_rfl) (fun _ _ _ h => h) (HF.out _ (by simp)) (by rfl) ?_ ?_
  rotate_left 1
  · (intro w hSw; (try dsimp only at hSw); go_simp; try with_reducible rfl)
  simp only [Act.put, List.setIfInBounds_toArray, List.set_cons_zero, List.set_cons_succ]
  refine abTake 7 (some 4) (v := ?_) rfl rfl (by kernel_rfl) (by kernel_rfl) (by kernel_rfl) (fun _ _ _ h => h) (HF.out _ (by simp)) (by rfl) ?_ ?_
  rotate_left 1
  · (intro w hSw; (try dsimp only at hSw); go_simp; try with_reducible rfl)
  simp only [Act.put, List.setIfInBounds_toArray, List.set_cons_zero, List.set_cons_succ]
  refine abTake 8 (some 5) (v := ?_) rfl rfl (by kernel_rfl) (by kernel_rfl) (by kernel_rfl) (fun _ _ _ h => h) (HF.out _ (by simp)) (by rfl) ?_ ?_
  rotate_left 1
  · (intro w hSw; (try dsimp only at hSw); go_simp; try with_reducible rfl)
  simp only [Act.put, List.setIfInBounds_toArray, List.set_cons_zero, List.set_cons_succ]
  refine abDone (by kernel_rfl) ?_ _
  rintro w2 hS
  have HW := Lib.hid hS.1.2.2.2.out.2
  clear hS HOK HF
  go_wp2_with fail
  go_ret2
  exact ⟨rfl, HW.out⟩
theorem rsub_pos (a b x y p q k l : Int) (n : Nat) (A C : Bool) (D : Bool) (w : World)
    (hE : ∀ w, (Op.equalIn 10000 55 (.agg #[.int .u64 (hi n : Nat), .int .u64 (lo n : Nat)]) (.agg #[.int .u64 0, .int .u64 0])).run Try.prog w = .ok D w)
    (m1 : ∀ w, Calls Try.prog 62 #[.int .i64 a] w fun en w' => en = .returned (.agg #[.bool A, .int .u64 p, .int .u64 q]) ∧ Below w.heap.size w w')
    (m2 : ∀ w, Calls Try.prog 62 #[.int .i64 b] w fun en w' => en = .returned (.agg #[.bool false, .int .u64 (hi n : Nat), .int .u64 (lo n : Nat)]) ∧ Below w.heap.size w w')
    (m3 : ∀ w, Calls Try.prog 61 #[.agg #[.bool A, .int .u64 p, .int .u64 q], .agg #[.bool (!D), .int .u64 (hi n : Nat), .int .u64 (lo n : Nat)]] w fun en w' => en = .returned (.agg #[.bool C, .int .u64 k, .int .u64 l]) ∧ Below w.heap.size w w')
    (m4 : ∀ w, Calls Try.prog 60 #[.agg #[.bool C, .int .u64 k, .int .u64 l]] w fun en w' => en = .returned (.tuple #[.int .i64 x, .int .i64 y]) ∧ Below w.heap.size w w') :
    Calls Try.prog 37 #[.int .i64 a, .int .i64 b] w fun en w' => en = .returned (.tuple #[.int .i64 x, .int .i64 y]) ∧ Below w.heap.size w w' := by
  have M1 := Lib.hid m1; have M2 := Lib.hid m2; have M3 := Lib.hid m3; have M4 := Lib.hid m4
  clear m1 m2 m3 m4
  go_enter Try.func37, Try.ntmps37
  go_wp2_with fail
  refine (M2.out _).mono ?_
  rintro e w1 ⟨rfl, hb⟩
  have kw : Below w.heap.size w w1 := (Below.refl w.heap.size w).trans (hb.mono (Nat.le_refl _))
  have HW1 := Lib.hid kw
  clear hb kw
  go_upto_region 3 with fail
  obtain ⟨W0, hW0⟩ : ∃ W0, w1.alloc (.cells #[.bool (!D), .int .u64 (hi n : Nat), .int .u64 (lo n : Nat)] 78) = W0 := ⟨_, rfl⟩
  have bo : Blk W0 w1.heap.size #[.bool (!D), .int .u64 (hi n : Nat), .int .u64 (lo n : Nat)] := by rw [← hW0]; exact Blk.new _ _ _
  have hw0 : Below w.heap.size w W0 := by rw [← hW0]; exact (HW1.out.alloc HW1.out.size _)
  rw [hW0]
  clear hW0 HW1
  have hok : OwnOk (fun w' => w'.cell? ⟨w1.heap.size, 0, none⟩ = some (.bool (!D)) ∧ w'.cell? ⟨w1.heap.size, 1, none⟩ = some (.int .u64 (hi n : Nat)) ∧ w'.cell? ⟨w1.heap.size, 2, none⟩ = some (.int .u64 (lo n : Nat)) ∧ Hid (Blk w' w1.heap.size #[.bool (!D), .int .u64 (hi n : Nat), .int .u64 (lo n : Nat)] ∧ Below w.heap.size w w')) W0.heap.size [] := own0_ok (fun v1 v2 h hb => ⟨(h.2.2.2.out.1.below hb bo.lt).cell rfl, (h.2.2.2.out.1.below hb bo.lt).cell rfl, (h.2.2.2.out.1.below hb bo.lt).cell rfl, Lib.hid ⟨(h.2.2.2.out.1.below hb bo.lt), (h.2.2.2.out.2.trans (hb.mono hw0.size))⟩⟩)
  have hfit : ∀ i, (∀ e ∈ ([] : List Ent), e.x ≠ i ∧ e.s ≠ i) → Fit (fun w' => w'.cell? ⟨w1.heap.size, 0, none⟩ = some (.bool (!D)) ∧ w'.cell? ⟨w1.heap.size, 1, none⟩ = some (.int .u64 (hi n : Nat)) ∧ w'.cell? ⟨w1.heap.size, 2, none⟩ = some (.int .u64 (lo n : Nat)) ∧ Hid (Blk w' w1.heap.size #[.bool (!D), .int .u64 (hi n : Nat), .int .u64 (lo n : Nat)] ∧ Below w.heap.size w w')) (Sof (fun w' => w'.cell? ⟨w1.heap.size, 0, none⟩ = some (.bool (!D)) ∧ w'.cell? ⟨w1.heap.size, 1, none⟩ = some (.int .u64 (hi n : Nat)) ∧ w'.cell? ⟨w1.heap.size, 2, none⟩ = some (.int .u64 (lo n : Nat)) ∧ Hid (Blk w' w1.heap.size #[.bool (!D), .int .u64 (hi n : Nat), .int .u64 (lo n : Nat)] ∧ Below w.heap.size w w')) W0.heap.size []) i := fun i hi => sof_fit hok.st hok.loc hi
  have HOK := Lib.hid hok; have HF := Lib.hid hfit; clear hok hfit
  refine wp_region_ab (S0 := (fun w' => w'.cell? ⟨w1.heap.size, 0, none⟩ = some (.bool (!D)) ∧ w'.cell? ⟨w1.heap.size, 1, none⟩ = some (.int .u64 (hi n : Nat)) ∧ w'.cell? ⟨w1.heap.size, 2, none⟩ = some (.int .u64 (lo n : Nat)) ∧ Hid (Blk w' w1.heap.size #[.bool (!D), .int .u64 (hi n : Nat), .int .u64 (lo n : Nat)] ∧ Below w.heap.size w w'))) W0.heap.size [] (by kernel_rfl) ⟨bo.drew.cell rfl, bo.drew.cell rfl, bo.drew.cell rfl, Lib.hid ⟨bo.drew, hw0.drew⟩⟩ (Nat.le_refl _) (by simp) ?_
  clear bo hw0
  refine abTake 0 (some 19) (v := ?_) rfl rfl (by kernel_rfl) (by kernel_rfl) (by kernel_rfl) (fun _ _ _ h => h) (HF.out _ (by simp)) (by rfl) ?_ ?_
  rotate_left 1
  · (intro w hSw; (try dsimp only at hSw); go_simp; try with_reducible rfl)
  simp only [Act.put, List.setIfInBounds_toArray, List.set_cons_zero, List.set_cons_succ]
  refine abCall 1 (some 20) rfl rfl (by kernel_rfl) (by kernel_rfl) (by kernel_rfl) (fun _ _ _ h => h) (HF.out _ (by simp)) (by rfl) ?_ (fun w hSw => M1.out w) ?_
  · (intro w hSw; (try dsimp only at hSw); go_simp; try with_reducible rfl)
  simp only [Act.put, List.setIfInBounds_toArray, List.set_cons_zero, List.set_cons_succ]
  refine abTake 2 (some 21) (v := ?_) rfl rfl (by kernel_rfl) (by kernel_rfl) (by kernel_rfl) (fun _ _ _ h => h) (HF.out _ (by simp)) (by rfl) ?_ ?_
  rotate_left 1
  · (intro w hSw; (try dsimp only at hSw); go_simp; try with_reducible rfl)
  simp only [Act.put, List.setIfInBounds_toArray, List.set_cons_zero, List.set_cons_succ]
  refine abCall 3 (some 22) rfl rfl (by kernel_rfl) (by kernel_rfl) (by kernel_rfl) (fun _ _ _ h => h) (HF.out _ (by simp)) (by rfl) ?_ (fun w hSw => M3.out w) ?_
  · (intro w hSw; (try dsimp only at hSw); go_simp; try with_reducible rfl)
  simp only [Act.put, List.setIfInBounds_toArray, List.set_cons_zero, List.set_cons_succ]
  refine abCall 4 (some 23) rfl rfl (by kernel_rfl) (by kernel_rfl) (by kernel_rfl) (fun _ _ _ h => h) (HF.out _ (by simp)) (by rfl) ?_ (fun w hSw => M4.out w) ?_
  · (intro w hSw; (try dsimp only at hSw); go_simp; try with_reducible rfl)
  simp only [Act.put, List.setIfInBounds_toArray, List.set_cons_zero, List.set_cons_succ]
  refine abTake 5 (some 24) (v := ?_) rfl rfl (by kernel_rfl) (by kernel_rfl) (by kernel_rfl) (fun _ _ _ h => h) (HF.out _ (by simp)) (by rfl) ?_ ?_
  rotate_left 1
  · (intro w hSw; (try dsimp only at hSw); go_simp; try with_reducible rfl)
  simp only [Act.put, List.setIfInBounds_toArray, List.set_cons_zero, List.set_cons_succ]
  refine abTake 6 (some 25) (v := ?_) rfl rfl (by kernel_rfl) (by kernel_rfl) (by kernel_rfl) (fun _ _ _ h => h) (HF.out _ (by simp)) (by rfl) ?_ ?_
  rotate_left 1
  · (intro w hSw; (try dsimp only at hSw); go_simp; try with_reducible rfl)
  simp only [Act.put, List.setIfInBounds_toArray, List.set_cons_zero, List.set_cons_succ]
  refine abTake 7 (some 4) (v := ?_) rfl rfl (by kernel_rfl) (by kernel_rfl) (by kernel_rfl) (fun _ _ _ h => h) (HF.out _ (by simp)) (by rfl) ?_ ?_
  rotate_left 1
  · (intro w hSw; (try dsimp only at hSw); go_simp; try with_reducible rfl)
  simp only [Act.put, List.setIfInBounds_toArray, List.set_cons_zero, List.set_cons_succ]
  refine abTake 8 (some 5) (v := ?_) rfl rfl (by kernel_rfl) (by kernel_rfl) (by kernel_rfl) (fun _ _ _ h => h) (HF.out _ (by simp)) (by rfl) ?_ ?_
  rotate_left 1
  · (intro w hSw; (try dsimp only at hSw); go_simp; try with_reducible rfl)
  simp only [Act.put, List.setIfInBounds_toArray, List.set_cons_zero, List.set_cons_succ]
  refine abDone (by kernel_rfl) ?_ _
  rintro w2 hS
  have HW := Lib.hid hS.1.2.2.2.out.2
  clear hS HOK HF
  go_wp2_with fail
  go_ret2
  exact ⟨rfl, HW.out⟩
theorem refsub_any (a b : Int) (ha : IsInt a) (hb : IsInt b) (w : World) :
    Calls Try.prog 37 #[.int .i64 a, .int .i64 b] w fun en w' => en = .returned (.tuple #[.int .i64 (ans (a - b)), .int .i64 (err (a - b))]) ∧ Below w.heap.size w w' := by
  have h : a.natAbs + (-b).natAbs < M128 := by have := natAbs_lt ha; have := natAbs_lt hb; unfold M128; omega
  have m3 := plus_any a (-b) h
  have m2 := of_z b hb
  have m1 := of_z a ha
  have m4 := told_z (a - b) (by omega)
  rw [show a + -b = a - b from rfl] at m3
  have e : (-b).natAbs = b.natAbs := Int.natAbs_neg b
  unfold zS at m1 m2 m3 m4
  rw [e] at m3
  by_cases k : b < 0
  · rw [decide_eq_true k] at m2
    rw [decide_eq_false (by omega : ¬ -b < 0)] at m3
    exact rsub_neg a b _ _ _ _ _ _ _ _ _ w m1 m2 m3 m4
  · have e2 : decide (-b < 0) = !decide (b.natAbs = 0) := by rw [ne_zero_D]; exact decide_eq_decide.2 (by omega)
    rw [decide_eq_false k] at m2
    rw [e2] at m3
    exact rsub_pos a b _ _ _ _ _ _ _ _ _ _ w (eqZero _) m1 m2 m3 m4
theorem prod_true_true (a b : Int) (x y n : Nat) (w : World)
    (hX : decide (a < 0) = true) (hY : decide (b < 0) = true)
    (m1 : ∀ w, Calls Try.prog 82 #[.int .i64 a] w fun en w' => en = .returned (.agg #[.int .u64 (hi x : Nat), .int .u64 (lo x : Nat)]) ∧ Below w.heap.size w w')
    (m2 : ∀ w, Calls Try.prog 82 #[.int .i64 b] w fun en w' => en = .returned (.agg #[.int .u64 (hi y : Nat), .int .u64 (lo y : Nat)]) ∧ Below w.heap.size w w')
    (m3 : ∀ w, Calls Try.prog 65 #[.agg #[.int .u64 (hi x : Nat), .int .u64 (lo x : Nat)], .agg #[.int .u64 (hi y : Nat), .int .u64 (lo y : Nat)]] w fun en w' => en = .returned (.tuple #[.agg #[.int .u64 (hi n : Nat), .int .u64 (lo n : Nat)], .bool false]) ∧ Below w.heap.size w w') :
    Calls Try.prog 69 #[.int .i64 a, .int .i64 b] w fun en w' => en = .returned (.agg #[.bool (false), .int .u64 (hi n : Nat), .int .u64 (lo n : Nat)]) ∧ Below w.heap.size w w' := by
  have M1 := Lib.hid m1; have M2 := Lib.hid m2; have M3 := Lib.hid m3
  clear m1 m2 m3
  go_enter Try.func69, Try.ntmps69
  go_wp2_with fail
  refine (M1.out _).mono ?_
  rintro e w1 ⟨rfl, hb⟩
  have kr : Blk w1 w.heap.size #[.bool false, .int .u64 0, .int .u64 0] := (Blk.new _ _ _).call hb
  have kw : Below w.heap.size w w1 := ((Below.refl w.heap.size w).alloc (Nat.le_refl _) _).trans (hb.mono (by simp))
  have Br := Lib.hid kr
  have HW1 := Lib.hid kw
  clear hb kw kr
  go_wp2_with fail
  refine (M2.out _).mono ?_
  rintro e w2 ⟨rfl, hb⟩
  have kr : Blk w2 w.heap.size #[.bool false, .int .u64 0, .int .u64 0] := Br.out.call hb
  have kw : Below w.heap.size w w2 := HW1.out.trans (hb.mono HW1.out.size)
  clear Br HW1
  have Br := Lib.hid kr
  have HW2 := Lib.hid kw
  clear hb kw kr
  go_wp2_with fail
  refine (M3.out _).mono ?_
  rintro e w3 ⟨rfl, hb⟩
  have kr : Blk w3 w.heap.size #[.bool false, .int .u64 0, .int .u64 0] := Br.out.call hb
  have kw : Below w.heap.size w w3 := HW2.out.trans (hb.mono HW2.out.size)
  clear Br HW2
  have Br := Lib.hid kr
  have HW3 := Lib.hid kw
  clear hb kw kr
  have lr := Br.out.lt
  have cr0 : w3.cell? ⟨w.heap.size, 0, none⟩ = some (.bool false) := Br.out.cell rfl
  have fr0 := Br.out.free 0
  have cr1 : w3.cell? ⟨w.heap.size, 1, none⟩ = some (.int .u64 0) := Br.out.cell rfl
  have fr1 := Br.out.free 1
  have cr2 : w3.cell? ⟨w.heap.size, 2, none⟩ = some (.int .u64 0) := Br.out.cell rfl
  have fr2 := Br.out.free 2
  go_upto_region 2 with fail
  go_region
  all_goals go_wp2_with fail
  all_goals exact bodyPost_ret (v := .agg #[.bool (false), .int .u64 (hi n : Nat), .int .u64 (lo n : Nat)]) (by simp [results, Try.results69, go_sem, cr0, cr1, cr2, lr]) rfl ⟨rfl, ((((HW3.out.setCell (p := ⟨w.heap.size, 0, none⟩) (by have := Br.out.lt; have := HW3.out.size; (first | (simp; done) | (simp; omega) | omega)) _).setCell (p := ⟨w.heap.size, 1, none⟩) (by have := Br.out.lt; have := HW3.out.size; (first | (simp; done) | (simp; omega) | omega)) _).setCell (p := ⟨w.heap.size, 2, none⟩) (by have := Br.out.lt; have := HW3.out.size; (first | (simp; done) | (simp; omega) | omega)) _).alloc (by have := HW3.out.size; simpa [World.setCell] using this) _).drew⟩
theorem prod_false_false (a b : Int) (x y n : Nat) (w : World)
    (hX : decide (a < 0) = false) (hY : decide (b < 0) = false)
    (m1 : ∀ w, Calls Try.prog 82 #[.int .i64 a] w fun en w' => en = .returned (.agg #[.int .u64 (hi x : Nat), .int .u64 (lo x : Nat)]) ∧ Below w.heap.size w w')
    (m2 : ∀ w, Calls Try.prog 82 #[.int .i64 b] w fun en w' => en = .returned (.agg #[.int .u64 (hi y : Nat), .int .u64 (lo y : Nat)]) ∧ Below w.heap.size w w')
    (m3 : ∀ w, Calls Try.prog 65 #[.agg #[.int .u64 (hi x : Nat), .int .u64 (lo x : Nat)], .agg #[.int .u64 (hi y : Nat), .int .u64 (lo y : Nat)]] w fun en w' => en = .returned (.tuple #[.agg #[.int .u64 (hi n : Nat), .int .u64 (lo n : Nat)], .bool false]) ∧ Below w.heap.size w w') :
    Calls Try.prog 69 #[.int .i64 a, .int .i64 b] w fun en w' => en = .returned (.agg #[.bool (false), .int .u64 (hi n : Nat), .int .u64 (lo n : Nat)]) ∧ Below w.heap.size w w' := by
  have M1 := Lib.hid m1; have M2 := Lib.hid m2; have M3 := Lib.hid m3
  clear m1 m2 m3
  go_enter Try.func69, Try.ntmps69
  go_wp2_with fail
  refine (M1.out _).mono ?_
  rintro e w1 ⟨rfl, hb⟩
  have kr : Blk w1 w.heap.size #[.bool false, .int .u64 0, .int .u64 0] := (Blk.new _ _ _).call hb
  have kw : Below w.heap.size w w1 := ((Below.refl w.heap.size w).alloc (Nat.le_refl _) _).trans (hb.mono (by simp))
  have Br := Lib.hid kr
  have HW1 := Lib.hid kw
  clear hb kw kr
  go_wp2_with fail
  refine (M2.out _).mono ?_
  rintro e w2 ⟨rfl, hb⟩
  have kr : Blk w2 w.heap.size #[.bool false, .int .u64 0, .int .u64 0] := Br.out.call hb
  have kw : Below w.heap.size w w2 := HW1.out.trans (hb.mono HW1.out.size)
  clear Br HW1
  have Br := Lib.hid kr
  have HW2 := Lib.hid kw
  clear hb kw kr
  go_wp2_with fail
  refine (M3.out _).mono ?_
  rintro e w3 ⟨rfl, hb⟩
  have kr : Blk w3 w.heap.size #[.bool false, .int .u64 0, .int .u64 0] := Br.out.call hb
  have kw : Below w.heap.size w w3 := HW2.out.trans (hb.mono HW2.out.size)
  clear Br HW2
  have Br := Lib.hid kr
  have HW3 := Lib.hid kw
  clear hb kw kr
  have lr := Br.out.lt
  have cr0 : w3.cell? ⟨w.heap.size, 0, none⟩ = some (.bool false) := Br.out.cell rfl
  have fr0 := Br.out.free 0
  have cr1 : w3.cell? ⟨w.heap.size, 1, none⟩ = some (.int .u64 0) := Br.out.cell rfl
  have fr1 := Br.out.free 1
  have cr2 : w3.cell? ⟨w.heap.size, 2, none⟩ = some (.int .u64 0) := Br.out.cell rfl
  have fr2 := Br.out.free 2
  go_upto_region 2 with fail
  go_region
  all_goals go_wp2_with fail
  all_goals exact bodyPost_ret (v := .agg #[.bool (false), .int .u64 (hi n : Nat), .int .u64 (lo n : Nat)]) (by simp [results, Try.results69, go_sem, cr0, cr1, cr2, lr]) rfl ⟨rfl, ((((HW3.out.setCell (p := ⟨w.heap.size, 0, none⟩) (by have := Br.out.lt; have := HW3.out.size; (first | (simp; done) | (simp; omega) | omega)) _).setCell (p := ⟨w.heap.size, 1, none⟩) (by have := Br.out.lt; have := HW3.out.size; (first | (simp; done) | (simp; omega) | omega)) _).setCell (p := ⟨w.heap.size, 2, none⟩) (by have := Br.out.lt; have := HW3.out.size; (first | (simp; done) | (simp; omega) | omega)) _).alloc (by have := HW3.out.size; simpa [World.setCell] using this) _).drew⟩
theorem prod_true_false (a b : Int) (x y n : Nat) (D : Bool) (w : World)
    (hX : decide (a < 0) = true) (hY : decide (b < 0) = false)
    (hE : ∀ w, (Op.equalIn 10000 55 (.agg #[.int .u64 (hi n : Nat), .int .u64 (lo n : Nat)]) (.agg #[.int .u64 0, .int .u64 0])).run Try.prog w = .ok D w)
    (m1 : ∀ w, Calls Try.prog 82 #[.int .i64 a] w fun en w' => en = .returned (.agg #[.int .u64 (hi x : Nat), .int .u64 (lo x : Nat)]) ∧ Below w.heap.size w w')
    (m2 : ∀ w, Calls Try.prog 82 #[.int .i64 b] w fun en w' => en = .returned (.agg #[.int .u64 (hi y : Nat), .int .u64 (lo y : Nat)]) ∧ Below w.heap.size w w')
    (m3 : ∀ w, Calls Try.prog 65 #[.agg #[.int .u64 (hi x : Nat), .int .u64 (lo x : Nat)], .agg #[.int .u64 (hi y : Nat), .int .u64 (lo y : Nat)]] w fun en w' => en = .returned (.tuple #[.agg #[.int .u64 (hi n : Nat), .int .u64 (lo n : Nat)], .bool false]) ∧ Below w.heap.size w w') :
    Calls Try.prog 69 #[.int .i64 a, .int .i64 b] w fun en w' => en = .returned (.agg #[.bool (!D), .int .u64 (hi n : Nat), .int .u64 (lo n : Nat)]) ∧ Below w.heap.size w w' := by
  have M1 := Lib.hid m1; have M2 := Lib.hid m2; have M3 := Lib.hid m3
  clear m1 m2 m3
  go_enter Try.func69, Try.ntmps69
  go_wp2_with fail
  refine (M1.out _).mono ?_
  rintro e w1 ⟨rfl, hb⟩
  have kr : Blk w1 w.heap.size #[.bool false, .int .u64 0, .int .u64 0] := (Blk.new _ _ _).call hb
  have kw : Below w.heap.size w w1 := ((Below.refl w.heap.size w).alloc (Nat.le_refl _) _).trans (hb.mono (by simp))
  have Br := Lib.hid kr
  have HW1 := Lib.hid kw
  clear hb kw kr
  go_wp2_with fail
  refine (M2.out _).mono ?_
  rintro e w2 ⟨rfl, hb⟩
  have kr : Blk w2 w.heap.size #[.bool false, .int .u64 0, .int .u64 0] := Br.out.call hb
  have kw : Below w.heap.size w w2 := HW1.out.trans (hb.mono HW1.out.size)
  clear Br HW1
  have Br := Lib.hid kr
  have HW2 := Lib.hid kw
  clear hb kw kr
  go_wp2_with fail
  refine (M3.out _).mono ?_
  rintro e w3 ⟨rfl, hb⟩
  have kr : Blk w3 w.heap.size #[.bool false, .int .u64 0, .int .u64 0] := Br.out.call hb
  have kw : Below w.heap.size w w3 := HW2.out.trans (hb.mono HW2.out.size)
  clear Br HW2
  have Br := Lib.hid kr
  have HW3 := Lib.hid kw
  clear hb kw kr
  have lr := Br.out.lt
  have cr0 : w3.cell? ⟨w.heap.size, 0, none⟩ = some (.bool false) := Br.out.cell rfl
  have fr0 := Br.out.free 0
  have cr1 : w3.cell? ⟨w.heap.size, 1, none⟩ = some (.int .u64 0) := Br.out.cell rfl
  have fr1 := Br.out.free 1
  have cr2 : w3.cell? ⟨w.heap.size, 2, none⟩ = some (.int .u64 0) := Br.out.cell rfl
  have fr2 := Br.out.free 2
  go_upto_region 2 with fail
  go_region
  all_goals go_wp2_with fail
  all_goals exact bodyPost_ret (v := .agg #[.bool (!D), .int .u64 (hi n : Nat), .int .u64 (lo n : Nat)]) (by simp [results, Try.results69, go_sem, cr0, cr1, cr2, lr]) rfl ⟨rfl, ((((HW3.out.setCell (p := ⟨w.heap.size, 0, none⟩) (by have := Br.out.lt; have := HW3.out.size; (first | (simp; done) | (simp; omega) | omega)) _).setCell (p := ⟨w.heap.size, 1, none⟩) (by have := Br.out.lt; have := HW3.out.size; (first | (simp; done) | (simp; omega) | omega)) _).setCell (p := ⟨w.heap.size, 2, none⟩) (by have := Br.out.lt; have := HW3.out.size; (first | (simp; done) | (simp; omega) | omega)) _).alloc (by have := HW3.out.size; simpa [World.setCell] using this) _).drew⟩
theorem prod_false_true (a b : Int) (x y n : Nat) (D : Bool) (w : World)
    (hX : decide (a < 0) = false) (hY : decide (b < 0) = true)
    (hE : ∀ w, (Op.equalIn 10000 55 (.agg #[.int .u64 (hi n : Nat), .int .u64 (lo n : Nat)]) (.agg #[.int .u64 0, .int .u64 0])).run Try.prog w = .ok D w)
    (m1 : ∀ w, Calls Try.prog 82 #[.int .i64 a] w fun en w' => en = .returned (.agg #[.int .u64 (hi x : Nat), .int .u64 (lo x : Nat)]) ∧ Below w.heap.size w w')
    (m2 : ∀ w, Calls Try.prog 82 #[.int .i64 b] w fun en w' => en = .returned (.agg #[.int .u64 (hi y : Nat), .int .u64 (lo y : Nat)]) ∧ Below w.heap.size w w')
    (m3 : ∀ w, Calls Try.prog 65 #[.agg #[.int .u64 (hi x : Nat), .int .u64 (lo x : Nat)], .agg #[.int .u64 (hi y : Nat), .int .u64 (lo y : Nat)]] w fun en w' => en = .returned (.tuple #[.agg #[.int .u64 (hi n : Nat), .int .u64 (lo n : Nat)], .bool false]) ∧ Below w.heap.size w w') :
    Calls Try.prog 69 #[.int .i64 a, .int .i64 b] w fun en w' => en = .returned (.agg #[.bool (!D), .int .u64 (hi n : Nat), .int .u64 (lo n : Nat)]) ∧ Below w.heap.size w w' := by
  have M1 := Lib.hid m1; have M2 := Lib.hid m2; have M3 := Lib.hid m3
  clear m1 m2 m3
  go_enter Try.func69, Try.ntmps69
  go_wp2_with fail
  refine (M1.out _).mono ?_
  rintro e w1 ⟨rfl, hb⟩
  have kr : Blk w1 w.heap.size #[.bool false, .int .u64 0, .int .u64 0] := (Blk.new _ _ _).call hb
  have kw : Below w.heap.size w w1 := ((Below.refl w.heap.size w).alloc (Nat.le_refl _) _).trans (hb.mono (by simp))
  have Br := Lib.hid kr
  have HW1 := Lib.hid kw
  clear hb kw kr
  go_wp2_with fail
  refine (M2.out _).mono ?_
  rintro e w2 ⟨rfl, hb⟩
  have kr : Blk w2 w.heap.size #[.bool false, .int .u64 0, .int .u64 0] := Br.out.call hb
  have kw : Below w.heap.size w w2 := HW1.out.trans (hb.mono HW1.out.size)
  clear Br HW1
  have Br := Lib.hid kr
  have HW2 := Lib.hid kw
  clear hb kw kr
  go_wp2_with fail
  refine (M3.out _).mono ?_
  rintro e w3 ⟨rfl, hb⟩
  have kr : Blk w3 w.heap.size #[.bool false, .int .u64 0, .int .u64 0] := Br.out.call hb
  have kw : Below w.heap.size w w3 := HW2.out.trans (hb.mono HW2.out.size)
  clear Br HW2
  have Br := Lib.hid kr
  have HW3 := Lib.hid kw
  clear hb kw kr
  have lr := Br.out.lt
  have cr0 : w3.cell? ⟨w.heap.size, 0, none⟩ = some (.bool false) := Br.out.cell rfl
  have fr0 := Br.out.free 0
  have cr1 : w3.cell? ⟨w.heap.size, 1, none⟩ = some (.int .u64 0) := Br.out.cell rfl
  have fr1 := Br.out.free 1
  have cr2 : w3.cell? ⟨w.heap.size, 2, none⟩ = some (.int .u64 0) := Br.out.cell rfl
  have fr2 := Br.out.free 2
  go_upto_region 2 with fail
  go_region
  all_goals go_wp2_with fail
  all_goals exact bodyPost_ret (v := .agg #[.bool (!D), .int .u64 (hi n : Nat), .int .u64 (lo n : Nat)]) (by simp [results, Try.results69, go_sem, cr0, cr1, cr2, lr]) rfl ⟨rfl, ((((HW3.out.setCell (p := ⟨w.heap.size, 0, none⟩) (by have := Br.out.lt; have := HW3.out.size; (first | (simp; done) | (simp; omega) | omega)) _).setCell (p := ⟨w.heap.size, 1, none⟩) (by have := Br.out.lt; have := HW3.out.size; (first | (simp; done) | (simp; omega) | omega)) _).setCell (p := ⟨w.heap.size, 2, none⟩) (by have := Br.out.lt; have := HW3.out.size; (first | (simp; done) | (simp; omega) | omega)) _).alloc (by have := HW3.out.size; simpa [World.setCell] using this) _).drew⟩
theorem product_any (a b : Int) (ha : IsInt a) (hb : IsInt b) (w : World) :
    Calls Try.prog 69 #[.int .i64 a, .int .i64 b] w fun en w' => en = .returned (zS (a * b)) ∧ Below w.heap.size w w' := by
  have hf := prod_fit ha hb
  have m1 := rsize_any a ha
  have m2 := rsize_any b hb
  have m3 := ref_times a.natAbs b.natAbs (by have := natAbs_lt ha; unfold M128; omega) (by have := natAbs_lt hb; unfold M128; omega) hf
  unfold zS
  rw [Int.natAbs_mul]
  by_cases h1 : a < 0 <;> by_cases h2 : b < 0
  · rw [decide_eq_false (by have := Int.mul_pos_of_neg_of_neg h1 h2; omega : ¬ a * b < 0)]
    exact prod_true_true a b _ _ _ w (decide_eq_true h1) (decide_eq_true h2) m1 m2 m3
  · have e : decide (a * b < 0) = !decide (a.natAbs * b.natAbs = 0) := by
      rw [ne_zero_D, ← Int.natAbs_mul]
      refine decide_eq_decide.2 ⟨fun h => by omega, fun h => ?_⟩
      have := Int.mul_nonpos_of_nonpos_of_nonneg (Int.le_of_lt h1) (by omega : 0 ≤ b)
      omega
    rw [e]
    exact prod_true_false a b _ _ _ _ w (decide_eq_true h1) (decide_eq_false h2) (eqZero _) m1 m2 m3
  · have e : decide (a * b < 0) = !decide (a.natAbs * b.natAbs = 0) := by
      rw [ne_zero_D, ← Int.natAbs_mul]
      refine decide_eq_decide.2 ⟨fun h => by omega, fun h => ?_⟩
      have := Int.mul_nonpos_of_nonneg_of_nonpos (by omega : 0 ≤ a) (Int.le_of_lt h2)
      omega
    rw [e]
    exact prod_false_true a b _ _ _ _ w (decide_eq_false h1) (decide_eq_true h2) (eqZero _) m1 m2 m3
  · rw [decide_eq_false (by have := Int.mul_nonneg (by omega : 0 ≤ a) (by omega : 0 ≤ b); omega : ¬ a * b < 0)]
    exact prod_false_false a b _ _ _ w (decide_eq_false h1) (decide_eq_false h2) m1 m2 m3
theorem rmul_core (a b x y k l : Int) (C : Bool) (w : World)
    (m1 : ∀ w, Calls Try.prog 69 #[.int .i64 a, .int .i64 b] w fun en w' => en = .returned (.agg #[.bool C, .int .u64 k, .int .u64 l]) ∧ Below w.heap.size w w')
    (m2 : ∀ w, Calls Try.prog 60 #[.agg #[.bool C, .int .u64 k, .int .u64 l]] w fun en w' => en = .returned (.tuple #[.int .i64 x, .int .i64 y]) ∧ Below w.heap.size w w') :
    Calls Try.prog 47 #[.int .i64 a, .int .i64 b] w fun en w' => en = .returned (.tuple #[.int .i64 x, .int .i64 y]) ∧ Below w.heap.size w w' := by
  have M1 := Lib.hid m1; have M2 := Lib.hid m2
  clear m1 m2
  go_enter Try.func47, Try.ntmps47
  go_wp2_with fail
  refine (M1.out _).mono ?_
  rintro e w1 ⟨rfl, hb⟩
  have kw : Below w.heap.size w w1 := (Below.refl w.heap.size w).trans (hb.mono (Nat.le_refl _))
  have HW1 := Lib.hid kw
  clear hb kw
  go_wp2_with fail
  refine (M2.out _).mono ?_
  rintro e w2 ⟨rfl, hb⟩
  have kw : Below w.heap.size w w2 := HW1.out.trans (hb.mono HW1.out.size)
  clear HW1
  have HW2 := Lib.hid kw
  clear hb kw
  go_wp2_with fail
  go_ret2
  exact ⟨rfl, HW2.out⟩
theorem refmul_any (a b : Int) (ha : IsInt a) (hb : IsInt b) (w : World) :
    Calls Try.prog 47 #[.int .i64 a, .int .i64 b] w fun en w' => en = .returned (.tuple #[.int .i64 (ans (a * b)), .int .i64 (err (a * b))]) ∧ Below w.heap.size w w' := by
  exact rmul_core a b _ _ _ _ _ w (product_any a b ha hb) (told_z (a * b) (by rw [Int.natAbs_mul]; exact prod_fit ha hb))
end Go.Proofs.Ytacnaencmbnjpaa
