/- The reference of stage 6: Right, New, Cmp, Add, Mul, Enclose; nothing that was in memory before is changed. -/
import Derived.Test.YtjnebbjjabnipaaRatioF
import Derived.Test.YtjnebbjjabnipaaRGcd
import Derived.Test.YtjnebbjjabnipaaFixRef3
import Derived.Test.YtjnebbjjabnipaaSpanN
namespace Go.Proofs.Ytjnebbjjabnipaa
open Go.RowKit

theorem rqright_no (n d : Int) (h : ¬ 1 ≤ d) (w : World) :
    Calls Try.prog 10 #[.agg #[.int .i64 n, .int .i64 d]] w fun en w' => en = .returned (.bool false) ∧ Below w.heap.size w w' := by
  have hd : decide ((1 : Int) ≤ d) = false := decide_eq_false h
  go_enter Try.func10, Try.ntmps10
  go_upto_region 1 with fail
  obtain ⟨W1x, hW1x⟩ : ∃ W1x, (w.alloc (.cells #[.int .i64 n, .int .i64 d] 23)) = W1x := ⟨_, rfl⟩
  have hm : Mem w W1x [(w.heap.size, #[.int .i64 n, .int .i64 d])] := by rw [← hW1x]; exact ((Mem.start w).new w.heap.size _ _ rfl)
  rw [hW1x]
  clear hW1x
  have mk : ∀ w', Mem w w' [(w.heap.size, #[.int .i64 n, .int .i64 d])] → (fun w' => w'.cell? ⟨w.heap.size, 0, none⟩ = some (.int .i64 n) ∧ w'.cell? ⟨w.heap.size, 1, none⟩ = some (.int .i64 d) ∧ Hid (Mem w w' [(w.heap.size, #[.int .i64 n, .int .i64 d])])) w' := fun w' h => ⟨h.cell 0 rfl rfl, h.cell 0 rfl rfl, Lib.hid h⟩
  have hok : OwnOk (fun w' => w'.cell? ⟨w.heap.size, 0, none⟩ = some (.int .i64 n) ∧ w'.cell? ⟨w.heap.size, 1, none⟩ = some (.int .i64 d) ∧ Hid (Mem w w' [(w.heap.size, #[.int .i64 n, .int .i64 d])])) W1x.heap.size [] := own0_ok (fun v1 v2 h hb => mk _ (h.2.2.out.step hb hm.lts hm.low.size))
  have hfit : ∀ i, (∀ e ∈ ([] : List Ent), e.x ≠ i ∧ e.s ≠ i) → Fit (fun w' => w'.cell? ⟨w.heap.size, 0, none⟩ = some (.int .i64 n) ∧ w'.cell? ⟨w.heap.size, 1, none⟩ = some (.int .i64 d) ∧ Hid (Mem w w' [(w.heap.size, #[.int .i64 n, .int .i64 d])])) (Sof (fun w' => w'.cell? ⟨w.heap.size, 0, none⟩ = some (.int .i64 n) ∧ w'.cell? ⟨w.heap.size, 1, none⟩ = some (.int .i64 d) ∧ Hid (Mem w w' [(w.heap.size, #[.int .i64 n, .int .i64 d])])) W1x.heap.size []) i := fun i hi => sof_fit hok.st hok.loc hi
  have HOK := Lib.hid hok; have HF := Lib.hid hfit; clear hok hfit
  refine wp_region_ab (S0 := (fun w' => w'.cell? ⟨w.heap.size, 0, none⟩ = some (.int .i64 n) ∧ w'.cell? ⟨w.heap.size, 1, none⟩ = some (.int .i64 d) ∧ Hid (Mem w w' [(w.heap.size, #[.int .i64 n, .int .i64 d])]))) W1x.heap.size [] (by kernel_rfl) (mk _ hm.drew) (Nat.le_refl _) (by simp) ?_
  have HMK := Lib.hid mk
  clear hm mk
  refine abTake 0 (some 3) (v := ?_) rfl rfl (by kernel_rfl) (by kernel_rfl) (by kernel_rfl) (fun _ _ _ h => h) (HF.out _ (by simp)) (by rfl) ?_ ?_
  rotate_left 1
  · (intro w hSw; (try dsimp only at hSw); go_simp; try with_reducible rfl)
  simp only [Act.put, List.setIfInBounds_toArray, List.set_cons_zero, List.set_cons_succ]
  refine abTake 1 (some 4) (v := ?_) rfl rfl (by kernel_rfl) (by kernel_rfl) (by kernel_rfl) (fun _ _ _ h => h) (HF.out _ (by simp)) (by rfl) ?_ ?_
  rotate_left 1
  · (intro w hSw; (try dsimp only at hSw); go_simp; try with_reducible rfl)
  simp only [Act.put, List.setIfInBounds_toArray, List.set_cons_zero, List.set_cons_succ]
  refine abTake 2 (some 5) (v := ?_) rfl rfl (by kernel_rfl) (by kernel_rfl) (by kernel_rfl) (fun _ _ _ h => h) (HF.out _ (by simp)) (by rfl) ?_ ?_
  rotate_left 1
  · (intro w hSw; (try dsimp only at hSw); go_simp; try with_reducible rfl)
  simp only [Act.put, List.setIfInBounds_toArray, List.set_cons_zero, List.set_cons_succ]
  refine abTake 3 (some 6) (v := ?_) rfl rfl (by kernel_rfl) (by kernel_rfl) (by kernel_rfl) (fun _ _ _ h => h) (HF.out _ (by simp)) (by rfl) ?_ ?_
  rotate_left 1
  · (intro w hSw; (try dsimp only at hSw); go_simp; try with_reducible rfl)
  simp only [Act.put, List.setIfInBounds_toArray, List.set_cons_zero, List.set_cons_succ]
  refine abSkip 4 (some 7) rfl rfl (by kernel_rfl) (by kernel_rfl) (by kernel_rfl) (fun _ _ _ h => h) (HF.out _ (by simp)) (by rfl) ?_
  simp only [Act.put, List.setIfInBounds_toArray, List.set_cons_zero, List.set_cons_succ]
  refine abSkip 5 (some 8) rfl rfl (by kernel_rfl) (by kernel_rfl) (by kernel_rfl) (fun _ _ _ h => h) (HF.out _ (by simp)) (by rfl) ?_
  simp only [Act.put, List.setIfInBounds_toArray, List.set_cons_zero, List.set_cons_succ]
  refine abSkip 6 (some 9) rfl rfl (by kernel_rfl) (by kernel_rfl) (by kernel_rfl) (fun _ _ _ h => h) (HF.out _ (by simp)) (by rfl) ?_
  simp only [Act.put, List.setIfInBounds_toArray, List.set_cons_zero, List.set_cons_succ]
  refine abSkip 7 (some 10) rfl rfl (by kernel_rfl) (by kernel_rfl) (by kernel_rfl) (fun _ _ _ h => h) (HF.out _ (by simp)) (by rfl) ?_
  simp only [Act.put, List.setIfInBounds_toArray, List.set_cons_zero, List.set_cons_succ]
  refine abSkip 8 (some 11) rfl rfl (by kernel_rfl) (by kernel_rfl) (by kernel_rfl) (fun _ _ _ h => h) (HF.out _ (by simp)) (by rfl) ?_
  simp only [Act.put, List.setIfInBounds_toArray, List.set_cons_zero, List.set_cons_succ]
  refine abSkip 9 (some 12) rfl rfl (by kernel_rfl) (by kernel_rfl) (by kernel_rfl) (fun _ _ _ h => h) (HF.out _ (by simp)) (by rfl) ?_
  simp only [Act.put, List.setIfInBounds_toArray, List.set_cons_zero, List.set_cons_succ]
  refine abSkip 10 (some 13) rfl rfl (by kernel_rfl) (by kernel_rfl) (by kernel_rfl) (fun _ _ _ h => h) (HF.out _ (by simp)) (by rfl) ?_
  simp only [Act.put, List.setIfInBounds_toArray, List.set_cons_zero, List.set_cons_succ]
  refine abSkip 11 (some 14) rfl rfl (by kernel_rfl) (by kernel_rfl) (by kernel_rfl) (fun _ _ _ h => h) (HF.out _ (by simp)) (by rfl) ?_
  simp only [Act.put, List.setIfInBounds_toArray, List.set_cons_zero, List.set_cons_succ]
  refine abSkip 12 (some 15) rfl rfl (by kernel_rfl) (by kernel_rfl) (by kernel_rfl) (fun _ _ _ h => h) (HF.out _ (by simp)) (by rfl) ?_
  simp only [Act.put, List.setIfInBounds_toArray, List.set_cons_zero, List.set_cons_succ]
  refine abTake 13 (some 16) (v := ?_) rfl rfl (by kernel_rfl) (by kernel_rfl) (by kernel_rfl) (fun _ _ _ h => h) (HF.out _ (by simp)) (by rfl) ?_ ?_
  rotate_left 1
  · (intro w hSw; (try dsimp only at hSw); go_simp; try with_reducible rfl)
  simp only [Act.put, List.setIfInBounds_toArray, List.set_cons_zero, List.set_cons_succ]
  refine abTake 14 (some 2) (v := ?_) rfl rfl (by kernel_rfl) (by kernel_rfl) (by kernel_rfl) (fun _ _ _ h => h) (HF.out _ (by simp)) (by rfl) ?_ ?_
  rotate_left 1
  · (intro w hSw; (try dsimp only at hSw); go_simp; try with_reducible rfl)
  simp only [Act.put, List.setIfInBounds_toArray, List.set_cons_zero, List.set_cons_succ]
  refine abDone (by kernel_rfl) ?_ _
  rintro w1 hS
  have HMw1 := Lib.hid (hS.1.2.2.out)
  clear hS HOK HF HMK
  go_wp2_with fail
  go_ret
  exact ⟨rfl, HMw1.out.low⟩
theorem rqright_yes (n d : Int) (h : 1 ≤ d) (p q g o : Nat) (D : Bool) (w : World) (hE : ∀ w, (Op.equalIn 10000 48 (.agg #[.int .u64 (hi g : Nat), .int .u64 (lo g : Nat)]) (.agg #[.int .u64 (hi o : Nat), .int .u64 (lo o : Nat)])).run Try.prog w = .ok D w)
    (m1 : ∀ w, Calls Try.prog 27 #[.int .i64 n] w fun en w' => en = .returned (.agg #[.int .u64 (hi p : Nat), .int .u64 (lo p : Nat)]) ∧ Below w.heap.size w w')
    (m2 : ∀ w, Calls Try.prog 27 #[.int .i64 d] w fun en w' => en = .returned (.agg #[.int .u64 (hi q : Nat), .int .u64 (lo q : Nat)]) ∧ Below w.heap.size w w')
    (m3 : ∀ w, Calls Try.prog 26 #[.agg #[.int .u64 (hi p : Nat), .int .u64 (lo p : Nat)], .agg #[.int .u64 (hi q : Nat), .int .u64 (lo q : Nat)]] w fun en w' => en = .returned (.agg #[.int .u64 (hi g : Nat), .int .u64 (lo g : Nat)]) ∧ Below w.heap.size w w')
    (m4 : ∀ w, Calls Try.prog 28 #[.int .u64 1] w fun en w' => en = .returned (.agg #[.int .u64 (hi o : Nat), .int .u64 (lo o : Nat)]) ∧ Below w.heap.size w w') :
    Calls Try.prog 10 #[.agg #[.int .i64 n, .int .i64 d]] w fun en w' => en = .returned (.bool D) ∧ Below w.heap.size w w' := by
  have M1 := Lib.hid m1; have M2 := Lib.hid m2; have M3 := Lib.hid m3; have M4 := Lib.hid m4
  clear m1 m2 m3 m4
  have hd : decide ((1 : Int) ≤ d) = true := decide_eq_true h
  go_enter Try.func10, Try.ntmps10
  go_upto_region 1 with fail
  obtain ⟨W1x, hW1x⟩ : ∃ W1x, (w.alloc (.cells #[.int .i64 n, .int .i64 d] 23)) = W1x := ⟨_, rfl⟩
  have hm : Mem w W1x [(w.heap.size, #[.int .i64 n, .int .i64 d])] := by rw [← hW1x]; exact ((Mem.start w).new w.heap.size _ _ rfl)
  rw [hW1x]
  clear hW1x
  have mk : ∀ w', Mem w w' [(w.heap.size, #[.int .i64 n, .int .i64 d])] → (fun w' => w'.cell? ⟨w.heap.size, 0, none⟩ = some (.int .i64 n) ∧ w'.cell? ⟨w.heap.size, 1, none⟩ = some (.int .i64 d) ∧ Hid (Mem w w' [(w.heap.size, #[.int .i64 n, .int .i64 d])])) w' := fun w' h => ⟨h.cell 0 rfl rfl, h.cell 0 rfl rfl, Lib.hid h⟩
  have hok : OwnOk (fun w' => w'.cell? ⟨w.heap.size, 0, none⟩ = some (.int .i64 n) ∧ w'.cell? ⟨w.heap.size, 1, none⟩ = some (.int .i64 d) ∧ Hid (Mem w w' [(w.heap.size, #[.int .i64 n, .int .i64 d])])) W1x.heap.size [] := own0_ok (fun v1 v2 h hb => mk _ (h.2.2.out.step hb hm.lts hm.low.size))
  have hfit : ∀ i, (∀ e ∈ ([] : List Ent), e.x ≠ i ∧ e.s ≠ i) → Fit (fun w' => w'.cell? ⟨w.heap.size, 0, none⟩ = some (.int .i64 n) ∧ w'.cell? ⟨w.heap.size, 1, none⟩ = some (.int .i64 d) ∧ Hid (Mem w w' [(w.heap.size, #[.int .i64 n, .int .i64 d])])) (Sof (fun w' => w'.cell? ⟨w.heap.size, 0, none⟩ = some (.int .i64 n) ∧ w'.cell? ⟨w.heap.size, 1, none⟩ = some (.int .i64 d) ∧ Hid (Mem w w' [(w.heap.size, #[.int .i64 n, .int .i64 d])])) W1x.heap.size []) i := fun i hi => sof_fit hok.st hok.loc hi
  have HOK := Lib.hid hok; have HF := Lib.hid hfit; clear hok hfit
  refine wp_region_ab (S0 := (fun w' => w'.cell? ⟨w.heap.size, 0, none⟩ = some (.int .i64 n) ∧ w'.cell? ⟨w.heap.size, 1, none⟩ = some (.int .i64 d) ∧ Hid (Mem w w' [(w.heap.size, #[.int .i64 n, .int .i64 d])]))) W1x.heap.size [] (by kernel_rfl) (mk _ hm.drew) (Nat.le_refl _) (by simp) ?_
  have HMK := Lib.hid mk
  clear hm mk
  refine abTake 0 (some 3) (v := ?_) rfl rfl (by kernel_rfl) (by kernel_rfl) (by kernel_rfl) (fun _ _ _ h => h) (HF.out _ (by simp)) (by rfl) ?_ ?_
  rotate_left 1
  · (intro w hSw; (try dsimp only at hSw); go_simp; try with_reducible rfl)
  simp only [Act.put, List.setIfInBounds_toArray, List.set_cons_zero, List.set_cons_succ]
  refine abTake 1 (some 4) (v := ?_) rfl rfl (by kernel_rfl) (by kernel_rfl) (by kernel_rfl) (fun _ _ _ h => h) (HF.out _ (by simp)) (by rfl) ?_ ?_
  rotate_left 1
  · (intro w hSw; (try dsimp only at hSw); go_simp; try with_reducible rfl)
  simp only [Act.put, List.setIfInBounds_toArray, List.set_cons_zero, List.set_cons_succ]
  refine abTake 2 (some 5) (v := ?_) rfl rfl (by kernel_rfl) (by kernel_rfl) (by kernel_rfl) (fun _ _ _ h => h) (HF.out _ (by simp)) (by rfl) ?_ ?_
  rotate_left 1
  · (intro w hSw; (try dsimp only at hSw); go_simp; try with_reducible rfl)
  simp only [Act.put, List.setIfInBounds_toArray, List.set_cons_zero, List.set_cons_succ]
  refine abTake 3 (some 6) (v := ?_) rfl rfl (by kernel_rfl) (by kernel_rfl) (by kernel_rfl) (fun _ _ _ h => h) (HF.out _ (by simp)) (by rfl) ?_ ?_
  rotate_left 1
  · (intro w hSw; (try dsimp only at hSw); go_simp; try with_reducible rfl)
  simp only [Act.put, List.setIfInBounds_toArray, List.set_cons_zero, List.set_cons_succ]
  refine abTake 4 (some 7) (v := ?_) rfl rfl (by kernel_rfl) (by kernel_rfl) (by kernel_rfl) (fun _ _ _ h => h) (HF.out _ (by simp)) (by rfl) ?_ ?_
  rotate_left 1
  · (intro w hSw; (try dsimp only at hSw); go_simp; try with_reducible rfl)
  simp only [Act.put, List.setIfInBounds_toArray, List.set_cons_zero, List.set_cons_succ]
  refine abTake 5 (some 8) (v := ?_) rfl rfl (by kernel_rfl) (by kernel_rfl) (by kernel_rfl) (fun _ _ _ h => h) (HF.out _ (by simp)) (by rfl) ?_ ?_
  rotate_left 1
  · (intro w hSw; (try dsimp only at hSw); go_simp; try with_reducible rfl)
  simp only [Act.put, List.setIfInBounds_toArray, List.set_cons_zero, List.set_cons_succ]
  refine abCall 6 (some 9) rfl rfl (by kernel_rfl) (by kernel_rfl) (by kernel_rfl) (fun _ _ _ h => h) (HF.out _ (by simp)) (by rfl) ?_ (fun w hSw => M1.out _) ?_
  · (intro w hSw; (try dsimp only at hSw); go_simp; try with_reducible rfl)
  simp only [Act.put, List.setIfInBounds_toArray, List.set_cons_zero, List.set_cons_succ]
  refine abTake 7 (some 10) (v := ?_) rfl rfl (by kernel_rfl) (by kernel_rfl) (by kernel_rfl) (fun _ _ _ h => h) (HF.out _ (by simp)) (by rfl) ?_ ?_
  rotate_left 1
  · (intro w hSw; (try dsimp only at hSw); go_simp; try with_reducible rfl)
  simp only [Act.put, List.setIfInBounds_toArray, List.set_cons_zero, List.set_cons_succ]
  refine abTake 8 (some 11) (v := ?_) rfl rfl (by kernel_rfl) (by kernel_rfl) (by kernel_rfl) (fun _ _ _ h => h) (HF.out _ (by simp)) (by rfl) ?_ ?_
  rotate_left 1
  · (intro w hSw; (try dsimp only at hSw); go_simp; try with_reducible rfl)
  simp only [Act.put, List.setIfInBounds_toArray, List.set_cons_zero, List.set_cons_succ]
  refine abCall 9 (some 12) rfl rfl (by kernel_rfl) (by kernel_rfl) (by kernel_rfl) (fun _ _ _ h => h) (HF.out _ (by simp)) (by rfl) ?_ (fun w hSw => M2.out _) ?_
  · (intro w hSw; (try dsimp only at hSw); go_simp; try with_reducible rfl)
  simp only [Act.put, List.setIfInBounds_toArray, List.set_cons_zero, List.set_cons_succ]
  refine abCall 10 (some 13) rfl rfl (by kernel_rfl) (by kernel_rfl) (by kernel_rfl) (fun _ _ _ h => h) (HF.out _ (by simp)) (by rfl) ?_ (fun w hSw => M3.out _) ?_
  · (intro w hSw; (try dsimp only at hSw); go_simp; try with_reducible rfl)
  simp only [Act.put, List.setIfInBounds_toArray, List.set_cons_zero, List.set_cons_succ]
  refine abCall 11 (some 14) rfl rfl (by kernel_rfl) (by kernel_rfl) (by kernel_rfl) (fun _ _ _ h => h) (HF.out _ (by simp)) (by rfl) ?_ (fun w hSw => M4.out _) ?_
  · (intro w hSw; (try dsimp only at hSw); go_simp; try with_reducible rfl)
  simp only [Act.put, List.setIfInBounds_toArray, List.set_cons_zero, List.set_cons_succ]
  refine abTake 12 (some 15) (v := ?_) rfl rfl (by kernel_rfl) (by kernel_rfl) (by kernel_rfl) (fun _ _ _ h => h) (HF.out _ (by simp)) (by rfl) ?_ ?_
  rotate_left 1
  · (intro w hSw; (try dsimp only at hSw); go_simp; try with_reducible rfl)
  simp only [Act.put, List.setIfInBounds_toArray, List.set_cons_zero, List.set_cons_succ]
  refine abTake 13 (some 16) (v := ?_) rfl rfl (by kernel_rfl) (by kernel_rfl) (by kernel_rfl) (fun _ _ _ h => h) (HF.out _ (by simp)) (by rfl) ?_ ?_
  rotate_left 1
  · (intro w hSw; (try dsimp only at hSw); go_simp; try with_reducible rfl)
  simp only [Act.put, List.setIfInBounds_toArray, List.set_cons_zero, List.set_cons_succ]
  refine abTake 14 (some 2) (v := ?_) rfl rfl (by kernel_rfl) (by kernel_rfl) (by kernel_rfl) (fun _ _ _ h => h) (HF.out _ (by simp)) (by rfl) ?_ ?_
  rotate_left 1
  · (intro w hSw; (try dsimp only at hSw); go_simp; try with_reducible rfl)
  simp only [Act.put, List.setIfInBounds_toArray, List.set_cons_zero, List.set_cons_succ]
  refine abDone (by kernel_rfl) ?_ _
  rintro w1 hS
  have HMw1 := Lib.hid (hS.1.2.2.out)
  clear hS HOK HF HMK
  go_wp2_with fail
  go_ret
  exact ⟨rfl, HMw1.out.low⟩
theorem rqright_any (n d : Int) (hn : IsInt n) (hd : IsInt d) (w : World) :
    Calls Try.prog 10 #[.agg #[.int .i64 n, .int .i64 d]] w fun en w' => en = .returned (.bool (decide (Low n d))) ∧ Below w.heap.size w w' := by
  by_cases h : 1 ≤ d
  · have e := eqWide (Nat.gcd n.natAbs d.natAbs) 1
    have e2 : decide (Low n d) = decide (Nat.gcd n.natAbs d.natAbs = 1) := decide_eq_decide.2 ⟨fun k => k.2, fun k => ⟨h, k⟩⟩
    rw [e2]
    exact rqright_yes n d h _ _ _ _ _ w e (rsize_any n hn) (rsize_any d hd) (rgcd_any n.natAbs d.natAbs (int_M hn) (int_M hd)) (ref_of 1 (by decide))
  · rw [decide_eq_false (fun k : Low n d => h k.1)]
    exact rqright_no n d h w
theorem rqlow_true_num (n d p q : Nat) (D : Bool) (Y : Bool) (x y : Int) (w : World) (hE : ∀ w, (Op.equalIn 10000 48 (.agg #[.int .u64 (hi p : Nat), .int .u64 (lo p : Nat)]) (.agg #[.int .u64 0, .int .u64 0])).run Try.prog w = .ok D w)
    (m1 : ∀ w, Calls Try.prog 51 #[.agg #[.int .u64 (hi n : Nat), .int .u64 (lo n : Nat)], .agg #[.int .u64 (hi d : Nat), .int .u64 (lo d : Nat)]] w fun en w' => en = .returned (.tuple #[.agg #[.int .u64 (hi p : Nat), .int .u64 (lo p : Nat)], .agg #[.int .u64 (hi q : Nat), .int .u64 (lo q : Nat)]]) ∧ Below w.heap.size w w')
    (m2 : ∀ w, Calls Try.prog 52 #[.agg #[.bool (!D), .int .u64 (hi p : Nat), .int .u64 (lo p : Nat)]] w fun en w' => en = .returned (.tuple #[.int .i64 x, .bool false]) ∧ Below w.heap.size w w')
    (m3 : ∀ w, Calls Try.prog 52 #[.agg #[.bool false, .int .u64 (hi q : Nat), .int .u64 (lo q : Nat)]] w fun en w' => en = .returned (.tuple #[.int .i64 y, .bool Y]) ∧ Below w.heap.size w w') :
    Calls Try.prog 30 #[.agg #[.bool true, .int .u64 (hi n : Nat), .int .u64 (lo n : Nat)], .agg #[.int .u64 (hi d : Nat), .int .u64 (lo d : Nat)]] w fun en w' => en = .returned (.tuple #[.agg #[.int .i64 0, .int .i64 0], .int .i64 5]) ∧ Below w.heap.size w w' := by
  have M1 := Lib.hid m1; have M2 := Lib.hid m2; have M3 := Lib.hid m3
  clear m1 m2 m3
  go_enter Try.func30, Try.ntmps30
  go_wp2_with fail
  refine (M1.out _).mono ?_
  rintro e w1 ⟨rfl, hb⟩
  have HMw1 := Lib.hid (((((Mem.start w).new w.heap.size _ _ rfl).new (w.heap.size + 1) _ _ (by simp)).new (w.heap.size + 1 + 1) _ _ (by simp)).call hb)
  clear hb
  go_upto_region 2 with fail
  obtain ⟨W2x, hW2x⟩ : ∃ W2x, ((w1.alloc (.cells #[.int .u64 (hi p : Nat), .int .u64 (lo p : Nat)] 48)).alloc (.cells #[.int .u64 (hi q : Nat), .int .u64 (lo q : Nat)] 48)) = W2x := ⟨_, rfl⟩
  have hm : Mem w W2x [((w1.heap.size + 1), #[.int .u64 (hi q : Nat), .int .u64 (lo q : Nat)]), (w1.heap.size, #[.int .u64 (hi p : Nat), .int .u64 (lo p : Nat)]), ((w.heap.size + 1 + 1), #[.int .i64 0, .int .i64 0]), ((w.heap.size + 1), #[.int .u64 (hi d : Nat), .int .u64 (lo d : Nat)]), (w.heap.size, #[.bool true, .int .u64 (hi n : Nat), .int .u64 (lo n : Nat)])] := by rw [← hW2x]; exact ((HMw1.out.new w1.heap.size _ _ rfl).new (w1.heap.size + 1) _ _ (by simp))
  rw [hW2x]
  clear hW2x HMw1
  have mk : ∀ w', Mem w w' [((w1.heap.size + 1), #[.int .u64 (hi q : Nat), .int .u64 (lo q : Nat)]), (w1.heap.size, #[.int .u64 (hi p : Nat), .int .u64 (lo p : Nat)]), ((w.heap.size + 1 + 1), #[.int .i64 0, .int .i64 0]), ((w.heap.size + 1), #[.int .u64 (hi d : Nat), .int .u64 (lo d : Nat)]), (w.heap.size, #[.bool true, .int .u64 (hi n : Nat), .int .u64 (lo n : Nat)])] → (fun w' => w'.cell? ⟨w.heap.size, 0, none⟩ = some (.bool true) ∧ w'.cell? ⟨w.heap.size, 1, none⟩ = some (.int .u64 (hi n : Nat)) ∧ w'.cell? ⟨w.heap.size, 2, none⟩ = some (.int .u64 (lo n : Nat)) ∧ w'.cell? ⟨w1.heap.size, 0, none⟩ = some (.int .u64 (hi p : Nat)) ∧ w'.cell? ⟨w1.heap.size, 1, none⟩ = some (.int .u64 (lo p : Nat)) ∧ Hid (Mem w w' [((w1.heap.size + 1), #[.int .u64 (hi q : Nat), .int .u64 (lo q : Nat)]), (w1.heap.size, #[.int .u64 (hi p : Nat), .int .u64 (lo p : Nat)]), ((w.heap.size + 1 + 1), #[.int .i64 0, .int .i64 0]), ((w.heap.size + 1), #[.int .u64 (hi d : Nat), .int .u64 (lo d : Nat)]), (w.heap.size, #[.bool true, .int .u64 (hi n : Nat), .int .u64 (lo n : Nat)])])) w' := fun w' h => ⟨h.cell 4 rfl rfl, h.cell 4 rfl rfl, h.cell 4 rfl rfl, h.cell 1 rfl rfl, h.cell 1 rfl rfl, Lib.hid h⟩
  have hok : OwnOk (fun w' => w'.cell? ⟨w.heap.size, 0, none⟩ = some (.bool true) ∧ w'.cell? ⟨w.heap.size, 1, none⟩ = some (.int .u64 (hi n : Nat)) ∧ w'.cell? ⟨w.heap.size, 2, none⟩ = some (.int .u64 (lo n : Nat)) ∧ w'.cell? ⟨w1.heap.size, 0, none⟩ = some (.int .u64 (hi p : Nat)) ∧ w'.cell? ⟨w1.heap.size, 1, none⟩ = some (.int .u64 (lo p : Nat)) ∧ Hid (Mem w w' [((w1.heap.size + 1), #[.int .u64 (hi q : Nat), .int .u64 (lo q : Nat)]), (w1.heap.size, #[.int .u64 (hi p : Nat), .int .u64 (lo p : Nat)]), ((w.heap.size + 1 + 1), #[.int .i64 0, .int .i64 0]), ((w.heap.size + 1), #[.int .u64 (hi d : Nat), .int .u64 (lo d : Nat)]), (w.heap.size, #[.bool true, .int .u64 (hi n : Nat), .int .u64 (lo n : Nat)])])) W2x.heap.size [] := own0_ok (fun v1 v2 h hb => mk _ (h.2.2.2.2.2.out.step hb hm.lts hm.low.size))
  have hfit : ∀ i, (∀ e ∈ ([] : List Ent), e.x ≠ i ∧ e.s ≠ i) → Fit (fun w' => w'.cell? ⟨w.heap.size, 0, none⟩ = some (.bool true) ∧ w'.cell? ⟨w.heap.size, 1, none⟩ = some (.int .u64 (hi n : Nat)) ∧ w'.cell? ⟨w.heap.size, 2, none⟩ = some (.int .u64 (lo n : Nat)) ∧ w'.cell? ⟨w1.heap.size, 0, none⟩ = some (.int .u64 (hi p : Nat)) ∧ w'.cell? ⟨w1.heap.size, 1, none⟩ = some (.int .u64 (lo p : Nat)) ∧ Hid (Mem w w' [((w1.heap.size + 1), #[.int .u64 (hi q : Nat), .int .u64 (lo q : Nat)]), (w1.heap.size, #[.int .u64 (hi p : Nat), .int .u64 (lo p : Nat)]), ((w.heap.size + 1 + 1), #[.int .i64 0, .int .i64 0]), ((w.heap.size + 1), #[.int .u64 (hi d : Nat), .int .u64 (lo d : Nat)]), (w.heap.size, #[.bool true, .int .u64 (hi n : Nat), .int .u64 (lo n : Nat)])])) (Sof (fun w' => w'.cell? ⟨w.heap.size, 0, none⟩ = some (.bool true) ∧ w'.cell? ⟨w.heap.size, 1, none⟩ = some (.int .u64 (hi n : Nat)) ∧ w'.cell? ⟨w.heap.size, 2, none⟩ = some (.int .u64 (lo n : Nat)) ∧ w'.cell? ⟨w1.heap.size, 0, none⟩ = some (.int .u64 (hi p : Nat)) ∧ w'.cell? ⟨w1.heap.size, 1, none⟩ = some (.int .u64 (lo p : Nat)) ∧ Hid (Mem w w' [((w1.heap.size + 1), #[.int .u64 (hi q : Nat), .int .u64 (lo q : Nat)]), (w1.heap.size, #[.int .u64 (hi p : Nat), .int .u64 (lo p : Nat)]), ((w.heap.size + 1 + 1), #[.int .i64 0, .int .i64 0]), ((w.heap.size + 1), #[.int .u64 (hi d : Nat), .int .u64 (lo d : Nat)]), (w.heap.size, #[.bool true, .int .u64 (hi n : Nat), .int .u64 (lo n : Nat)])])) W2x.heap.size []) i := fun i hi => sof_fit hok.st hok.loc hi
  have HOK := Lib.hid hok; have HF := Lib.hid hfit; clear hok hfit
  refine wp_region_ab (S0 := (fun w' => w'.cell? ⟨w.heap.size, 0, none⟩ = some (.bool true) ∧ w'.cell? ⟨w.heap.size, 1, none⟩ = some (.int .u64 (hi n : Nat)) ∧ w'.cell? ⟨w.heap.size, 2, none⟩ = some (.int .u64 (lo n : Nat)) ∧ w'.cell? ⟨w1.heap.size, 0, none⟩ = some (.int .u64 (hi p : Nat)) ∧ w'.cell? ⟨w1.heap.size, 1, none⟩ = some (.int .u64 (lo p : Nat)) ∧ Hid (Mem w w' [((w1.heap.size + 1), #[.int .u64 (hi q : Nat), .int .u64 (lo q : Nat)]), (w1.heap.size, #[.int .u64 (hi p : Nat), .int .u64 (lo p : Nat)]), ((w.heap.size + 1 + 1), #[.int .i64 0, .int .i64 0]), ((w.heap.size + 1), #[.int .u64 (hi d : Nat), .int .u64 (lo d : Nat)]), (w.heap.size, #[.bool true, .int .u64 (hi n : Nat), .int .u64 (lo n : Nat)])]))) W2x.heap.size [] (by kernel_rfl) (mk _ hm.drew) (Nat.le_refl _) (by simp) ?_
  have HMK := Lib.hid mk
  clear hm mk
  refine abTake 0 (some 20) (v := ?_) rfl rfl (by kernel_rfl) (by kernel_rfl) (by kernel_rfl) (fun _ _ _ h => h) (HF.out _ (by simp)) (by rfl) ?_ ?_
  rotate_left 1
  · (intro w hSw; (try dsimp only at hSw); go_simp; try with_reducible rfl)
  simp only [Act.put, List.setIfInBounds_toArray, List.set_cons_zero, List.set_cons_succ]
  refine abTake 1 (some 21) (v := ?_) rfl rfl (by kernel_rfl) (by kernel_rfl) (by kernel_rfl) (fun _ _ _ h => h) (HF.out _ (by simp)) (by rfl) ?_ ?_
  rotate_left 1
  · (intro w hSw; (try dsimp only at hSw); go_simp; try with_reducible rfl)
  simp only [Act.put, List.setIfInBounds_toArray, List.set_cons_zero, List.set_cons_succ]
  refine abTake 2 (some 22) (v := ?_) rfl rfl (by kernel_rfl) (by kernel_rfl) (by kernel_rfl) (fun _ _ _ h => h) (HF.out _ (by simp)) (by rfl) ?_ ?_
  rotate_left 1
  · (intro w hSw; (try dsimp only at hSw); go_simp; try with_reducible rfl)
  simp only [Act.put, List.setIfInBounds_toArray, List.set_cons_zero, List.set_cons_succ]
  refine abTake 3 (some 23) (v := ?_) rfl rfl (by kernel_rfl) (by kernel_rfl) (by kernel_rfl) (fun _ _ _ h => h) (HF.out _ (by simp)) (by rfl) ?_ ?_
  rotate_left 1
  · (intro w hSw; (try dsimp only at hSw); go_simp; try with_reducible rfl)
  simp only [Act.put, List.setIfInBounds_toArray, List.set_cons_zero, List.set_cons_succ]
  refine abTake 4 (some 24) (v := ?_) rfl rfl (by kernel_rfl) (by kernel_rfl) (by kernel_rfl) (fun _ _ _ h => h) (HF.out _ (by simp)) (by rfl) ?_ ?_
  rotate_left 1
  · (intro w hSw; (try dsimp only at hSw); go_simp; try with_reducible rfl)
  simp only [Act.put, List.setIfInBounds_toArray, List.set_cons_zero, List.set_cons_succ]
  refine abTake 5 (some 25) (v := ?_) rfl rfl (by kernel_rfl) (by kernel_rfl) (by kernel_rfl) (fun _ _ _ h => h) (HF.out _ (by simp)) (by rfl) ?_ ?_
  rotate_left 1
  · (intro w hSw; (try dsimp only at hSw); go_simp; try with_reducible rfl)
  simp only [Act.put, List.setIfInBounds_toArray, List.set_cons_zero, List.set_cons_succ]
  refine abTake 6 (some 26) (v := ?_) rfl rfl (by kernel_rfl) (by kernel_rfl) (by kernel_rfl) (fun _ _ _ h => h) (HF.out _ (by simp)) (by rfl) ?_ ?_
  rotate_left 1
  · (intro w hSw; (try dsimp only at hSw); go_simp; try with_reducible rfl)
  simp only [Act.put, List.setIfInBounds_toArray, List.set_cons_zero, List.set_cons_succ]
  refine abTake 7 (some 27) (v := ?_) rfl rfl (by kernel_rfl) (by kernel_rfl) (by kernel_rfl) (fun _ _ _ h => h) (HF.out _ (by simp)) (by rfl) ?_ ?_
  rotate_left 1
  · (intro w hSw; (try dsimp only at hSw); go_simp; try with_reducible rfl)
  simp only [Act.put, List.setIfInBounds_toArray, List.set_cons_zero, List.set_cons_succ]
  refine abTake 8 (some 28) (v := ?_) rfl rfl (by kernel_rfl) (by kernel_rfl) (by kernel_rfl) (fun _ _ _ h => h) (HF.out _ (by simp)) (by rfl) ?_ ?_
  rotate_left 1
  · (intro w hSw; (try dsimp only at hSw); go_simp; try with_reducible rfl)
  simp only [Act.put, List.setIfInBounds_toArray, List.set_cons_zero, List.set_cons_succ]
  refine abCall 9 (some 29) rfl rfl (by kernel_rfl) (by kernel_rfl) (by kernel_rfl) (fun _ _ _ h => h) (HF.out _ (by simp)) (by rfl) ?_ (fun w hSw => M2.out _) ?_
  · (intro w hSw; (try dsimp only at hSw); go_simp; try with_reducible rfl)
  simp only [Act.put, List.setIfInBounds_toArray, List.set_cons_zero, List.set_cons_succ]
  refine abTake 10 (some 19) (v := ?_) rfl rfl (by kernel_rfl) (by kernel_rfl) (by kernel_rfl) (fun _ _ _ h => h) (HF.out _ (by simp)) (by rfl) ?_ ?_
  rotate_left 1
  · (intro w hSw; (try dsimp only at hSw); go_simp; try with_reducible rfl)
  simp only [Act.put, List.setIfInBounds_toArray, List.set_cons_zero, List.set_cons_succ]
  refine abTake 11 (some 30) (v := ?_) rfl rfl (by kernel_rfl) (by kernel_rfl) (by kernel_rfl) (fun _ _ _ h => h) (HF.out _ (by simp)) (by rfl) ?_ ?_
  rotate_left 1
  · (intro w hSw; (try dsimp only at hSw); go_simp; try with_reducible rfl)
  simp only [Act.put, List.setIfInBounds_toArray, List.set_cons_zero, List.set_cons_succ]
  refine abTake 12 (some 31) (v := ?_) rfl rfl (by kernel_rfl) (by kernel_rfl) (by kernel_rfl) (fun _ _ _ h => h) (HF.out _ (by simp)) (by rfl) ?_ ?_
  rotate_left 1
  · (intro w hSw; (try dsimp only at hSw); go_simp; try with_reducible rfl)
  simp only [Act.put, List.setIfInBounds_toArray, List.set_cons_zero, List.set_cons_succ]
  refine abTake 13 (some 8) (v := ?_) rfl rfl (by kernel_rfl) (by kernel_rfl) (by kernel_rfl) (fun _ _ _ h => h) (HF.out _ (by simp)) (by rfl) ?_ ?_
  rotate_left 1
  · (intro w hSw; (try dsimp only at hSw); go_simp; try with_reducible rfl)
  simp only [Act.put, List.setIfInBounds_toArray, List.set_cons_zero, List.set_cons_succ]
  refine abTake 14 (some 9) (v := ?_) rfl rfl (by kernel_rfl) (by kernel_rfl) (by kernel_rfl) (fun _ _ _ h => h) (HF.out _ (by simp)) (by rfl) ?_ ?_
  rotate_left 1
  · (intro w hSw; (try dsimp only at hSw); go_simp; try with_reducible rfl)
  simp only [Act.put, List.setIfInBounds_toArray, List.set_cons_zero, List.set_cons_succ]
  refine abDone (by kernel_rfl) ?_ _
  rintro w2 hS
  have HMw2 := Lib.hid (hS.1.2.2.2.2.2.out)
  clear hS HOK HF HMK
  have ly : (w1.heap.size + 1) < w2.heap.size := HMw2.out.lt 0 rfl
  have cy0 : w2.cell? ⟨(w1.heap.size + 1), 0, none⟩ = some (.int .u64 (hi q : Nat)) := HMw2.out.cell 0 rfl rfl
  have cy1 : w2.cell? ⟨(w1.heap.size + 1), 1, none⟩ = some (.int .u64 (lo q : Nat)) := HMw2.out.cell 0 rfl rfl
  go_wp2_with fail
  refine (M3.out _).mono ?_
  rintro e w3 ⟨rfl, hb⟩
  have HMw3 := Lib.hid (HMw2.out.call hb)
  clear hb ly cy0 cy1 HMw2
  have lr : (w.heap.size + 1 + 1) < w3.heap.size := HMw3.out.lt 2 rfl
  have cr0 : w3.cell? ⟨(w.heap.size + 1 + 1), 0, none⟩ = some (.int .i64 0) := HMw3.out.cell 2 rfl rfl
  have fr0 : w3.frozen? ⟨(w.heap.size + 1 + 1), 0, none⟩ = false := HMw3.out.free 2 rfl 0
  have cr1 : w3.cell? ⟨(w.heap.size + 1 + 1), 1, none⟩ = some (.int .i64 0) := HMw3.out.cell 2 rfl rfl
  have fr1 : w3.frozen? ⟨(w.heap.size + 1 + 1), 1, none⟩ = false := HMw3.out.free 2 rfl 1
  go_wp2_with fail
  exact bodyPost_ret (v := .tuple #[.agg #[.int .i64 0, .int .i64 0], .int .i64 5]) (by simp [results, Try.results30, go_sem, cr0, cr1]) rfl ⟨rfl, (((HMw3.out.set 2 0 (.int .i64 0) rfl).set 2 1 (.int .i64 0) rfl).to (l' := [((w1.heap.size + 1), #[.int .u64 (hi q : Nat), .int .u64 (lo q : Nat)]), (w1.heap.size, #[.int .u64 (hi p : Nat), .int .u64 (lo p : Nat)]), ((w.heap.size + 1 + 1), #[.int .i64 0, .int .i64 0]), ((w.heap.size + 1), #[.int .u64 (hi d : Nat), .int .u64 (lo d : Nat)]), (w.heap.size, #[.bool true, .int .u64 (hi n : Nat), .int .u64 (lo n : Nat)])]) rfl).low⟩
theorem rqlow_true_den (n d p q : Nat) (D : Bool) (x y : Int) (w : World) (hE : ∀ w, (Op.equalIn 10000 48 (.agg #[.int .u64 (hi p : Nat), .int .u64 (lo p : Nat)]) (.agg #[.int .u64 0, .int .u64 0])).run Try.prog w = .ok D w)
    (m1 : ∀ w, Calls Try.prog 51 #[.agg #[.int .u64 (hi n : Nat), .int .u64 (lo n : Nat)], .agg #[.int .u64 (hi d : Nat), .int .u64 (lo d : Nat)]] w fun en w' => en = .returned (.tuple #[.agg #[.int .u64 (hi p : Nat), .int .u64 (lo p : Nat)], .agg #[.int .u64 (hi q : Nat), .int .u64 (lo q : Nat)]]) ∧ Below w.heap.size w w')
    (m2 : ∀ w, Calls Try.prog 52 #[.agg #[.bool (!D), .int .u64 (hi p : Nat), .int .u64 (lo p : Nat)]] w fun en w' => en = .returned (.tuple #[.int .i64 x, .bool true]) ∧ Below w.heap.size w w')
    (m3 : ∀ w, Calls Try.prog 52 #[.agg #[.bool false, .int .u64 (hi q : Nat), .int .u64 (lo q : Nat)]] w fun en w' => en = .returned (.tuple #[.int .i64 y, .bool false]) ∧ Below w.heap.size w w') :
    Calls Try.prog 30 #[.agg #[.bool true, .int .u64 (hi n : Nat), .int .u64 (lo n : Nat)], .agg #[.int .u64 (hi d : Nat), .int .u64 (lo d : Nat)]] w fun en w' => en = .returned (.tuple #[.agg #[.int .i64 0, .int .i64 0], .int .i64 5]) ∧ Below w.heap.size w w' := by
  have M1 := Lib.hid m1; have M2 := Lib.hid m2; have M3 := Lib.hid m3
  clear m1 m2 m3
  go_enter Try.func30, Try.ntmps30
  go_wp2_with fail
  refine (M1.out _).mono ?_
  rintro e w1 ⟨rfl, hb⟩
  have HMw1 := Lib.hid (((((Mem.start w).new w.heap.size _ _ rfl).new (w.heap.size + 1) _ _ (by simp)).new (w.heap.size + 1 + 1) _ _ (by simp)).call hb)
  clear hb
  go_upto_region 2 with fail
  obtain ⟨W2x, hW2x⟩ : ∃ W2x, ((w1.alloc (.cells #[.int .u64 (hi p : Nat), .int .u64 (lo p : Nat)] 48)).alloc (.cells #[.int .u64 (hi q : Nat), .int .u64 (lo q : Nat)] 48)) = W2x := ⟨_, rfl⟩
  have hm : Mem w W2x [((w1.heap.size + 1), #[.int .u64 (hi q : Nat), .int .u64 (lo q : Nat)]), (w1.heap.size, #[.int .u64 (hi p : Nat), .int .u64 (lo p : Nat)]), ((w.heap.size + 1 + 1), #[.int .i64 0, .int .i64 0]), ((w.heap.size + 1), #[.int .u64 (hi d : Nat), .int .u64 (lo d : Nat)]), (w.heap.size, #[.bool true, .int .u64 (hi n : Nat), .int .u64 (lo n : Nat)])] := by rw [← hW2x]; exact ((HMw1.out.new w1.heap.size _ _ rfl).new (w1.heap.size + 1) _ _ (by simp))
  rw [hW2x]
  clear hW2x HMw1
  have mk : ∀ w', Mem w w' [((w1.heap.size + 1), #[.int .u64 (hi q : Nat), .int .u64 (lo q : Nat)]), (w1.heap.size, #[.int .u64 (hi p : Nat), .int .u64 (lo p : Nat)]), ((w.heap.size + 1 + 1), #[.int .i64 0, .int .i64 0]), ((w.heap.size + 1), #[.int .u64 (hi d : Nat), .int .u64 (lo d : Nat)]), (w.heap.size, #[.bool true, .int .u64 (hi n : Nat), .int .u64 (lo n : Nat)])] → (fun w' => w'.cell? ⟨w.heap.size, 0, none⟩ = some (.bool true) ∧ w'.cell? ⟨w.heap.size, 1, none⟩ = some (.int .u64 (hi n : Nat)) ∧ w'.cell? ⟨w.heap.size, 2, none⟩ = some (.int .u64 (lo n : Nat)) ∧ w'.cell? ⟨w1.heap.size, 0, none⟩ = some (.int .u64 (hi p : Nat)) ∧ w'.cell? ⟨w1.heap.size, 1, none⟩ = some (.int .u64 (lo p : Nat)) ∧ Hid (Mem w w' [((w1.heap.size + 1), #[.int .u64 (hi q : Nat), .int .u64 (lo q : Nat)]), (w1.heap.size, #[.int .u64 (hi p : Nat), .int .u64 (lo p : Nat)]), ((w.heap.size + 1 + 1), #[.int .i64 0, .int .i64 0]), ((w.heap.size + 1), #[.int .u64 (hi d : Nat), .int .u64 (lo d : Nat)]), (w.heap.size, #[.bool true, .int .u64 (hi n : Nat), .int .u64 (lo n : Nat)])])) w' := fun w' h => ⟨h.cell 4 rfl rfl, h.cell 4 rfl rfl, h.cell 4 rfl rfl, h.cell 1 rfl rfl, h.cell 1 rfl rfl, Lib.hid h⟩
  have hok : OwnOk (fun w' => w'.cell? ⟨w.heap.size, 0, none⟩ = some (.bool true) ∧ w'.cell? ⟨w.heap.size, 1, none⟩ = some (.int .u64 (hi n : Nat)) ∧ w'.cell? ⟨w.heap.size, 2, none⟩ = some (.int .u64 (lo n : Nat)) ∧ w'.cell? ⟨w1.heap.size, 0, none⟩ = some (.int .u64 (hi p : Nat)) ∧ w'.cell? ⟨w1.heap.size, 1, none⟩ = some (.int .u64 (lo p : Nat)) ∧ Hid (Mem w w' [((w1.heap.size + 1), #[.int .u64 (hi q : Nat), .int .u64 (lo q : Nat)]), (w1.heap.size, #[.int .u64 (hi p : Nat), .int .u64 (lo p : Nat)]), ((w.heap.size + 1 + 1), #[.int .i64 0, .int .i64 0]), ((w.heap.size + 1), #[.int .u64 (hi d : Nat), .int .u64 (lo d : Nat)]), (w.heap.size, #[.bool true, .int .u64 (hi n : Nat), .int .u64 (lo n : Nat)])])) W2x.heap.size [] := own0_ok (fun v1 v2 h hb => mk _ (h.2.2.2.2.2.out.step hb hm.lts hm.low.size))
  have hfit : ∀ i, (∀ e ∈ ([] : List Ent), e.x ≠ i ∧ e.s ≠ i) → Fit (fun w' => w'.cell? ⟨w.heap.size, 0, none⟩ = some (.bool true) ∧ w'.cell? ⟨w.heap.size, 1, none⟩ = some (.int .u64 (hi n : Nat)) ∧ w'.cell? ⟨w.heap.size, 2, none⟩ = some (.int .u64 (lo n : Nat)) ∧ w'.cell? ⟨w1.heap.size, 0, none⟩ = some (.int .u64 (hi p : Nat)) ∧ w'.cell? ⟨w1.heap.size, 1, none⟩ = some (.int .u64 (lo p : Nat)) ∧ Hid (Mem w w' [((w1.heap.size + 1), #[.int .u64 (hi q : Nat), .int .u64 (lo q : Nat)]), (w1.heap.size, #[.int .u64 (hi p : Nat), .int .u64 (lo p : Nat)]), ((w.heap.size + 1 + 1), #[.int .i64 0, .int .i64 0]), ((w.heap.size + 1), #[.int .u64 (hi d : Nat), .int .u64 (lo d : Nat)]), (w.heap.size, #[.bool true, .int .u64 (hi n : Nat), .int .u64 (lo n : Nat)])])) (Sof (fun w' => w'.cell? ⟨w.heap.size, 0, none⟩ = some (.bool true) ∧ w'.cell? ⟨w.heap.size, 1, none⟩ = some (.int .u64 (hi n : Nat)) ∧ w'.cell? ⟨w.heap.size, 2, none⟩ = some (.int .u64 (lo n : Nat)) ∧ w'.cell? ⟨w1.heap.size, 0, none⟩ = some (.int .u64 (hi p : Nat)) ∧ w'.cell? ⟨w1.heap.size, 1, none⟩ = some (.int .u64 (lo p : Nat)) ∧ Hid (Mem w w' [((w1.heap.size + 1), #[.int .u64 (hi q : Nat), .int .u64 (lo q : Nat)]), (w1.heap.size, #[.int .u64 (hi p : Nat), .int .u64 (lo p : Nat)]), ((w.heap.size + 1 + 1), #[.int .i64 0, .int .i64 0]), ((w.heap.size + 1), #[.int .u64 (hi d : Nat), .int .u64 (lo d : Nat)]), (w.heap.size, #[.bool true, .int .u64 (hi n : Nat), .int .u64 (lo n : Nat)])])) W2x.heap.size []) i := fun i hi => sof_fit hok.st hok.loc hi
  have HOK := Lib.hid hok; have HF := Lib.hid hfit; clear hok hfit
  refine wp_region_ab (S0 := (fun w' => w'.cell? ⟨w.heap.size, 0, none⟩ = some (.bool true) ∧ w'.cell? ⟨w.heap.size, 1, none⟩ = some (.int .u64 (hi n : Nat)) ∧ w'.cell? ⟨w.heap.size, 2, none⟩ = some (.int .u64 (lo n : Nat)) ∧ w'.cell? ⟨w1.heap.size, 0, none⟩ = some (.int .u64 (hi p : Nat)) ∧ w'.cell? ⟨w1.heap.size, 1, none⟩ = some (.int .u64 (lo p : Nat)) ∧ Hid (Mem w w' [((w1.heap.size + 1), #[.int .u64 (hi q : Nat), .int .u64 (lo q : Nat)]), (w1.heap.size, #[.int .u64 (hi p : Nat), .int .u64 (lo p : Nat)]), ((w.heap.size + 1 + 1), #[.int .i64 0, .int .i64 0]), ((w.heap.size + 1), #[.int .u64 (hi d : Nat), .int .u64 (lo d : Nat)]), (w.heap.size, #[.bool true, .int .u64 (hi n : Nat), .int .u64 (lo n : Nat)])]))) W2x.heap.size [] (by kernel_rfl) (mk _ hm.drew) (Nat.le_refl _) (by simp) ?_
  have HMK := Lib.hid mk
  clear hm mk
  refine abTake 0 (some 20) (v := ?_) rfl rfl (by kernel_rfl) (by kernel_rfl) (by kernel_rfl) (fun _ _ _ h => h) (HF.out _ (by simp)) (by rfl) ?_ ?_
  rotate_left 1
  · (intro w hSw; (try dsimp only at hSw); go_simp; try with_reducible rfl)
  simp only [Act.put, List.setIfInBounds_toArray, List.set_cons_zero, List.set_cons_succ]
  refine abTake 1 (some 21) (v := ?_) rfl rfl (by kernel_rfl) (by kernel_rfl) (by kernel_rfl) (fun _ _ _ h => h) (HF.out _ (by simp)) (by rfl) ?_ ?_
  rotate_left 1
  · (intro w hSw; (try dsimp only at hSw); go_simp; try with_reducible rfl)
  simp only [Act.put, List.setIfInBounds_toArray, List.set_cons_zero, List.set_cons_succ]
  refine abTake 2 (some 22) (v := ?_) rfl rfl (by kernel_rfl) (by kernel_rfl) (by kernel_rfl) (fun _ _ _ h => h) (HF.out _ (by simp)) (by rfl) ?_ ?_
  rotate_left 1
  · (intro w hSw; (try dsimp only at hSw); go_simp; try with_reducible rfl)
  simp only [Act.put, List.setIfInBounds_toArray, List.set_cons_zero, List.set_cons_succ]
  refine abTake 3 (some 23) (v := ?_) rfl rfl (by kernel_rfl) (by kernel_rfl) (by kernel_rfl) (fun _ _ _ h => h) (HF.out _ (by simp)) (by rfl) ?_ ?_
  rotate_left 1
  · (intro w hSw; (try dsimp only at hSw); go_simp; try with_reducible rfl)
  simp only [Act.put, List.setIfInBounds_toArray, List.set_cons_zero, List.set_cons_succ]
  refine abTake 4 (some 24) (v := ?_) rfl rfl (by kernel_rfl) (by kernel_rfl) (by kernel_rfl) (fun _ _ _ h => h) (HF.out _ (by simp)) (by rfl) ?_ ?_
  rotate_left 1
  · (intro w hSw; (try dsimp only at hSw); go_simp; try with_reducible rfl)
  simp only [Act.put, List.setIfInBounds_toArray, List.set_cons_zero, List.set_cons_succ]
  refine abTake 5 (some 25) (v := ?_) rfl rfl (by kernel_rfl) (by kernel_rfl) (by kernel_rfl) (fun _ _ _ h => h) (HF.out _ (by simp)) (by rfl) ?_ ?_
  rotate_left 1
  · (intro w hSw; (try dsimp only at hSw); go_simp; try with_reducible rfl)
  simp only [Act.put, List.setIfInBounds_toArray, List.set_cons_zero, List.set_cons_succ]
  refine abTake 6 (some 26) (v := ?_) rfl rfl (by kernel_rfl) (by kernel_rfl) (by kernel_rfl) (fun _ _ _ h => h) (HF.out _ (by simp)) (by rfl) ?_ ?_
  rotate_left 1
  · (intro w hSw; (try dsimp only at hSw); go_simp; try with_reducible rfl)
  simp only [Act.put, List.setIfInBounds_toArray, List.set_cons_zero, List.set_cons_succ]
  refine abTake 7 (some 27) (v := ?_) rfl rfl (by kernel_rfl) (by kernel_rfl) (by kernel_rfl) (fun _ _ _ h => h) (HF.out _ (by simp)) (by rfl) ?_ ?_
  rotate_left 1
  · (intro w hSw; (try dsimp only at hSw); go_simp; try with_reducible rfl)
  simp only [Act.put, List.setIfInBounds_toArray, List.set_cons_zero, List.set_cons_succ]
  refine abTake 8 (some 28) (v := ?_) rfl rfl (by kernel_rfl) (by kernel_rfl) (by kernel_rfl) (fun _ _ _ h => h) (HF.out _ (by simp)) (by rfl) ?_ ?_
  rotate_left 1
  · (intro w hSw; (try dsimp only at hSw); go_simp; try with_reducible rfl)
  simp only [Act.put, List.setIfInBounds_toArray, List.set_cons_zero, List.set_cons_succ]
  refine abCall 9 (some 29) rfl rfl (by kernel_rfl) (by kernel_rfl) (by kernel_rfl) (fun _ _ _ h => h) (HF.out _ (by simp)) (by rfl) ?_ (fun w hSw => M2.out _) ?_
  · (intro w hSw; (try dsimp only at hSw); go_simp; try with_reducible rfl)
  simp only [Act.put, List.setIfInBounds_toArray, List.set_cons_zero, List.set_cons_succ]
  refine abTake 10 (some 19) (v := ?_) rfl rfl (by kernel_rfl) (by kernel_rfl) (by kernel_rfl) (fun _ _ _ h => h) (HF.out _ (by simp)) (by rfl) ?_ ?_
  rotate_left 1
  · (intro w hSw; (try dsimp only at hSw); go_simp; try with_reducible rfl)
  simp only [Act.put, List.setIfInBounds_toArray, List.set_cons_zero, List.set_cons_succ]
  refine abTake 11 (some 30) (v := ?_) rfl rfl (by kernel_rfl) (by kernel_rfl) (by kernel_rfl) (fun _ _ _ h => h) (HF.out _ (by simp)) (by rfl) ?_ ?_
  rotate_left 1
  · (intro w hSw; (try dsimp only at hSw); go_simp; try with_reducible rfl)
  simp only [Act.put, List.setIfInBounds_toArray, List.set_cons_zero, List.set_cons_succ]
  refine abTake 12 (some 31) (v := ?_) rfl rfl (by kernel_rfl) (by kernel_rfl) (by kernel_rfl) (fun _ _ _ h => h) (HF.out _ (by simp)) (by rfl) ?_ ?_
  rotate_left 1
  · (intro w hSw; (try dsimp only at hSw); go_simp; try with_reducible rfl)
  simp only [Act.put, List.setIfInBounds_toArray, List.set_cons_zero, List.set_cons_succ]
  refine abTake 13 (some 8) (v := ?_) rfl rfl (by kernel_rfl) (by kernel_rfl) (by kernel_rfl) (fun _ _ _ h => h) (HF.out _ (by simp)) (by rfl) ?_ ?_
  rotate_left 1
  · (intro w hSw; (try dsimp only at hSw); go_simp; try with_reducible rfl)
  simp only [Act.put, List.setIfInBounds_toArray, List.set_cons_zero, List.set_cons_succ]
  refine abTake 14 (some 9) (v := ?_) rfl rfl (by kernel_rfl) (by kernel_rfl) (by kernel_rfl) (fun _ _ _ h => h) (HF.out _ (by simp)) (by rfl) ?_ ?_
  rotate_left 1
  · (intro w hSw; (try dsimp only at hSw); go_simp; try with_reducible rfl)
  simp only [Act.put, List.setIfInBounds_toArray, List.set_cons_zero, List.set_cons_succ]
  refine abDone (by kernel_rfl) ?_ _
  rintro w2 hS
  have HMw2 := Lib.hid (hS.1.2.2.2.2.2.out)
  clear hS HOK HF HMK
  have ly : (w1.heap.size + 1) < w2.heap.size := HMw2.out.lt 0 rfl
  have cy0 : w2.cell? ⟨(w1.heap.size + 1), 0, none⟩ = some (.int .u64 (hi q : Nat)) := HMw2.out.cell 0 rfl rfl
  have cy1 : w2.cell? ⟨(w1.heap.size + 1), 1, none⟩ = some (.int .u64 (lo q : Nat)) := HMw2.out.cell 0 rfl rfl
  go_wp2_with fail
  refine (M3.out _).mono ?_
  rintro e w3 ⟨rfl, hb⟩
  have HMw3 := Lib.hid (HMw2.out.call hb)
  clear hb ly cy0 cy1 HMw2
  have lr : (w.heap.size + 1 + 1) < w3.heap.size := HMw3.out.lt 2 rfl
  have cr0 : w3.cell? ⟨(w.heap.size + 1 + 1), 0, none⟩ = some (.int .i64 0) := HMw3.out.cell 2 rfl rfl
  have fr0 : w3.frozen? ⟨(w.heap.size + 1 + 1), 0, none⟩ = false := HMw3.out.free 2 rfl 0
  have cr1 : w3.cell? ⟨(w.heap.size + 1 + 1), 1, none⟩ = some (.int .i64 0) := HMw3.out.cell 2 rfl rfl
  have fr1 : w3.frozen? ⟨(w.heap.size + 1 + 1), 1, none⟩ = false := HMw3.out.free 2 rfl 1
  go_wp2_with fail
  exact bodyPost_ret (v := .tuple #[.agg #[.int .i64 0, .int .i64 0], .int .i64 5]) (by simp [results, Try.results30, go_sem, cr0, cr1]) rfl ⟨rfl, (((HMw3.out.set 2 0 (.int .i64 0) rfl).set 2 1 (.int .i64 0) rfl).to (l' := [((w1.heap.size + 1), #[.int .u64 (hi q : Nat), .int .u64 (lo q : Nat)]), (w1.heap.size, #[.int .u64 (hi p : Nat), .int .u64 (lo p : Nat)]), ((w.heap.size + 1 + 1), #[.int .i64 0, .int .i64 0]), ((w.heap.size + 1), #[.int .u64 (hi d : Nat), .int .u64 (lo d : Nat)]), (w.heap.size, #[.bool true, .int .u64 (hi n : Nat), .int .u64 (lo n : Nat)])]) rfl).low⟩
theorem rqlow_true_ok (n d p q : Nat) (D : Bool) (x y : Int) (w : World) (hE : ∀ w, (Op.equalIn 10000 48 (.agg #[.int .u64 (hi p : Nat), .int .u64 (lo p : Nat)]) (.agg #[.int .u64 0, .int .u64 0])).run Try.prog w = .ok D w)
    (m1 : ∀ w, Calls Try.prog 51 #[.agg #[.int .u64 (hi n : Nat), .int .u64 (lo n : Nat)], .agg #[.int .u64 (hi d : Nat), .int .u64 (lo d : Nat)]] w fun en w' => en = .returned (.tuple #[.agg #[.int .u64 (hi p : Nat), .int .u64 (lo p : Nat)], .agg #[.int .u64 (hi q : Nat), .int .u64 (lo q : Nat)]]) ∧ Below w.heap.size w w')
    (m2 : ∀ w, Calls Try.prog 52 #[.agg #[.bool (!D), .int .u64 (hi p : Nat), .int .u64 (lo p : Nat)]] w fun en w' => en = .returned (.tuple #[.int .i64 x, .bool true]) ∧ Below w.heap.size w w')
    (m3 : ∀ w, Calls Try.prog 52 #[.agg #[.bool false, .int .u64 (hi q : Nat), .int .u64 (lo q : Nat)]] w fun en w' => en = .returned (.tuple #[.int .i64 y, .bool true]) ∧ Below w.heap.size w w') :
    Calls Try.prog 30 #[.agg #[.bool true, .int .u64 (hi n : Nat), .int .u64 (lo n : Nat)], .agg #[.int .u64 (hi d : Nat), .int .u64 (lo d : Nat)]] w fun en w' => en = .returned (.tuple #[.agg #[.int .i64 x, .int .i64 y], .int .i64 0]) ∧ Below w.heap.size w w' := by
  have M1 := Lib.hid m1; have M2 := Lib.hid m2; have M3 := Lib.hid m3
  clear m1 m2 m3
  go_enter Try.func30, Try.ntmps30
  go_wp2_with fail
  refine (M1.out _).mono ?_
  rintro e w1 ⟨rfl, hb⟩
  have HMw1 := Lib.hid (((((Mem.start w).new w.heap.size _ _ rfl).new (w.heap.size + 1) _ _ (by simp)).new (w.heap.size + 1 + 1) _ _ (by simp)).call hb)
  clear hb
  go_upto_region 2 with fail
  obtain ⟨W2x, hW2x⟩ : ∃ W2x, ((w1.alloc (.cells #[.int .u64 (hi p : Nat), .int .u64 (lo p : Nat)] 48)).alloc (.cells #[.int .u64 (hi q : Nat), .int .u64 (lo q : Nat)] 48)) = W2x := ⟨_, rfl⟩
  have hm : Mem w W2x [((w1.heap.size + 1), #[.int .u64 (hi q : Nat), .int .u64 (lo q : Nat)]), (w1.heap.size, #[.int .u64 (hi p : Nat), .int .u64 (lo p : Nat)]), ((w.heap.size + 1 + 1), #[.int .i64 0, .int .i64 0]), ((w.heap.size + 1), #[.int .u64 (hi d : Nat), .int .u64 (lo d : Nat)]), (w.heap.size, #[.bool true, .int .u64 (hi n : Nat), .int .u64 (lo n : Nat)])] := by rw [← hW2x]; exact ((HMw1.out.new w1.heap.size _ _ rfl).new (w1.heap.size + 1) _ _ (by simp))
  rw [hW2x]
  clear hW2x HMw1
  have mk : ∀ w', Mem w w' [((w1.heap.size + 1), #[.int .u64 (hi q : Nat), .int .u64 (lo q : Nat)]), (w1.heap.size, #[.int .u64 (hi p : Nat), .int .u64 (lo p : Nat)]), ((w.heap.size + 1 + 1), #[.int .i64 0, .int .i64 0]), ((w.heap.size + 1), #[.int .u64 (hi d : Nat), .int .u64 (lo d : Nat)]), (w.heap.size, #[.bool true, .int .u64 (hi n : Nat), .int .u64 (lo n : Nat)])] → (fun w' => w'.cell? ⟨w.heap.size, 0, none⟩ = some (.bool true) ∧ w'.cell? ⟨w.heap.size, 1, none⟩ = some (.int .u64 (hi n : Nat)) ∧ w'.cell? ⟨w.heap.size, 2, none⟩ = some (.int .u64 (lo n : Nat)) ∧ w'.cell? ⟨w1.heap.size, 0, none⟩ = some (.int .u64 (hi p : Nat)) ∧ w'.cell? ⟨w1.heap.size, 1, none⟩ = some (.int .u64 (lo p : Nat)) ∧ Hid (Mem w w' [((w1.heap.size + 1), #[.int .u64 (hi q : Nat), .int .u64 (lo q : Nat)]), (w1.heap.size, #[.int .u64 (hi p : Nat), .int .u64 (lo p : Nat)]), ((w.heap.size + 1 + 1), #[.int .i64 0, .int .i64 0]), ((w.heap.size + 1), #[.int .u64 (hi d : Nat), .int .u64 (lo d : Nat)]), (w.heap.size, #[.bool true, .int .u64 (hi n : Nat), .int .u64 (lo n : Nat)])])) w' := fun w' h => ⟨h.cell 4 rfl rfl, h.cell 4 rfl rfl, h.cell 4 rfl rfl, h.cell 1 rfl rfl, h.cell 1 rfl rfl, Lib.hid h⟩
  have hok : OwnOk (fun w' => w'.cell? ⟨w.heap.size, 0, none⟩ = some (.bool true) ∧ w'.cell? ⟨w.heap.size, 1, none⟩ = some (.int .u64 (hi n : Nat)) ∧ w'.cell? ⟨w.heap.size, 2, none⟩ = some (.int .u64 (lo n : Nat)) ∧ w'.cell? ⟨w1.heap.size, 0, none⟩ = some (.int .u64 (hi p : Nat)) ∧ w'.cell? ⟨w1.heap.size, 1, none⟩ = some (.int .u64 (lo p : Nat)) ∧ Hid (Mem w w' [((w1.heap.size + 1), #[.int .u64 (hi q : Nat), .int .u64 (lo q : Nat)]), (w1.heap.size, #[.int .u64 (hi p : Nat), .int .u64 (lo p : Nat)]), ((w.heap.size + 1 + 1), #[.int .i64 0, .int .i64 0]), ((w.heap.size + 1), #[.int .u64 (hi d : Nat), .int .u64 (lo d : Nat)]), (w.heap.size, #[.bool true, .int .u64 (hi n : Nat), .int .u64 (lo n : Nat)])])) W2x.heap.size [] := own0_ok (fun v1 v2 h hb => mk _ (h.2.2.2.2.2.out.step hb hm.lts hm.low.size))
  have hfit : ∀ i, (∀ e ∈ ([] : List Ent), e.x ≠ i ∧ e.s ≠ i) → Fit (fun w' => w'.cell? ⟨w.heap.size, 0, none⟩ = some (.bool true) ∧ w'.cell? ⟨w.heap.size, 1, none⟩ = some (.int .u64 (hi n : Nat)) ∧ w'.cell? ⟨w.heap.size, 2, none⟩ = some (.int .u64 (lo n : Nat)) ∧ w'.cell? ⟨w1.heap.size, 0, none⟩ = some (.int .u64 (hi p : Nat)) ∧ w'.cell? ⟨w1.heap.size, 1, none⟩ = some (.int .u64 (lo p : Nat)) ∧ Hid (Mem w w' [((w1.heap.size + 1), #[.int .u64 (hi q : Nat), .int .u64 (lo q : Nat)]), (w1.heap.size, #[.int .u64 (hi p : Nat), .int .u64 (lo p : Nat)]), ((w.heap.size + 1 + 1), #[.int .i64 0, .int .i64 0]), ((w.heap.size + 1), #[.int .u64 (hi d : Nat), .int .u64 (lo d : Nat)]), (w.heap.size, #[.bool true, .int .u64 (hi n : Nat), .int .u64 (lo n : Nat)])])) (Sof (fun w' => w'.cell? ⟨w.heap.size, 0, none⟩ = some (.bool true) ∧ w'.cell? ⟨w.heap.size, 1, none⟩ = some (.int .u64 (hi n : Nat)) ∧ w'.cell? ⟨w.heap.size, 2, none⟩ = some (.int .u64 (lo n : Nat)) ∧ w'.cell? ⟨w1.heap.size, 0, none⟩ = some (.int .u64 (hi p : Nat)) ∧ w'.cell? ⟨w1.heap.size, 1, none⟩ = some (.int .u64 (lo p : Nat)) ∧ Hid (Mem w w' [((w1.heap.size + 1), #[.int .u64 (hi q : Nat), .int .u64 (lo q : Nat)]), (w1.heap.size, #[.int .u64 (hi p : Nat), .int .u64 (lo p : Nat)]), ((w.heap.size + 1 + 1), #[.int .i64 0, .int .i64 0]), ((w.heap.size + 1), #[.int .u64 (hi d : Nat), .int .u64 (lo d : Nat)]), (w.heap.size, #[.bool true, .int .u64 (hi n : Nat), .int .u64 (lo n : Nat)])])) W2x.heap.size []) i := fun i hi => sof_fit hok.st hok.loc hi
  have HOK := Lib.hid hok; have HF := Lib.hid hfit; clear hok hfit
  refine wp_region_ab (S0 := (fun w' => w'.cell? ⟨w.heap.size, 0, none⟩ = some (.bool true) ∧ w'.cell? ⟨w.heap.size, 1, none⟩ = some (.int .u64 (hi n : Nat)) ∧ w'.cell? ⟨w.heap.size, 2, none⟩ = some (.int .u64 (lo n : Nat)) ∧ w'.cell? ⟨w1.heap.size, 0, none⟩ = some (.int .u64 (hi p : Nat)) ∧ w'.cell? ⟨w1.heap.size, 1, none⟩ = some (.int .u64 (lo p : Nat)) ∧ Hid (Mem w w' [((w1.heap.size + 1), #[.int .u64 (hi q : Nat), .int .u64 (lo q : Nat)]), (w1.heap.size, #[.int .u64 (hi p : Nat), .int .u64 (lo p : Nat)]), ((w.heap.size + 1 + 1), #[.int .i64 0, .int .i64 0]), ((w.heap.size + 1), #[.int .u64 (hi d : Nat), .int .u64 (lo d : Nat)]), (w.heap.size, #[.bool true, .int .u64 (hi n : Nat), .int .u64 (lo n : Nat)])]))) W2x.heap.size [] (by kernel_rfl) (mk _ hm.drew) (Nat.le_refl _) (by simp) ?_
  have HMK := Lib.hid mk
  clear hm mk
  refine abTake 0 (some 20) (v := ?_) rfl rfl (by kernel_rfl) (by kernel_rfl) (by kernel_rfl) (fun _ _ _ h => h) (HF.out _ (by simp)) (by rfl) ?_ ?_
  rotate_left 1
  · (intro w hSw; (try dsimp only at hSw); go_simp; try with_reducible rfl)
  simp only [Act.put, List.setIfInBounds_toArray, List.set_cons_zero, List.set_cons_succ]
  refine abTake 1 (some 21) (v := ?_) rfl rfl (by kernel_rfl) (by kernel_rfl) (by kernel_rfl) (fun _ _ _ h => h) (HF.out _ (by simp)) (by rfl) ?_ ?_
  rotate_left 1
  · (intro w hSw; (try dsimp only at hSw); go_simp; try with_reducible rfl)
  simp only [Act.put, List.setIfInBounds_toArray, List.set_cons_zero, List.set_cons_succ]
  refine abTake 2 (some 22) (v := ?_) rfl rfl (by kernel_rfl) (by kernel_rfl) (by kernel_rfl) (fun _ _ _ h => h) (HF.out _ (by simp)) (by rfl) ?_ ?_
  rotate_left 1
  · (intro w hSw; (try dsimp only at hSw); go_simp; try with_reducible rfl)
  simp only [Act.put, List.setIfInBounds_toArray, List.set_cons_zero, List.set_cons_succ]
  refine abTake 3 (some 23) (v := ?_) rfl rfl (by kernel_rfl) (by kernel_rfl) (by kernel_rfl) (fun _ _ _ h => h) (HF.out _ (by simp)) (by rfl) ?_ ?_
  rotate_left 1
  · (intro w hSw; (try dsimp only at hSw); go_simp; try with_reducible rfl)
  simp only [Act.put, List.setIfInBounds_toArray, List.set_cons_zero, List.set_cons_succ]
  refine abTake 4 (some 24) (v := ?_) rfl rfl (by kernel_rfl) (by kernel_rfl) (by kernel_rfl) (fun _ _ _ h => h) (HF.out _ (by simp)) (by rfl) ?_ ?_
  rotate_left 1
  · (intro w hSw; (try dsimp only at hSw); go_simp; try with_reducible rfl)
  simp only [Act.put, List.setIfInBounds_toArray, List.set_cons_zero, List.set_cons_succ]
  refine abTake 5 (some 25) (v := ?_) rfl rfl (by kernel_rfl) (by kernel_rfl) (by kernel_rfl) (fun _ _ _ h => h) (HF.out _ (by simp)) (by rfl) ?_ ?_
  rotate_left 1
  · (intro w hSw; (try dsimp only at hSw); go_simp; try with_reducible rfl)
  simp only [Act.put, List.setIfInBounds_toArray, List.set_cons_zero, List.set_cons_succ]
  refine abTake 6 (some 26) (v := ?_) rfl rfl (by kernel_rfl) (by kernel_rfl) (by kernel_rfl) (fun _ _ _ h => h) (HF.out _ (by simp)) (by rfl) ?_ ?_
  rotate_left 1
  · (intro w hSw; (try dsimp only at hSw); go_simp; try with_reducible rfl)
  simp only [Act.put, List.setIfInBounds_toArray, List.set_cons_zero, List.set_cons_succ]
  refine abTake 7 (some 27) (v := ?_) rfl rfl (by kernel_rfl) (by kernel_rfl) (by kernel_rfl) (fun _ _ _ h => h) (HF.out _ (by simp)) (by rfl) ?_ ?_
  rotate_left 1
  · (intro w hSw; (try dsimp only at hSw); go_simp; try with_reducible rfl)
  simp only [Act.put, List.setIfInBounds_toArray, List.set_cons_zero, List.set_cons_succ]
  refine abTake 8 (some 28) (v := ?_) rfl rfl (by kernel_rfl) (by kernel_rfl) (by kernel_rfl) (fun _ _ _ h => h) (HF.out _ (by simp)) (by rfl) ?_ ?_
  rotate_left 1
  · (intro w hSw; (try dsimp only at hSw); go_simp; try with_reducible rfl)
  simp only [Act.put, List.setIfInBounds_toArray, List.set_cons_zero, List.set_cons_succ]
  refine abCall 9 (some 29) rfl rfl (by kernel_rfl) (by kernel_rfl) (by kernel_rfl) (fun _ _ _ h => h) (HF.out _ (by simp)) (by rfl) ?_ (fun w hSw => M2.out _) ?_
  · (intro w hSw; (try dsimp only at hSw); go_simp; try with_reducible rfl)
  simp only [Act.put, List.setIfInBounds_toArray, List.set_cons_zero, List.set_cons_succ]
  refine abTake 10 (some 19) (v := ?_) rfl rfl (by kernel_rfl) (by kernel_rfl) (by kernel_rfl) (fun _ _ _ h => h) (HF.out _ (by simp)) (by rfl) ?_ ?_
  rotate_left 1
  · (intro w hSw; (try dsimp only at hSw); go_simp; try with_reducible rfl)
  simp only [Act.put, List.setIfInBounds_toArray, List.set_cons_zero, List.set_cons_succ]
  refine abTake 11 (some 30) (v := ?_) rfl rfl (by kernel_rfl) (by kernel_rfl) (by kernel_rfl) (fun _ _ _ h => h) (HF.out _ (by simp)) (by rfl) ?_ ?_
  rotate_left 1
  · (intro w hSw; (try dsimp only at hSw); go_simp; try with_reducible rfl)
  simp only [Act.put, List.setIfInBounds_toArray, List.set_cons_zero, List.set_cons_succ]
  refine abTake 12 (some 31) (v := ?_) rfl rfl (by kernel_rfl) (by kernel_rfl) (by kernel_rfl) (fun _ _ _ h => h) (HF.out _ (by simp)) (by rfl) ?_ ?_
  rotate_left 1
  · (intro w hSw; (try dsimp only at hSw); go_simp; try with_reducible rfl)
  simp only [Act.put, List.setIfInBounds_toArray, List.set_cons_zero, List.set_cons_succ]
  refine abTake 13 (some 8) (v := ?_) rfl rfl (by kernel_rfl) (by kernel_rfl) (by kernel_rfl) (fun _ _ _ h => h) (HF.out _ (by simp)) (by rfl) ?_ ?_
  rotate_left 1
  · (intro w hSw; (try dsimp only at hSw); go_simp; try with_reducible rfl)
  simp only [Act.put, List.setIfInBounds_toArray, List.set_cons_zero, List.set_cons_succ]
  refine abTake 14 (some 9) (v := ?_) rfl rfl (by kernel_rfl) (by kernel_rfl) (by kernel_rfl) (fun _ _ _ h => h) (HF.out _ (by simp)) (by rfl) ?_ ?_
  rotate_left 1
  · (intro w hSw; (try dsimp only at hSw); go_simp; try with_reducible rfl)
  simp only [Act.put, List.setIfInBounds_toArray, List.set_cons_zero, List.set_cons_succ]
  refine abDone (by kernel_rfl) ?_ _
  rintro w2 hS
  have HMw2 := Lib.hid (hS.1.2.2.2.2.2.out)
  clear hS HOK HF HMK
  have ly : (w1.heap.size + 1) < w2.heap.size := HMw2.out.lt 0 rfl
  have cy0 : w2.cell? ⟨(w1.heap.size + 1), 0, none⟩ = some (.int .u64 (hi q : Nat)) := HMw2.out.cell 0 rfl rfl
  have cy1 : w2.cell? ⟨(w1.heap.size + 1), 1, none⟩ = some (.int .u64 (lo q : Nat)) := HMw2.out.cell 0 rfl rfl
  go_wp2_with fail
  refine (M3.out _).mono ?_
  rintro e w3 ⟨rfl, hb⟩
  have HMw3 := Lib.hid (HMw2.out.call hb)
  clear hb ly cy0 cy1 HMw2
  have lr : (w.heap.size + 1 + 1) < w3.heap.size := HMw3.out.lt 2 rfl
  have cr0 : w3.cell? ⟨(w.heap.size + 1 + 1), 0, none⟩ = some (.int .i64 0) := HMw3.out.cell 2 rfl rfl
  have fr0 : w3.frozen? ⟨(w.heap.size + 1 + 1), 0, none⟩ = false := HMw3.out.free 2 rfl 0
  have cr1 : w3.cell? ⟨(w.heap.size + 1 + 1), 1, none⟩ = some (.int .i64 0) := HMw3.out.cell 2 rfl rfl
  have fr1 : w3.frozen? ⟨(w.heap.size + 1 + 1), 1, none⟩ = false := HMw3.out.free 2 rfl 1
  go_wp2_with fail
  exact bodyPost_ret (v := .tuple #[.agg #[.int .i64 x, .int .i64 y], .int .i64 0]) (by simp [results, Try.results30, go_sem, cr0, cr1]) rfl ⟨rfl, (((HMw3.out.set 2 0 (.int .i64 x) rfl).set 2 1 (.int .i64 y) rfl).to (l' := [((w1.heap.size + 1), #[.int .u64 (hi q : Nat), .int .u64 (lo q : Nat)]), (w1.heap.size, #[.int .u64 (hi p : Nat), .int .u64 (lo p : Nat)]), ((w.heap.size + 1 + 1), #[.int .i64 x, .int .i64 y]), ((w.heap.size + 1), #[.int .u64 (hi d : Nat), .int .u64 (lo d : Nat)]), (w.heap.size, #[.bool true, .int .u64 (hi n : Nat), .int .u64 (lo n : Nat)])]) rfl).low⟩
theorem rqlow_false_num (n d p q : Nat) (Y : Bool) (x y : Int) (w : World)
    (m1 : ∀ w, Calls Try.prog 51 #[.agg #[.int .u64 (hi n : Nat), .int .u64 (lo n : Nat)], .agg #[.int .u64 (hi d : Nat), .int .u64 (lo d : Nat)]] w fun en w' => en = .returned (.tuple #[.agg #[.int .u64 (hi p : Nat), .int .u64 (lo p : Nat)], .agg #[.int .u64 (hi q : Nat), .int .u64 (lo q : Nat)]]) ∧ Below w.heap.size w w')
    (m2 : ∀ w, Calls Try.prog 52 #[.agg #[.bool false, .int .u64 (hi p : Nat), .int .u64 (lo p : Nat)]] w fun en w' => en = .returned (.tuple #[.int .i64 x, .bool false]) ∧ Below w.heap.size w w')
    (m3 : ∀ w, Calls Try.prog 52 #[.agg #[.bool false, .int .u64 (hi q : Nat), .int .u64 (lo q : Nat)]] w fun en w' => en = .returned (.tuple #[.int .i64 y, .bool Y]) ∧ Below w.heap.size w w') :
    Calls Try.prog 30 #[.agg #[.bool false, .int .u64 (hi n : Nat), .int .u64 (lo n : Nat)], .agg #[.int .u64 (hi d : Nat), .int .u64 (lo d : Nat)]] w fun en w' => en = .returned (.tuple #[.agg #[.int .i64 0, .int .i64 0], .int .i64 5]) ∧ Below w.heap.size w w' := by
  have M1 := Lib.hid m1; have M2 := Lib.hid m2; have M3 := Lib.hid m3
  clear m1 m2 m3
  go_enter Try.func30, Try.ntmps30
  go_wp2_with fail
  refine (M1.out _).mono ?_
  rintro e w1 ⟨rfl, hb⟩
  have HMw1 := Lib.hid (((((Mem.start w).new w.heap.size _ _ rfl).new (w.heap.size + 1) _ _ (by simp)).new (w.heap.size + 1 + 1) _ _ (by simp)).call hb)
  clear hb
  go_upto_region 2 with fail
  obtain ⟨W2x, hW2x⟩ : ∃ W2x, ((w1.alloc (.cells #[.int .u64 (hi p : Nat), .int .u64 (lo p : Nat)] 48)).alloc (.cells #[.int .u64 (hi q : Nat), .int .u64 (lo q : Nat)] 48)) = W2x := ⟨_, rfl⟩
  have hm : Mem w W2x [((w1.heap.size + 1), #[.int .u64 (hi q : Nat), .int .u64 (lo q : Nat)]), (w1.heap.size, #[.int .u64 (hi p : Nat), .int .u64 (lo p : Nat)]), ((w.heap.size + 1 + 1), #[.int .i64 0, .int .i64 0]), ((w.heap.size + 1), #[.int .u64 (hi d : Nat), .int .u64 (lo d : Nat)]), (w.heap.size, #[.bool false, .int .u64 (hi n : Nat), .int .u64 (lo n : Nat)])] := by rw [← hW2x]; exact ((HMw1.out.new w1.heap.size _ _ rfl).new (w1.heap.size + 1) _ _ (by simp))
  rw [hW2x]
  clear hW2x HMw1
  have mk : ∀ w', Mem w w' [((w1.heap.size + 1), #[.int .u64 (hi q : Nat), .int .u64 (lo q : Nat)]), (w1.heap.size, #[.int .u64 (hi p : Nat), .int .u64 (lo p : Nat)]), ((w.heap.size + 1 + 1), #[.int .i64 0, .int .i64 0]), ((w.heap.size + 1), #[.int .u64 (hi d : Nat), .int .u64 (lo d : Nat)]), (w.heap.size, #[.bool false, .int .u64 (hi n : Nat), .int .u64 (lo n : Nat)])] → (fun w' => w'.cell? ⟨w.heap.size, 0, none⟩ = some (.bool false) ∧ w'.cell? ⟨w.heap.size, 1, none⟩ = some (.int .u64 (hi n : Nat)) ∧ w'.cell? ⟨w.heap.size, 2, none⟩ = some (.int .u64 (lo n : Nat)) ∧ w'.cell? ⟨w1.heap.size, 0, none⟩ = some (.int .u64 (hi p : Nat)) ∧ w'.cell? ⟨w1.heap.size, 1, none⟩ = some (.int .u64 (lo p : Nat)) ∧ Hid (Mem w w' [((w1.heap.size + 1), #[.int .u64 (hi q : Nat), .int .u64 (lo q : Nat)]), (w1.heap.size, #[.int .u64 (hi p : Nat), .int .u64 (lo p : Nat)]), ((w.heap.size + 1 + 1), #[.int .i64 0, .int .i64 0]), ((w.heap.size + 1), #[.int .u64 (hi d : Nat), .int .u64 (lo d : Nat)]), (w.heap.size, #[.bool false, .int .u64 (hi n : Nat), .int .u64 (lo n : Nat)])])) w' := fun w' h => ⟨h.cell 4 rfl rfl, h.cell 4 rfl rfl, h.cell 4 rfl rfl, h.cell 1 rfl rfl, h.cell 1 rfl rfl, Lib.hid h⟩
  have hok : OwnOk (fun w' => w'.cell? ⟨w.heap.size, 0, none⟩ = some (.bool false) ∧ w'.cell? ⟨w.heap.size, 1, none⟩ = some (.int .u64 (hi n : Nat)) ∧ w'.cell? ⟨w.heap.size, 2, none⟩ = some (.int .u64 (lo n : Nat)) ∧ w'.cell? ⟨w1.heap.size, 0, none⟩ = some (.int .u64 (hi p : Nat)) ∧ w'.cell? ⟨w1.heap.size, 1, none⟩ = some (.int .u64 (lo p : Nat)) ∧ Hid (Mem w w' [((w1.heap.size + 1), #[.int .u64 (hi q : Nat), .int .u64 (lo q : Nat)]), (w1.heap.size, #[.int .u64 (hi p : Nat), .int .u64 (lo p : Nat)]), ((w.heap.size + 1 + 1), #[.int .i64 0, .int .i64 0]), ((w.heap.size + 1), #[.int .u64 (hi d : Nat), .int .u64 (lo d : Nat)]), (w.heap.size, #[.bool false, .int .u64 (hi n : Nat), .int .u64 (lo n : Nat)])])) W2x.heap.size [] := own0_ok (fun v1 v2 h hb => mk _ (h.2.2.2.2.2.out.step hb hm.lts hm.low.size))
  have hfit : ∀ i, (∀ e ∈ ([] : List Ent), e.x ≠ i ∧ e.s ≠ i) → Fit (fun w' => w'.cell? ⟨w.heap.size, 0, none⟩ = some (.bool false) ∧ w'.cell? ⟨w.heap.size, 1, none⟩ = some (.int .u64 (hi n : Nat)) ∧ w'.cell? ⟨w.heap.size, 2, none⟩ = some (.int .u64 (lo n : Nat)) ∧ w'.cell? ⟨w1.heap.size, 0, none⟩ = some (.int .u64 (hi p : Nat)) ∧ w'.cell? ⟨w1.heap.size, 1, none⟩ = some (.int .u64 (lo p : Nat)) ∧ Hid (Mem w w' [((w1.heap.size + 1), #[.int .u64 (hi q : Nat), .int .u64 (lo q : Nat)]), (w1.heap.size, #[.int .u64 (hi p : Nat), .int .u64 (lo p : Nat)]), ((w.heap.size + 1 + 1), #[.int .i64 0, .int .i64 0]), ((w.heap.size + 1), #[.int .u64 (hi d : Nat), .int .u64 (lo d : Nat)]), (w.heap.size, #[.bool false, .int .u64 (hi n : Nat), .int .u64 (lo n : Nat)])])) (Sof (fun w' => w'.cell? ⟨w.heap.size, 0, none⟩ = some (.bool false) ∧ w'.cell? ⟨w.heap.size, 1, none⟩ = some (.int .u64 (hi n : Nat)) ∧ w'.cell? ⟨w.heap.size, 2, none⟩ = some (.int .u64 (lo n : Nat)) ∧ w'.cell? ⟨w1.heap.size, 0, none⟩ = some (.int .u64 (hi p : Nat)) ∧ w'.cell? ⟨w1.heap.size, 1, none⟩ = some (.int .u64 (lo p : Nat)) ∧ Hid (Mem w w' [((w1.heap.size + 1), #[.int .u64 (hi q : Nat), .int .u64 (lo q : Nat)]), (w1.heap.size, #[.int .u64 (hi p : Nat), .int .u64 (lo p : Nat)]), ((w.heap.size + 1 + 1), #[.int .i64 0, .int .i64 0]), ((w.heap.size + 1), #[.int .u64 (hi d : Nat), .int .u64 (lo d : Nat)]), (w.heap.size, #[.bool false, .int .u64 (hi n : Nat), .int .u64 (lo n : Nat)])])) W2x.heap.size []) i := fun i hi => sof_fit hok.st hok.loc hi
  have HOK := Lib.hid hok; have HF := Lib.hid hfit; clear hok hfit
  refine wp_region_ab (S0 := (fun w' => w'.cell? ⟨w.heap.size, 0, none⟩ = some (.bool false) ∧ w'.cell? ⟨w.heap.size, 1, none⟩ = some (.int .u64 (hi n : Nat)) ∧ w'.cell? ⟨w.heap.size, 2, none⟩ = some (.int .u64 (lo n : Nat)) ∧ w'.cell? ⟨w1.heap.size, 0, none⟩ = some (.int .u64 (hi p : Nat)) ∧ w'.cell? ⟨w1.heap.size, 1, none⟩ = some (.int .u64 (lo p : Nat)) ∧ Hid (Mem w w' [((w1.heap.size + 1), #[.int .u64 (hi q : Nat), .int .u64 (lo q : Nat)]), (w1.heap.size, #[.int .u64 (hi p : Nat), .int .u64 (lo p : Nat)]), ((w.heap.size + 1 + 1), #[.int .i64 0, .int .i64 0]), ((w.heap.size + 1), #[.int .u64 (hi d : Nat), .int .u64 (lo d : Nat)]), (w.heap.size, #[.bool false, .int .u64 (hi n : Nat), .int .u64 (lo n : Nat)])]))) W2x.heap.size [] (by kernel_rfl) (mk _ hm.drew) (Nat.le_refl _) (by simp) ?_
  have HMK := Lib.hid mk
  clear hm mk
  refine abTake 0 (some 20) (v := ?_) rfl rfl (by kernel_rfl) (by kernel_rfl) (by kernel_rfl) (fun _ _ _ h => h) (HF.out _ (by simp)) (by rfl) ?_ ?_
  rotate_left 1
  · (intro w hSw; (try dsimp only at hSw); go_simp; try with_reducible rfl)
  simp only [Act.put, List.setIfInBounds_toArray, List.set_cons_zero, List.set_cons_succ]
  refine abTake 1 (some 21) (v := ?_) rfl rfl (by kernel_rfl) (by kernel_rfl) (by kernel_rfl) (fun _ _ _ h => h) (HF.out _ (by simp)) (by rfl) ?_ ?_
  rotate_left 1
  · (intro w hSw; (try dsimp only at hSw); go_simp; try with_reducible rfl)
  simp only [Act.put, List.setIfInBounds_toArray, List.set_cons_zero, List.set_cons_succ]
  refine abTake 2 (some 22) (v := ?_) rfl rfl (by kernel_rfl) (by kernel_rfl) (by kernel_rfl) (fun _ _ _ h => h) (HF.out _ (by simp)) (by rfl) ?_ ?_
  rotate_left 1
  · (intro w hSw; (try dsimp only at hSw); go_simp; try with_reducible rfl)
  simp only [Act.put, List.setIfInBounds_toArray, List.set_cons_zero, List.set_cons_succ]
  refine abSkip 3 (some 23) rfl rfl (by kernel_rfl) (by kernel_rfl) (by kernel_rfl) (fun _ _ _ h => h) (HF.out _ (by simp)) (by rfl) ?_
  simp only [Act.put, List.setIfInBounds_toArray, List.set_cons_zero, List.set_cons_succ]
  refine abSkip 4 (some 24) rfl rfl (by kernel_rfl) (by kernel_rfl) (by kernel_rfl) (fun _ _ _ h => h) (HF.out _ (by simp)) (by rfl) ?_
  simp only [Act.put, List.setIfInBounds_toArray, List.set_cons_zero, List.set_cons_succ]
  refine abSkip 5 (some 25) rfl rfl (by kernel_rfl) (by kernel_rfl) (by kernel_rfl) (fun _ _ _ h => h) (HF.out _ (by simp)) (by rfl) ?_
  simp only [Act.put, List.setIfInBounds_toArray, List.set_cons_zero, List.set_cons_succ]
  refine abTake 6 (some 26) (v := ?_) rfl rfl (by kernel_rfl) (by kernel_rfl) (by kernel_rfl) (fun _ _ _ h => h) (HF.out _ (by simp)) (by rfl) ?_ ?_
  rotate_left 1
  · (intro w hSw; (try dsimp only at hSw); go_simp; try with_reducible rfl)
  simp only [Act.put, List.setIfInBounds_toArray, List.set_cons_zero, List.set_cons_succ]
  refine abTake 7 (some 27) (v := ?_) rfl rfl (by kernel_rfl) (by kernel_rfl) (by kernel_rfl) (fun _ _ _ h => h) (HF.out _ (by simp)) (by rfl) ?_ ?_
  rotate_left 1
  · (intro w hSw; (try dsimp only at hSw); go_simp; try with_reducible rfl)
  simp only [Act.put, List.setIfInBounds_toArray, List.set_cons_zero, List.set_cons_succ]
  refine abTake 8 (some 28) (v := ?_) rfl rfl (by kernel_rfl) (by kernel_rfl) (by kernel_rfl) (fun _ _ _ h => h) (HF.out _ (by simp)) (by rfl) ?_ ?_
  rotate_left 1
  · (intro w hSw; (try dsimp only at hSw); go_simp; try with_reducible rfl)
  simp only [Act.put, List.setIfInBounds_toArray, List.set_cons_zero, List.set_cons_succ]
  refine abCall 9 (some 29) rfl rfl (by kernel_rfl) (by kernel_rfl) (by kernel_rfl) (fun _ _ _ h => h) (HF.out _ (by simp)) (by rfl) ?_ (fun w hSw => M2.out _) ?_
  · (intro w hSw; (try dsimp only at hSw); go_simp; try with_reducible rfl)
  simp only [Act.put, List.setIfInBounds_toArray, List.set_cons_zero, List.set_cons_succ]
  refine abTake 10 (some 19) (v := ?_) rfl rfl (by kernel_rfl) (by kernel_rfl) (by kernel_rfl) (fun _ _ _ h => h) (HF.out _ (by simp)) (by rfl) ?_ ?_
  rotate_left 1
  · (intro w hSw; (try dsimp only at hSw); go_simp; try with_reducible rfl)
  simp only [Act.put, List.setIfInBounds_toArray, List.set_cons_zero, List.set_cons_succ]
  refine abTake 11 (some 30) (v := ?_) rfl rfl (by kernel_rfl) (by kernel_rfl) (by kernel_rfl) (fun _ _ _ h => h) (HF.out _ (by simp)) (by rfl) ?_ ?_
  rotate_left 1
  · (intro w hSw; (try dsimp only at hSw); go_simp; try with_reducible rfl)
  simp only [Act.put, List.setIfInBounds_toArray, List.set_cons_zero, List.set_cons_succ]
  refine abTake 12 (some 31) (v := ?_) rfl rfl (by kernel_rfl) (by kernel_rfl) (by kernel_rfl) (fun _ _ _ h => h) (HF.out _ (by simp)) (by rfl) ?_ ?_
  rotate_left 1
  · (intro w hSw; (try dsimp only at hSw); go_simp; try with_reducible rfl)
  simp only [Act.put, List.setIfInBounds_toArray, List.set_cons_zero, List.set_cons_succ]
  refine abTake 13 (some 8) (v := ?_) rfl rfl (by kernel_rfl) (by kernel_rfl) (by kernel_rfl) (fun _ _ _ h => h) (HF.out _ (by simp)) (by rfl) ?_ ?_
  rotate_left 1
  · (intro w hSw; (try dsimp only at hSw); go_simp; try with_reducible rfl)
  simp only [Act.put, List.setIfInBounds_toArray, List.set_cons_zero, List.set_cons_succ]
  refine abTake 14 (some 9) (v := ?_) rfl rfl (by kernel_rfl) (by kernel_rfl) (by kernel_rfl) (fun _ _ _ h => h) (HF.out _ (by simp)) (by rfl) ?_ ?_
  rotate_left 1
  · (intro w hSw; (try dsimp only at hSw); go_simp; try with_reducible rfl)
  simp only [Act.put, List.setIfInBounds_toArray, List.set_cons_zero, List.set_cons_succ]
  refine abDone (by kernel_rfl) ?_ _
  rintro w2 hS
  have HMw2 := Lib.hid (hS.1.2.2.2.2.2.out)
  clear hS HOK HF HMK
  have ly : (w1.heap.size + 1) < w2.heap.size := HMw2.out.lt 0 rfl
  have cy0 : w2.cell? ⟨(w1.heap.size + 1), 0, none⟩ = some (.int .u64 (hi q : Nat)) := HMw2.out.cell 0 rfl rfl
  have cy1 : w2.cell? ⟨(w1.heap.size + 1), 1, none⟩ = some (.int .u64 (lo q : Nat)) := HMw2.out.cell 0 rfl rfl
  go_wp2_with fail
  refine (M3.out _).mono ?_
  rintro e w3 ⟨rfl, hb⟩
  have HMw3 := Lib.hid (HMw2.out.call hb)
  clear hb ly cy0 cy1 HMw2
  have lr : (w.heap.size + 1 + 1) < w3.heap.size := HMw3.out.lt 2 rfl
  have cr0 : w3.cell? ⟨(w.heap.size + 1 + 1), 0, none⟩ = some (.int .i64 0) := HMw3.out.cell 2 rfl rfl
  have fr0 : w3.frozen? ⟨(w.heap.size + 1 + 1), 0, none⟩ = false := HMw3.out.free 2 rfl 0
  have cr1 : w3.cell? ⟨(w.heap.size + 1 + 1), 1, none⟩ = some (.int .i64 0) := HMw3.out.cell 2 rfl rfl
  have fr1 : w3.frozen? ⟨(w.heap.size + 1 + 1), 1, none⟩ = false := HMw3.out.free 2 rfl 1
  go_wp2_with fail
  exact bodyPost_ret (v := .tuple #[.agg #[.int .i64 0, .int .i64 0], .int .i64 5]) (by simp [results, Try.results30, go_sem, cr0, cr1]) rfl ⟨rfl, (((HMw3.out.set 2 0 (.int .i64 0) rfl).set 2 1 (.int .i64 0) rfl).to (l' := [((w1.heap.size + 1), #[.int .u64 (hi q : Nat), .int .u64 (lo q : Nat)]), (w1.heap.size, #[.int .u64 (hi p : Nat), .int .u64 (lo p : Nat)]), ((w.heap.size + 1 + 1), #[.int .i64 0, .int .i64 0]), ((w.heap.size + 1), #[.int .u64 (hi d : Nat), .int .u64 (lo d : Nat)]), (w.heap.size, #[.bool false, .int .u64 (hi n : Nat), .int .u64 (lo n : Nat)])]) rfl).low⟩
theorem rqlow_false_den (n d p q : Nat) (x y : Int) (w : World)
    (m1 : ∀ w, Calls Try.prog 51 #[.agg #[.int .u64 (hi n : Nat), .int .u64 (lo n : Nat)], .agg #[.int .u64 (hi d : Nat), .int .u64 (lo d : Nat)]] w fun en w' => en = .returned (.tuple #[.agg #[.int .u64 (hi p : Nat), .int .u64 (lo p : Nat)], .agg #[.int .u64 (hi q : Nat), .int .u64 (lo q : Nat)]]) ∧ Below w.heap.size w w')
    (m2 : ∀ w, Calls Try.prog 52 #[.agg #[.bool false, .int .u64 (hi p : Nat), .int .u64 (lo p : Nat)]] w fun en w' => en = .returned (.tuple #[.int .i64 x, .bool true]) ∧ Below w.heap.size w w')
    (m3 : ∀ w, Calls Try.prog 52 #[.agg #[.bool false, .int .u64 (hi q : Nat), .int .u64 (lo q : Nat)]] w fun en w' => en = .returned (.tuple #[.int .i64 y, .bool false]) ∧ Below w.heap.size w w') :
    Calls Try.prog 30 #[.agg #[.bool false, .int .u64 (hi n : Nat), .int .u64 (lo n : Nat)], .agg #[.int .u64 (hi d : Nat), .int .u64 (lo d : Nat)]] w fun en w' => en = .returned (.tuple #[.agg #[.int .i64 0, .int .i64 0], .int .i64 5]) ∧ Below w.heap.size w w' := by
  have M1 := Lib.hid m1; have M2 := Lib.hid m2; have M3 := Lib.hid m3
  clear m1 m2 m3
  go_enter Try.func30, Try.ntmps30
  go_wp2_with fail
  refine (M1.out _).mono ?_
  rintro e w1 ⟨rfl, hb⟩
  have HMw1 := Lib.hid (((((Mem.start w).new w.heap.size _ _ rfl).new (w.heap.size + 1) _ _ (by simp)).new (w.heap.size + 1 + 1) _ _ (by simp)).call hb)
  clear hb
  go_upto_region 2 with fail
  obtain ⟨W2x, hW2x⟩ : ∃ W2x, ((w1.alloc (.cells #[.int .u64 (hi p : Nat), .int .u64 (lo p : Nat)] 48)).alloc (.cells #[.int .u64 (hi q : Nat), .int .u64 (lo q : Nat)] 48)) = W2x := ⟨_, rfl⟩
  have hm : Mem w W2x [((w1.heap.size + 1), #[.int .u64 (hi q : Nat), .int .u64 (lo q : Nat)]), (w1.heap.size, #[.int .u64 (hi p : Nat), .int .u64 (lo p : Nat)]), ((w.heap.size + 1 + 1), #[.int .i64 0, .int .i64 0]), ((w.heap.size + 1), #[.int .u64 (hi d : Nat), .int .u64 (lo d : Nat)]), (w.heap.size, #[.bool false, .int .u64 (hi n : Nat), .int .u64 (lo n : Nat)])] := by rw [← hW2x]; exact ((HMw1.out.new w1.heap.size _ _ rfl).new (w1.heap.size + 1) _ _ (by simp))
  rw [hW2x]
  clear hW2x HMw1
  have mk : ∀ w', Mem w w' [((w1.heap.size + 1), #[.int .u64 (hi q : Nat), .int .u64 (lo q : Nat)]), (w1.heap.size, #[.int .u64 (hi p : Nat), .int .u64 (lo p : Nat)]), ((w.heap.size + 1 + 1), #[.int .i64 0, .int .i64 0]), ((w.heap.size + 1), #[.int .u64 (hi d : Nat), .int .u64 (lo d : Nat)]), (w.heap.size, #[.bool false, .int .u64 (hi n : Nat), .int .u64 (lo n : Nat)])] → (fun w' => w'.cell? ⟨w.heap.size, 0, none⟩ = some (.bool false) ∧ w'.cell? ⟨w.heap.size, 1, none⟩ = some (.int .u64 (hi n : Nat)) ∧ w'.cell? ⟨w.heap.size, 2, none⟩ = some (.int .u64 (lo n : Nat)) ∧ w'.cell? ⟨w1.heap.size, 0, none⟩ = some (.int .u64 (hi p : Nat)) ∧ w'.cell? ⟨w1.heap.size, 1, none⟩ = some (.int .u64 (lo p : Nat)) ∧ Hid (Mem w w' [((w1.heap.size + 1), #[.int .u64 (hi q : Nat), .int .u64 (lo q : Nat)]), (w1.heap.size, #[.int .u64 (hi p : Nat), .int .u64 (lo p : Nat)]), ((w.heap.size + 1 + 1), #[.int .i64 0, .int .i64 0]), ((w.heap.size + 1), #[.int .u64 (hi d : Nat), .int .u64 (lo d : Nat)]), (w.heap.size, #[.bool false, .int .u64 (hi n : Nat), .int .u64 (lo n : Nat)])])) w' := fun w' h => ⟨h.cell 4 rfl rfl, h.cell 4 rfl rfl, h.cell 4 rfl rfl, h.cell 1 rfl rfl, h.cell 1 rfl rfl, Lib.hid h⟩
  have hok : OwnOk (fun w' => w'.cell? ⟨w.heap.size, 0, none⟩ = some (.bool false) ∧ w'.cell? ⟨w.heap.size, 1, none⟩ = some (.int .u64 (hi n : Nat)) ∧ w'.cell? ⟨w.heap.size, 2, none⟩ = some (.int .u64 (lo n : Nat)) ∧ w'.cell? ⟨w1.heap.size, 0, none⟩ = some (.int .u64 (hi p : Nat)) ∧ w'.cell? ⟨w1.heap.size, 1, none⟩ = some (.int .u64 (lo p : Nat)) ∧ Hid (Mem w w' [((w1.heap.size + 1), #[.int .u64 (hi q : Nat), .int .u64 (lo q : Nat)]), (w1.heap.size, #[.int .u64 (hi p : Nat), .int .u64 (lo p : Nat)]), ((w.heap.size + 1 + 1), #[.int .i64 0, .int .i64 0]), ((w.heap.size + 1), #[.int .u64 (hi d : Nat), .int .u64 (lo d : Nat)]), (w.heap.size, #[.bool false, .int .u64 (hi n : Nat), .int .u64 (lo n : Nat)])])) W2x.heap.size [] := own0_ok (fun v1 v2 h hb => mk _ (h.2.2.2.2.2.out.step hb hm.lts hm.low.size))
  have hfit : ∀ i, (∀ e ∈ ([] : List Ent), e.x ≠ i ∧ e.s ≠ i) → Fit (fun w' => w'.cell? ⟨w.heap.size, 0, none⟩ = some (.bool false) ∧ w'.cell? ⟨w.heap.size, 1, none⟩ = some (.int .u64 (hi n : Nat)) ∧ w'.cell? ⟨w.heap.size, 2, none⟩ = some (.int .u64 (lo n : Nat)) ∧ w'.cell? ⟨w1.heap.size, 0, none⟩ = some (.int .u64 (hi p : Nat)) ∧ w'.cell? ⟨w1.heap.size, 1, none⟩ = some (.int .u64 (lo p : Nat)) ∧ Hid (Mem w w' [((w1.heap.size + 1), #[.int .u64 (hi q : Nat), .int .u64 (lo q : Nat)]), (w1.heap.size, #[.int .u64 (hi p : Nat), .int .u64 (lo p : Nat)]), ((w.heap.size + 1 + 1), #[.int .i64 0, .int .i64 0]), ((w.heap.size + 1), #[.int .u64 (hi d : Nat), .int .u64 (lo d : Nat)]), (w.heap.size, #[.bool false, .int .u64 (hi n : Nat), .int .u64 (lo n : Nat)])])) (Sof (fun w' => w'.cell? ⟨w.heap.size, 0, none⟩ = some (.bool false) ∧ w'.cell? ⟨w.heap.size, 1, none⟩ = some (.int .u64 (hi n : Nat)) ∧ w'.cell? ⟨w.heap.size, 2, none⟩ = some (.int .u64 (lo n : Nat)) ∧ w'.cell? ⟨w1.heap.size, 0, none⟩ = some (.int .u64 (hi p : Nat)) ∧ w'.cell? ⟨w1.heap.size, 1, none⟩ = some (.int .u64 (lo p : Nat)) ∧ Hid (Mem w w' [((w1.heap.size + 1), #[.int .u64 (hi q : Nat), .int .u64 (lo q : Nat)]), (w1.heap.size, #[.int .u64 (hi p : Nat), .int .u64 (lo p : Nat)]), ((w.heap.size + 1 + 1), #[.int .i64 0, .int .i64 0]), ((w.heap.size + 1), #[.int .u64 (hi d : Nat), .int .u64 (lo d : Nat)]), (w.heap.size, #[.bool false, .int .u64 (hi n : Nat), .int .u64 (lo n : Nat)])])) W2x.heap.size []) i := fun i hi => sof_fit hok.st hok.loc hi
  have HOK := Lib.hid hok; have HF := Lib.hid hfit; clear hok hfit
  refine wp_region_ab (S0 := (fun w' => w'.cell? ⟨w.heap.size, 0, none⟩ = some (.bool false) ∧ w'.cell? ⟨w.heap.size, 1, none⟩ = some (.int .u64 (hi n : Nat)) ∧ w'.cell? ⟨w.heap.size, 2, none⟩ = some (.int .u64 (lo n : Nat)) ∧ w'.cell? ⟨w1.heap.size, 0, none⟩ = some (.int .u64 (hi p : Nat)) ∧ w'.cell? ⟨w1.heap.size, 1, none⟩ = some (.int .u64 (lo p : Nat)) ∧ Hid (Mem w w' [((w1.heap.size + 1), #[.int .u64 (hi q : Nat), .int .u64 (lo q : Nat)]), (w1.heap.size, #[.int .u64 (hi p : Nat), .int .u64 (lo p : Nat)]), ((w.heap.size + 1 + 1), #[.int .i64 0, .int .i64 0]), ((w.heap.size + 1), #[.int .u64 (hi d : Nat), .int .u64 (lo d : Nat)]), (w.heap.size, #[.bool false, .int .u64 (hi n : Nat), .int .u64 (lo n : Nat)])]))) W2x.heap.size [] (by kernel_rfl) (mk _ hm.drew) (Nat.le_refl _) (by simp) ?_
  have HMK := Lib.hid mk
  clear hm mk
  refine abTake 0 (some 20) (v := ?_) rfl rfl (by kernel_rfl) (by kernel_rfl) (by kernel_rfl) (fun _ _ _ h => h) (HF.out _ (by simp)) (by rfl) ?_ ?_
  rotate_left 1
  · (intro w hSw; (try dsimp only at hSw); go_simp; try with_reducible rfl)
  simp only [Act.put, List.setIfInBounds_toArray, List.set_cons_zero, List.set_cons_succ]
  refine abTake 1 (some 21) (v := ?_) rfl rfl (by kernel_rfl) (by kernel_rfl) (by kernel_rfl) (fun _ _ _ h => h) (HF.out _ (by simp)) (by rfl) ?_ ?_
  rotate_left 1
  · (intro w hSw; (try dsimp only at hSw); go_simp; try with_reducible rfl)
  simp only [Act.put, List.setIfInBounds_toArray, List.set_cons_zero, List.set_cons_succ]
  refine abTake 2 (some 22) (v := ?_) rfl rfl (by kernel_rfl) (by kernel_rfl) (by kernel_rfl) (fun _ _ _ h => h) (HF.out _ (by simp)) (by rfl) ?_ ?_
  rotate_left 1
  · (intro w hSw; (try dsimp only at hSw); go_simp; try with_reducible rfl)
  simp only [Act.put, List.setIfInBounds_toArray, List.set_cons_zero, List.set_cons_succ]
  refine abSkip 3 (some 23) rfl rfl (by kernel_rfl) (by kernel_rfl) (by kernel_rfl) (fun _ _ _ h => h) (HF.out _ (by simp)) (by rfl) ?_
  simp only [Act.put, List.setIfInBounds_toArray, List.set_cons_zero, List.set_cons_succ]
  refine abSkip 4 (some 24) rfl rfl (by kernel_rfl) (by kernel_rfl) (by kernel_rfl) (fun _ _ _ h => h) (HF.out _ (by simp)) (by rfl) ?_
  simp only [Act.put, List.setIfInBounds_toArray, List.set_cons_zero, List.set_cons_succ]
  refine abSkip 5 (some 25) rfl rfl (by kernel_rfl) (by kernel_rfl) (by kernel_rfl) (fun _ _ _ h => h) (HF.out _ (by simp)) (by rfl) ?_
  simp only [Act.put, List.setIfInBounds_toArray, List.set_cons_zero, List.set_cons_succ]
  refine abTake 6 (some 26) (v := ?_) rfl rfl (by kernel_rfl) (by kernel_rfl) (by kernel_rfl) (fun _ _ _ h => h) (HF.out _ (by simp)) (by rfl) ?_ ?_
  rotate_left 1
  · (intro w hSw; (try dsimp only at hSw); go_simp; try with_reducible rfl)
  simp only [Act.put, List.setIfInBounds_toArray, List.set_cons_zero, List.set_cons_succ]
  refine abTake 7 (some 27) (v := ?_) rfl rfl (by kernel_rfl) (by kernel_rfl) (by kernel_rfl) (fun _ _ _ h => h) (HF.out _ (by simp)) (by rfl) ?_ ?_
  rotate_left 1
  · (intro w hSw; (try dsimp only at hSw); go_simp; try with_reducible rfl)
  simp only [Act.put, List.setIfInBounds_toArray, List.set_cons_zero, List.set_cons_succ]
  refine abTake 8 (some 28) (v := ?_) rfl rfl (by kernel_rfl) (by kernel_rfl) (by kernel_rfl) (fun _ _ _ h => h) (HF.out _ (by simp)) (by rfl) ?_ ?_
  rotate_left 1
  · (intro w hSw; (try dsimp only at hSw); go_simp; try with_reducible rfl)
  simp only [Act.put, List.setIfInBounds_toArray, List.set_cons_zero, List.set_cons_succ]
  refine abCall 9 (some 29) rfl rfl (by kernel_rfl) (by kernel_rfl) (by kernel_rfl) (fun _ _ _ h => h) (HF.out _ (by simp)) (by rfl) ?_ (fun w hSw => M2.out _) ?_
  · (intro w hSw; (try dsimp only at hSw); go_simp; try with_reducible rfl)
  simp only [Act.put, List.setIfInBounds_toArray, List.set_cons_zero, List.set_cons_succ]
  refine abTake 10 (some 19) (v := ?_) rfl rfl (by kernel_rfl) (by kernel_rfl) (by kernel_rfl) (fun _ _ _ h => h) (HF.out _ (by simp)) (by rfl) ?_ ?_
  rotate_left 1
  · (intro w hSw; (try dsimp only at hSw); go_simp; try with_reducible rfl)
  simp only [Act.put, List.setIfInBounds_toArray, List.set_cons_zero, List.set_cons_succ]
  refine abTake 11 (some 30) (v := ?_) rfl rfl (by kernel_rfl) (by kernel_rfl) (by kernel_rfl) (fun _ _ _ h => h) (HF.out _ (by simp)) (by rfl) ?_ ?_
  rotate_left 1
  · (intro w hSw; (try dsimp only at hSw); go_simp; try with_reducible rfl)
  simp only [Act.put, List.setIfInBounds_toArray, List.set_cons_zero, List.set_cons_succ]
  refine abTake 12 (some 31) (v := ?_) rfl rfl (by kernel_rfl) (by kernel_rfl) (by kernel_rfl) (fun _ _ _ h => h) (HF.out _ (by simp)) (by rfl) ?_ ?_
  rotate_left 1
  · (intro w hSw; (try dsimp only at hSw); go_simp; try with_reducible rfl)
  simp only [Act.put, List.setIfInBounds_toArray, List.set_cons_zero, List.set_cons_succ]
  refine abTake 13 (some 8) (v := ?_) rfl rfl (by kernel_rfl) (by kernel_rfl) (by kernel_rfl) (fun _ _ _ h => h) (HF.out _ (by simp)) (by rfl) ?_ ?_
  rotate_left 1
  · (intro w hSw; (try dsimp only at hSw); go_simp; try with_reducible rfl)
  simp only [Act.put, List.setIfInBounds_toArray, List.set_cons_zero, List.set_cons_succ]
  refine abTake 14 (some 9) (v := ?_) rfl rfl (by kernel_rfl) (by kernel_rfl) (by kernel_rfl) (fun _ _ _ h => h) (HF.out _ (by simp)) (by rfl) ?_ ?_
  rotate_left 1
  · (intro w hSw; (try dsimp only at hSw); go_simp; try with_reducible rfl)
  simp only [Act.put, List.setIfInBounds_toArray, List.set_cons_zero, List.set_cons_succ]
  refine abDone (by kernel_rfl) ?_ _
  rintro w2 hS
  have HMw2 := Lib.hid (hS.1.2.2.2.2.2.out)
  clear hS HOK HF HMK
  have ly : (w1.heap.size + 1) < w2.heap.size := HMw2.out.lt 0 rfl
  have cy0 : w2.cell? ⟨(w1.heap.size + 1), 0, none⟩ = some (.int .u64 (hi q : Nat)) := HMw2.out.cell 0 rfl rfl
  have cy1 : w2.cell? ⟨(w1.heap.size + 1), 1, none⟩ = some (.int .u64 (lo q : Nat)) := HMw2.out.cell 0 rfl rfl
  go_wp2_with fail
  refine (M3.out _).mono ?_
  rintro e w3 ⟨rfl, hb⟩
  have HMw3 := Lib.hid (HMw2.out.call hb)
  clear hb ly cy0 cy1 HMw2
  have lr : (w.heap.size + 1 + 1) < w3.heap.size := HMw3.out.lt 2 rfl
  have cr0 : w3.cell? ⟨(w.heap.size + 1 + 1), 0, none⟩ = some (.int .i64 0) := HMw3.out.cell 2 rfl rfl
  have fr0 : w3.frozen? ⟨(w.heap.size + 1 + 1), 0, none⟩ = false := HMw3.out.free 2 rfl 0
  have cr1 : w3.cell? ⟨(w.heap.size + 1 + 1), 1, none⟩ = some (.int .i64 0) := HMw3.out.cell 2 rfl rfl
  have fr1 : w3.frozen? ⟨(w.heap.size + 1 + 1), 1, none⟩ = false := HMw3.out.free 2 rfl 1
  go_wp2_with fail
  exact bodyPost_ret (v := .tuple #[.agg #[.int .i64 0, .int .i64 0], .int .i64 5]) (by simp [results, Try.results30, go_sem, cr0, cr1]) rfl ⟨rfl, (((HMw3.out.set 2 0 (.int .i64 0) rfl).set 2 1 (.int .i64 0) rfl).to (l' := [((w1.heap.size + 1), #[.int .u64 (hi q : Nat), .int .u64 (lo q : Nat)]), (w1.heap.size, #[.int .u64 (hi p : Nat), .int .u64 (lo p : Nat)]), ((w.heap.size + 1 + 1), #[.int .i64 0, .int .i64 0]), ((w.heap.size + 1), #[.int .u64 (hi d : Nat), .int .u64 (lo d : Nat)]), (w.heap.size, #[.bool false, .int .u64 (hi n : Nat), .int .u64 (lo n : Nat)])]) rfl).low⟩
theorem rqlow_false_ok (n d p q : Nat) (x y : Int) (w : World)
    (m1 : ∀ w, Calls Try.prog 51 #[.agg #[.int .u64 (hi n : Nat), .int .u64 (lo n : Nat)], .agg #[.int .u64 (hi d : Nat), .int .u64 (lo d : Nat)]] w fun en w' => en = .returned (.tuple #[.agg #[.int .u64 (hi p : Nat), .int .u64 (lo p : Nat)], .agg #[.int .u64 (hi q : Nat), .int .u64 (lo q : Nat)]]) ∧ Below w.heap.size w w')
    (m2 : ∀ w, Calls Try.prog 52 #[.agg #[.bool false, .int .u64 (hi p : Nat), .int .u64 (lo p : Nat)]] w fun en w' => en = .returned (.tuple #[.int .i64 x, .bool true]) ∧ Below w.heap.size w w')
    (m3 : ∀ w, Calls Try.prog 52 #[.agg #[.bool false, .int .u64 (hi q : Nat), .int .u64 (lo q : Nat)]] w fun en w' => en = .returned (.tuple #[.int .i64 y, .bool true]) ∧ Below w.heap.size w w') :
    Calls Try.prog 30 #[.agg #[.bool false, .int .u64 (hi n : Nat), .int .u64 (lo n : Nat)], .agg #[.int .u64 (hi d : Nat), .int .u64 (lo d : Nat)]] w fun en w' => en = .returned (.tuple #[.agg #[.int .i64 x, .int .i64 y], .int .i64 0]) ∧ Below w.heap.size w w' := by
  have M1 := Lib.hid m1; have M2 := Lib.hid m2; have M3 := Lib.hid m3
  clear m1 m2 m3
  go_enter Try.func30, Try.ntmps30
  go_wp2_with fail
  refine (M1.out _).mono ?_
  rintro e w1 ⟨rfl, hb⟩
  have HMw1 := Lib.hid (((((Mem.start w).new w.heap.size _ _ rfl).new (w.heap.size + 1) _ _ (by simp)).new (w.heap.size + 1 + 1) _ _ (by simp)).call hb)
  clear hb
  go_upto_region 2 with fail
  obtain ⟨W2x, hW2x⟩ : ∃ W2x, ((w1.alloc (.cells #[.int .u64 (hi p : Nat), .int .u64 (lo p : Nat)] 48)).alloc (.cells #[.int .u64 (hi q : Nat), .int .u64 (lo q : Nat)] 48)) = W2x := ⟨_, rfl⟩
  have hm : Mem w W2x [((w1.heap.size + 1), #[.int .u64 (hi q : Nat), .int .u64 (lo q : Nat)]), (w1.heap.size, #[.int .u64 (hi p : Nat), .int .u64 (lo p : Nat)]), ((w.heap.size + 1 + 1), #[.int .i64 0, .int .i64 0]), ((w.heap.size + 1), #[.int .u64 (hi d : Nat), .int .u64 (lo d : Nat)]), (w.heap.size, #[.bool false, .int .u64 (hi n : Nat), .int .u64 (lo n : Nat)])] := by rw [← hW2x]; exact ((HMw1.out.new w1.heap.size _ _ rfl).new (w1.heap.size + 1) _ _ (by simp))
  rw [hW2x]
  clear hW2x HMw1
  have mk : ∀ w', Mem w w' [((w1.heap.size + 1), #[.int .u64 (hi q : Nat), .int .u64 (lo q : Nat)]), (w1.heap.size, #[.int .u64 (hi p : Nat), .int .u64 (lo p : Nat)]), ((w.heap.size + 1 + 1), #[.int .i64 0, .int .i64 0]), ((w.heap.size + 1), #[.int .u64 (hi d : Nat), .int .u64 (lo d : Nat)]), (w.heap.size, #[.bool false, .int .u64 (hi n : Nat), .int .u64 (lo n : Nat)])] → (fun w' => w'.cell? ⟨w.heap.size, 0, none⟩ = some (.bool false) ∧ w'.cell? ⟨w.heap.size, 1, none⟩ = some (.int .u64 (hi n : Nat)) ∧ w'.cell? ⟨w.heap.size, 2, none⟩ = some (.int .u64 (lo n : Nat)) ∧ w'.cell? ⟨w1.heap.size, 0, none⟩ = some (.int .u64 (hi p : Nat)) ∧ w'.cell? ⟨w1.heap.size, 1, none⟩ = some (.int .u64 (lo p : Nat)) ∧ Hid (Mem w w' [((w1.heap.size + 1), #[.int .u64 (hi q : Nat), .int .u64 (lo q : Nat)]), (w1.heap.size, #[.int .u64 (hi p : Nat), .int .u64 (lo p : Nat)]), ((w.heap.size + 1 + 1), #[.int .i64 0, .int .i64 0]), ((w.heap.size + 1), #[.int .u64 (hi d : Nat), .int .u64 (lo d : Nat)]), (w.heap.size, #[.bool false, .int .u64 (hi n : Nat), .int .u64 (lo n : Nat)])])) w' := fun w' h => ⟨h.cell 4 rfl rfl, h.cell 4 rfl rfl, h.cell 4 rfl rfl, h.cell 1 rfl rfl, h.cell 1 rfl rfl, Lib.hid h⟩
  have hok : OwnOk (fun w' => w'.cell? ⟨w.heap.size, 0, none⟩ = some (.bool false) ∧ w'.cell? ⟨w.heap.size, 1, none⟩ = some (.int .u64 (hi n : Nat)) ∧ w'.cell? ⟨w.heap.size, 2, none⟩ = some (.int .u64 (lo n : Nat)) ∧ w'.cell? ⟨w1.heap.size, 0, none⟩ = some (.int .u64 (hi p : Nat)) ∧ w'.cell? ⟨w1.heap.size, 1, none⟩ = some (.int .u64 (lo p : Nat)) ∧ Hid (Mem w w' [((w1.heap.size + 1), #[.int .u64 (hi q : Nat), .int .u64 (lo q : Nat)]), (w1.heap.size, #[.int .u64 (hi p : Nat), .int .u64 (lo p : Nat)]), ((w.heap.size + 1 + 1), #[.int .i64 0, .int .i64 0]), ((w.heap.size + 1), #[.int .u64 (hi d : Nat), .int .u64 (lo d : Nat)]), (w.heap.size, #[.bool false, .int .u64 (hi n : Nat), .int .u64 (lo n : Nat)])])) W2x.heap.size [] := own0_ok (fun v1 v2 h hb => mk _ (h.2.2.2.2.2.out.step hb hm.lts hm.low.size))
  have hfit : ∀ i, (∀ e ∈ ([] : List Ent), e.x ≠ i ∧ e.s ≠ i) → Fit (fun w' => w'.cell? ⟨w.heap.size, 0, none⟩ = some (.bool false) ∧ w'.cell? ⟨w.heap.size, 1, none⟩ = some (.int .u64 (hi n : Nat)) ∧ w'.cell? ⟨w.heap.size, 2, none⟩ = some (.int .u64 (lo n : Nat)) ∧ w'.cell? ⟨w1.heap.size, 0, none⟩ = some (.int .u64 (hi p : Nat)) ∧ w'.cell? ⟨w1.heap.size, 1, none⟩ = some (.int .u64 (lo p : Nat)) ∧ Hid (Mem w w' [((w1.heap.size + 1), #[.int .u64 (hi q : Nat), .int .u64 (lo q : Nat)]), (w1.heap.size, #[.int .u64 (hi p : Nat), .int .u64 (lo p : Nat)]), ((w.heap.size + 1 + 1), #[.int .i64 0, .int .i64 0]), ((w.heap.size + 1), #[.int .u64 (hi d : Nat), .int .u64 (lo d : Nat)]), (w.heap.size, #[.bool false, .int .u64 (hi n : Nat), .int .u64 (lo n : Nat)])])) (Sof (fun w' => w'.cell? ⟨w.heap.size, 0, none⟩ = some (.bool false) ∧ w'.cell? ⟨w.heap.size, 1, none⟩ = some (.int .u64 (hi n : Nat)) ∧ w'.cell? ⟨w.heap.size, 2, none⟩ = some (.int .u64 (lo n : Nat)) ∧ w'.cell? ⟨w1.heap.size, 0, none⟩ = some (.int .u64 (hi p : Nat)) ∧ w'.cell? ⟨w1.heap.size, 1, none⟩ = some (.int .u64 (lo p : Nat)) ∧ Hid (Mem w w' [((w1.heap.size + 1), #[.int .u64 (hi q : Nat), .int .u64 (lo q : Nat)]), (w1.heap.size, #[.int .u64 (hi p : Nat), .int .u64 (lo p : Nat)]), ((w.heap.size + 1 + 1), #[.int .i64 0, .int .i64 0]), ((w.heap.size + 1), #[.int .u64 (hi d : Nat), .int .u64 (lo d : Nat)]), (w.heap.size, #[.bool false, .int .u64 (hi n : Nat), .int .u64 (lo n : Nat)])])) W2x.heap.size []) i := fun i hi => sof_fit hok.st hok.loc hi
  have HOK := Lib.hid hok; have HF := Lib.hid hfit; clear hok hfit
  refine wp_region_ab (S0 := (fun w' => w'.cell? ⟨w.heap.size, 0, none⟩ = some (.bool false) ∧ w'.cell? ⟨w.heap.size, 1, none⟩ = some (.int .u64 (hi n : Nat)) ∧ w'.cell? ⟨w.heap.size, 2, none⟩ = some (.int .u64 (lo n : Nat)) ∧ w'.cell? ⟨w1.heap.size, 0, none⟩ = some (.int .u64 (hi p : Nat)) ∧ w'.cell? ⟨w1.heap.size, 1, none⟩ = some (.int .u64 (lo p : Nat)) ∧ Hid (Mem w w' [((w1.heap.size + 1), #[.int .u64 (hi q : Nat), .int .u64 (lo q : Nat)]), (w1.heap.size, #[.int .u64 (hi p : Nat), .int .u64 (lo p : Nat)]), ((w.heap.size + 1 + 1), #[.int .i64 0, .int .i64 0]), ((w.heap.size + 1), #[.int .u64 (hi d : Nat), .int .u64 (lo d : Nat)]), (w.heap.size, #[.bool false, .int .u64 (hi n : Nat), .int .u64 (lo n : Nat)])]))) W2x.heap.size [] (by kernel_rfl) (mk _ hm.drew) (Nat.le_refl _) (by simp) ?_
  have HMK := Lib.hid mk
  clear hm mk
  refine abTake 0 (some 20) (v := ?_) rfl rfl (by kernel_rfl) (by kernel_rfl) (by kernel_rfl) (fun _ _ _ h => h) (HF.out _ (by simp)) (by rfl) ?_ ?_
  rotate_left 1
  · (intro w hSw; (try dsimp only at hSw); go_simp; try with_reducible rfl)
  simp only [Act.put, List.setIfInBounds_toArray, List.set_cons_zero, List.set_cons_succ]
  refine abTake 1 (some 21) (v := ?_) rfl rfl (by kernel_rfl) (by kernel_rfl) (by kernel_rfl) (fun _ _ _ h => h) (HF.out _ (by simp)) (by rfl) ?_ ?_
  rotate_left 1
  · (intro w hSw; (try dsimp only at hSw); go_simp; try with_reducible rfl)
  simp only [Act.put, List.setIfInBounds_toArray, List.set_cons_zero, List.set_cons_succ]
  refine abTake 2 (some 22) (v := ?_) rfl rfl (by kernel_rfl) (by kernel_rfl) (by kernel_rfl) (fun _ _ _ h => h) (HF.out _ (by simp)) (by rfl) ?_ ?_
  rotate_left 1
  · (intro w hSw; (try dsimp only at hSw); go_simp; try with_reducible rfl)
  simp only [Act.put, List.setIfInBounds_toArray, List.set_cons_zero, List.set_cons_succ]
  refine abSkip 3 (some 23) rfl rfl (by kernel_rfl) (by kernel_rfl) (by kernel_rfl) (fun _ _ _ h => h) (HF.out _ (by simp)) (by rfl) ?_
  simp only [Act.put, List.setIfInBounds_toArray, List.set_cons_zero, List.set_cons_succ]
  refine abSkip 4 (some 24) rfl rfl (by kernel_rfl) (by kernel_rfl) (by kernel_rfl) (fun _ _ _ h => h) (HF.out _ (by simp)) (by rfl) ?_
  simp only [Act.put, List.setIfInBounds_toArray, List.set_cons_zero, List.set_cons_succ]
  refine abSkip 5 (some 25) rfl rfl (by kernel_rfl) (by kernel_rfl) (by kernel_rfl) (fun _ _ _ h => h) (HF.out _ (by simp)) (by rfl) ?_
  simp only [Act.put, List.setIfInBounds_toArray, List.set_cons_zero, List.set_cons_succ]
  refine abTake 6 (some 26) (v := ?_) rfl rfl (by kernel_rfl) (by kernel_rfl) (by kernel_rfl) (fun _ _ _ h => h) (HF.out _ (by simp)) (by rfl) ?_ ?_
  rotate_left 1
  · (intro w hSw; (try dsimp only at hSw); go_simp; try with_reducible rfl)
  simp only [Act.put, List.setIfInBounds_toArray, List.set_cons_zero, List.set_cons_succ]
  refine abTake 7 (some 27) (v := ?_) rfl rfl (by kernel_rfl) (by kernel_rfl) (by kernel_rfl) (fun _ _ _ h => h) (HF.out _ (by simp)) (by rfl) ?_ ?_
  rotate_left 1
  · (intro w hSw; (try dsimp only at hSw); go_simp; try with_reducible rfl)
  simp only [Act.put, List.setIfInBounds_toArray, List.set_cons_zero, List.set_cons_succ]
  refine abTake 8 (some 28) (v := ?_) rfl rfl (by kernel_rfl) (by kernel_rfl) (by kernel_rfl) (fun _ _ _ h => h) (HF.out _ (by simp)) (by rfl) ?_ ?_
  rotate_left 1
  · (intro w hSw; (try dsimp only at hSw); go_simp; try with_reducible rfl)
  simp only [Act.put, List.setIfInBounds_toArray, List.set_cons_zero, List.set_cons_succ]
  refine abCall 9 (some 29) rfl rfl (by kernel_rfl) (by kernel_rfl) (by kernel_rfl) (fun _ _ _ h => h) (HF.out _ (by simp)) (by rfl) ?_ (fun w hSw => M2.out _) ?_
  · (intro w hSw; (try dsimp only at hSw); go_simp; try with_reducible rfl)
  simp only [Act.put, List.setIfInBounds_toArray, List.set_cons_zero, List.set_cons_succ]
  refine abTake 10 (some 19) (v := ?_) rfl rfl (by kernel_rfl) (by kernel_rfl) (by kernel_rfl) (fun _ _ _ h => h) (HF.out _ (by simp)) (by rfl) ?_ ?_
  rotate_left 1
  · (intro w hSw; (try dsimp only at hSw); go_simp; try with_reducible rfl)
  simp only [Act.put, List.setIfInBounds_toArray, List.set_cons_zero, List.set_cons_succ]
  refine abTake 11 (some 30) (v := ?_) rfl rfl (by kernel_rfl) (by kernel_rfl) (by kernel_rfl) (fun _ _ _ h => h) (HF.out _ (by simp)) (by rfl) ?_ ?_
  rotate_left 1
  · (intro w hSw; (try dsimp only at hSw); go_simp; try with_reducible rfl)
  simp only [Act.put, List.setIfInBounds_toArray, List.set_cons_zero, List.set_cons_succ]
  refine abTake 12 (some 31) (v := ?_) rfl rfl (by kernel_rfl) (by kernel_rfl) (by kernel_rfl) (fun _ _ _ h => h) (HF.out _ (by simp)) (by rfl) ?_ ?_
  rotate_left 1
  · (intro w hSw; (try dsimp only at hSw); go_simp; try with_reducible rfl)
  simp only [Act.put, List.setIfInBounds_toArray, List.set_cons_zero, List.set_cons_succ]
  refine abTake 13 (some 8) (v := ?_) rfl rfl (by kernel_rfl) (by kernel_rfl) (by kernel_rfl) (fun _ _ _ h => h) (HF.out _ (by simp)) (by rfl) ?_ ?_
  rotate_left 1
  · (intro w hSw; (try dsimp only at hSw); go_simp; try with_reducible rfl)
  simp only [Act.put, List.setIfInBounds_toArray, List.set_cons_zero, List.set_cons_succ]
  refine abTake 14 (some 9) (v := ?_) rfl rfl (by kernel_rfl) (by kernel_rfl) (by kernel_rfl) (fun _ _ _ h => h) (HF.out _ (by simp)) (by rfl) ?_ ?_
  rotate_left 1
  · (intro w hSw; (try dsimp only at hSw); go_simp; try with_reducible rfl)
  simp only [Act.put, List.setIfInBounds_toArray, List.set_cons_zero, List.set_cons_succ]
  refine abDone (by kernel_rfl) ?_ _
  rintro w2 hS
  have HMw2 := Lib.hid (hS.1.2.2.2.2.2.out)
  clear hS HOK HF HMK
  have ly : (w1.heap.size + 1) < w2.heap.size := HMw2.out.lt 0 rfl
  have cy0 : w2.cell? ⟨(w1.heap.size + 1), 0, none⟩ = some (.int .u64 (hi q : Nat)) := HMw2.out.cell 0 rfl rfl
  have cy1 : w2.cell? ⟨(w1.heap.size + 1), 1, none⟩ = some (.int .u64 (lo q : Nat)) := HMw2.out.cell 0 rfl rfl
  go_wp2_with fail
  refine (M3.out _).mono ?_
  rintro e w3 ⟨rfl, hb⟩
  have HMw3 := Lib.hid (HMw2.out.call hb)
  clear hb ly cy0 cy1 HMw2
  have lr : (w.heap.size + 1 + 1) < w3.heap.size := HMw3.out.lt 2 rfl
  have cr0 : w3.cell? ⟨(w.heap.size + 1 + 1), 0, none⟩ = some (.int .i64 0) := HMw3.out.cell 2 rfl rfl
  have fr0 : w3.frozen? ⟨(w.heap.size + 1 + 1), 0, none⟩ = false := HMw3.out.free 2 rfl 0
  have cr1 : w3.cell? ⟨(w.heap.size + 1 + 1), 1, none⟩ = some (.int .i64 0) := HMw3.out.cell 2 rfl rfl
  have fr1 : w3.frozen? ⟨(w.heap.size + 1 + 1), 1, none⟩ = false := HMw3.out.free 2 rfl 1
  go_wp2_with fail
  exact bodyPost_ret (v := .tuple #[.agg #[.int .i64 x, .int .i64 y], .int .i64 0]) (by simp [results, Try.results30, go_sem, cr0, cr1]) rfl ⟨rfl, (((HMw3.out.set 2 0 (.int .i64 x) rfl).set 2 1 (.int .i64 y) rfl).to (l' := [((w1.heap.size + 1), #[.int .u64 (hi q : Nat), .int .u64 (lo q : Nat)]), (w1.heap.size, #[.int .u64 (hi p : Nat), .int .u64 (lo p : Nat)]), ((w.heap.size + 1 + 1), #[.int .i64 x, .int .i64 y]), ((w.heap.size + 1), #[.int .u64 (hi d : Nat), .int .u64 (lo d : Nat)]), (w.heap.size, #[.bool false, .int .u64 (hi n : Nat), .int .u64 (lo n : Nat)])]) rfl).low⟩
theorem rqlow_any (B : Bool) (n d : Nat) (hn : n < M128) (hd : d < M128) (h0 : d ≠ 0) (w : World) :
    Calls Try.prog 30 #[.agg #[.bool B, .int .u64 (hi n : Nat), .int .u64 (lo n : Nat)], .agg #[.int .u64 (hi d : Nat), .int .u64 (lo d : Nat)]] w fun en w' => en = .returned (.tuple #[.agg #[.int .i64 (raN (sgn B n) d), .int .i64 (raD (sgn B n) d)], .int .i64 (raE (sgn B n) d)]) ∧ Below w.heap.size w w' := by
  have m1 := rlowest_any n d hn hd h0
  have m3 := fun w => rint_any false (d / Nat.gcd n d) (Nat.lt_of_le_of_lt (Nat.div_le_self _ _) hd) w
  have e1 : lowD (sgn B n) d = sgn false (d / Nat.gcd n d) := by unfold lowD; rw [sgn_natAbs, Int.natAbs_natCast]; rfl
  have e2 : ∀ C, C = (B && !decide (n / Nat.gcd n d = 0)) → lowN (sgn B n) d = sgn C (n / Nat.gcd n d) := by
    intro C hC
    unfold lowN
    rw [sgn_natAbs, Int.natAbs_natCast, decide_eq_false (by omega : ¬ (d : Int) < 0)]
    subst hC
    by_cases k : n / Nat.gcd n d = 0
    · rw [k, sgn_zero, sgn_zero]
    · have n0 : n ≠ 0 := fun e => k (by rw [e, Nat.zero_div])
      rw [decide_eq_false k]
      congr 1
      cases B
      · rw [decide_eq_false (by unfold sgn; rw [if_neg (by decide)]; omega)]; rfl
      · rw [decide_eq_true (by unfold sgn; rw [if_pos rfl]; omega)]; rfl
  have hnum : ∀ C, C = (B && !decide (n / Nat.gcd n d = 0)) → ∀ w, Calls Try.prog 52 #[.agg #[.bool C, .int .u64 (hi (n / Nat.gcd n d) : Nat), .int .u64 (lo (n / Nat.gcd n d) : Nat)]] w fun en w' => en = .returned (.tuple #[.int .i64 (ans (lowN (sgn B n) d)), .bool (decide (IsInt (lowN (sgn B n) d)))]) ∧ Below w.heap.size w w' := by
    intro C hC w
    rw [e2 C hC]
    exact rint_any C (n / Nat.gcd n d) (Nat.lt_of_le_of_lt (Nat.div_le_self _ _) hn) w
  rw [← e1] at m3
  have hz : (d : Int) ≠ 0 := by omega
  have e := eqZero (n / Nat.gcd n d)
  by_cases i : IsInt (lowN (sgn B n) d)
  · by_cases j : IsInt (lowD (sgn B n) d)
    · have ok : Fits (sgn B n) d := ⟨hz, i, j⟩
      rw [raN_ok ok, raD_ok ok, raE_ok ok]
      rw [ans_ok j, decide_eq_true j] at m3
      rw [ans_ok i, decide_eq_true i] at hnum
      cases B
      · exact rqlow_false_ok _ _ _ _ _ _ w m1 (hnum _ rfl) m3
      · exact rqlow_true_ok _ _ _ _ _ _ _ w e m1 (hnum _ rfl) m3
    · have no : ¬ Fits (sgn B n) d := fun k => j k.2.2
      rw [raN_no no, raD_no no, raE_no hz no]
      rw [decide_eq_false j] at m3
      rw [decide_eq_true i] at hnum
      cases B
      · exact rqlow_false_den _ _ _ _ _ _ w m1 (hnum _ rfl) m3
      · exact rqlow_true_den _ _ _ _ _ _ _ w e m1 (hnum _ rfl) m3
  · have no : ¬ Fits (sgn B n) d := fun k => i k.2.1
    rw [raN_no no, raD_no no, raE_no hz no]
    rw [decide_eq_false i] at hnum
    cases B
    · exact rqlow_false_num _ _ _ _ _ _ _ w m1 (hnum _ rfl) m3
    · exact rqlow_true_num _ _ _ _ _ _ _ _ w e m1 (hnum _ rfl) m3
theorem rqnew_core (n d x y e : Int) (b : Bool) (C : Bool) (k l : Int) (q : Nat) (w : World) (hC : (!(decide (n < 0) == decide (d < 0))) = C)
    (m1 : ∀ w, Calls Try.prog 29 #[.int .i64 n] w fun en w' => en = .returned (.agg #[.bool b, .int .u64 k, .int .u64 l]) ∧ Below w.heap.size w w')
    (m2 : ∀ w, Calls Try.prog 27 #[.int .i64 d] w fun en w' => en = .returned (.agg #[.int .u64 (hi q : Nat), .int .u64 (lo q : Nat)]) ∧ Below w.heap.size w w')
    (m3 : ∀ w, Calls Try.prog 30 #[.agg #[.bool C, .int .u64 k, .int .u64 l], .agg #[.int .u64 (hi q : Nat), .int .u64 (lo q : Nat)]] w fun en w' => en = .returned (.tuple #[.agg #[.int .i64 x, .int .i64 y], .int .i64 e]) ∧ Below w.heap.size w w') :
    Calls Try.prog 12 #[.int .i64 n, .int .i64 d] w fun en w' => en = .returned (.tuple #[.agg #[.int .i64 x, .int .i64 y], .int .i64 e]) ∧ Below w.heap.size w w' := by
  have M1 := Lib.hid m1; have M2 := Lib.hid m2; have M3 := Lib.hid m3
  clear m1 m2 m3
  go_enter Try.func12, Try.ntmps12
  go_wp2_with fail
  refine (M1.out _).mono ?_
  rintro e w1 ⟨rfl, hb⟩
  have HMw1 := Lib.hid (((Mem.start w).new w.heap.size _ _ rfl).call hb)
  clear hb
  go_upto_region 3 with fail
  obtain ⟨W3x, hW3x⟩ : ∃ W3x, (w1.alloc (.cells #[.bool C, .int .u64 k, .int .u64 l] 59)) = W3x := ⟨_, rfl⟩
  have hm : Mem w W3x [(w1.heap.size, #[.bool C, .int .u64 k, .int .u64 l]), (w.heap.size, #[.int .i64 0, .int .i64 0])] := by rw [← hW3x]; exact (HMw1.out.new w1.heap.size _ _ rfl)
  rw [hW3x]
  clear hW3x HMw1
  refine wp_region_held_drew (S := (fun w' => w'.cell? ⟨w1.heap.size, 0, none⟩ = some (.bool C) ∧ w'.cell? ⟨w1.heap.size, 1, none⟩ = some (.int .u64 k) ∧ w'.cell? ⟨w1.heap.size, 2, none⟩ = some (.int .u64 l) ∧ Hid (Below w.heap.size w w'))) (by kernel_rfl) ⟨(hm.drew).cell 0 rfl rfl, (hm.drew).cell 0 rfl rfl, (hm.drew).cell 0 rfl rfl, Lib.hid (hm.drew).low⟩ (fun hHeld => ?_)
  replace hm := hm.drew
  refine regTake 0 (some 15) (v := ?_) rfl rfl (by kernel_rfl) (by kernel_rfl) (by kernel_rfl) (fun _ _ _ h => h) (by rfl) hHeld ?_ ?_
  rotate_left 1
  · (intro w hSw; (try dsimp only at hSw); go_simp; try with_reducible rfl)
  simp only [Act.put, List.setIfInBounds_toArray, List.set_cons_zero, List.set_cons_succ]
  refine regTake 1 (some 16) (v := ?_) rfl rfl (by kernel_rfl) (by kernel_rfl) (by kernel_rfl) (fun _ _ _ h => h) (by rfl) hHeld ?_ ?_
  rotate_left 1
  · (intro w hSw; (try dsimp only at hSw); go_simp; try with_reducible rfl)
  simp only [Act.put, List.setIfInBounds_toArray, List.set_cons_zero, List.set_cons_succ]
  refine regCall 2 (some 17) (f := 27) (args := ?_) rfl rfl (by kernel_rfl) (by rfl) ?_ ?_
  rotate_left 1
  · (go_simp; try with_reducible rfl)
  refine (M2.out _).mono ?_
  rintro e wx2 ⟨rfl, hbx⟩
  refine ⟨_, rfl, ⟨(hm.call hbx).cell 0 rfl rfl, (hm.call hbx).cell 0 rfl rfl, (hm.call hbx).cell 0 rfl rfl, Lib.hid (hm.call hbx).low⟩, fun hHeld => ?_⟩
  simp only [Act.put, List.setIfInBounds_toArray, List.set_cons_zero, List.set_cons_succ]
  replace hm := hm.call hbx
  clear hbx
  refine regCall 3 (some 18) (f := 30) (args := ?_) rfl rfl (by kernel_rfl) (by rfl) ?_ ?_
  rotate_left 1
  · (go_simp; try with_reducible rfl)
  refine (M3.out _).mono ?_
  rintro e wx3 ⟨rfl, hbx⟩
  refine ⟨_, rfl, ⟨(hm.call hbx).cell 0 rfl rfl, (hm.call hbx).cell 0 rfl rfl, (hm.call hbx).cell 0 rfl rfl, Lib.hid (hm.call hbx).low⟩, fun hHeld => ?_⟩
  simp only [Act.put, List.setIfInBounds_toArray, List.set_cons_zero, List.set_cons_succ]
  replace hm := hm.call hbx
  clear hbx
  refine regTake 4 (some 19) (v := ?_) rfl rfl (by kernel_rfl) (by kernel_rfl) (by kernel_rfl) (fun _ _ _ h => h) (by rfl) hHeld ?_ ?_
  rotate_left 1
  · (intro w hSw; (try dsimp only at hSw); go_simp; try with_reducible rfl)
  simp only [Act.put, List.setIfInBounds_toArray, List.set_cons_zero, List.set_cons_succ]
  refine regTake 5 (some 20) (v := ?_) rfl rfl (by kernel_rfl) (by kernel_rfl) (by kernel_rfl) (fun _ _ _ h => h) (by rfl) hHeld ?_ ?_
  rotate_left 1
  · (intro w hSw; (try dsimp only at hSw); go_simp; try with_reducible rfl)
  simp only [Act.put, List.setIfInBounds_toArray, List.set_cons_zero, List.set_cons_succ]
  have x0 : wx3.cell? ⟨w.heap.size, 0, none⟩ = some (.int .i64 0) := hm.cell 1 rfl rfl
  have y0 : wx3.frozen? ⟨w.heap.size, 0, none⟩ = false := hm.free 1 rfl 0
  have x1 : wx3.cell? ⟨w.heap.size, 1, none⟩ = some (.int .i64 0) := hm.cell 1 rfl rfl
  have y1 : wx3.frozen? ⟨w.heap.size, 1, none⟩ = false := hm.free 1 rfl 1
  have z0 : w.heap.size < wx3.heap.size := hm.lt 1 rfl
  replace hm : Mem w ((wx3.setCell ⟨w.heap.size, 0, none⟩ (.int .i64 x)).setCell ⟨w.heap.size, 1, none⟩ (.int .i64 y)) [(w1.heap.size, #[.bool C, .int .u64 k, .int .u64 l]), (w.heap.size, #[.int .i64 x, .int .i64 y])] := ((hm.set 1 0 (.int .i64 x) rfl).set 1 1 (.int .i64 y) rfl).to rfl
  refine regStore 6 (w' := ?_) rfl rfl (by kernel_rfl) (by rfl) ?_ ?_ (fun hHeld => ?_)
  rotate_left 1
  · (go_simp; try with_reducible rfl)
  · exact ⟨(hm).cell 0 rfl rfl, (hm).cell 0 rfl rfl, (hm).cell 0 rfl rfl, Lib.hid (hm).low⟩
  clear z0 x0 y0 x1 y1
  refine regTake 7 (some 5) (v := ?_) rfl rfl (by kernel_rfl) (by kernel_rfl) (by kernel_rfl) (fun _ _ _ h => h) (by rfl) hHeld ?_ ?_
  rotate_left 1
  · (intro w hSw; (try dsimp only at hSw); go_simp; try with_reducible rfl)
  simp only [Act.put, List.setIfInBounds_toArray, List.set_cons_zero, List.set_cons_succ]
  refine wpAnyH_done (by kernel_rfl) ?_ _
  clear hHeld
  obtain ⟨w3, hw3⟩ : ∃ w3, ((wx3.setCell ⟨w.heap.size, 0, none⟩ (.int .i64 x)).setCell ⟨w.heap.size, 1, none⟩ (.int .i64 y)) = w3 := ⟨_, rfl⟩
  rw [hw3] at hm ⊢
  have HMw3 := Lib.hid hm
  clear hm hw3
  have lr : w.heap.size < w3.heap.size := HMw3.out.lt 1 rfl
  have cr0 : w3.cell? ⟨w.heap.size, 0, none⟩ = some (.int .i64 x) := HMw3.out.cell 1 rfl rfl
  have cr1 : w3.cell? ⟨w.heap.size, 1, none⟩ = some (.int .i64 y) := HMw3.out.cell 1 rfl rfl
  go_wp2_with fail
  exact bodyPost_ret (v := .tuple #[.agg #[.int .i64 x, .int .i64 y], .int .i64 e]) (by simp [results, Try.results12, go_sem, cr0, cr1]) rfl ⟨rfl, HMw3.out.low⟩
theorem sgn_of (n d : Int) : sgn (!(decide (n < 0) == decide (d < 0))) n.natAbs = if d < 0 then -n else n := by
  unfold sgn
  by_cases h : n < 0 <;> by_cases k : d < 0 <;> simp [h, k] <;> omega
/-- The same ratio with the divisor's sign turned. -/
theorem low_turn (n d : Int) : lowN (if d < 0 then -n else n) (d.natAbs : Nat) = lowN n d ∧ lowD (if d < 0 then -n else n) (d.natAbs : Nat) = lowD n d := by
  have a : (if d < 0 then -n else n).natAbs = n.natAbs := by split <;> omega
  unfold lowN lowD
  rw [a, Int.natAbs_natCast, decide_eq_false (by omega : ¬ ((d.natAbs : Nat) : Int) < 0)]
  refine ⟨?_, rfl⟩
  by_cases z : n = 0
  · subst z
    rw [show Int.natAbs 0 / Nat.gcd (Int.natAbs 0) d.natAbs = 0 from Nat.zero_div _, sgn_zero, sgn_zero]
  · congr 1
    by_cases k : d < 0
    · rw [if_pos k, decide_eq_true k]
      by_cases h : n < 0
      · rw [decide_eq_true h, decide_eq_false (by omega)]; rfl
      · rw [decide_eq_false h, decide_eq_true (by omega)]; rfl
    · rw [if_neg k, decide_eq_false k]
theorem ra_turn (n d : Int) (h0 : d ≠ 0) : raN (if d < 0 then -n else n) (d.natAbs : Nat) = raN n d ∧ raD (if d < 0 then -n else n) (d.natAbs : Nat) = raD n d ∧ raE (if d < 0 then -n else n) (d.natAbs : Nat) = raE n d := by
  obtain ⟨h1, h2⟩ := low_turn n d
  have hz : ((d.natAbs : Nat) : Int) ≠ 0 := by omega
  have hf : Fits (if d < 0 then -n else n) (d.natAbs : Nat) ↔ Fits n d := by
    unfold Fits; rw [h1, h2]
    exact ⟨fun k => ⟨h0, k.2⟩, fun k => ⟨hz, k.2⟩⟩
  by_cases k : Fits n d
  · have k' := hf.2 k
    rw [raN_ok k, raD_ok k, raE_ok k, raN_ok k', raD_ok k', raE_ok k']
    exact ⟨h1, h2, rfl⟩
  · have k' : ¬ Fits (if d < 0 then -n else n) (d.natAbs : Nat) := fun j => k (hf.1 j)
    rw [raN_no k, raD_no k, raE_no h0 k, raN_no k', raD_no k', raE_no hz k']
    exact ⟨rfl, rfl, rfl⟩
theorem rqnew_any (n d : Int) (hn : IsInt n) (hd : IsInt d) (h0 : d ≠ 0) (w : World) :
    Calls Try.prog 12 #[.int .i64 n, .int .i64 d] w fun en w' => en = .returned (.tuple #[.agg #[.int .i64 (raN n d), .int .i64 (raD n d)], .int .i64 (raE n d)]) ∧ Below w.heap.size w w' := by
  have m3 := fun w => rqlow_any (!(decide (n < 0) == decide (d < 0))) n.natAbs d.natAbs (int_M hn) (int_M hd) (by omega) w
  obtain ⟨e1, e2, e3⟩ := ra_turn n d h0
  rw [sgn_of, e1, e2, e3] at m3
  exact rqnew_core n d _ _ _ _ _ _ _ _ w rfl (of_z n hn) (rsize_any d hd) m3
theorem rqless_tf (x y : Nat) (w : World) :
    Calls Try.prog 38 #[.agg #[.bool true, .int .u64 (hi x : Nat), .int .u64 (lo x : Nat)], .agg #[.bool false, .int .u64 (hi y : Nat), .int .u64 (lo y : Nat)]] w fun en w' => en = .returned (.bool true) ∧ Below w.heap.size w w' := by
  go_enter Try.func38, Try.ntmps38
  go_wp2_with fail
  go_ret
  exact ⟨rfl, (((Mem.start w).new w.heap.size _ _ rfl).new (w.heap.size + 1) _ _ (by simp)).low⟩
theorem rqless_ft (x y : Nat) (w : World) :
    Calls Try.prog 38 #[.agg #[.bool false, .int .u64 (hi x : Nat), .int .u64 (lo x : Nat)], .agg #[.bool true, .int .u64 (hi y : Nat), .int .u64 (lo y : Nat)]] w fun en w' => en = .returned (.bool false) ∧ Below w.heap.size w w' := by
  go_enter Try.func38, Try.ntmps38
  go_wp2_with fail
  go_ret
  exact ⟨rfl, (((Mem.start w).new w.heap.size _ _ rfl).new (w.heap.size + 1) _ _ (by simp)).low⟩
theorem rqless_tt (x y : Nat) (L : Bool) (w : World)
    (m1 : ∀ w, Calls Try.prog 61 #[.agg #[.int .u64 (hi y : Nat), .int .u64 (lo y : Nat)], .agg #[.int .u64 (hi x : Nat), .int .u64 (lo x : Nat)]] w fun en w' => en = .returned (.bool L) ∧ Below w.heap.size w w') :
    Calls Try.prog 38 #[.agg #[.bool true, .int .u64 (hi x : Nat), .int .u64 (lo x : Nat)], .agg #[.bool true, .int .u64 (hi y : Nat), .int .u64 (lo y : Nat)]] w fun en w' => en = .returned (.bool L) ∧ Below w.heap.size w w' := by
  have M1 := Lib.hid m1
  clear m1
  go_enter Try.func38, Try.ntmps38
  go_wp2_with fail
  refine (M1.out _).mono ?_
  rintro e w1 ⟨rfl, hb⟩
  have HMw1 := Lib.hid ((((Mem.start w).new w.heap.size _ _ rfl).new (w.heap.size + 1) _ _ (by simp)).call hb)
  clear hb
  go_wp2_with fail
  go_ret
  exact ⟨rfl, HMw1.out.low⟩
theorem rqless_ff (x y : Nat) (L : Bool) (w : World)
    (m1 : ∀ w, Calls Try.prog 61 #[.agg #[.int .u64 (hi x : Nat), .int .u64 (lo x : Nat)], .agg #[.int .u64 (hi y : Nat), .int .u64 (lo y : Nat)]] w fun en w' => en = .returned (.bool L) ∧ Below w.heap.size w w') :
    Calls Try.prog 38 #[.agg #[.bool false, .int .u64 (hi x : Nat), .int .u64 (lo x : Nat)], .agg #[.bool false, .int .u64 (hi y : Nat), .int .u64 (lo y : Nat)]] w fun en w' => en = .returned (.bool L) ∧ Below w.heap.size w w' := by
  have M1 := Lib.hid m1
  clear m1
  go_enter Try.func38, Try.ntmps38
  go_wp2_with fail
  refine (M1.out _).mono ?_
  rintro e w1 ⟨rfl, hb⟩
  have HMw1 := Lib.hid ((((Mem.start w).new w.heap.size _ _ rfl).new (w.heap.size + 1) _ _ (by simp)).call hb)
  clear hb
  go_wp2_with fail
  go_ret
  exact ⟨rfl, HMw1.out.low⟩
theorem rqless_any (x y : Int) (w : World) :
    Calls Try.prog 38 #[zS x, zS y] w fun en w' => en = .returned (.bool (decide (x < y))) ∧ Below w.heap.size w w' := by
  have h1 := fun w => rless_any x.natAbs y.natAbs w
  have h2 := fun w => rless_any y.natAbs x.natAbs w
  unfold zS
  by_cases a : x < 0 <;> by_cases b : y < 0
  · rw [show ltW y.natAbs x.natAbs = decide (x < y) from decide_eq_decide.2 (by omega)] at h2
    rw [decide_eq_true a, decide_eq_true b]
    exact rqless_tt _ _ _ w h2
  · rw [decide_eq_true a, decide_eq_false b, decide_eq_true (by omega : x < y)]
    exact rqless_tf _ _ w
  · rw [decide_eq_false a, decide_eq_true b, decide_eq_false (by omega : ¬ x < y)]
    exact rqless_ft _ _ w
  · rw [show ltW x.natAbs y.natAbs = decide (x < y) from decide_eq_decide.2 (by omega)] at h1
    rw [decide_eq_false a, decide_eq_false b]
    exact rqless_ff _ _ _ w h1
theorem rqcmp_less (a1 a2 b1 b2 : Int) (c1 c2 : Bool) (k1 l1 k2 l2 : Int) (w : World)
    (m1 : ∀ w, Calls Try.prog 37 #[.int .i64 a1, .int .i64 b2] w fun en w' => en = .returned (.agg #[.bool c1, .int .u64 k1, .int .u64 l1]) ∧ Below w.heap.size w w')
    (m2 : ∀ w, Calls Try.prog 37 #[.int .i64 b1, .int .i64 a2] w fun en w' => en = .returned (.agg #[.bool c2, .int .u64 k2, .int .u64 l2]) ∧ Below w.heap.size w w')
    (m3 : ∀ w, Calls Try.prog 38 #[.agg #[.bool c1, .int .u64 k1, .int .u64 l1], .agg #[.bool c2, .int .u64 k2, .int .u64 l2]] w fun en w' => en = .returned (.bool true) ∧ Below w.heap.size w w') :
    Calls Try.prog 20 #[.agg #[.int .i64 a1, .int .i64 a2], .agg #[.int .i64 b1, .int .i64 b2]] w fun en w' => en = .returned (.int .i64 (-1)) ∧ Below w.heap.size w w' := by
  have M1 := Lib.hid m1; have M2 := Lib.hid m2; have M3 := Lib.hid m3
  clear m1 m2 m3
  go_enter Try.func20, Try.ntmps20
  go_wp2_with fail
  refine (M1.out _).mono ?_
  rintro e w1 ⟨rfl, hb⟩
  have HMw1 := Lib.hid ((((Mem.start w).new w.heap.size _ _ rfl).new (w.heap.size + 1) _ _ (by simp)).call hb)
  clear hb
  have la : w.heap.size < w1.heap.size := HMw1.out.lt 1 rfl
  have ca0 : w1.cell? ⟨w.heap.size, 0, none⟩ = some (.int .i64 a1) := HMw1.out.cell 1 rfl rfl
  have ca1 : w1.cell? ⟨w.heap.size, 1, none⟩ = some (.int .i64 a2) := HMw1.out.cell 1 rfl rfl
  have lb : (w.heap.size + 1) < w1.heap.size := HMw1.out.lt 0 rfl
  have cb0 : w1.cell? ⟨(w.heap.size + 1), 0, none⟩ = some (.int .i64 b1) := HMw1.out.cell 0 rfl rfl
  have cb1 : w1.cell? ⟨(w.heap.size + 1), 1, none⟩ = some (.int .i64 b2) := HMw1.out.cell 0 rfl rfl
  go_wp2_with fail
  refine (M2.out _).mono ?_
  rintro e w2 ⟨rfl, hb⟩
  have HMw2 := Lib.hid ((HMw1.out.new w1.heap.size _ _ rfl).call hb)
  clear hb la ca0 ca1 lb cb0 cb1 HMw1
  have lx : w1.heap.size < w2.heap.size := HMw2.out.lt 0 rfl
  have cx0 : w2.cell? ⟨w1.heap.size, 0, none⟩ = some (.bool c1) := HMw2.out.cell 0 rfl rfl
  have cx1 : w2.cell? ⟨w1.heap.size, 1, none⟩ = some (.int .u64 k1) := HMw2.out.cell 0 rfl rfl
  have cx2 : w2.cell? ⟨w1.heap.size, 2, none⟩ = some (.int .u64 l1) := HMw2.out.cell 0 rfl rfl
  go_wp2_with fail
  refine (M3.out _).mono ?_
  rintro e w3 ⟨rfl, hb⟩
  have HMw3 := Lib.hid ((HMw2.out.new w2.heap.size _ _ rfl).call hb)
  clear hb lx cx0 cx1 cx2 HMw2
  go_wp2_with fail
  go_ret
  exact ⟨rfl, HMw3.out.low⟩
theorem rqcmp_more (a1 a2 b1 b2 : Int) (c1 c2 : Bool) (k1 l1 k2 l2 : Int) (w : World)
    (m1 : ∀ w, Calls Try.prog 37 #[.int .i64 a1, .int .i64 b2] w fun en w' => en = .returned (.agg #[.bool c1, .int .u64 k1, .int .u64 l1]) ∧ Below w.heap.size w w')
    (m2 : ∀ w, Calls Try.prog 37 #[.int .i64 b1, .int .i64 a2] w fun en w' => en = .returned (.agg #[.bool c2, .int .u64 k2, .int .u64 l2]) ∧ Below w.heap.size w w')
    (m3 : ∀ w, Calls Try.prog 38 #[.agg #[.bool c1, .int .u64 k1, .int .u64 l1], .agg #[.bool c2, .int .u64 k2, .int .u64 l2]] w fun en w' => en = .returned (.bool false) ∧ Below w.heap.size w w')
    (m4 : ∀ w, Calls Try.prog 38 #[.agg #[.bool c2, .int .u64 k2, .int .u64 l2], .agg #[.bool c1, .int .u64 k1, .int .u64 l1]] w fun en w' => en = .returned (.bool true) ∧ Below w.heap.size w w') :
    Calls Try.prog 20 #[.agg #[.int .i64 a1, .int .i64 a2], .agg #[.int .i64 b1, .int .i64 b2]] w fun en w' => en = .returned (.int .i64 1) ∧ Below w.heap.size w w' := by
  have M1 := Lib.hid m1; have M2 := Lib.hid m2; have M3 := Lib.hid m3; have M4 := Lib.hid m4
  clear m1 m2 m3 m4
  go_enter Try.func20, Try.ntmps20
  go_wp2_with fail
  refine (M1.out _).mono ?_
  rintro e w1 ⟨rfl, hb⟩
  have HMw1 := Lib.hid ((((Mem.start w).new w.heap.size _ _ rfl).new (w.heap.size + 1) _ _ (by simp)).call hb)
  clear hb
  have la : w.heap.size < w1.heap.size := HMw1.out.lt 1 rfl
  have ca0 : w1.cell? ⟨w.heap.size, 0, none⟩ = some (.int .i64 a1) := HMw1.out.cell 1 rfl rfl
  have ca1 : w1.cell? ⟨w.heap.size, 1, none⟩ = some (.int .i64 a2) := HMw1.out.cell 1 rfl rfl
  have lb : (w.heap.size + 1) < w1.heap.size := HMw1.out.lt 0 rfl
  have cb0 : w1.cell? ⟨(w.heap.size + 1), 0, none⟩ = some (.int .i64 b1) := HMw1.out.cell 0 rfl rfl
  have cb1 : w1.cell? ⟨(w.heap.size + 1), 1, none⟩ = some (.int .i64 b2) := HMw1.out.cell 0 rfl rfl
  go_wp2_with fail
  refine (M2.out _).mono ?_
  rintro e w2 ⟨rfl, hb⟩
  have HMw2 := Lib.hid ((HMw1.out.new w1.heap.size _ _ rfl).call hb)
  clear hb la ca0 ca1 lb cb0 cb1 HMw1
  have lx : w1.heap.size < w2.heap.size := HMw2.out.lt 0 rfl
  have cx0 : w2.cell? ⟨w1.heap.size, 0, none⟩ = some (.bool c1) := HMw2.out.cell 0 rfl rfl
  have cx1 : w2.cell? ⟨w1.heap.size, 1, none⟩ = some (.int .u64 k1) := HMw2.out.cell 0 rfl rfl
  have cx2 : w2.cell? ⟨w1.heap.size, 2, none⟩ = some (.int .u64 l1) := HMw2.out.cell 0 rfl rfl
  go_wp2_with fail
  refine (M3.out _).mono ?_
  rintro e w3 ⟨rfl, hb⟩
  have HMw3 := Lib.hid ((HMw2.out.new w2.heap.size _ _ rfl).call hb)
  clear hb lx cx0 cx1 cx2 HMw2
  have lx : w1.heap.size < w3.heap.size := HMw3.out.lt 1 rfl
  have cx0 : w3.cell? ⟨w1.heap.size, 0, none⟩ = some (.bool c1) := HMw3.out.cell 1 rfl rfl
  have cx1 : w3.cell? ⟨w1.heap.size, 1, none⟩ = some (.int .u64 k1) := HMw3.out.cell 1 rfl rfl
  have cx2 : w3.cell? ⟨w1.heap.size, 2, none⟩ = some (.int .u64 l1) := HMw3.out.cell 1 rfl rfl
  have ly : w2.heap.size < w3.heap.size := HMw3.out.lt 0 rfl
  have cy0 : w3.cell? ⟨w2.heap.size, 0, none⟩ = some (.bool c2) := HMw3.out.cell 0 rfl rfl
  have cy1 : w3.cell? ⟨w2.heap.size, 1, none⟩ = some (.int .u64 k2) := HMw3.out.cell 0 rfl rfl
  have cy2 : w3.cell? ⟨w2.heap.size, 2, none⟩ = some (.int .u64 l2) := HMw3.out.cell 0 rfl rfl
  go_wp2_with fail
  refine (M4.out _).mono ?_
  rintro e w4 ⟨rfl, hb⟩
  have HMw4 := Lib.hid (HMw3.out.call hb)
  clear hb lx cx0 cx1 cx2 ly cy0 cy1 cy2 HMw3
  go_wp2_with fail
  go_ret
  exact ⟨rfl, HMw4.out.low⟩
theorem rqcmp_same (a1 a2 b1 b2 : Int) (c1 c2 : Bool) (k1 l1 k2 l2 : Int) (w : World)
    (m1 : ∀ w, Calls Try.prog 37 #[.int .i64 a1, .int .i64 b2] w fun en w' => en = .returned (.agg #[.bool c1, .int .u64 k1, .int .u64 l1]) ∧ Below w.heap.size w w')
    (m2 : ∀ w, Calls Try.prog 37 #[.int .i64 b1, .int .i64 a2] w fun en w' => en = .returned (.agg #[.bool c2, .int .u64 k2, .int .u64 l2]) ∧ Below w.heap.size w w')
    (m3 : ∀ w, Calls Try.prog 38 #[.agg #[.bool c1, .int .u64 k1, .int .u64 l1], .agg #[.bool c2, .int .u64 k2, .int .u64 l2]] w fun en w' => en = .returned (.bool false) ∧ Below w.heap.size w w')
    (m4 : ∀ w, Calls Try.prog 38 #[.agg #[.bool c2, .int .u64 k2, .int .u64 l2], .agg #[.bool c1, .int .u64 k1, .int .u64 l1]] w fun en w' => en = .returned (.bool false) ∧ Below w.heap.size w w') :
    Calls Try.prog 20 #[.agg #[.int .i64 a1, .int .i64 a2], .agg #[.int .i64 b1, .int .i64 b2]] w fun en w' => en = .returned (.int .i64 0) ∧ Below w.heap.size w w' := by
  have M1 := Lib.hid m1; have M2 := Lib.hid m2; have M3 := Lib.hid m3; have M4 := Lib.hid m4
  clear m1 m2 m3 m4
  go_enter Try.func20, Try.ntmps20
  go_wp2_with fail
  refine (M1.out _).mono ?_
  rintro e w1 ⟨rfl, hb⟩
  have HMw1 := Lib.hid ((((Mem.start w).new w.heap.size _ _ rfl).new (w.heap.size + 1) _ _ (by simp)).call hb)
  clear hb
  have la : w.heap.size < w1.heap.size := HMw1.out.lt 1 rfl
  have ca0 : w1.cell? ⟨w.heap.size, 0, none⟩ = some (.int .i64 a1) := HMw1.out.cell 1 rfl rfl
  have ca1 : w1.cell? ⟨w.heap.size, 1, none⟩ = some (.int .i64 a2) := HMw1.out.cell 1 rfl rfl
  have lb : (w.heap.size + 1) < w1.heap.size := HMw1.out.lt 0 rfl
  have cb0 : w1.cell? ⟨(w.heap.size + 1), 0, none⟩ = some (.int .i64 b1) := HMw1.out.cell 0 rfl rfl
  have cb1 : w1.cell? ⟨(w.heap.size + 1), 1, none⟩ = some (.int .i64 b2) := HMw1.out.cell 0 rfl rfl
  go_wp2_with fail
  refine (M2.out _).mono ?_
  rintro e w2 ⟨rfl, hb⟩
  have HMw2 := Lib.hid ((HMw1.out.new w1.heap.size _ _ rfl).call hb)
  clear hb la ca0 ca1 lb cb0 cb1 HMw1
  have lx : w1.heap.size < w2.heap.size := HMw2.out.lt 0 rfl
  have cx0 : w2.cell? ⟨w1.heap.size, 0, none⟩ = some (.bool c1) := HMw2.out.cell 0 rfl rfl
  have cx1 : w2.cell? ⟨w1.heap.size, 1, none⟩ = some (.int .u64 k1) := HMw2.out.cell 0 rfl rfl
  have cx2 : w2.cell? ⟨w1.heap.size, 2, none⟩ = some (.int .u64 l1) := HMw2.out.cell 0 rfl rfl
  go_wp2_with fail
  refine (M3.out _).mono ?_
  rintro e w3 ⟨rfl, hb⟩
  have HMw3 := Lib.hid ((HMw2.out.new w2.heap.size _ _ rfl).call hb)
  clear hb lx cx0 cx1 cx2 HMw2
  have lx : w1.heap.size < w3.heap.size := HMw3.out.lt 1 rfl
  have cx0 : w3.cell? ⟨w1.heap.size, 0, none⟩ = some (.bool c1) := HMw3.out.cell 1 rfl rfl
  have cx1 : w3.cell? ⟨w1.heap.size, 1, none⟩ = some (.int .u64 k1) := HMw3.out.cell 1 rfl rfl
  have cx2 : w3.cell? ⟨w1.heap.size, 2, none⟩ = some (.int .u64 l1) := HMw3.out.cell 1 rfl rfl
  have ly : w2.heap.size < w3.heap.size := HMw3.out.lt 0 rfl
  have cy0 : w3.cell? ⟨w2.heap.size, 0, none⟩ = some (.bool c2) := HMw3.out.cell 0 rfl rfl
  have cy1 : w3.cell? ⟨w2.heap.size, 1, none⟩ = some (.int .u64 k2) := HMw3.out.cell 0 rfl rfl
  have cy2 : w3.cell? ⟨w2.heap.size, 2, none⟩ = some (.int .u64 l2) := HMw3.out.cell 0 rfl rfl
  go_wp2_with fail
  refine (M4.out _).mono ?_
  rintro e w4 ⟨rfl, hb⟩
  have HMw4 := Lib.hid (HMw3.out.call hb)
  clear hb lx cx0 cx1 cx2 ly cy0 cy1 cy2 HMw3
  go_wp2_with fail
  go_ret
  exact ⟨rfl, HMw4.out.low⟩
theorem rqcmp_any (a1 a2 b1 b2 : Int) (ha1 : IsInt a1) (ha2 : IsInt a2) (hb1 : IsInt b1) (hb2 : IsInt b2) (w : World) :
    Calls Try.prog 20 #[.agg #[.int .i64 a1, .int .i64 a2], .agg #[.int .i64 b1, .int .i64 b2]] w fun en w' => en = .returned (.int .i64 (ordI (a1 * b2 - b1 * a2))) ∧ Below w.heap.size w w' := by
  have m1 := product_any a1 b2 ha1 hb2
  have m2 := product_any b1 a2 hb1 ha2
  have m3 := rqless_any (a1 * b2) (b1 * a2)
  have m4 := rqless_any (b1 * a2) (a1 * b2)
  unfold zS at m1 m2 m3 m4
  unfold ordI
  by_cases h : a1 * b2 < b1 * a2
  · rw [decide_eq_true h] at m3
    rw [if_pos (by omega)]
    exact rqcmp_less _ _ _ _ _ _ _ _ _ _ w m1 m2 m3
  · rw [decide_eq_false h] at m3
    rw [if_neg (by omega)]
    by_cases k : b1 * a2 < a1 * b2
    · rw [decide_eq_true k] at m4
      rw [if_neg (by omega)]
      exact rqcmp_more _ _ _ _ _ _ _ _ _ _ w m1 m2 m3 m4
    · rw [decide_eq_false k] at m4
      rw [if_pos (by omega)]
      exact rqcmp_same _ _ _ _ _ _ _ _ _ _ w m1 m2 m3 m4
set_option maxHeartbeats 2000000 in
theorem rqadd_core (a1 a2 b1 b2 : Int) (c1 c2 c3 c4 : Bool) (k1 l1 k2 l2 k3 l3 k4 l4 : Int) (x y e : Int) (w : World)
    (m1 : ∀ w, Calls Try.prog 37 #[.int .i64 a1, .int .i64 b2] w fun en w' => en = .returned (.agg #[.bool c1, .int .u64 k1, .int .u64 l1]) ∧ Below w.heap.size w w')
    (m2 : ∀ w, Calls Try.prog 37 #[.int .i64 b1, .int .i64 a2] w fun en w' => en = .returned (.agg #[.bool c2, .int .u64 k2, .int .u64 l2]) ∧ Below w.heap.size w w')
    (m4 : ∀ w, Calls Try.prog 36 #[.agg #[.bool c1, .int .u64 k1, .int .u64 l1], .agg #[.bool c2, .int .u64 k2, .int .u64 l2]] w fun en w' => en = .returned (.agg #[.bool c4, .int .u64 k4, .int .u64 l4]) ∧ Below w.heap.size w w')
    (m3 : ∀ w, Calls Try.prog 37 #[.int .i64 a2, .int .i64 b2] w fun en w' => en = .returned (.agg #[.bool c3, .int .u64 k3, .int .u64 l3]) ∧ Below w.heap.size w w')
    (m5 : ∀ w, Calls Try.prog 30 #[.agg #[.bool c4, .int .u64 k4, .int .u64 l4], .agg #[.int .u64 k3, .int .u64 l3]] w fun en w' => en = .returned (.tuple #[.agg #[.int .i64 x, .int .i64 y], .int .i64 e]) ∧ Below w.heap.size w w') :
    Calls Try.prog 18 #[.agg #[.int .i64 a1, .int .i64 a2], .agg #[.int .i64 b1, .int .i64 b2]] w fun en w' => en = .returned (.tuple #[.agg #[.int .i64 x, .int .i64 y], .int .i64 e]) ∧ Below w.heap.size w w' := by
  have M1 := Lib.hid m1; have M2 := Lib.hid m2; have M3 := Lib.hid m3; have M4 := Lib.hid m4; have M5 := Lib.hid m5
  clear m1 m2 m3 m4 m5
  have hfd : ∀ w, (Instr.field 59 (.agg #[.bool c3, .int .u64 k3, .int .u64 l3]) 1).run Try.prog w = .ok (.agg #[.int .u64 k3, .int .u64 l3]) w := fun _ => by kernel_rfl
  go_enter Try.func18, Try.ntmps18
  go_upto_region 1 with fail
  obtain ⟨W1x, hW1x⟩ : ∃ W1x, (((w.alloc (.cells #[.int .i64 a1, .int .i64 a2] 23)).alloc (.cells #[.int .i64 b1, .int .i64 b2] 23)).alloc (.cells #[.int .i64 0, .int .i64 0] 23)) = W1x := ⟨_, rfl⟩
  have hm : Mem w W1x [((w.heap.size + 1 + 1), #[.int .i64 0, .int .i64 0]), ((w.heap.size + 1), #[.int .i64 b1, .int .i64 b2]), (w.heap.size, #[.int .i64 a1, .int .i64 a2])] := by rw [← hW1x]; exact ((((Mem.start w).new w.heap.size _ _ rfl).new (w.heap.size + 1) _ _ (by simp)).new (w.heap.size + 1 + 1) _ _ (by simp))
  rw [hW1x]
  clear hW1x
  have mk : ∀ w', Mem w w' [((w.heap.size + 1 + 1), #[.int .i64 0, .int .i64 0]), ((w.heap.size + 1), #[.int .i64 b1, .int .i64 b2]), (w.heap.size, #[.int .i64 a1, .int .i64 a2])] → (fun w' => w'.cell? ⟨w.heap.size, 0, none⟩ = some (.int .i64 a1) ∧ w'.cell? ⟨w.heap.size, 1, none⟩ = some (.int .i64 a2) ∧ w'.cell? ⟨(w.heap.size + 1), 0, none⟩ = some (.int .i64 b1) ∧ w'.cell? ⟨(w.heap.size + 1), 1, none⟩ = some (.int .i64 b2) ∧ Hid (Mem w w' [((w.heap.size + 1 + 1), #[.int .i64 0, .int .i64 0]), ((w.heap.size + 1), #[.int .i64 b1, .int .i64 b2]), (w.heap.size, #[.int .i64 a1, .int .i64 a2])])) w' := fun w' h => ⟨h.cell 2 rfl rfl, h.cell 2 rfl rfl, h.cell 1 rfl rfl, h.cell 1 rfl rfl, Lib.hid h⟩
  have hok : OwnOk (fun w' => w'.cell? ⟨w.heap.size, 0, none⟩ = some (.int .i64 a1) ∧ w'.cell? ⟨w.heap.size, 1, none⟩ = some (.int .i64 a2) ∧ w'.cell? ⟨(w.heap.size + 1), 0, none⟩ = some (.int .i64 b1) ∧ w'.cell? ⟨(w.heap.size + 1), 1, none⟩ = some (.int .i64 b2) ∧ Hid (Mem w w' [((w.heap.size + 1 + 1), #[.int .i64 0, .int .i64 0]), ((w.heap.size + 1), #[.int .i64 b1, .int .i64 b2]), (w.heap.size, #[.int .i64 a1, .int .i64 a2])])) W1x.heap.size [⟨11, 12, fun w b => Blk w b #[.bool false, .int .u64 0, .int .u64 0], fun w b => Blk w b #[.bool c4, .int .u64 k4, .int .u64 l4]⟩] := own1_ok (fun v1 v2 h hb => mk _ (h.2.2.2.2.out.step hb hm.lts hm.low.size)) ⟨Blk.local _, Blk.local _⟩ (by simp)
  have hfit : ∀ i, (∀ e ∈ ([⟨11, 12, fun w b => Blk w b #[.bool false, .int .u64 0, .int .u64 0], fun w b => Blk w b #[.bool c4, .int .u64 k4, .int .u64 l4]⟩] : List Ent), e.x ≠ i ∧ e.s ≠ i) → Fit (fun w' => w'.cell? ⟨w.heap.size, 0, none⟩ = some (.int .i64 a1) ∧ w'.cell? ⟨w.heap.size, 1, none⟩ = some (.int .i64 a2) ∧ w'.cell? ⟨(w.heap.size + 1), 0, none⟩ = some (.int .i64 b1) ∧ w'.cell? ⟨(w.heap.size + 1), 1, none⟩ = some (.int .i64 b2) ∧ Hid (Mem w w' [((w.heap.size + 1 + 1), #[.int .i64 0, .int .i64 0]), ((w.heap.size + 1), #[.int .i64 b1, .int .i64 b2]), (w.heap.size, #[.int .i64 a1, .int .i64 a2])])) (Sof (fun w' => w'.cell? ⟨w.heap.size, 0, none⟩ = some (.int .i64 a1) ∧ w'.cell? ⟨w.heap.size, 1, none⟩ = some (.int .i64 a2) ∧ w'.cell? ⟨(w.heap.size + 1), 0, none⟩ = some (.int .i64 b1) ∧ w'.cell? ⟨(w.heap.size + 1), 1, none⟩ = some (.int .i64 b2) ∧ Hid (Mem w w' [((w.heap.size + 1 + 1), #[.int .i64 0, .int .i64 0]), ((w.heap.size + 1), #[.int .i64 b1, .int .i64 b2]), (w.heap.size, #[.int .i64 a1, .int .i64 a2])])) W1x.heap.size [⟨11, 12, fun w b => Blk w b #[.bool false, .int .u64 0, .int .u64 0], fun w b => Blk w b #[.bool c4, .int .u64 k4, .int .u64 l4]⟩]) i := fun i hi => sof_fit hok.st hok.loc hi
  have HOK := Lib.hid hok; have HF := Lib.hid hfit; clear hok hfit
  refine wp_region_ab (S0 := (fun w' => w'.cell? ⟨w.heap.size, 0, none⟩ = some (.int .i64 a1) ∧ w'.cell? ⟨w.heap.size, 1, none⟩ = some (.int .i64 a2) ∧ w'.cell? ⟨(w.heap.size + 1), 0, none⟩ = some (.int .i64 b1) ∧ w'.cell? ⟨(w.heap.size + 1), 1, none⟩ = some (.int .i64 b2) ∧ Hid (Mem w w' [((w.heap.size + 1 + 1), #[.int .i64 0, .int .i64 0]), ((w.heap.size + 1), #[.int .i64 b1, .int .i64 b2]), (w.heap.size, #[.int .i64 a1, .int .i64 a2])]))) W1x.heap.size [⟨11, 12, fun w b => Blk w b #[.bool false, .int .u64 0, .int .u64 0], fun w b => Blk w b #[.bool c4, .int .u64 k4, .int .u64 l4]⟩] (by kernel_rfl) (mk _ hm.drew) (Nat.le_refl _) (by simp) ?_
  have hlts := hm.lts; have hlow := hm.low.size
  have ltr : (w.heap.size + 1 + 1) < W1x.heap.size := hm.lt 0 rfl
  have ltb : (w.heap.size + 1) < W1x.heap.size := hm.lt 1 rfl
  have lta : w.heap.size < W1x.heap.size := hm.lt 2 rfl
  have HMK := Lib.hid mk
  clear hm mk
  refine abTake 0 (some 7) (v := ?_) rfl rfl (by kernel_rfl) (by kernel_rfl) (by kernel_rfl) (fun _ _ _ h => h) (HF.out _ (by simp)) (by rfl) ?_ ?_
  rotate_left 1
  · (intro w hSw; (try dsimp only at hSw); go_simp; try with_reducible rfl)
  simp only [Act.put, List.setIfInBounds_toArray, List.set_cons_zero, List.set_cons_succ]
  refine abTake 1 (some 8) (v := ?_) rfl rfl (by kernel_rfl) (by kernel_rfl) (by kernel_rfl) (fun _ _ _ h => h) (HF.out _ (by simp)) (by rfl) ?_ ?_
  rotate_left 1
  · (intro w hSw; (try dsimp only at hSw); go_simp; try with_reducible rfl)
  simp only [Act.put, List.setIfInBounds_toArray, List.set_cons_zero, List.set_cons_succ]
  refine abTake 2 (some 9) (v := ?_) rfl rfl (by kernel_rfl) (by kernel_rfl) (by kernel_rfl) (fun _ _ _ h => h) (HF.out _ (by simp)) (by rfl) ?_ ?_
  rotate_left 1
  · (intro w hSw; (try dsimp only at hSw); go_simp; try with_reducible rfl)
  simp only [Act.put, List.setIfInBounds_toArray, List.set_cons_zero, List.set_cons_succ]
  refine abTake 3 (some 10) (v := ?_) rfl rfl (by kernel_rfl) (by kernel_rfl) (by kernel_rfl) (fun _ _ _ h => h) (HF.out _ (by simp)) (by rfl) ?_ ?_
  rotate_left 1
  · (intro w hSw; (try dsimp only at hSw); go_simp; try with_reducible rfl)
  simp only [Act.put, List.setIfInBounds_toArray, List.set_cons_zero, List.set_cons_succ]
  refine abCall 4 (some 11) rfl rfl (by kernel_rfl) (by kernel_rfl) (by kernel_rfl) (fun _ _ _ h => h) (HF.out _ (by simp)) (by rfl) ?_ (fun w hSw => M1.out _) ?_
  · (intro w hSw; (try dsimp only at hSw); go_simp; try with_reducible rfl)
  simp only [Act.put, List.setIfInBounds_toArray, List.set_cons_zero, List.set_cons_succ]
  refine abTake 5 (some 12) (v := ?_) rfl rfl (by kernel_rfl) (by kernel_rfl) (by kernel_rfl) (fun _ _ _ h => h) (HF.out _ (by simp)) (by rfl) ?_ ?_
  rotate_left 1
  · (intro w hSw; (try dsimp only at hSw); go_simp; try with_reducible rfl)
  simp only [Act.put, List.setIfInBounds_toArray, List.set_cons_zero, List.set_cons_succ]
  refine abTake 6 (some 13) (v := ?_) rfl rfl (by kernel_rfl) (by kernel_rfl) (by kernel_rfl) (fun _ _ _ h => h) (HF.out _ (by simp)) (by rfl) ?_ ?_
  rotate_left 1
  · (intro w hSw; (try dsimp only at hSw); go_simp; try with_reducible rfl)
  simp only [Act.put, List.setIfInBounds_toArray, List.set_cons_zero, List.set_cons_succ]
  refine abTake 7 (some 14) (v := ?_) rfl rfl (by kernel_rfl) (by kernel_rfl) (by kernel_rfl) (fun _ _ _ h => h) (HF.out _ (by simp)) (by rfl) ?_ ?_
  rotate_left 1
  · (intro w hSw; (try dsimp only at hSw); go_simp; try with_reducible rfl)
  simp only [Act.put, List.setIfInBounds_toArray, List.set_cons_zero, List.set_cons_succ]
  refine abTake 8 (some 15) (v := ?_) rfl rfl (by kernel_rfl) (by kernel_rfl) (by kernel_rfl) (fun _ _ _ h => h) (HF.out _ (by simp)) (by rfl) ?_ ?_
  rotate_left 1
  · (intro w hSw; (try dsimp only at hSw); go_simp; try with_reducible rfl)
  simp only [Act.put, List.setIfInBounds_toArray, List.set_cons_zero, List.set_cons_succ]
  refine abCall 9 (some 16) rfl rfl (by kernel_rfl) (by kernel_rfl) (by kernel_rfl) (fun _ _ _ h => h) (HF.out _ (by simp)) (by rfl) ?_ (fun w hSw => M2.out _) ?_
  · (intro w hSw; (try dsimp only at hSw); go_simp; try with_reducible rfl)
  simp only [Act.put, List.setIfInBounds_toArray, List.set_cons_zero, List.set_cons_succ]
  refine abCall 10 (some 17) rfl rfl (by kernel_rfl) (by kernel_rfl) (by kernel_rfl) (fun _ _ _ h => h) (HF.out _ (by simp)) (by rfl) ?_ (fun w hSw => M4.out _) ?_
  · (intro w hSw; (try dsimp only at hSw); go_simp; try with_reducible rfl)
  simp only [Act.put, List.setIfInBounds_toArray, List.set_cons_zero, List.set_cons_succ]
  refine abMake1 11 6 HOK.out _ (List.mem_cons_self) rfl rfl rfl (by kernel_rfl) (by kernel_rfl) (by kernel_rfl) ⟨by rfl, .cells #[.bool false, .int .u64 0, .int .u64 0] 59, fun w hSw => ⟨(by (try dsimp only at hSw); go_simp; try with_reducible rfl), Blk.newAt rfl⟩⟩ (fun b6 hb6 nb6 => ?_)
  simp only [Act.put, List.setIfInBounds_toArray, List.set_cons_zero, List.set_cons_succ]
  refine abStore 12 HOK.out _ (List.mem_cons_self) rfl rfl rfl (by kernel_rfl) (by kernel_rfl) (by kernel_rfl) (by kernel_rfl) (by rfl) ?_ ?_
  · rintro w b hSw hg hB hp
    obtain rfl : b = b6 := hg
    replace hp : Blk w b #[.bool false, .int .u64 0, .int .u64 0] := hp
    have x0 : w.cell? ⟨b, 0, none⟩ = some (.bool false) := hp.cell rfl
    have x1 : w.cell? ⟨b, 1, none⟩ = some (.int .u64 0) := hp.cell rfl
    have x2 : w.cell? ⟨b, 2, none⟩ = some (.int .u64 0) := hp.cell rfl
    have y0 := hp.free 0
    have y1 := hp.free 1
    have y2 := hp.free 2
    refine ⟨(((w.setCell ⟨b, 0, none⟩ (.bool c4)).setCell ⟨b, 1, none⟩ (.int .u64 k4)).setCell ⟨b, 2, none⟩ (.int .u64 l4)), ?_, (((hp.set 0 (.bool c4)).set 1 (.int .u64 k4)).set 2 (.int .u64 l4)), ((((Below.refl _ _).setCell (p := ⟨b, 0, none⟩) hB _).setCell (p := ⟨b, 1, none⟩) hB _).setCell (p := ⟨b, 2, none⟩) hB _), fun k hk => ?_⟩
    · (try dsimp only at hSw); go_simp; try with_reducible rfl
    · exact (Below.heap_setCell _ _ _ _ hk).trans ((Below.heap_setCell _ _ _ _ hk).trans ((Below.heap_setCell _ _ _ _ hk)))
  refine abDone (by kernel_rfl) ?_ _
  rintro w1 hS
  have ks := sof_post hS _ (List.mem_cons_self) (by kernel_rfl) (by kernel_rfl) (b := b6) rfl
  have HMw1 := Lib.hid ((hS.1.2.2.2.2.out).join ks.2.2 ks.1 hlts hlow)
  clear hS HOK HF HMK hlts hlow ltr ltb lta ks hb6
  go_upto_region 2 with fail
  have hm : Mem w w1 [(b6, #[.bool c4, .int .u64 k4, .int .u64 l4]), ((w.heap.size + 1 + 1), #[.int .i64 0, .int .i64 0]), ((w.heap.size + 1), #[.int .i64 b1, .int .i64 b2]), (w.heap.size, #[.int .i64 a1, .int .i64 a2])] := HMw1.out
  clear HMw1
  refine wp_region_held_drew (S := (fun w' => w'.cell? ⟨w.heap.size, 0, none⟩ = some (.int .i64 a1) ∧ w'.cell? ⟨w.heap.size, 1, none⟩ = some (.int .i64 a2) ∧ w'.cell? ⟨(w.heap.size + 1), 0, none⟩ = some (.int .i64 b1) ∧ w'.cell? ⟨(w.heap.size + 1), 1, none⟩ = some (.int .i64 b2) ∧ w'.cell? ⟨b6, 0, none⟩ = some (.bool c4) ∧ w'.cell? ⟨b6, 1, none⟩ = some (.int .u64 k4) ∧ w'.cell? ⟨b6, 2, none⟩ = some (.int .u64 l4) ∧ Hid (Below w.heap.size w w'))) (by kernel_rfl) ⟨(hm.drew).cell 3 rfl rfl, (hm.drew).cell 3 rfl rfl, (hm.drew).cell 2 rfl rfl, (hm.drew).cell 2 rfl rfl, (hm.drew).cell 0 rfl rfl, (hm.drew).cell 0 rfl rfl, (hm.drew).cell 0 rfl rfl, Lib.hid (hm.drew).low⟩ (fun hHeld => ?_)
  replace hm := hm.drew
  refine regTake 0 (some 18) (v := ?_) rfl rfl (by kernel_rfl) (by kernel_rfl) (by kernel_rfl) (fun _ _ _ h => h) (by rfl) hHeld ?_ ?_
  rotate_left 1
  · (intro w hSw; (try dsimp only at hSw); go_simp; try with_reducible rfl)
  simp only [Act.put, List.setIfInBounds_toArray, List.set_cons_zero, List.set_cons_succ]
  refine regTake 1 (some 19) (v := ?_) rfl rfl (by kernel_rfl) (by kernel_rfl) (by kernel_rfl) (fun _ _ _ h => h) (by rfl) hHeld ?_ ?_
  rotate_left 1
  · (intro w hSw; (try dsimp only at hSw); go_simp; try with_reducible rfl)
  simp only [Act.put, List.setIfInBounds_toArray, List.set_cons_zero, List.set_cons_succ]
  refine regTake 2 (some 20) (v := ?_) rfl rfl (by kernel_rfl) (by kernel_rfl) (by kernel_rfl) (fun _ _ _ h => h) (by rfl) hHeld ?_ ?_
  rotate_left 1
  · (intro w hSw; (try dsimp only at hSw); go_simp; try with_reducible rfl)
  simp only [Act.put, List.setIfInBounds_toArray, List.set_cons_zero, List.set_cons_succ]
  refine regTake 3 (some 21) (v := ?_) rfl rfl (by kernel_rfl) (by kernel_rfl) (by kernel_rfl) (fun _ _ _ h => h) (by rfl) hHeld ?_ ?_
  rotate_left 1
  · (intro w hSw; (try dsimp only at hSw); go_simp; try with_reducible rfl)
  simp only [Act.put, List.setIfInBounds_toArray, List.set_cons_zero, List.set_cons_succ]
  refine regTake 4 (some 22) (v := ?_) rfl rfl (by kernel_rfl) (by kernel_rfl) (by kernel_rfl) (fun _ _ _ h => h) (by rfl) hHeld ?_ ?_
  rotate_left 1
  · (intro w hSw; (try dsimp only at hSw); go_simp; try with_reducible rfl)
  simp only [Act.put, List.setIfInBounds_toArray, List.set_cons_zero, List.set_cons_succ]
  refine regCall 5 (some 23) (f := 37) (args := ?_) rfl rfl (by kernel_rfl) (by rfl) ?_ ?_
  rotate_left 1
  · (go_simp; try with_reducible rfl)
  refine (M3.out _).mono ?_
  rintro e wx5 ⟨rfl, hbx⟩
  refine ⟨_, rfl, ⟨(hm.call hbx).cell 3 rfl rfl, (hm.call hbx).cell 3 rfl rfl, (hm.call hbx).cell 2 rfl rfl, (hm.call hbx).cell 2 rfl rfl, (hm.call hbx).cell 0 rfl rfl, (hm.call hbx).cell 0 rfl rfl, (hm.call hbx).cell 0 rfl rfl, Lib.hid (hm.call hbx).low⟩, fun hHeld => ?_⟩
  simp only [Act.put, List.setIfInBounds_toArray, List.set_cons_zero, List.set_cons_succ]
  replace hm := hm.call hbx
  clear hbx
  refine regTake 6 (some 24) (v := ?_) rfl rfl (by kernel_rfl) (by kernel_rfl) (by kernel_rfl) (fun _ _ _ h => h) (by rfl) hHeld ?_ ?_
  rotate_left 1
  · (intro w hSw; (try dsimp only at hSw); go_simp; try with_reducible rfl)
  simp only [Act.put, List.setIfInBounds_toArray, List.set_cons_zero, List.set_cons_succ]
  refine regCall 7 (some 25) (f := 30) (args := ?_) rfl rfl (by kernel_rfl) (by rfl) ?_ ?_
  rotate_left 1
  · (go_simp; try with_reducible rfl)
  refine (M5.out _).mono ?_
  rintro e wx7 ⟨rfl, hbx⟩
  refine ⟨_, rfl, ⟨(hm.call hbx).cell 3 rfl rfl, (hm.call hbx).cell 3 rfl rfl, (hm.call hbx).cell 2 rfl rfl, (hm.call hbx).cell 2 rfl rfl, (hm.call hbx).cell 0 rfl rfl, (hm.call hbx).cell 0 rfl rfl, (hm.call hbx).cell 0 rfl rfl, Lib.hid (hm.call hbx).low⟩, fun hHeld => ?_⟩
  simp only [Act.put, List.setIfInBounds_toArray, List.set_cons_zero, List.set_cons_succ]
  replace hm := hm.call hbx
  clear hbx
  refine regTake 8 (some 26) (v := ?_) rfl rfl (by kernel_rfl) (by kernel_rfl) (by kernel_rfl) (fun _ _ _ h => h) (by rfl) hHeld ?_ ?_
  rotate_left 1
  · (intro w hSw; (try dsimp only at hSw); go_simp; try with_reducible rfl)
  simp only [Act.put, List.setIfInBounds_toArray, List.set_cons_zero, List.set_cons_succ]
  refine regTake 9 (some 27) (v := ?_) rfl rfl (by kernel_rfl) (by kernel_rfl) (by kernel_rfl) (fun _ _ _ h => h) (by rfl) hHeld ?_ ?_
  rotate_left 1
  · (intro w hSw; (try dsimp only at hSw); go_simp; try with_reducible rfl)
  simp only [Act.put, List.setIfInBounds_toArray, List.set_cons_zero, List.set_cons_succ]
  have x0 : wx7.cell? ⟨(w.heap.size + 1 + 1), 0, none⟩ = some (.int .i64 0) := hm.cell 1 rfl rfl
  have y0 : wx7.frozen? ⟨(w.heap.size + 1 + 1), 0, none⟩ = false := hm.free 1 rfl 0
  have x1 : wx7.cell? ⟨(w.heap.size + 1 + 1), 1, none⟩ = some (.int .i64 0) := hm.cell 1 rfl rfl
  have y1 : wx7.frozen? ⟨(w.heap.size + 1 + 1), 1, none⟩ = false := hm.free 1 rfl 1
  have z0 : (w.heap.size + 1 + 1) < wx7.heap.size := hm.lt 1 rfl
  replace hm : Mem w ((wx7.setCell ⟨(w.heap.size + 1 + 1), 0, none⟩ (.int .i64 x)).setCell ⟨(w.heap.size + 1 + 1), 1, none⟩ (.int .i64 y)) [(b6, #[.bool c4, .int .u64 k4, .int .u64 l4]), ((w.heap.size + 1 + 1), #[.int .i64 x, .int .i64 y]), ((w.heap.size + 1), #[.int .i64 b1, .int .i64 b2]), (w.heap.size, #[.int .i64 a1, .int .i64 a2])] := ((hm.set 1 0 (.int .i64 x) rfl).set 1 1 (.int .i64 y) rfl).to rfl
  refine regStore 10 (w' := ?_) rfl rfl (by kernel_rfl) (by rfl) ?_ ?_ (fun hHeld => ?_)
  rotate_left 1
  · (go_simp; try with_reducible rfl)
  · exact ⟨(hm).cell 3 rfl rfl, (hm).cell 3 rfl rfl, (hm).cell 2 rfl rfl, (hm).cell 2 rfl rfl, (hm).cell 0 rfl rfl, (hm).cell 0 rfl rfl, (hm).cell 0 rfl rfl, Lib.hid (hm).low⟩
  clear z0 x0 y0 x1 y1
  refine regTake 11 (some 5) (v := ?_) rfl rfl (by kernel_rfl) (by kernel_rfl) (by kernel_rfl) (fun _ _ _ h => h) (by rfl) hHeld ?_ ?_
  rotate_left 1
  · (intro w hSw; (try dsimp only at hSw); go_simp; try with_reducible rfl)
  simp only [Act.put, List.setIfInBounds_toArray, List.set_cons_zero, List.set_cons_succ]
  refine wpAnyH_done (by kernel_rfl) ?_ _
  clear hHeld
  obtain ⟨w2, hw2⟩ : ∃ w2, ((wx7.setCell ⟨(w.heap.size + 1 + 1), 0, none⟩ (.int .i64 x)).setCell ⟨(w.heap.size + 1 + 1), 1, none⟩ (.int .i64 y)) = w2 := ⟨_, rfl⟩
  rw [hw2] at hm ⊢
  have HMw2 := Lib.hid hm
  clear hm hw2
  have lr : (w.heap.size + 1 + 1) < w2.heap.size := HMw2.out.lt 1 rfl
  have cr0 : w2.cell? ⟨(w.heap.size + 1 + 1), 0, none⟩ = some (.int .i64 x) := HMw2.out.cell 1 rfl rfl
  have cr1 : w2.cell? ⟨(w.heap.size + 1 + 1), 1, none⟩ = some (.int .i64 y) := HMw2.out.cell 1 rfl rfl
  go_wp2_with fail
  exact bodyPost_ret (v := .tuple #[.agg #[.int .i64 x, .int .i64 y], .int .i64 e]) (by simp [results, Try.results18, go_sem, cr0, cr1]) rfl ⟨rfl, HMw2.out.low⟩
set_option maxHeartbeats 2000000 in
theorem rqmul_core (a1 a2 b1 b2 : Int) (c1 c3 : Bool) (k1 l1 k3 l3 : Int) (x y e : Int) (w : World)
    (m1 : ∀ w, Calls Try.prog 37 #[.int .i64 a1, .int .i64 b1] w fun en w' => en = .returned (.agg #[.bool c1, .int .u64 k1, .int .u64 l1]) ∧ Below w.heap.size w w')
    (m3 : ∀ w, Calls Try.prog 37 #[.int .i64 a2, .int .i64 b2] w fun en w' => en = .returned (.agg #[.bool c3, .int .u64 k3, .int .u64 l3]) ∧ Below w.heap.size w w')
    (m5 : ∀ w, Calls Try.prog 30 #[.agg #[.bool c1, .int .u64 k1, .int .u64 l1], .agg #[.int .u64 k3, .int .u64 l3]] w fun en w' => en = .returned (.tuple #[.agg #[.int .i64 x, .int .i64 y], .int .i64 e]) ∧ Below w.heap.size w w') :
    Calls Try.prog 19 #[.agg #[.int .i64 a1, .int .i64 a2], .agg #[.int .i64 b1, .int .i64 b2]] w fun en w' => en = .returned (.tuple #[.agg #[.int .i64 x, .int .i64 y], .int .i64 e]) ∧ Below w.heap.size w w' := by
  have M1 := Lib.hid m1; have M3 := Lib.hid m3; have M5 := Lib.hid m5
  clear m1 m3 m5
  have hfd : ∀ w, (Instr.field 59 (.agg #[.bool c3, .int .u64 k3, .int .u64 l3]) 1).run Try.prog w = .ok (.agg #[.int .u64 k3, .int .u64 l3]) w := fun _ => by kernel_rfl
  go_enter Try.func19, Try.ntmps19
  go_upto_region 1 with fail
  obtain ⟨W1x, hW1x⟩ : ∃ W1x, (((w.alloc (.cells #[.int .i64 a1, .int .i64 a2] 23)).alloc (.cells #[.int .i64 b1, .int .i64 b2] 23)).alloc (.cells #[.int .i64 0, .int .i64 0] 23)) = W1x := ⟨_, rfl⟩
  have hm : Mem w W1x [((w.heap.size + 1 + 1), #[.int .i64 0, .int .i64 0]), ((w.heap.size + 1), #[.int .i64 b1, .int .i64 b2]), (w.heap.size, #[.int .i64 a1, .int .i64 a2])] := by rw [← hW1x]; exact ((((Mem.start w).new w.heap.size _ _ rfl).new (w.heap.size + 1) _ _ (by simp)).new (w.heap.size + 1 + 1) _ _ (by simp))
  rw [hW1x]
  clear hW1x
  refine wp_region_held_drew (S := (fun w' => w'.cell? ⟨w.heap.size, 0, none⟩ = some (.int .i64 a1) ∧ w'.cell? ⟨w.heap.size, 1, none⟩ = some (.int .i64 a2) ∧ w'.cell? ⟨(w.heap.size + 1), 0, none⟩ = some (.int .i64 b1) ∧ w'.cell? ⟨(w.heap.size + 1), 1, none⟩ = some (.int .i64 b2) ∧ Hid (Below w.heap.size w w'))) (by kernel_rfl) ⟨(hm.drew).cell 2 rfl rfl, (hm.drew).cell 2 rfl rfl, (hm.drew).cell 1 rfl rfl, (hm.drew).cell 1 rfl rfl, Lib.hid (hm.drew).low⟩ (fun hHeld => ?_)
  replace hm := hm.drew
  refine regTake 0 (some 6) (v := ?_) rfl rfl (by kernel_rfl) (by kernel_rfl) (by kernel_rfl) (fun _ _ _ h => h) (by rfl) hHeld ?_ ?_
  rotate_left 1
  · (intro w hSw; (try dsimp only at hSw); go_simp; try with_reducible rfl)
  simp only [Act.put, List.setIfInBounds_toArray, List.set_cons_zero, List.set_cons_succ]
  refine regTake 1 (some 7) (v := ?_) rfl rfl (by kernel_rfl) (by kernel_rfl) (by kernel_rfl) (fun _ _ _ h => h) (by rfl) hHeld ?_ ?_
  rotate_left 1
  · (intro w hSw; (try dsimp only at hSw); go_simp; try with_reducible rfl)
  simp only [Act.put, List.setIfInBounds_toArray, List.set_cons_zero, List.set_cons_succ]
  refine regTake 2 (some 8) (v := ?_) rfl rfl (by kernel_rfl) (by kernel_rfl) (by kernel_rfl) (fun _ _ _ h => h) (by rfl) hHeld ?_ ?_
  rotate_left 1
  · (intro w hSw; (try dsimp only at hSw); go_simp; try with_reducible rfl)
  simp only [Act.put, List.setIfInBounds_toArray, List.set_cons_zero, List.set_cons_succ]
  refine regTake 3 (some 9) (v := ?_) rfl rfl (by kernel_rfl) (by kernel_rfl) (by kernel_rfl) (fun _ _ _ h => h) (by rfl) hHeld ?_ ?_
  rotate_left 1
  · (intro w hSw; (try dsimp only at hSw); go_simp; try with_reducible rfl)
  simp only [Act.put, List.setIfInBounds_toArray, List.set_cons_zero, List.set_cons_succ]
  refine regTake 5 (some 11) (v := ?_) rfl rfl (by kernel_rfl) (by kernel_rfl) (by kernel_rfl) (fun _ _ _ h => h) (by rfl) hHeld ?_ ?_
  rotate_left 1
  · (intro w hSw; (try dsimp only at hSw); go_simp; try with_reducible rfl)
  simp only [Act.put, List.setIfInBounds_toArray, List.set_cons_zero, List.set_cons_succ]
  refine regTake 6 (some 12) (v := ?_) rfl rfl (by kernel_rfl) (by kernel_rfl) (by kernel_rfl) (fun _ _ _ h => h) (by rfl) hHeld ?_ ?_
  rotate_left 1
  · (intro w hSw; (try dsimp only at hSw); go_simp; try with_reducible rfl)
  simp only [Act.put, List.setIfInBounds_toArray, List.set_cons_zero, List.set_cons_succ]
  refine regTake 7 (some 13) (v := ?_) rfl rfl (by kernel_rfl) (by kernel_rfl) (by kernel_rfl) (fun _ _ _ h => h) (by rfl) hHeld ?_ ?_
  rotate_left 1
  · (intro w hSw; (try dsimp only at hSw); go_simp; try with_reducible rfl)
  simp only [Act.put, List.setIfInBounds_toArray, List.set_cons_zero, List.set_cons_succ]
  refine regTake 8 (some 14) (v := ?_) rfl rfl (by kernel_rfl) (by kernel_rfl) (by kernel_rfl) (fun _ _ _ h => h) (by rfl) hHeld ?_ ?_
  rotate_left 1
  · (intro w hSw; (try dsimp only at hSw); go_simp; try with_reducible rfl)
  simp only [Act.put, List.setIfInBounds_toArray, List.set_cons_zero, List.set_cons_succ]
  refine regCall 4 (some 10) (f := 37) (args := ?_) rfl rfl (by kernel_rfl) (by rfl) ?_ ?_
  rotate_left 1
  · (go_simp; try with_reducible rfl)
  refine (M1.out _).mono ?_
  rintro e wx4 ⟨rfl, hbx⟩
  refine ⟨_, rfl, ⟨(hm.call hbx).cell 2 rfl rfl, (hm.call hbx).cell 2 rfl rfl, (hm.call hbx).cell 1 rfl rfl, (hm.call hbx).cell 1 rfl rfl, Lib.hid (hm.call hbx).low⟩, fun hHeld => ?_⟩
  simp only [Act.put, List.setIfInBounds_toArray, List.set_cons_zero, List.set_cons_succ]
  replace hm := hm.call hbx
  clear hbx
  refine regCall 9 (some 15) (f := 37) (args := ?_) rfl rfl (by kernel_rfl) (by rfl) ?_ ?_
  rotate_left 1
  · (go_simp; try with_reducible rfl)
  refine (M3.out _).mono ?_
  rintro e wx9 ⟨rfl, hbx⟩
  refine ⟨_, rfl, ⟨(hm.call hbx).cell 2 rfl rfl, (hm.call hbx).cell 2 rfl rfl, (hm.call hbx).cell 1 rfl rfl, (hm.call hbx).cell 1 rfl rfl, Lib.hid (hm.call hbx).low⟩, fun hHeld => ?_⟩
  simp only [Act.put, List.setIfInBounds_toArray, List.set_cons_zero, List.set_cons_succ]
  replace hm := hm.call hbx
  clear hbx
  refine regTake 10 (some 16) (v := ?_) rfl rfl (by kernel_rfl) (by kernel_rfl) (by kernel_rfl) (fun _ _ _ h => h) (by rfl) hHeld ?_ ?_
  rotate_left 1
  · (intro w hSw; (try dsimp only at hSw); go_simp; try with_reducible rfl)
  simp only [Act.put, List.setIfInBounds_toArray, List.set_cons_zero, List.set_cons_succ]
  refine regCall 11 (some 17) (f := 30) (args := ?_) rfl rfl (by kernel_rfl) (by rfl) ?_ ?_
  rotate_left 1
  · (go_simp; try with_reducible rfl)
  refine (M5.out _).mono ?_
  rintro e wx11 ⟨rfl, hbx⟩
  refine ⟨_, rfl, ⟨(hm.call hbx).cell 2 rfl rfl, (hm.call hbx).cell 2 rfl rfl, (hm.call hbx).cell 1 rfl rfl, (hm.call hbx).cell 1 rfl rfl, Lib.hid (hm.call hbx).low⟩, fun hHeld => ?_⟩
  simp only [Act.put, List.setIfInBounds_toArray, List.set_cons_zero, List.set_cons_succ]
  replace hm := hm.call hbx
  clear hbx
  refine regTake 12 (some 18) (v := ?_) rfl rfl (by kernel_rfl) (by kernel_rfl) (by kernel_rfl) (fun _ _ _ h => h) (by rfl) hHeld ?_ ?_
  rotate_left 1
  · (intro w hSw; (try dsimp only at hSw); go_simp; try with_reducible rfl)
  simp only [Act.put, List.setIfInBounds_toArray, List.set_cons_zero, List.set_cons_succ]
  refine regTake 13 (some 19) (v := ?_) rfl rfl (by kernel_rfl) (by kernel_rfl) (by kernel_rfl) (fun _ _ _ h => h) (by rfl) hHeld ?_ ?_
  rotate_left 1
  · (intro w hSw; (try dsimp only at hSw); go_simp; try with_reducible rfl)
  simp only [Act.put, List.setIfInBounds_toArray, List.set_cons_zero, List.set_cons_succ]
  have x0 : wx11.cell? ⟨(w.heap.size + 1 + 1), 0, none⟩ = some (.int .i64 0) := hm.cell 0 rfl rfl
  have y0 : wx11.frozen? ⟨(w.heap.size + 1 + 1), 0, none⟩ = false := hm.free 0 rfl 0
  have x1 : wx11.cell? ⟨(w.heap.size + 1 + 1), 1, none⟩ = some (.int .i64 0) := hm.cell 0 rfl rfl
  have y1 : wx11.frozen? ⟨(w.heap.size + 1 + 1), 1, none⟩ = false := hm.free 0 rfl 1
  have z0 : (w.heap.size + 1 + 1) < wx11.heap.size := hm.lt 0 rfl
  replace hm : Mem w ((wx11.setCell ⟨(w.heap.size + 1 + 1), 0, none⟩ (.int .i64 x)).setCell ⟨(w.heap.size + 1 + 1), 1, none⟩ (.int .i64 y)) [((w.heap.size + 1 + 1), #[.int .i64 x, .int .i64 y]), ((w.heap.size + 1), #[.int .i64 b1, .int .i64 b2]), (w.heap.size, #[.int .i64 a1, .int .i64 a2])] := ((hm.set 0 0 (.int .i64 x) rfl).set 0 1 (.int .i64 y) rfl).to rfl
  refine regStore 14 (w' := ?_) rfl rfl (by kernel_rfl) (by rfl) ?_ ?_ (fun hHeld => ?_)
  rotate_left 1
  · (go_simp; try with_reducible rfl)
  · exact ⟨(hm).cell 2 rfl rfl, (hm).cell 2 rfl rfl, (hm).cell 1 rfl rfl, (hm).cell 1 rfl rfl, Lib.hid (hm).low⟩
  clear z0 x0 y0 x1 y1
  refine regTake 15 (some 5) (v := ?_) rfl rfl (by kernel_rfl) (by kernel_rfl) (by kernel_rfl) (fun _ _ _ h => h) (by rfl) hHeld ?_ ?_
  rotate_left 1
  · (intro w hSw; (try dsimp only at hSw); go_simp; try with_reducible rfl)
  simp only [Act.put, List.setIfInBounds_toArray, List.set_cons_zero, List.set_cons_succ]
  refine wpAnyH_done (by kernel_rfl) ?_ _
  clear hHeld
  obtain ⟨w2, hw2⟩ : ∃ w2, ((wx11.setCell ⟨(w.heap.size + 1 + 1), 0, none⟩ (.int .i64 x)).setCell ⟨(w.heap.size + 1 + 1), 1, none⟩ (.int .i64 y)) = w2 := ⟨_, rfl⟩
  rw [hw2] at hm ⊢
  have HMw2 := Lib.hid hm
  clear hm hw2
  have lr : (w.heap.size + 1 + 1) < w2.heap.size := HMw2.out.lt 0 rfl
  have cr0 : w2.cell? ⟨(w.heap.size + 1 + 1), 0, none⟩ = some (.int .i64 x) := HMw2.out.cell 0 rfl rfl
  have cr1 : w2.cell? ⟨(w.heap.size + 1 + 1), 1, none⟩ = some (.int .i64 y) := HMw2.out.cell 0 rfl rfl
  go_wp2_with fail
  exact bodyPost_ret (v := .tuple #[.agg #[.int .i64 x, .int .i64 y], .int .i64 e]) (by simp [results, Try.results19, go_sem, cr0, cr1]) rfl ⟨rfl, HMw2.out.low⟩
theorem mul_bnq {a b : Int} (ha : IsInt a) (hb : IsInt b) : (a * b).natAbs ≤ 85070591730234615865843651857942052864 := by rw [Int.natAbs_mul]; exact prod_le ha hb
theorem prod_z (a b : Int) (ha : IsInt a) (hb : IsInt b) (w : World) :
    Calls Try.prog 37 #[.int .i64 a, .int .i64 b] w fun en w' => en = .returned (zS (a * b)) ∧ Below w.heap.size w w' := by
  exact product_any a b ha hb w
theorem pos_abs {z : Int} (h : 0 ≤ z) : ((z.natAbs : Nat) : Int) = z := by omega
theorem rqlow_z (z c : Int) (hz : z.natAbs < M128) (hc : c.natAbs < M128) (h0 : 0 < c) (w : World) :
    Calls Try.prog 30 #[zS z, .agg #[.int .u64 (hi c.natAbs : Nat), .int .u64 (lo c.natAbs : Nat)]] w fun en w' => en = .returned (.tuple #[.agg #[.int .i64 (raN z c), .int .i64 (raD z c)], .int .i64 (raE z c)]) ∧ Below w.heap.size w w' := by
  have m := rqlow_any (decide (z < 0)) z.natAbs c.natAbs hz hc (by omega) w
  rw [sgn_abs, pos_abs (Int.le_of_lt h0)] at m
  exact m
theorem rqadd_any (a1 a2 b1 b2 : Int) (ha1 : IsInt a1) (ha2 : IsInt a2) (hb1 : IsInt b1) (hb2 : IsInt b2) (ha : 0 < a2) (hb : 0 < b2) (w : World) :
    Calls Try.prog 18 #[.agg #[.int .i64 a1, .int .i64 a2], .agg #[.int .i64 b1, .int .i64 b2]] w fun en w' => en = .returned (.tuple #[.agg #[.int .i64 (raN (a1 * b2 + b1 * a2) (a2 * b2)), .int .i64 (raD (a1 * b2 + b1 * a2) (a2 * b2))], .int .i64 (raE (a1 * b2 + b1 * a2) (a2 * b2))]) ∧ Below w.heap.size w w' := by
  have p1 := mul_bnq ha1 hb2
  have p2 := mul_bnq hb1 ha2
  have p3 := mul_bnq ha2 hb2
  exact rqadd_core a1 a2 b1 b2 _ _ _ _ _ _ _ _ _ _ _ _ _ _ _ w (prod_z a1 b2 ha1 hb2) (prod_z b1 a2 hb1 ha2) (plus_any _ _ (by unfold M128; omega)) (prod_z a2 b2 ha2 hb2) (rqlow_z _ _ (by unfold M128; omega) (by unfold M128; omega) (Int.mul_pos ha hb))
theorem rqmul_any (a1 a2 b1 b2 : Int) (ha1 : IsInt a1) (ha2 : IsInt a2) (hb1 : IsInt b1) (hb2 : IsInt b2) (ha : 0 < a2) (hb : 0 < b2) (w : World) :
    Calls Try.prog 19 #[.agg #[.int .i64 a1, .int .i64 a2], .agg #[.int .i64 b1, .int .i64 b2]] w fun en w' => en = .returned (.tuple #[.agg #[.int .i64 (raN (a1 * b1) (a2 * b2)), .int .i64 (raD (a1 * b1) (a2 * b2))], .int .i64 (raE (a1 * b1) (a2 * b2))]) ∧ Below w.heap.size w w' := by
  have p1 := mul_bnq ha1 hb1
  have p3 := mul_bnq ha2 hb2
  exact rqmul_core a1 a2 b1 b2 _ _ _ _ _ _ _ _ _ w (prod_z a1 b1 ha1 hb1) (prod_z a2 b2 ha2 hb2) (rqlow_z _ _ (by unfold M128; omega) (by unfold M128; omega) (Int.mul_pos ha hb))
theorem rqenc_lo (n d s x y g : Int) (w : World)
    (m1 : ∀ w, Calls Try.prog 35 #[.int .i64 n, .int .i64 s, .int .i64 d, .int .i64 0] w fun en w' => en = .returned (.tuple #[.int .i64 x, .int .i64 5]) ∧ Below w.heap.size w w')
    (m2 : ∀ w, Calls Try.prog 35 #[.int .i64 n, .int .i64 s, .int .i64 d, .int .i64 1] w fun en w' => en = .returned (.tuple #[.int .i64 y, .int .i64 g]) ∧ Below w.heap.size w w') :
    Calls Try.prog 17 #[.agg #[.int .i64 n, .int .i64 d], .int .i64 s] w fun en w' => en = .returned (.tuple #[.agg #[.int .i64 0, .int .i64 0], .int .i64 5]) ∧ Below w.heap.size w w' := by
  have M1 := Lib.hid m1; have M2 := Lib.hid m2
  clear m1 m2
  go_enter Try.func17, Try.ntmps17
  go_wp2_with fail
  refine (M1.out _).mono ?_
  rintro e w1 ⟨rfl, hb⟩
  have HMw1 := Lib.hid ((((Mem.start w).new w.heap.size _ _ rfl).new (w.heap.size + 1) _ _ (by simp)).call hb)
  clear hb
  have la : w.heap.size < w1.heap.size := HMw1.out.lt 1 rfl
  have ca0 : w1.cell? ⟨w.heap.size, 0, none⟩ = some (.int .i64 n) := HMw1.out.cell 1 rfl rfl
  have ca1 : w1.cell? ⟨w.heap.size, 1, none⟩ = some (.int .i64 d) := HMw1.out.cell 1 rfl rfl
  go_wp2_with fail
  refine (M2.out _).mono ?_
  rintro e w2 ⟨rfl, hb⟩
  have HMw2 := Lib.hid (HMw1.out.call hb)
  clear hb la ca0 ca1 HMw1
  have lr : (w.heap.size + 1) < w2.heap.size := HMw2.out.lt 0 rfl
  have cr0 : w2.cell? ⟨(w.heap.size + 1), 0, none⟩ = some (.int .i64 0) := HMw2.out.cell 0 rfl rfl
  have fr0 : w2.frozen? ⟨(w.heap.size + 1), 0, none⟩ = false := HMw2.out.free 0 rfl 0
  have cr1 : w2.cell? ⟨(w.heap.size + 1), 1, none⟩ = some (.int .i64 0) := HMw2.out.cell 0 rfl rfl
  have fr1 : w2.frozen? ⟨(w.heap.size + 1), 1, none⟩ = false := HMw2.out.free 0 rfl 1
  go_wp2_with fail
  exact bodyPost_ret (v := .tuple #[.agg #[.int .i64 0, .int .i64 0], .int .i64 5]) (by simp [results, Try.results17, go_sem, cr0, cr1]) rfl ⟨rfl, (((HMw2.out.set 0 0 (.int .i64 0) rfl).set 0 1 (.int .i64 0) rfl).to (l' := [((w.heap.size + 1), #[.int .i64 0, .int .i64 0]), (w.heap.size, #[.int .i64 n, .int .i64 d])]) rfl).low⟩
theorem rqenc_hi (n d s x y : Int) (w : World)
    (m1 : ∀ w, Calls Try.prog 35 #[.int .i64 n, .int .i64 s, .int .i64 d, .int .i64 0] w fun en w' => en = .returned (.tuple #[.int .i64 x, .int .i64 0]) ∧ Below w.heap.size w w')
    (m2 : ∀ w, Calls Try.prog 35 #[.int .i64 n, .int .i64 s, .int .i64 d, .int .i64 1] w fun en w' => en = .returned (.tuple #[.int .i64 y, .int .i64 5]) ∧ Below w.heap.size w w') :
    Calls Try.prog 17 #[.agg #[.int .i64 n, .int .i64 d], .int .i64 s] w fun en w' => en = .returned (.tuple #[.agg #[.int .i64 0, .int .i64 0], .int .i64 5]) ∧ Below w.heap.size w w' := by
  have M1 := Lib.hid m1; have M2 := Lib.hid m2
  clear m1 m2
  go_enter Try.func17, Try.ntmps17
  go_wp2_with fail
  refine (M1.out _).mono ?_
  rintro e w1 ⟨rfl, hb⟩
  have HMw1 := Lib.hid ((((Mem.start w).new w.heap.size _ _ rfl).new (w.heap.size + 1) _ _ (by simp)).call hb)
  clear hb
  have la : w.heap.size < w1.heap.size := HMw1.out.lt 1 rfl
  have ca0 : w1.cell? ⟨w.heap.size, 0, none⟩ = some (.int .i64 n) := HMw1.out.cell 1 rfl rfl
  have ca1 : w1.cell? ⟨w.heap.size, 1, none⟩ = some (.int .i64 d) := HMw1.out.cell 1 rfl rfl
  go_wp2_with fail
  refine (M2.out _).mono ?_
  rintro e w2 ⟨rfl, hb⟩
  have HMw2 := Lib.hid (HMw1.out.call hb)
  clear hb la ca0 ca1 HMw1
  have lr : (w.heap.size + 1) < w2.heap.size := HMw2.out.lt 0 rfl
  have cr0 : w2.cell? ⟨(w.heap.size + 1), 0, none⟩ = some (.int .i64 0) := HMw2.out.cell 0 rfl rfl
  have fr0 : w2.frozen? ⟨(w.heap.size + 1), 0, none⟩ = false := HMw2.out.free 0 rfl 0
  have cr1 : w2.cell? ⟨(w.heap.size + 1), 1, none⟩ = some (.int .i64 0) := HMw2.out.cell 0 rfl rfl
  have fr1 : w2.frozen? ⟨(w.heap.size + 1), 1, none⟩ = false := HMw2.out.free 0 rfl 1
  go_wp2_with fail
  exact bodyPost_ret (v := .tuple #[.agg #[.int .i64 0, .int .i64 0], .int .i64 5]) (by simp [results, Try.results17, go_sem, cr0, cr1]) rfl ⟨rfl, (((HMw2.out.set 0 0 (.int .i64 0) rfl).set 0 1 (.int .i64 0) rfl).to (l' := [((w.heap.size + 1), #[.int .i64 0, .int .i64 0]), (w.heap.size, #[.int .i64 n, .int .i64 d])]) rfl).low⟩
theorem rqenc_ok (n d s x y : Int) (w : World)
    (m1 : ∀ w, Calls Try.prog 35 #[.int .i64 n, .int .i64 s, .int .i64 d, .int .i64 0] w fun en w' => en = .returned (.tuple #[.int .i64 x, .int .i64 0]) ∧ Below w.heap.size w w')
    (m2 : ∀ w, Calls Try.prog 35 #[.int .i64 n, .int .i64 s, .int .i64 d, .int .i64 1] w fun en w' => en = .returned (.tuple #[.int .i64 y, .int .i64 0]) ∧ Below w.heap.size w w') :
    Calls Try.prog 17 #[.agg #[.int .i64 n, .int .i64 d], .int .i64 s] w fun en w' => en = .returned (.tuple #[.agg #[.int .i64 x, .int .i64 y], .int .i64 0]) ∧ Below w.heap.size w w' := by
  have M1 := Lib.hid m1; have M2 := Lib.hid m2
  clear m1 m2
  go_enter Try.func17, Try.ntmps17
  go_wp2_with fail
  refine (M1.out _).mono ?_
  rintro e w1 ⟨rfl, hb⟩
  have HMw1 := Lib.hid ((((Mem.start w).new w.heap.size _ _ rfl).new (w.heap.size + 1) _ _ (by simp)).call hb)
  clear hb
  have la : w.heap.size < w1.heap.size := HMw1.out.lt 1 rfl
  have ca0 : w1.cell? ⟨w.heap.size, 0, none⟩ = some (.int .i64 n) := HMw1.out.cell 1 rfl rfl
  have ca1 : w1.cell? ⟨w.heap.size, 1, none⟩ = some (.int .i64 d) := HMw1.out.cell 1 rfl rfl
  go_wp2_with fail
  refine (M2.out _).mono ?_
  rintro e w2 ⟨rfl, hb⟩
  have HMw2 := Lib.hid (HMw1.out.call hb)
  clear hb la ca0 ca1 HMw1
  have lr : (w.heap.size + 1) < w2.heap.size := HMw2.out.lt 0 rfl
  have cr0 : w2.cell? ⟨(w.heap.size + 1), 0, none⟩ = some (.int .i64 0) := HMw2.out.cell 0 rfl rfl
  have fr0 : w2.frozen? ⟨(w.heap.size + 1), 0, none⟩ = false := HMw2.out.free 0 rfl 0
  have cr1 : w2.cell? ⟨(w.heap.size + 1), 1, none⟩ = some (.int .i64 0) := HMw2.out.cell 0 rfl rfl
  have fr1 : w2.frozen? ⟨(w.heap.size + 1), 1, none⟩ = false := HMw2.out.free 0 rfl 1
  go_wp2_with fail
  exact bodyPost_ret (v := .tuple #[.agg #[.int .i64 x, .int .i64 y], .int .i64 0]) (by simp [results, Try.results17, go_sem, cr0, cr1]) rfl ⟨rfl, (((HMw2.out.set 0 0 (.int .i64 x) rfl).set 0 1 (.int .i64 y) rfl).to (l' := [((w.heap.size + 1), #[.int .i64 x, .int .i64 y]), (w.heap.size, #[.int .i64 n, .int .i64 d])]) rfl).low⟩
theorem rqenclose_any (n d s : Int) (hn : IsInt n) (hd : IsInt d) (hs : IsInt s) (d0 : d ≠ 0) (w : World) :
    Calls Try.prog 17 #[.agg #[.int .i64 n, .int .i64 d], .int .i64 s] w fun en w' => en = .returned (.tuple #[.agg #[.int .i64 (rLo (md n s d 0) (md n s d 1)), .int .i64 (rHi (md n s d 0) (md n s d 1))], .int .i64 (rErr (md n s d 0) (md n s d 1))]) ∧ Below w.heap.size w w' := by
  have m2 := fun w => refmd_any 0 (by decide) n s d hn hs hd d0 w
  have m3 := fun w => refmd_any 1 (by decide) n s d hn hs hd d0 w
  by_cases i : IsInt (md n s d 0)
  · rw [ans_ok i, err_ok i] at m2
    by_cases j : IsInt (md n s d 1)
    · rw [ans_ok j, err_ok j] at m3
      have k : IsInt (md n s d 0) ∧ IsInt (md n s d 1) := ⟨i, j⟩
      rw [rLo_ok k, rHi_ok k, rErr_ok k]
      exact rqenc_ok n d s _ _ w m2 m3
    · rw [err_no j] at m3
      have k : ¬ (IsInt (md n s d 0) ∧ IsInt (md n s d 1)) := fun k => j k.2
      rw [rLo_no k, rHi_no k, rErr_no k]
      exact rqenc_hi n d s _ _ w m2 m3
  · rw [err_no i] at m2
    have k : ¬ (IsInt (md n s d 0) ∧ IsInt (md n s d 1)) := fun k => i k.1
    rw [rLo_no k, rHi_no k, rErr_no k]
    exact rqenc_lo n d s _ _ _ w m2 m3
end Go.Proofs.Ytjnebbjjabnipaa
