/- The law RatioMakes, walked: New and Right are as the reference's; nothing that was in memory before is changed. -/
import Derived.Test.YtjnebbjjabnipaaAlive6
import Derived.Test.YtjnebbjjabnipaaRatioRef
namespace Go.Proofs.Ytjnebbjjabnipaa
open Go.RowKit

theorem rmakes_zero (n d p q : Int) (D : Bool) (w : World) (hd : (d == 0) = true)
    (m1 : ∀ w, Calls Try.prog 8 #[.int .i64 n, .int .i64 d] w fun en w' => en = .returned (.tuple #[.agg #[.int .i64 0, .int .i64 0], .int .i64 4]) ∧ Below w.heap.size w w')
    (m2 : ∀ w, Calls Try.prog 9 #[.agg #[.int .i64 p, .int .i64 q]] w fun en w' => en = .returned (.bool D) ∧ Below w.heap.size w w')
    (m3 : ∀ w, Calls Try.prog 10 #[.agg #[.int .i64 p, .int .i64 q]] w fun en w' => en = .returned (.bool D) ∧ Below w.heap.size w w') :
    Calls Try.prog 3 #[.int .i64 n, .int .i64 d, .agg #[.int .i64 p, .int .i64 q]] w fun en w' => en = .returned (.bool true) ∧ Below w.heap.size w w' := by
  have M1 := Lib.hid m1; have M2 := Lib.hid m2; have M3 := Lib.hid m3
  clear m1 m2 m3
  have hE := eqRatio_same 0 0
  go_enter Try.func3, Try.ntmps3
  go_wp2_with fail
  refine (M1.out _).mono ?_
  rintro e w1 ⟨rfl, hb⟩
  have HMw1 := Lib.hid (((Mem.start w).new w.heap.size _ _ rfl).call hb)
  clear hb
  go_upto_region 2 with fail
  obtain ⟨W2x, hW2x⟩ : ∃ W2x, (w1.alloc (.cells #[.int .i64 0, .int .i64 0] 23)) = W2x := ⟨_, rfl⟩
  have hm : Mem w W2x [(w1.heap.size, #[.int .i64 0, .int .i64 0]), (w.heap.size, #[.int .i64 p, .int .i64 q])] := by rw [← hW2x]; exact (HMw1.out.new w1.heap.size _ _ rfl)
  rw [hW2x]
  clear hW2x HMw1
  have mk : ∀ w', Mem w w' [(w1.heap.size, #[.int .i64 0, .int .i64 0]), (w.heap.size, #[.int .i64 p, .int .i64 q])] → (fun w' => w'.cell? ⟨w.heap.size, 0, none⟩ = some (.int .i64 p) ∧ w'.cell? ⟨w.heap.size, 1, none⟩ = some (.int .i64 q) ∧ Hid (Mem w w' [(w1.heap.size, #[.int .i64 0, .int .i64 0]), (w.heap.size, #[.int .i64 p, .int .i64 q])])) w' := fun w' h => ⟨h.cell 1 rfl rfl, h.cell 1 rfl rfl, Lib.hid h⟩
  have hok : OwnOk (fun w' => w'.cell? ⟨w.heap.size, 0, none⟩ = some (.int .i64 p) ∧ w'.cell? ⟨w.heap.size, 1, none⟩ = some (.int .i64 q) ∧ Hid (Mem w w' [(w1.heap.size, #[.int .i64 0, .int .i64 0]), (w.heap.size, #[.int .i64 p, .int .i64 q])])) W2x.heap.size [] := own0_ok (fun v1 v2 h hb => mk _ (h.2.2.out.step hb hm.lts hm.low.size))
  have hfit : ∀ i, (∀ e ∈ ([] : List Ent), e.x ≠ i ∧ e.s ≠ i) → Fit (fun w' => w'.cell? ⟨w.heap.size, 0, none⟩ = some (.int .i64 p) ∧ w'.cell? ⟨w.heap.size, 1, none⟩ = some (.int .i64 q) ∧ Hid (Mem w w' [(w1.heap.size, #[.int .i64 0, .int .i64 0]), (w.heap.size, #[.int .i64 p, .int .i64 q])])) (Sof (fun w' => w'.cell? ⟨w.heap.size, 0, none⟩ = some (.int .i64 p) ∧ w'.cell? ⟨w.heap.size, 1, none⟩ = some (.int .i64 q) ∧ Hid (Mem w w' [(w1.heap.size, #[.int .i64 0, .int .i64 0]), (w.heap.size, #[.int .i64 p, .int .i64 q])])) W2x.heap.size []) i := fun i hi => sof_fit hok.st hok.loc hi
  have HOK := Lib.hid hok; have HF := Lib.hid hfit; clear hok hfit
  refine wp_region_ab (S0 := (fun w' => w'.cell? ⟨w.heap.size, 0, none⟩ = some (.int .i64 p) ∧ w'.cell? ⟨w.heap.size, 1, none⟩ = some (.int .i64 q) ∧ Hid (Mem w w' [(w1.heap.size, #[.int .i64 0, .int .i64 0]), (w.heap.size, #[.int .i64 p, .int .i64 q])]))) W2x.heap.size [] (by kernel_rfl) (mk _ hm.drew) (Nat.le_refl _) (by simp) ?_
  have HMK := Lib.hid mk
  clear hm mk
  refine abTake 0 (some 17) (v := ?_) rfl rfl (by kernel_rfl) (by kernel_rfl) (by kernel_rfl) (fun _ _ _ h => h) (HF.out _ (by simp)) (by rfl) ?_ ?_
  rotate_left 1
  · (intro w hSw; (try dsimp only at hSw); go_simp; try with_reducible rfl)
  simp only [Act.put, List.setIfInBounds_toArray, List.set_cons_zero, List.set_cons_succ]
  refine abCall 1 (some 18) rfl rfl (by kernel_rfl) (by kernel_rfl) (by kernel_rfl) (fun _ _ _ h => h) (HF.out _ (by simp)) (by rfl) ?_ (fun w hSw => M2.out _) ?_
  · (intro w hSw; (try dsimp only at hSw); go_simp; try with_reducible rfl)
  simp only [Act.put, List.setIfInBounds_toArray, List.set_cons_zero, List.set_cons_succ]
  refine abTake 2 (some 19) (v := ?_) rfl rfl (by kernel_rfl) (by kernel_rfl) (by kernel_rfl) (fun _ _ _ h => h) (HF.out _ (by simp)) (by rfl) ?_ ?_
  rotate_left 1
  · (intro w hSw; (try dsimp only at hSw); go_simp; try with_reducible rfl)
  simp only [Act.put, List.setIfInBounds_toArray, List.set_cons_zero, List.set_cons_succ]
  refine abCall 3 (some 20) rfl rfl (by kernel_rfl) (by kernel_rfl) (by kernel_rfl) (fun _ _ _ h => h) (HF.out _ (by simp)) (by rfl) ?_ (fun w hSw => M3.out _) ?_
  · (intro w hSw; (try dsimp only at hSw); go_simp; try with_reducible rfl)
  simp only [Act.put, List.setIfInBounds_toArray, List.set_cons_zero, List.set_cons_succ]
  refine abTake 4 (some 21) (v := ?_) rfl rfl (by kernel_rfl) (by kernel_rfl) (by kernel_rfl) (fun _ _ _ h => h) (HF.out _ (by simp)) (by rfl) ?_ ?_
  rotate_left 1
  · (intro w hSw; (try dsimp only at hSw); go_simp; try with_reducible rfl)
  simp only [Act.put, List.setIfInBounds_toArray, List.set_cons_zero, List.set_cons_succ]
  refine abTake 5 (some 22) (v := ?_) rfl rfl (by kernel_rfl) (by kernel_rfl) (by kernel_rfl) (fun _ _ _ h => h) (HF.out _ (by simp)) (by rfl) ?_ ?_
  rotate_left 1
  · (intro w hSw; (try dsimp only at hSw); go_simp; try with_reducible rfl)
  simp only [Act.put, List.setIfInBounds_toArray, List.set_cons_zero, List.set_cons_succ]
  refine abCall 6 (some 23) rfl rfl (by kernel_rfl) (by kernel_rfl) (by kernel_rfl) (fun _ _ _ h => h) (HF.out _ (by simp)) (by rfl) ?_ (fun w hSw => alive6 _) ?_
  · (intro w hSw; (try dsimp only at hSw); go_simp; try with_reducible rfl)
  simp only [Act.put, List.setIfInBounds_toArray, List.set_cons_zero, List.set_cons_succ]
  refine abTake 7 (some 24) (v := ?_) rfl rfl (by kernel_rfl) (by kernel_rfl) (by kernel_rfl) (fun _ _ _ h => h) (HF.out _ (by simp)) (by rfl) ?_ ?_
  rotate_left 1
  · (intro w hSw; (try dsimp only at hSw); go_simp; try with_reducible rfl)
  simp only [Act.put, List.setIfInBounds_toArray, List.set_cons_zero, List.set_cons_succ]
  refine abTake 8 (some 25) (v := ?_) rfl rfl (by kernel_rfl) (by kernel_rfl) (by kernel_rfl) (fun _ _ _ h => h) (HF.out _ (by simp)) (by rfl) ?_ ?_
  rotate_left 1
  · (intro w hSw; (try dsimp only at hSw); go_simp; try with_reducible rfl)
  simp only [Act.put, List.setIfInBounds_toArray, List.set_cons_zero, List.set_cons_succ]
  refine abDone (by kernel_rfl) ?_ _
  rintro w2 hS
  have HMw2 := Lib.hid (hS.1.2.2.out)
  clear hS HOK HF HMK
  have la : w1.heap.size < w2.heap.size := HMw2.out.lt 0 rfl
  have ca0 : w2.cell? ⟨w1.heap.size, 0, none⟩ = some (.int .i64 0) := HMw2.out.cell 0 rfl rfl
  have ca1 : w2.cell? ⟨w1.heap.size, 1, none⟩ = some (.int .i64 0) := HMw2.out.cell 0 rfl rfl
  go_wp2_with fail
  go_ret
  exact ⟨rfl, HMw2.out.low⟩
theorem rmakes_over (n d p q : Int) (D : Bool) (w : World) (hd : (d == 0) = false)
    (m1 : ∀ w, Calls Try.prog 8 #[.int .i64 n, .int .i64 d] w fun en w' => en = .returned (.tuple #[.agg #[.int .i64 0, .int .i64 0], .int .i64 5]) ∧ Below w.heap.size w w')
    (m2 : ∀ w, Calls Try.prog 9 #[.agg #[.int .i64 p, .int .i64 q]] w fun en w' => en = .returned (.bool D) ∧ Below w.heap.size w w')
    (m3 : ∀ w, Calls Try.prog 10 #[.agg #[.int .i64 p, .int .i64 q]] w fun en w' => en = .returned (.bool D) ∧ Below w.heap.size w w')
    (m4 : ∀ w, Calls Try.prog 12 #[.int .i64 n, .int .i64 d] w fun en w' => en = .returned (.tuple #[.agg #[.int .i64 0, .int .i64 0], .int .i64 5]) ∧ Below w.heap.size w w') :
    Calls Try.prog 3 #[.int .i64 n, .int .i64 d, .agg #[.int .i64 p, .int .i64 q]] w fun en w' => en = .returned (.bool true) ∧ Below w.heap.size w w' := by
  have M1 := Lib.hid m1; have M2 := Lib.hid m2; have M3 := Lib.hid m3; have M4 := Lib.hid m4
  clear m1 m2 m3 m4
  have hE := eqRatio_same 0 0
  go_enter Try.func3, Try.ntmps3
  go_wp2_with fail
  refine (M1.out _).mono ?_
  rintro e w1 ⟨rfl, hb⟩
  have HMw1 := Lib.hid (((Mem.start w).new w.heap.size _ _ rfl).call hb)
  clear hb
  go_upto_region 2 with fail
  obtain ⟨W2x, hW2x⟩ : ∃ W2x, (w1.alloc (.cells #[.int .i64 0, .int .i64 0] 23)) = W2x := ⟨_, rfl⟩
  have hm : Mem w W2x [(w1.heap.size, #[.int .i64 0, .int .i64 0]), (w.heap.size, #[.int .i64 p, .int .i64 q])] := by rw [← hW2x]; exact (HMw1.out.new w1.heap.size _ _ rfl)
  rw [hW2x]
  clear hW2x HMw1
  have mk : ∀ w', Mem w w' [(w1.heap.size, #[.int .i64 0, .int .i64 0]), (w.heap.size, #[.int .i64 p, .int .i64 q])] → (fun w' => w'.cell? ⟨w.heap.size, 0, none⟩ = some (.int .i64 p) ∧ w'.cell? ⟨w.heap.size, 1, none⟩ = some (.int .i64 q) ∧ Hid (Mem w w' [(w1.heap.size, #[.int .i64 0, .int .i64 0]), (w.heap.size, #[.int .i64 p, .int .i64 q])])) w' := fun w' h => ⟨h.cell 1 rfl rfl, h.cell 1 rfl rfl, Lib.hid h⟩
  have hok : OwnOk (fun w' => w'.cell? ⟨w.heap.size, 0, none⟩ = some (.int .i64 p) ∧ w'.cell? ⟨w.heap.size, 1, none⟩ = some (.int .i64 q) ∧ Hid (Mem w w' [(w1.heap.size, #[.int .i64 0, .int .i64 0]), (w.heap.size, #[.int .i64 p, .int .i64 q])])) W2x.heap.size [] := own0_ok (fun v1 v2 h hb => mk _ (h.2.2.out.step hb hm.lts hm.low.size))
  have hfit : ∀ i, (∀ e ∈ ([] : List Ent), e.x ≠ i ∧ e.s ≠ i) → Fit (fun w' => w'.cell? ⟨w.heap.size, 0, none⟩ = some (.int .i64 p) ∧ w'.cell? ⟨w.heap.size, 1, none⟩ = some (.int .i64 q) ∧ Hid (Mem w w' [(w1.heap.size, #[.int .i64 0, .int .i64 0]), (w.heap.size, #[.int .i64 p, .int .i64 q])])) (Sof (fun w' => w'.cell? ⟨w.heap.size, 0, none⟩ = some (.int .i64 p) ∧ w'.cell? ⟨w.heap.size, 1, none⟩ = some (.int .i64 q) ∧ Hid (Mem w w' [(w1.heap.size, #[.int .i64 0, .int .i64 0]), (w.heap.size, #[.int .i64 p, .int .i64 q])])) W2x.heap.size []) i := fun i hi => sof_fit hok.st hok.loc hi
  have HOK := Lib.hid hok; have HF := Lib.hid hfit; clear hok hfit
  refine wp_region_ab (S0 := (fun w' => w'.cell? ⟨w.heap.size, 0, none⟩ = some (.int .i64 p) ∧ w'.cell? ⟨w.heap.size, 1, none⟩ = some (.int .i64 q) ∧ Hid (Mem w w' [(w1.heap.size, #[.int .i64 0, .int .i64 0]), (w.heap.size, #[.int .i64 p, .int .i64 q])]))) W2x.heap.size [] (by kernel_rfl) (mk _ hm.drew) (Nat.le_refl _) (by simp) ?_
  have HMK := Lib.hid mk
  clear hm mk
  refine abTake 0 (some 17) (v := ?_) rfl rfl (by kernel_rfl) (by kernel_rfl) (by kernel_rfl) (fun _ _ _ h => h) (HF.out _ (by simp)) (by rfl) ?_ ?_
  rotate_left 1
  · (intro w hSw; (try dsimp only at hSw); go_simp; try with_reducible rfl)
  simp only [Act.put, List.setIfInBounds_toArray, List.set_cons_zero, List.set_cons_succ]
  refine abCall 1 (some 18) rfl rfl (by kernel_rfl) (by kernel_rfl) (by kernel_rfl) (fun _ _ _ h => h) (HF.out _ (by simp)) (by rfl) ?_ (fun w hSw => M2.out _) ?_
  · (intro w hSw; (try dsimp only at hSw); go_simp; try with_reducible rfl)
  simp only [Act.put, List.setIfInBounds_toArray, List.set_cons_zero, List.set_cons_succ]
  refine abTake 2 (some 19) (v := ?_) rfl rfl (by kernel_rfl) (by kernel_rfl) (by kernel_rfl) (fun _ _ _ h => h) (HF.out _ (by simp)) (by rfl) ?_ ?_
  rotate_left 1
  · (intro w hSw; (try dsimp only at hSw); go_simp; try with_reducible rfl)
  simp only [Act.put, List.setIfInBounds_toArray, List.set_cons_zero, List.set_cons_succ]
  refine abCall 3 (some 20) rfl rfl (by kernel_rfl) (by kernel_rfl) (by kernel_rfl) (fun _ _ _ h => h) (HF.out _ (by simp)) (by rfl) ?_ (fun w hSw => M3.out _) ?_
  · (intro w hSw; (try dsimp only at hSw); go_simp; try with_reducible rfl)
  simp only [Act.put, List.setIfInBounds_toArray, List.set_cons_zero, List.set_cons_succ]
  refine abTake 4 (some 21) (v := ?_) rfl rfl (by kernel_rfl) (by kernel_rfl) (by kernel_rfl) (fun _ _ _ h => h) (HF.out _ (by simp)) (by rfl) ?_ ?_
  rotate_left 1
  · (intro w hSw; (try dsimp only at hSw); go_simp; try with_reducible rfl)
  simp only [Act.put, List.setIfInBounds_toArray, List.set_cons_zero, List.set_cons_succ]
  refine abTake 5 (some 22) (v := ?_) rfl rfl (by kernel_rfl) (by kernel_rfl) (by kernel_rfl) (fun _ _ _ h => h) (HF.out _ (by simp)) (by rfl) ?_ ?_
  rotate_left 1
  · (intro w hSw; (try dsimp only at hSw); go_simp; try with_reducible rfl)
  simp only [Act.put, List.setIfInBounds_toArray, List.set_cons_zero, List.set_cons_succ]
  refine abCall 6 (some 23) rfl rfl (by kernel_rfl) (by kernel_rfl) (by kernel_rfl) (fun _ _ _ h => h) (HF.out _ (by simp)) (by rfl) ?_ (fun w hSw => alive6 _) ?_
  · (intro w hSw; (try dsimp only at hSw); go_simp; try with_reducible rfl)
  simp only [Act.put, List.setIfInBounds_toArray, List.set_cons_zero, List.set_cons_succ]
  refine abTake 7 (some 24) (v := ?_) rfl rfl (by kernel_rfl) (by kernel_rfl) (by kernel_rfl) (fun _ _ _ h => h) (HF.out _ (by simp)) (by rfl) ?_ ?_
  rotate_left 1
  · (intro w hSw; (try dsimp only at hSw); go_simp; try with_reducible rfl)
  simp only [Act.put, List.setIfInBounds_toArray, List.set_cons_zero, List.set_cons_succ]
  refine abTake 8 (some 25) (v := ?_) rfl rfl (by kernel_rfl) (by kernel_rfl) (by kernel_rfl) (fun _ _ _ h => h) (HF.out _ (by simp)) (by rfl) ?_ ?_
  rotate_left 1
  · (intro w hSw; (try dsimp only at hSw); go_simp; try with_reducible rfl)
  simp only [Act.put, List.setIfInBounds_toArray, List.set_cons_zero, List.set_cons_succ]
  refine abDone (by kernel_rfl) ?_ _
  rintro w2 hS
  have HMw2 := Lib.hid (hS.1.2.2.out)
  clear hS HOK HF HMK
  go_wp2_with fail
  refine (M4.out _).mono ?_
  rintro e w3 ⟨rfl, hb⟩
  have HMw3 := Lib.hid (HMw2.out.call hb)
  clear hb HMw2
  have la : w1.heap.size < w3.heap.size := HMw3.out.lt 0 rfl
  have ca0 : w3.cell? ⟨w1.heap.size, 0, none⟩ = some (.int .i64 0) := HMw3.out.cell 0 rfl rfl
  have ca1 : w3.cell? ⟨w1.heap.size, 1, none⟩ = some (.int .i64 0) := HMw3.out.cell 0 rfl rfl
  go_wp2_with fail
  go_ret
  exact ⟨rfl, (HMw3.out.new w3.heap.size _ _ rfl).low⟩
theorem rmakes_ok (n d p q : Int) (x y : Int) (D : Bool) (w : World) (hd : (d == 0) = false)
    (m1 : ∀ w, Calls Try.prog 8 #[.int .i64 n, .int .i64 d] w fun en w' => en = .returned (.tuple #[.agg #[.int .i64 x, .int .i64 y], .int .i64 0]) ∧ Below w.heap.size w w')
    (m2 : ∀ w, Calls Try.prog 9 #[.agg #[.int .i64 p, .int .i64 q]] w fun en w' => en = .returned (.bool D) ∧ Below w.heap.size w w')
    (m3 : ∀ w, Calls Try.prog 10 #[.agg #[.int .i64 p, .int .i64 q]] w fun en w' => en = .returned (.bool D) ∧ Below w.heap.size w w')
    (m4 : ∀ w, Calls Try.prog 12 #[.int .i64 n, .int .i64 d] w fun en w' => en = .returned (.tuple #[.agg #[.int .i64 x, .int .i64 y], .int .i64 0]) ∧ Below w.heap.size w w')
    (m5 : ∀ w, Calls Try.prog 9 #[.agg #[.int .i64 x, .int .i64 y]] w fun en w' => en = .returned (.bool true) ∧ Below w.heap.size w w') :
    Calls Try.prog 3 #[.int .i64 n, .int .i64 d, .agg #[.int .i64 p, .int .i64 q]] w fun en w' => en = .returned (.bool true) ∧ Below w.heap.size w w' := by
  have M1 := Lib.hid m1; have M2 := Lib.hid m2; have M3 := Lib.hid m3; have M4 := Lib.hid m4; have M5 := Lib.hid m5
  clear m1 m2 m3 m4 m5
  have hE := eqRatio_same x y
  go_enter Try.func3, Try.ntmps3
  go_wp2_with fail
  refine (M1.out _).mono ?_
  rintro e w1 ⟨rfl, hb⟩
  have HMw1 := Lib.hid (((Mem.start w).new w.heap.size _ _ rfl).call hb)
  clear hb
  go_upto_region 2 with fail
  obtain ⟨W2x, hW2x⟩ : ∃ W2x, (w1.alloc (.cells #[.int .i64 x, .int .i64 y] 23)) = W2x := ⟨_, rfl⟩
  have hm : Mem w W2x [(w1.heap.size, #[.int .i64 x, .int .i64 y]), (w.heap.size, #[.int .i64 p, .int .i64 q])] := by rw [← hW2x]; exact (HMw1.out.new w1.heap.size _ _ rfl)
  rw [hW2x]
  clear hW2x HMw1
  have mk : ∀ w', Mem w w' [(w1.heap.size, #[.int .i64 x, .int .i64 y]), (w.heap.size, #[.int .i64 p, .int .i64 q])] → (fun w' => w'.cell? ⟨w.heap.size, 0, none⟩ = some (.int .i64 p) ∧ w'.cell? ⟨w.heap.size, 1, none⟩ = some (.int .i64 q) ∧ Hid (Mem w w' [(w1.heap.size, #[.int .i64 x, .int .i64 y]), (w.heap.size, #[.int .i64 p, .int .i64 q])])) w' := fun w' h => ⟨h.cell 1 rfl rfl, h.cell 1 rfl rfl, Lib.hid h⟩
  have hok : OwnOk (fun w' => w'.cell? ⟨w.heap.size, 0, none⟩ = some (.int .i64 p) ∧ w'.cell? ⟨w.heap.size, 1, none⟩ = some (.int .i64 q) ∧ Hid (Mem w w' [(w1.heap.size, #[.int .i64 x, .int .i64 y]), (w.heap.size, #[.int .i64 p, .int .i64 q])])) W2x.heap.size [] := own0_ok (fun v1 v2 h hb => mk _ (h.2.2.out.step hb hm.lts hm.low.size))
  have hfit : ∀ i, (∀ e ∈ ([] : List Ent), e.x ≠ i ∧ e.s ≠ i) → Fit (fun w' => w'.cell? ⟨w.heap.size, 0, none⟩ = some (.int .i64 p) ∧ w'.cell? ⟨w.heap.size, 1, none⟩ = some (.int .i64 q) ∧ Hid (Mem w w' [(w1.heap.size, #[.int .i64 x, .int .i64 y]), (w.heap.size, #[.int .i64 p, .int .i64 q])])) (Sof (fun w' => w'.cell? ⟨w.heap.size, 0, none⟩ = some (.int .i64 p) ∧ w'.cell? ⟨w.heap.size, 1, none⟩ = some (.int .i64 q) ∧ Hid (Mem w w' [(w1.heap.size, #[.int .i64 x, .int .i64 y]), (w.heap.size, #[.int .i64 p, .int .i64 q])])) W2x.heap.size []) i := fun i hi => sof_fit hok.st hok.loc hi
  have HOK := Lib.hid hok; have HF := Lib.hid hfit; clear hok hfit
  refine wp_region_ab (S0 := (fun w' => w'.cell? ⟨w.heap.size, 0, none⟩ = some (.int .i64 p) ∧ w'.cell? ⟨w.heap.size, 1, none⟩ = some (.int .i64 q) ∧ Hid (Mem w w' [(w1.heap.size, #[.int .i64 x, .int .i64 y]), (w.heap.size, #[.int .i64 p, .int .i64 q])]))) W2x.heap.size [] (by kernel_rfl) (mk _ hm.drew) (Nat.le_refl _) (by simp) ?_
  have HMK := Lib.hid mk
  clear hm mk
  refine abTake 0 (some 17) (v := ?_) rfl rfl (by kernel_rfl) (by kernel_rfl) (by kernel_rfl) (fun _ _ _ h => h) (HF.out _ (by simp)) (by rfl) ?_ ?_
  rotate_left 1
  · (intro w hSw; (try dsimp only at hSw); go_simp; try with_reducible rfl)
  simp only [Act.put, List.setIfInBounds_toArray, List.set_cons_zero, List.set_cons_succ]
  refine abCall 1 (some 18) rfl rfl (by kernel_rfl) (by kernel_rfl) (by kernel_rfl) (fun _ _ _ h => h) (HF.out _ (by simp)) (by rfl) ?_ (fun w hSw => M2.out _) ?_
  · (intro w hSw; (try dsimp only at hSw); go_simp; try with_reducible rfl)
  simp only [Act.put, List.setIfInBounds_toArray, List.set_cons_zero, List.set_cons_succ]
  refine abTake 2 (some 19) (v := ?_) rfl rfl (by kernel_rfl) (by kernel_rfl) (by kernel_rfl) (fun _ _ _ h => h) (HF.out _ (by simp)) (by rfl) ?_ ?_
  rotate_left 1
  · (intro w hSw; (try dsimp only at hSw); go_simp; try with_reducible rfl)
  simp only [Act.put, List.setIfInBounds_toArray, List.set_cons_zero, List.set_cons_succ]
  refine abCall 3 (some 20) rfl rfl (by kernel_rfl) (by kernel_rfl) (by kernel_rfl) (fun _ _ _ h => h) (HF.out _ (by simp)) (by rfl) ?_ (fun w hSw => M3.out _) ?_
  · (intro w hSw; (try dsimp only at hSw); go_simp; try with_reducible rfl)
  simp only [Act.put, List.setIfInBounds_toArray, List.set_cons_zero, List.set_cons_succ]
  refine abTake 4 (some 21) (v := ?_) rfl rfl (by kernel_rfl) (by kernel_rfl) (by kernel_rfl) (fun _ _ _ h => h) (HF.out _ (by simp)) (by rfl) ?_ ?_
  rotate_left 1
  · (intro w hSw; (try dsimp only at hSw); go_simp; try with_reducible rfl)
  simp only [Act.put, List.setIfInBounds_toArray, List.set_cons_zero, List.set_cons_succ]
  refine abTake 5 (some 22) (v := ?_) rfl rfl (by kernel_rfl) (by kernel_rfl) (by kernel_rfl) (fun _ _ _ h => h) (HF.out _ (by simp)) (by rfl) ?_ ?_
  rotate_left 1
  · (intro w hSw; (try dsimp only at hSw); go_simp; try with_reducible rfl)
  simp only [Act.put, List.setIfInBounds_toArray, List.set_cons_zero, List.set_cons_succ]
  refine abCall 6 (some 23) rfl rfl (by kernel_rfl) (by kernel_rfl) (by kernel_rfl) (fun _ _ _ h => h) (HF.out _ (by simp)) (by rfl) ?_ (fun w hSw => alive6 _) ?_
  · (intro w hSw; (try dsimp only at hSw); go_simp; try with_reducible rfl)
  simp only [Act.put, List.setIfInBounds_toArray, List.set_cons_zero, List.set_cons_succ]
  refine abTake 7 (some 24) (v := ?_) rfl rfl (by kernel_rfl) (by kernel_rfl) (by kernel_rfl) (fun _ _ _ h => h) (HF.out _ (by simp)) (by rfl) ?_ ?_
  rotate_left 1
  · (intro w hSw; (try dsimp only at hSw); go_simp; try with_reducible rfl)
  simp only [Act.put, List.setIfInBounds_toArray, List.set_cons_zero, List.set_cons_succ]
  refine abTake 8 (some 25) (v := ?_) rfl rfl (by kernel_rfl) (by kernel_rfl) (by kernel_rfl) (fun _ _ _ h => h) (HF.out _ (by simp)) (by rfl) ?_ ?_
  rotate_left 1
  · (intro w hSw; (try dsimp only at hSw); go_simp; try with_reducible rfl)
  simp only [Act.put, List.setIfInBounds_toArray, List.set_cons_zero, List.set_cons_succ]
  refine abDone (by kernel_rfl) ?_ _
  rintro w2 hS
  have HMw2 := Lib.hid (hS.1.2.2.out)
  clear hS HOK HF HMK
  go_wp2_with fail
  refine (M4.out _).mono ?_
  rintro e w3 ⟨rfl, hb⟩
  have HMw3 := Lib.hid (HMw2.out.call hb)
  clear hb HMw2
  have la : w1.heap.size < w3.heap.size := HMw3.out.lt 0 rfl
  have ca0 : w3.cell? ⟨w1.heap.size, 0, none⟩ = some (.int .i64 x) := HMw3.out.cell 0 rfl rfl
  have ca1 : w3.cell? ⟨w1.heap.size, 1, none⟩ = some (.int .i64 y) := HMw3.out.cell 0 rfl rfl
  go_wp2_with fail
  refine (M5.out _).mono ?_
  rintro e w4 ⟨rfl, hb⟩
  have HMw4 := Lib.hid ((HMw3.out.new w3.heap.size _ _ rfl).call hb)
  clear hb la ca0 ca1 HMw3
  go_wp2_with fail
  go_ret
  exact ⟨rfl, HMw4.out.low⟩
theorem lowDN_low (n d : Int) (h0 : d ≠ 0) : Low (lowN n d) (lowD n d) := by
  have h := low_turn n d
  rw [← h.1, ← h.2]
  have k := red_low (if d < 0 then -n else n) d.natAbs (by omega)
  have e1 : lowN (if d < 0 then -n else n) (d.natAbs : Nat) = redN (if d < 0 then -n else n) d.natAbs := by
    unfold lowN redN
    rw [Int.natAbs_natCast, decide_eq_false (by omega : ¬ ((d.natAbs : Nat) : Int) < 0)]
    congr 1
    simp
  have e2 : lowD (if d < 0 then -n else n) (d.natAbs : Nat) = redD (if d < 0 then -n else n) d.natAbs := by
    unfold lowD redD
    rw [Int.natAbs_natCast]
  rw [e1, e2]
  exact k
theorem rmakes_walk (n d p q : Int) (hn : IsInt n) (hd : IsInt d) (hp : IsInt p) (hq : IsInt q) (w : World) :
    Calls Try.prog 3 #[.int .i64 n, .int .i64 d, .agg #[.int .i64 p, .int .i64 q]] w fun en w' => en = .returned (.bool true) ∧ Below w.heap.size w w' := by
  have m1 := new_any n d hn hd
  have m2 := right_any p q hp hq
  have m3 := rqright_any p q hp hq
  by_cases h0 : d = 0
  · have no : ¬ Fits n d := fun k => k.1 h0
    rw [raN_no no, raD_no no, show raE n d = 4 from if_pos h0] at m1
    exact rmakes_zero n d p q _ w (by simpa using h0) m1 m2 m3
  · have m4 := rqnew_any n d hn hd h0
    by_cases k : Fits n d
    · rw [raE_ok k] at m1 m4
      rw [raN_ok k, raD_ok k] at m1 m4
      exact rmakes_ok n d p q _ _ _ w (by simpa using h0) m1 m2 m3 m4 (fun w => right_ok k.2.1 k.2.2 (lowDN_low n d h0) w)
    · rw [raN_no k, raD_no k, raE_no h0 k] at m1 m4
      exact rmakes_over n d p q _ w (by simpa using h0) m1 m2 m3 m4
end Go.Proofs.Ytjnebbjjabnipaa
