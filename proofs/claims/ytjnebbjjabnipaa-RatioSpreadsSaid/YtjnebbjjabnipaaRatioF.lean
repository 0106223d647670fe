/- ratio.New, ratio.Right: a fraction in lowest terms, if these are ints; nothing that was in memory before is changed. -/
import Derived.Test.YtjnebbjjabnipaaRatioS
import Derived.Test.YtjnebbjjabnipaaRatioN
import Derived.Test.YtjnebbjjabnipaaGcd
namespace Go.Proofs.Ytjnebbjjabnipaa
open Go.RowKit

theorem fr_zero (n d : Nat) (A B : Bool) (w : World)
    (m1 : ∀ w, Calls Try.prog 45 #[.agg #[.int .u64 (hi n : Nat), .int .u64 (lo n : Nat)], .agg #[.int .u64 (hi d : Nat), .int .u64 (lo d : Nat)]] w fun en w' => en = .returned (.tuple #[.agg #[.int .u64 0, .int .u64 0], .agg #[.int .u64 0, .int .u64 0], .int .i64 4]) ∧ Below w.heap.size w w') :
    Calls Try.prog 24 #[.agg #[.bool A, .int .u64 (hi n : Nat), .int .u64 (lo n : Nat), .bool B, .int .u64 (hi d : Nat), .int .u64 (lo d : Nat)]] w fun en w' => en = .returned (.tuple #[.agg #[.int .i64 0, .int .i64 0], .int .i64 4]) ∧ Below w.heap.size w w' := by
  have M1 := Lib.hid m1
  clear m1
  go_enter Try.func24, Try.ntmps24
  go_wp2_with fail
  refine (M1.out _).mono ?_
  rintro e w1 ⟨rfl, hb⟩
  have HMw1 := Lib.hid ((((Mem.start w).new w.heap.size _ _ rfl).new (w.heap.size + 1) _ _ (by simp)).call hb)
  clear hb
  have lr : (w.heap.size + 1) < w1.heap.size := HMw1.out.lt 0 rfl
  have cr0 : w1.cell? ⟨(w.heap.size + 1), 0, none⟩ = some (.int .i64 0) := HMw1.out.cell 0 rfl rfl
  have fr0 : w1.frozen? ⟨(w.heap.size + 1), 0, none⟩ = false := HMw1.out.free 0 rfl 0
  have cr1 : w1.cell? ⟨(w.heap.size + 1), 1, none⟩ = some (.int .i64 0) := HMw1.out.cell 0 rfl rfl
  have fr1 : w1.frozen? ⟨(w.heap.size + 1), 1, none⟩ = false := HMw1.out.free 0 rfl 1
  have lf : w.heap.size < w1.heap.size := HMw1.out.lt 1 rfl
  go_wp2_with fail
  exact bodyPost_ret (v := .tuple #[.agg #[.int .i64 0, .int .i64 0], .int .i64 4]) (by simp [results, Try.results24, go_sem, cr0, cr1, lr, lf]) rfl ⟨rfl, (((((HMw1.out.set 0 0 (.int .i64 0) rfl).set 0 1 (.int .i64 0) rfl).new w1.heap.size _ _ (by simp [World.setCell])).new (w1.heap.size + 1) _ _ (by simp [World.setCell])).to (l' := [((w1.heap.size + 1), #[.int .u64 0, .int .u64 0]), (w1.heap.size, #[.int .u64 0, .int .u64 0]), ((w.heap.size + 1), #[.int .i64 0, .int .i64 0]), (w.heap.size, #[.bool A, .int .u64 (hi n : Nat), .int .u64 (lo n : Nat), .bool B, .int .u64 (hi d : Nat), .int .u64 (lo d : Nat)])]) rfl).low⟩
theorem fr_num (n d p q : Nat) (A B : Bool) (c1 c2 : Bool) (k1 l1 k2 l2 : Int) (w : World)
    (m1 : ∀ w, Calls Try.prog 45 #[.agg #[.int .u64 (hi n : Nat), .int .u64 (lo n : Nat)], .agg #[.int .u64 (hi d : Nat), .int .u64 (lo d : Nat)]] w fun en w' => en = .returned (.tuple #[.agg #[.int .u64 (hi p : Nat), .int .u64 (lo p : Nat)], .agg #[.int .u64 (hi q : Nat), .int .u64 (lo q : Nat)], .int .i64 0]) ∧ Below w.heap.size w w')
    (m2 : ∀ w, Calls Try.prog 46 #[.bool (!(A == B)), .agg #[.int .u64 (hi p : Nat), .int .u64 (lo p : Nat)]] w fun en w' => en = .returned (.agg #[.bool c1, .int .u64 k1, .int .u64 l1]) ∧ Below w.heap.size w w')
    (m3 : ∀ w, Calls Try.prog 46 #[.bool false, .agg #[.int .u64 (hi q : Nat), .int .u64 (lo q : Nat)]] w fun en w' => en = .returned (.agg #[.bool c2, .int .u64 k2, .int .u64 l2]) ∧ Below w.heap.size w w')
    (m4 : ∀ w, Calls Try.prog 47 #[.agg #[.bool c1, .int .u64 k1, .int .u64 l1]] w fun en w' => en = .returned (.tuple #[.int .i64 0, .int .i64 5]) ∧ Below w.heap.size w w') :
    Calls Try.prog 24 #[.agg #[.bool A, .int .u64 (hi n : Nat), .int .u64 (lo n : Nat), .bool B, .int .u64 (hi d : Nat), .int .u64 (lo d : Nat)]] w fun en w' => en = .returned (.tuple #[.agg #[.int .i64 0, .int .i64 0], .int .i64 5]) ∧ Below w.heap.size w w' := by
  have M1 := Lib.hid m1; have M2 := Lib.hid m2; have M3 := Lib.hid m3; have M4 := Lib.hid m4
  clear m1 m2 m3 m4
  go_enter Try.func24, Try.ntmps24
  go_wp2_with fail
  refine (M1.out _).mono ?_
  rintro e w1 ⟨rfl, hb⟩
  have HMw1 := Lib.hid ((((Mem.start w).new w.heap.size _ _ rfl).new (w.heap.size + 1) _ _ (by simp)).call hb)
  clear hb
  go_upto_region 4 with fail
  obtain ⟨W4x, hW4x⟩ : ∃ W4x, ((w1.alloc (.cells #[.int .u64 (hi p : Nat), .int .u64 (lo p : Nat)] 48)).alloc (.cells #[.int .u64 (hi q : Nat), .int .u64 (lo q : Nat)] 48)) = W4x := ⟨_, rfl⟩
  have hm : Mem w W4x [((w1.heap.size + 1), #[.int .u64 (hi q : Nat), .int .u64 (lo q : Nat)]), (w1.heap.size, #[.int .u64 (hi p : Nat), .int .u64 (lo p : Nat)]), ((w.heap.size + 1), #[.int .i64 0, .int .i64 0]), (w.heap.size, #[.bool A, .int .u64 (hi n : Nat), .int .u64 (lo n : Nat), .bool B, .int .u64 (hi d : Nat), .int .u64 (lo d : Nat)])] := by rw [← hW4x]; exact ((HMw1.out.new w1.heap.size _ _ rfl).new (w1.heap.size + 1) _ _ (by simp))
  rw [hW4x]
  clear hW4x HMw1
  have mk : ∀ w', Mem w w' [((w1.heap.size + 1), #[.int .u64 (hi q : Nat), .int .u64 (lo q : Nat)]), (w1.heap.size, #[.int .u64 (hi p : Nat), .int .u64 (lo p : Nat)]), ((w.heap.size + 1), #[.int .i64 0, .int .i64 0]), (w.heap.size, #[.bool A, .int .u64 (hi n : Nat), .int .u64 (lo n : Nat), .bool B, .int .u64 (hi d : Nat), .int .u64 (lo d : Nat)])] → (fun w' => w'.cell? ⟨w.heap.size, 0, none⟩ = some (.bool A) ∧ w'.cell? ⟨w.heap.size, 1, none⟩ = some (.int .u64 (hi n : Nat)) ∧ w'.cell? ⟨w.heap.size, 2, none⟩ = some (.int .u64 (lo n : Nat)) ∧ w'.cell? ⟨w.heap.size, 3, none⟩ = some (.bool B) ∧ w'.cell? ⟨w.heap.size, 4, none⟩ = some (.int .u64 (hi d : Nat)) ∧ w'.cell? ⟨w.heap.size, 5, none⟩ = some (.int .u64 (lo d : Nat)) ∧ w'.cell? ⟨w1.heap.size, 0, none⟩ = some (.int .u64 (hi p : Nat)) ∧ w'.cell? ⟨w1.heap.size, 1, none⟩ = some (.int .u64 (lo p : Nat)) ∧ w'.cell? ⟨(w1.heap.size + 1), 0, none⟩ = some (.int .u64 (hi q : Nat)) ∧ w'.cell? ⟨(w1.heap.size + 1), 1, none⟩ = some (.int .u64 (lo q : Nat)) ∧ Hid (Mem w w' [((w1.heap.size + 1), #[.int .u64 (hi q : Nat), .int .u64 (lo q : Nat)]), (w1.heap.size, #[.int .u64 (hi p : Nat), .int .u64 (lo p : Nat)]), ((w.heap.size + 1), #[.int .i64 0, .int .i64 0]), (w.heap.size, #[.bool A, .int .u64 (hi n : Nat), .int .u64 (lo n : Nat), .bool B, .int .u64 (hi d : Nat), .int .u64 (lo d : Nat)])])) w' := fun w' h => ⟨h.cell 3 rfl rfl, h.cell 3 rfl rfl, h.cell 3 rfl rfl, h.cell 3 rfl rfl, h.cell 3 rfl rfl, h.cell 3 rfl rfl, h.cell 1 rfl rfl, h.cell 1 rfl rfl, h.cell 0 rfl rfl, h.cell 0 rfl rfl, Lib.hid h⟩
  have hok : OwnOk (fun w' => w'.cell? ⟨w.heap.size, 0, none⟩ = some (.bool A) ∧ w'.cell? ⟨w.heap.size, 1, none⟩ = some (.int .u64 (hi n : Nat)) ∧ w'.cell? ⟨w.heap.size, 2, none⟩ = some (.int .u64 (lo n : Nat)) ∧ w'.cell? ⟨w.heap.size, 3, none⟩ = some (.bool B) ∧ w'.cell? ⟨w.heap.size, 4, none⟩ = some (.int .u64 (hi d : Nat)) ∧ w'.cell? ⟨w.heap.size, 5, none⟩ = some (.int .u64 (lo d : Nat)) ∧ w'.cell? ⟨w1.heap.size, 0, none⟩ = some (.int .u64 (hi p : Nat)) ∧ w'.cell? ⟨w1.heap.size, 1, none⟩ = some (.int .u64 (lo p : Nat)) ∧ w'.cell? ⟨(w1.heap.size + 1), 0, none⟩ = some (.int .u64 (hi q : Nat)) ∧ w'.cell? ⟨(w1.heap.size + 1), 1, none⟩ = some (.int .u64 (lo q : Nat)) ∧ Hid (Mem w w' [((w1.heap.size + 1), #[.int .u64 (hi q : Nat), .int .u64 (lo q : Nat)]), (w1.heap.size, #[.int .u64 (hi p : Nat), .int .u64 (lo p : Nat)]), ((w.heap.size + 1), #[.int .i64 0, .int .i64 0]), (w.heap.size, #[.bool A, .int .u64 (hi n : Nat), .int .u64 (lo n : Nat), .bool B, .int .u64 (hi d : Nat), .int .u64 (lo d : Nat)])])) W4x.heap.size [⟨12, 13, fun w b => Blk w b #[.bool false, .int .u64 0, .int .u64 0, .bool false, .int .u64 0, .int .u64 0], fun w b => Blk w b #[.bool c1, .int .u64 k1, .int .u64 l1, .bool c2, .int .u64 k2, .int .u64 l2]⟩] := own1_ok (fun v1 v2 h hb => mk _ (h.2.2.2.2.2.2.2.2.2.2.out.step hb hm.lts hm.low.size)) ⟨Blk.local _, Blk.local _⟩ (by simp)
  have hfit : ∀ i, (∀ e ∈ ([⟨12, 13, fun w b => Blk w b #[.bool false, .int .u64 0, .int .u64 0, .bool false, .int .u64 0, .int .u64 0], fun w b => Blk w b #[.bool c1, .int .u64 k1, .int .u64 l1, .bool c2, .int .u64 k2, .int .u64 l2]⟩] : List Ent), e.x ≠ i ∧ e.s ≠ i) → Fit (fun w' => w'.cell? ⟨w.heap.size, 0, none⟩ = some (.bool A) ∧ w'.cell? ⟨w.heap.size, 1, none⟩ = some (.int .u64 (hi n : Nat)) ∧ w'.cell? ⟨w.heap.size, 2, none⟩ = some (.int .u64 (lo n : Nat)) ∧ w'.cell? ⟨w.heap.size, 3, none⟩ = some (.bool B) ∧ w'.cell? ⟨w.heap.size, 4, none⟩ = some (.int .u64 (hi d : Nat)) ∧ w'.cell? ⟨w.heap.size, 5, none⟩ = some (.int .u64 (lo d : Nat)) ∧ w'.cell? ⟨w1.heap.size, 0, none⟩ = some (.int .u64 (hi p : Nat)) ∧ w'.cell? ⟨w1.heap.size, 1, none⟩ = some (.int .u64 (lo p : Nat)) ∧ w'.cell? ⟨(w1.heap.size + 1), 0, none⟩ = some (.int .u64 (hi q : Nat)) ∧ w'.cell? ⟨(w1.heap.size + 1), 1, none⟩ = some (.int .u64 (lo q : Nat)) ∧ Hid (Mem w w' [((w1.heap.size + 1), #[.int .u64 (hi q : Nat), .int .u64 (lo q : Nat)]), (w1.heap.size, #[.int .u64 (hi p : Nat), .int .u64 (lo p : Nat)]), ((w.heap.size + 1), #[.int .i64 0, .int .i64 0]), (w.heap.size, #[.bool A, .int .u64 (hi n : Nat), .int .u64 (lo n : Nat), .bool B, .int .u64 (hi d : Nat), .int .u64 (lo d : Nat)])])) (Sof (fun w' => w'.cell? ⟨w.heap.size, 0, none⟩ = some (.bool A) ∧ w'.cell? ⟨w.heap.size, 1, none⟩ = some (.int .u64 (hi n : Nat)) ∧ w'.cell? ⟨w.heap.size, 2, none⟩ = some (.int .u64 (lo n : Nat)) ∧ w'.cell? ⟨w.heap.size, 3, none⟩ = some (.bool B) ∧ w'.cell? ⟨w.heap.size, 4, none⟩ = some (.int .u64 (hi d : Nat)) ∧ w'.cell? ⟨w.heap.size, 5, none⟩ = some (.int .u64 (lo d : Nat)) ∧ w'.cell? ⟨w1.heap.size, 0, none⟩ = some (.int .u64 (hi p : Nat)) ∧ w'.cell? ⟨w1.heap.size, 1, none⟩ = some (.int .u64 (lo p : Nat)) ∧ w'.cell? ⟨(w1.heap.size + 1), 0, none⟩ = some (.int .u64 (hi q : Nat)) ∧ w'.cell? ⟨(w1.heap.size + 1), 1, none⟩ = some (.int .u64 (lo q : Nat)) ∧ Hid (Mem w w' [((w1.heap.size + 1), #[.int .u64 (hi q : Nat), .int .u64 (lo q : Nat)]), (w1.heap.size, #[.int .u64 (hi p : Nat), .int .u64 (lo p : Nat)]), ((w.heap.size + 1), #[.int .i64 0, .int .i64 0]), (w.heap.size, #[.bool A, .int .u64 (hi n : Nat), .int .u64 (lo n : Nat), .bool B, .int .u64 (hi d : Nat), .int .u64 (lo d : Nat)])])) W4x.heap.size [⟨12, 13, fun w b => Blk w b #[.bool false, .int .u64 0, .int .u64 0, .bool false, .int .u64 0, .int .u64 0], fun w b => Blk w b #[.bool c1, .int .u64 k1, .int .u64 l1, .bool c2, .int .u64 k2, .int .u64 l2]⟩]) i := fun i hi => sof_fit hok.st hok.loc hi
  have HOK := Lib.hid hok; have HF := Lib.hid hfit; clear hok hfit
  refine wp_region_ab (S0 := (fun w' => w'.cell? ⟨w.heap.size, 0, none⟩ = some (.bool A) ∧ w'.cell? ⟨w.heap.size, 1, none⟩ = some (.int .u64 (hi n : Nat)) ∧ w'.cell? ⟨w.heap.size, 2, none⟩ = some (.int .u64 (lo n : Nat)) ∧ w'.cell? ⟨w.heap.size, 3, none⟩ = some (.bool B) ∧ w'.cell? ⟨w.heap.size, 4, none⟩ = some (.int .u64 (hi d : Nat)) ∧ w'.cell? ⟨w.heap.size, 5, none⟩ = some (.int .u64 (lo d : Nat)) ∧ w'.cell? ⟨w1.heap.size, 0, none⟩ = some (.int .u64 (hi p : Nat)) ∧ w'.cell? ⟨w1.heap.size, 1, none⟩ = some (.int .u64 (lo p : Nat)) ∧ w'.cell? ⟨(w1.heap.size + 1), 0, none⟩ = some (.int .u64 (hi q : Nat)) ∧ w'.cell? ⟨(w1.heap.size + 1), 1, none⟩ = some (.int .u64 (lo q : Nat)) ∧ Hid (Mem w w' [((w1.heap.size + 1), #[.int .u64 (hi q : Nat), .int .u64 (lo q : Nat)]), (w1.heap.size, #[.int .u64 (hi p : Nat), .int .u64 (lo p : Nat)]), ((w.heap.size + 1), #[.int .i64 0, .int .i64 0]), (w.heap.size, #[.bool A, .int .u64 (hi n : Nat), .int .u64 (lo n : Nat), .bool B, .int .u64 (hi d : Nat), .int .u64 (lo d : Nat)])]))) W4x.heap.size [⟨12, 13, fun w b => Blk w b #[.bool false, .int .u64 0, .int .u64 0, .bool false, .int .u64 0, .int .u64 0], fun w b => Blk w b #[.bool c1, .int .u64 k1, .int .u64 l1, .bool c2, .int .u64 k2, .int .u64 l2]⟩] (by kernel_rfl) (mk _ hm.drew) (Nat.le_refl _) (by simp) ?_
  have hlts := hm.lts; have hlow := hm.low.size
  have ltu : (w1.heap.size + 1) < W4x.heap.size := hm.lt 0 rfl
  have lto : w1.heap.size < W4x.heap.size := hm.lt 1 rfl
  have ltr : (w.heap.size + 1) < W4x.heap.size := hm.lt 2 rfl
  have ltf : w.heap.size < W4x.heap.size := hm.lt 3 rfl
  have HMK := Lib.hid mk
  clear hm mk
  refine abTake 0 (some 25) (v := ?_) rfl rfl (by kernel_rfl) (by kernel_rfl) (by kernel_rfl) (fun _ _ _ h => h) (HF.out _ (by simp)) (by rfl) ?_ ?_
  rotate_left 1
  · (intro w hSw; (try dsimp only at hSw); go_simp; try with_reducible rfl)
  simp only [Act.put, List.setIfInBounds_toArray, List.set_cons_zero, List.set_cons_succ]
  refine abTake 1 (some 26) (v := ?_) rfl rfl (by kernel_rfl) (by kernel_rfl) (by kernel_rfl) (fun _ _ _ h => h) (HF.out _ (by simp)) (by rfl) ?_ ?_
  rotate_left 1
  · (intro w hSw; (try dsimp only at hSw); go_simp; try with_reducible rfl)
  simp only [Act.put, List.setIfInBounds_toArray, List.set_cons_zero, List.set_cons_succ]
  refine abTake 2 (some 27) (v := ?_) rfl rfl (by kernel_rfl) (by kernel_rfl) (by kernel_rfl) (fun _ _ _ h => h) (HF.out _ (by simp)) (by rfl) ?_ ?_
  rotate_left 1
  · (intro w hSw; (try dsimp only at hSw); go_simp; try with_reducible rfl)
  simp only [Act.put, List.setIfInBounds_toArray, List.set_cons_zero, List.set_cons_succ]
  refine abTake 3 (some 28) (v := ?_) rfl rfl (by kernel_rfl) (by kernel_rfl) (by kernel_rfl) (fun _ _ _ h => h) (HF.out _ (by simp)) (by rfl) ?_ ?_
  rotate_left 1
  · (intro w hSw; (try dsimp only at hSw); go_simp; try with_reducible rfl)
  simp only [Act.put, List.setIfInBounds_toArray, List.set_cons_zero, List.set_cons_succ]
  refine abTake 4 (some 29) (v := ?_) rfl rfl (by kernel_rfl) (by kernel_rfl) (by kernel_rfl) (fun _ _ _ h => h) (HF.out _ (by simp)) (by rfl) ?_ ?_
  rotate_left 1
  · (intro w hSw; (try dsimp only at hSw); go_simp; try with_reducible rfl)
  simp only [Act.put, List.setIfInBounds_toArray, List.set_cons_zero, List.set_cons_succ]
  refine abTake 5 (some 30) (v := ?_) rfl rfl (by kernel_rfl) (by kernel_rfl) (by kernel_rfl) (fun _ _ _ h => h) (HF.out _ (by simp)) (by rfl) ?_ ?_
  rotate_left 1
  · (intro w hSw; (try dsimp only at hSw); go_simp; try with_reducible rfl)
  simp only [Act.put, List.setIfInBounds_toArray, List.set_cons_zero, List.set_cons_succ]
  refine abTake 6 (some 31) (v := ?_) rfl rfl (by kernel_rfl) (by kernel_rfl) (by kernel_rfl) (fun _ _ _ h => h) (HF.out _ (by simp)) (by rfl) ?_ ?_
  rotate_left 1
  · (intro w hSw; (try dsimp only at hSw); go_simp; try with_reducible rfl)
  simp only [Act.put, List.setIfInBounds_toArray, List.set_cons_zero, List.set_cons_succ]
  refine abTake 7 (some 32) (v := ?_) rfl rfl (by kernel_rfl) (by kernel_rfl) (by kernel_rfl) (fun _ _ _ h => h) (HF.out _ (by simp)) (by rfl) ?_ ?_
  rotate_left 1
  · (intro w hSw; (try dsimp only at hSw); go_simp; try with_reducible rfl)
  simp only [Act.put, List.setIfInBounds_toArray, List.set_cons_zero, List.set_cons_succ]
  refine abCall 8 (some 33) rfl rfl (by kernel_rfl) (by kernel_rfl) (by kernel_rfl) (fun _ _ _ h => h) (HF.out _ (by simp)) (by rfl) ?_ (fun w hSw => M2.out _) ?_
  · (intro w hSw; (try dsimp only at hSw); go_simp; try with_reducible rfl)
  simp only [Act.put, List.setIfInBounds_toArray, List.set_cons_zero, List.set_cons_succ]
  refine abTake 9 (some 34) (v := ?_) rfl rfl (by kernel_rfl) (by kernel_rfl) (by kernel_rfl) (fun _ _ _ h => h) (HF.out _ (by simp)) (by rfl) ?_ ?_
  rotate_left 1
  · (intro w hSw; (try dsimp only at hSw); go_simp; try with_reducible rfl)
  simp only [Act.put, List.setIfInBounds_toArray, List.set_cons_zero, List.set_cons_succ]
  refine abCall 10 (some 35) rfl rfl (by kernel_rfl) (by kernel_rfl) (by kernel_rfl) (fun _ _ _ h => h) (HF.out _ (by simp)) (by rfl) ?_ (fun w hSw => M3.out _) ?_
  · (intro w hSw; (try dsimp only at hSw); go_simp; try with_reducible rfl)
  simp only [Act.put, List.setIfInBounds_toArray, List.set_cons_zero, List.set_cons_succ]
  refine abTake 11 (some 36) (v := ?_) rfl rfl (by kernel_rfl) (by kernel_rfl) (by kernel_rfl) (fun _ _ _ h => h) (HF.out _ (by simp)) (by rfl) ?_ ?_
  rotate_left 1
  · (intro w hSw; (try dsimp only at hSw); go_simp; try with_reducible rfl)
  simp only [Act.put, List.setIfInBounds_toArray, List.set_cons_zero, List.set_cons_succ]
  refine abMake1 12 7 HOK.out _ (List.mem_cons_self) rfl rfl rfl (by kernel_rfl) (by kernel_rfl) (by kernel_rfl) ⟨by rfl, .cells #[.bool false, .int .u64 0, .int .u64 0, .bool false, .int .u64 0, .int .u64 0] 52, fun w hSw => ⟨(by (try dsimp only at hSw); go_simp; try with_reducible rfl), Blk.newAt rfl⟩⟩ (fun b7 hb7 nb7 => ?_)
  simp only [Act.put, List.setIfInBounds_toArray, List.set_cons_zero, List.set_cons_succ]
  refine abStore 13 HOK.out _ (List.mem_cons_self) rfl rfl rfl (by kernel_rfl) (by kernel_rfl) (by kernel_rfl) (by kernel_rfl) (by rfl) ?_ ?_
  · rintro w b hSw hg hB hp
    obtain rfl : b = b7 := hg
    replace hp : Blk w b #[.bool false, .int .u64 0, .int .u64 0, .bool false, .int .u64 0, .int .u64 0] := hp
    have x0 : w.cell? ⟨b, 0, none⟩ = some (.bool false) := hp.cell rfl
    have x1 : w.cell? ⟨b, 1, none⟩ = some (.int .u64 0) := hp.cell rfl
    have x2 : w.cell? ⟨b, 2, none⟩ = some (.int .u64 0) := hp.cell rfl
    have x3 : w.cell? ⟨b, 3, none⟩ = some (.bool false) := hp.cell rfl
    have x4 : w.cell? ⟨b, 4, none⟩ = some (.int .u64 0) := hp.cell rfl
    have x5 : w.cell? ⟨b, 5, none⟩ = some (.int .u64 0) := hp.cell rfl
    have y0 := hp.free 0
    have y1 := hp.free 1
    have y2 := hp.free 2
    have y3 := hp.free 3
    have y4 := hp.free 4
    have y5 := hp.free 5
    refine ⟨((((((w.setCell ⟨b, 0, none⟩ (.bool c1)).setCell ⟨b, 1, none⟩ (.int .u64 k1)).setCell ⟨b, 2, none⟩ (.int .u64 l1)).setCell ⟨b, 3, none⟩ (.bool c2)).setCell ⟨b, 4, none⟩ (.int .u64 k2)).setCell ⟨b, 5, none⟩ (.int .u64 l2)), ?_, ((((((hp.set 0 (.bool c1)).set 1 (.int .u64 k1)).set 2 (.int .u64 l1)).set 3 (.bool c2)).set 4 (.int .u64 k2)).set 5 (.int .u64 l2)), (((((((Below.refl _ _).setCell (p := ⟨b, 0, none⟩) hB _).setCell (p := ⟨b, 1, none⟩) hB _).setCell (p := ⟨b, 2, none⟩) hB _).setCell (p := ⟨b, 3, none⟩) hB _).setCell (p := ⟨b, 4, none⟩) hB _).setCell (p := ⟨b, 5, none⟩) hB _), fun k hk => ?_⟩
    · (try dsimp only at hSw); go_simp; try with_reducible rfl
    · exact (Below.heap_setCell _ _ _ _ hk).trans ((Below.heap_setCell _ _ _ _ hk).trans ((Below.heap_setCell _ _ _ _ hk).trans ((Below.heap_setCell _ _ _ _ hk).trans ((Below.heap_setCell _ _ _ _ hk).trans ((Below.heap_setCell _ _ _ _ hk))))))
  refine abDone (by kernel_rfl) ?_ _
  rintro w2 hS
  have klow := sof_post hS _ (List.mem_cons_self) (by kernel_rfl) (by kernel_rfl) (b := b7) rfl
  have HMw2 := Lib.hid ((hS.1.2.2.2.2.2.2.2.2.2.2.out).join klow.2.2 klow.1 hlts hlow)
  clear hS HOK HF HMK hlts hlow ltu lto ltr ltf klow hb7
  have llow : b7 < w2.heap.size := HMw2.out.lt 0 rfl
  have clow0 : w2.cell? ⟨b7, 0, none⟩ = some (.bool c1) := HMw2.out.cell 0 rfl rfl
  have clow1 : w2.cell? ⟨b7, 1, none⟩ = some (.int .u64 k1) := HMw2.out.cell 0 rfl rfl
  have clow2 : w2.cell? ⟨b7, 2, none⟩ = some (.int .u64 l1) := HMw2.out.cell 0 rfl rfl
  have clow3 : w2.cell? ⟨b7, 3, none⟩ = some (.bool c2) := HMw2.out.cell 0 rfl rfl
  have clow4 : w2.cell? ⟨b7, 4, none⟩ = some (.int .u64 k2) := HMw2.out.cell 0 rfl rfl
  have clow5 : w2.cell? ⟨b7, 5, none⟩ = some (.int .u64 l2) := HMw2.out.cell 0 rfl rfl
  go_wp2_with fail
  refine (M4.out _).mono ?_
  rintro e w3 ⟨rfl, hb⟩
  have HMw3 := Lib.hid (HMw2.out.call hb)
  clear hb llow clow0 clow1 clow2 clow3 clow4 clow5 HMw2
  have lr : (w.heap.size + 1) < w3.heap.size := HMw3.out.lt 3 rfl
  have cr0 : w3.cell? ⟨(w.heap.size + 1), 0, none⟩ = some (.int .i64 0) := HMw3.out.cell 3 rfl rfl
  have fr0 : w3.frozen? ⟨(w.heap.size + 1), 0, none⟩ = false := HMw3.out.free 3 rfl 0
  have cr1 : w3.cell? ⟨(w.heap.size + 1), 1, none⟩ = some (.int .i64 0) := HMw3.out.cell 3 rfl rfl
  have fr1 : w3.frozen? ⟨(w.heap.size + 1), 1, none⟩ = false := HMw3.out.free 3 rfl 1
  go_wp2_with fail
  exact bodyPost_ret (v := .tuple #[.agg #[.int .i64 0, .int .i64 0], .int .i64 5]) (by simp [results, Try.results24, go_sem, cr0, cr1]) rfl ⟨rfl, (((HMw3.out.set 3 0 (.int .i64 0) rfl).set 3 1 (.int .i64 0) rfl).to (l' := [(b7, #[.bool c1, .int .u64 k1, .int .u64 l1, .bool c2, .int .u64 k2, .int .u64 l2]), ((w1.heap.size + 1), #[.int .u64 (hi q : Nat), .int .u64 (lo q : Nat)]), (w1.heap.size, #[.int .u64 (hi p : Nat), .int .u64 (lo p : Nat)]), ((w.heap.size + 1), #[.int .i64 0, .int .i64 0]), (w.heap.size, #[.bool A, .int .u64 (hi n : Nat), .int .u64 (lo n : Nat), .bool B, .int .u64 (hi d : Nat), .int .u64 (lo d : Nat)])]) rfl).low⟩
theorem fr_den (n d p q : Nat) (A B : Bool) (x : Int) (c1 c2 : Bool) (k1 l1 k2 l2 : Int) (w : World)
    (m1 : ∀ w, Calls Try.prog 45 #[.agg #[.int .u64 (hi n : Nat), .int .u64 (lo n : Nat)], .agg #[.int .u64 (hi d : Nat), .int .u64 (lo d : Nat)]] w fun en w' => en = .returned (.tuple #[.agg #[.int .u64 (hi p : Nat), .int .u64 (lo p : Nat)], .agg #[.int .u64 (hi q : Nat), .int .u64 (lo q : Nat)], .int .i64 0]) ∧ Below w.heap.size w w')
    (m2 : ∀ w, Calls Try.prog 46 #[.bool (!(A == B)), .agg #[.int .u64 (hi p : Nat), .int .u64 (lo p : Nat)]] w fun en w' => en = .returned (.agg #[.bool c1, .int .u64 k1, .int .u64 l1]) ∧ Below w.heap.size w w')
    (m3 : ∀ w, Calls Try.prog 46 #[.bool false, .agg #[.int .u64 (hi q : Nat), .int .u64 (lo q : Nat)]] w fun en w' => en = .returned (.agg #[.bool c2, .int .u64 k2, .int .u64 l2]) ∧ Below w.heap.size w w')
    (m4 : ∀ w, Calls Try.prog 47 #[.agg #[.bool c1, .int .u64 k1, .int .u64 l1]] w fun en w' => en = .returned (.tuple #[.int .i64 x, .int .i64 0]) ∧ Below w.heap.size w w')
    (m5 : ∀ w, Calls Try.prog 47 #[.agg #[.bool c2, .int .u64 k2, .int .u64 l2]] w fun en w' => en = .returned (.tuple #[.int .i64 0, .int .i64 5]) ∧ Below w.heap.size w w') :
    Calls Try.prog 24 #[.agg #[.bool A, .int .u64 (hi n : Nat), .int .u64 (lo n : Nat), .bool B, .int .u64 (hi d : Nat), .int .u64 (lo d : Nat)]] w fun en w' => en = .returned (.tuple #[.agg #[.int .i64 0, .int .i64 0], .int .i64 5]) ∧ Below w.heap.size w w' := by
  have M1 := Lib.hid m1; have M2 := Lib.hid m2; have M3 := Lib.hid m3; have M4 := Lib.hid m4; have M5 := Lib.hid m5
  clear m1 m2 m3 m4 m5
  go_enter Try.func24, Try.ntmps24
  go_wp2_with fail
  refine (M1.out _).mono ?_
  rintro e w1 ⟨rfl, hb⟩
  have HMw1 := Lib.hid ((((Mem.start w).new w.heap.size _ _ rfl).new (w.heap.size + 1) _ _ (by simp)).call hb)
  clear hb
  go_upto_region 4 with fail
  obtain ⟨W4x, hW4x⟩ : ∃ W4x, ((w1.alloc (.cells #[.int .u64 (hi p : Nat), .int .u64 (lo p : Nat)] 48)).alloc (.cells #[.int .u64 (hi q : Nat), .int .u64 (lo q : Nat)] 48)) = W4x := ⟨_, rfl⟩
  have hm : Mem w W4x [((w1.heap.size + 1), #[.int .u64 (hi q : Nat), .int .u64 (lo q : Nat)]), (w1.heap.size, #[.int .u64 (hi p : Nat), .int .u64 (lo p : Nat)]), ((w.heap.size + 1), #[.int .i64 0, .int .i64 0]), (w.heap.size, #[.bool A, .int .u64 (hi n : Nat), .int .u64 (lo n : Nat), .bool B, .int .u64 (hi d : Nat), .int .u64 (lo d : Nat)])] := by rw [← hW4x]; exact ((HMw1.out.new w1.heap.size _ _ rfl).new (w1.heap.size + 1) _ _ (by simp))
  rw [hW4x]
  clear hW4x HMw1
  have mk : ∀ w', Mem w w' [((w1.heap.size + 1), #[.int .u64 (hi q : Nat), .int .u64 (lo q : Nat)]), (w1.heap.size, #[.int .u64 (hi p : Nat), .int .u64 (lo p : Nat)]), ((w.heap.size + 1), #[.int .i64 0, .int .i64 0]), (w.heap.size, #[.bool A, .int .u64 (hi n : Nat), .int .u64 (lo n : Nat), .bool B, .int .u64 (hi d : Nat), .int .u64 (lo d : Nat)])] → (fun w' => w'.cell? ⟨w.heap.size, 0, none⟩ = some (.bool A) ∧ w'.cell? ⟨w.heap.size, 1, none⟩ = some (.int .u64 (hi n : Nat)) ∧ w'.cell? ⟨w.heap.size, 2, none⟩ = some (.int .u64 (lo n : Nat)) ∧ w'.cell? ⟨w.heap.size, 3, none⟩ = some (.bool B) ∧ w'.cell? ⟨w.heap.size, 4, none⟩ = some (.int .u64 (hi d : Nat)) ∧ w'.cell? ⟨w.heap.size, 5, none⟩ = some (.int .u64 (lo d : Nat)) ∧ w'.cell? ⟨w1.heap.size, 0, none⟩ = some (.int .u64 (hi p : Nat)) ∧ w'.cell? ⟨w1.heap.size, 1, none⟩ = some (.int .u64 (lo p : Nat)) ∧ w'.cell? ⟨(w1.heap.size + 1), 0, none⟩ = some (.int .u64 (hi q : Nat)) ∧ w'.cell? ⟨(w1.heap.size + 1), 1, none⟩ = some (.int .u64 (lo q : Nat)) ∧ Hid (Mem w w' [((w1.heap.size + 1), #[.int .u64 (hi q : Nat), .int .u64 (lo q : Nat)]), (w1.heap.size, #[.int .u64 (hi p : Nat), .int .u64 (lo p : Nat)]), ((w.heap.size + 1), #[.int .i64 0, .int .i64 0]), (w.heap.size, #[.bool A, .int .u64 (hi n : Nat), .int .u64 (lo n : Nat), .bool B, .int .u64 (hi d : Nat), .int .u64 (lo d : Nat)])])) w' := fun w' h => ⟨h.cell 3 rfl rfl, h.cell 3 rfl rfl, h.cell 3 rfl rfl, h.cell 3 rfl rfl, h.cell 3 rfl rfl, h.cell 3 rfl rfl, h.cell 1 rfl rfl, h.cell 1 rfl rfl, h.cell 0 rfl rfl, h.cell 0 rfl rfl, Lib.hid h⟩
  have hok : OwnOk (fun w' => w'.cell? ⟨w.heap.size, 0, none⟩ = some (.bool A) ∧ w'.cell? ⟨w.heap.size, 1, none⟩ = some (.int .u64 (hi n : Nat)) ∧ w'.cell? ⟨w.heap.size, 2, none⟩ = some (.int .u64 (lo n : Nat)) ∧ w'.cell? ⟨w.heap.size, 3, none⟩ = some (.bool B) ∧ w'.cell? ⟨w.heap.size, 4, none⟩ = some (.int .u64 (hi d : Nat)) ∧ w'.cell? ⟨w.heap.size, 5, none⟩ = some (.int .u64 (lo d : Nat)) ∧ w'.cell? ⟨w1.heap.size, 0, none⟩ = some (.int .u64 (hi p : Nat)) ∧ w'.cell? ⟨w1.heap.size, 1, none⟩ = some (.int .u64 (lo p : Nat)) ∧ w'.cell? ⟨(w1.heap.size + 1), 0, none⟩ = some (.int .u64 (hi q : Nat)) ∧ w'.cell? ⟨(w1.heap.size + 1), 1, none⟩ = some (.int .u64 (lo q : Nat)) ∧ Hid (Mem w w' [((w1.heap.size + 1), #[.int .u64 (hi q : Nat), .int .u64 (lo q : Nat)]), (w1.heap.size, #[.int .u64 (hi p : Nat), .int .u64 (lo p : Nat)]), ((w.heap.size + 1), #[.int .i64 0, .int .i64 0]), (w.heap.size, #[.bool A, .int .u64 (hi n : Nat), .int .u64 (lo n : Nat), .bool B, .int .u64 (hi d : Nat), .int .u64 (lo d : Nat)])])) W4x.heap.size [⟨12, 13, fun w b => Blk w b #[.bool false, .int .u64 0, .int .u64 0, .bool false, .int .u64 0, .int .u64 0], fun w b => Blk w b #[.bool c1, .int .u64 k1, .int .u64 l1, .bool c2, .int .u64 k2, .int .u64 l2]⟩] := own1_ok (fun v1 v2 h hb => mk _ (h.2.2.2.2.2.2.2.2.2.2.out.step hb hm.lts hm.low.size)) ⟨Blk.local _, Blk.local _⟩ (by simp)
  have hfit : ∀ i, (∀ e ∈ ([⟨12, 13, fun w b => Blk w b #[.bool false, .int .u64 0, .int .u64 0, .bool false, .int .u64 0, .int .u64 0], fun w b => Blk w b #[.bool c1, .int .u64 k1, .int .u64 l1, .bool c2, .int .u64 k2, .int .u64 l2]⟩] : List Ent), e.x ≠ i ∧ e.s ≠ i) → Fit (fun w' => w'.cell? ⟨w.heap.size, 0, none⟩ = some (.bool A) ∧ w'.cell? ⟨w.heap.size, 1, none⟩ = some (.int .u64 (hi n : Nat)) ∧ w'.cell? ⟨w.heap.size, 2, none⟩ = some (.int .u64 (lo n : Nat)) ∧ w'.cell? ⟨w.heap.size, 3, none⟩ = some (.bool B) ∧ w'.cell? ⟨w.heap.size, 4, none⟩ = some (.int .u64 (hi d : Nat)) ∧ w'.cell? ⟨w.heap.size, 5, none⟩ = some (.int .u64 (lo d : Nat)) ∧ w'.cell? ⟨w1.heap.size, 0, none⟩ = some (.int .u64 (hi p : Nat)) ∧ w'.cell? ⟨w1.heap.size, 1, none⟩ = some (.int .u64 (lo p : Nat)) ∧ w'.cell? ⟨(w1.heap.size + 1), 0, none⟩ = some (.int .u64 (hi q : Nat)) ∧ w'.cell? ⟨(w1.heap.size + 1), 1, none⟩ = some (.int .u64 (lo q : Nat)) ∧ Hid (Mem w w' [((w1.heap.size + 1), #[.int .u64 (hi q : Nat), .int .u64 (lo q : Nat)]), (w1.heap.size, #[.int .u64 (hi p : Nat), .int .u64 (lo p : Nat)]), ((w.heap.size + 1), #[.int .i64 0, .int .i64 0]), (w.heap.size, #[.bool A, .int .u64 (hi n : Nat), .int .u64 (lo n : Nat), .bool B, .int .u64 (hi d : Nat), .int .u64 (lo d : Nat)])])) (Sof (fun w' => w'.cell? ⟨w.heap.size, 0, none⟩ = some (.bool A) ∧ w'.cell? ⟨w.heap.size, 1, none⟩ = some (.int .u64 (hi n : Nat)) ∧ w'.cell? ⟨w.heap.size, 2, none⟩ = some (.int .u64 (lo n : Nat)) ∧ w'.cell? ⟨w.heap.size, 3, none⟩ = some (.bool B) ∧ w'.cell? ⟨w.heap.size, 4, none⟩ = some (.int .u64 (hi d : Nat)) ∧ w'.cell? ⟨w.heap.size, 5, none⟩ = some (.int .u64 (lo d : Nat)) ∧ w'.cell? ⟨w1.heap.size, 0, none⟩ = some (.int .u64 (hi p : Nat)) ∧ w'.cell? ⟨w1.heap.size, 1, none⟩ = some (.int .u64 (lo p : Nat)) ∧ w'.cell? ⟨(w1.heap.size + 1), 0, none⟩ = some (.int .u64 (hi q : Nat)) ∧ w'.cell? ⟨(w1.heap.size + 1), 1, none⟩ = some (.int .u64 (lo q : Nat)) ∧ Hid (Mem w w' [((w1.heap.size + 1), #[.int .u64 (hi q : Nat), .int .u64 (lo q : Nat)]), (w1.heap.size, #[.int .u64 (hi p : Nat), .int .u64 (lo p : Nat)]), ((w.heap.size + 1), #[.int .i64 0, .int .i64 0]), (w.heap.size, #[.bool A, .int .u64 (hi n : Nat), .int .u64 (lo n : Nat), .bool B, .int .u64 (hi d : Nat), .int .u64 (lo d : Nat)])])) W4x.heap.size [⟨12, 13, fun w b => Blk w b #[.bool false, .int .u64 0, .int .u64 0, .bool false, .int .u64 0, .int .u64 0], fun w b => Blk w b #[.bool c1, .int .u64 k1, .int .u64 l1, .bool c2, .int .u64 k2, .int .u64 l2]⟩]) i := fun i hi => sof_fit hok.st hok.loc hi
  have HOK := Lib.hid hok; have HF := Lib.hid hfit; clear hok hfit
  refine wp_region_ab (S0 := (fun w' => w'.cell? ⟨w.heap.size, 0, none⟩ = some (.bool A) ∧ w'.cell? ⟨w.heap.size, 1, none⟩ = some (.int .u64 (hi n : Nat)) ∧ w'.cell? ⟨w.heap.size, 2, none⟩ = some (.int .u64 (lo n : Nat)) ∧ w'.cell? ⟨w.heap.size, 3, none⟩ = some (.bool B) ∧ w'.cell? ⟨w.heap.size, 4, none⟩ = some (.int .u64 (hi d : Nat)) ∧ w'.cell? ⟨w.heap.size, 5, none⟩ = some (.int .u64 (lo d : Nat)) ∧ w'.cell? ⟨w1.heap.size, 0, none⟩ = some (.int .u64 (hi p : Nat)) ∧ w'.cell? ⟨w1.heap.size, 1, none⟩ = some (.int .u64 (lo p : Nat)) ∧ w'.cell? ⟨(w1.heap.size + 1), 0, none⟩ = some (.int .u64 (hi q : Nat)) ∧ w'.cell? ⟨(w1.heap.size + 1), 1, none⟩ = some (.int .u64 (lo q : Nat)) ∧ Hid (Mem w w' [((w1.heap.size + 1), #[.int .u64 (hi q : Nat), .int .u64 (lo q : Nat)]), (w1.heap.size, #[.int .u64 (hi p : Nat), .int .u64 (lo p : Nat)]), ((w.heap.size + 1), #[.int .i64 0, .int .i64 0]), (w.heap.size, #[.bool A, .int .u64 (hi n : Nat), .int .u64 (lo n : Nat), .bool B, .int .u64 (hi d : Nat), .int .u64 (lo d : Nat)])]))) W4x.heap.size [⟨12, 13, fun w b => Blk w b #[.bool false, .int .u64 0, .int .u64 0, .bool false, .int .u64 0, .int .u64 0], fun w b => Blk w b #[.bool c1, .int .u64 k1, .int .u64 l1, .bool c2, .int .u64 k2, .int .u64 l2]⟩] (by kernel_rfl) (mk _ hm.drew) (Nat.le_refl _) (by simp) ?_
  have hlts := hm.lts; have hlow := hm.low.size
  have ltu : (w1.heap.size + 1) < W4x.heap.size := hm.lt 0 rfl
  have lto : w1.heap.size < W4x.heap.size := hm.lt 1 rfl
  have ltr : (w.heap.size + 1) < W4x.heap.size := hm.lt 2 rfl
  have ltf : w.heap.size < W4x.heap.size := hm.lt 3 rfl
  have HMK := Lib.hid mk
  clear hm mk
  refine abTake 0 (some 25) (v := ?_) rfl rfl (by kernel_rfl) (by kernel_rfl) (by kernel_rfl) (fun _ _ _ h => h) (HF.out _ (by simp)) (by rfl) ?_ ?_
  rotate_left 1
  · (intro w hSw; (try dsimp only at hSw); go_simp; try with_reducible rfl)
  simp only [Act.put, List.setIfInBounds_toArray, List.set_cons_zero, List.set_cons_succ]
  refine abTake 1 (some 26) (v := ?_) rfl rfl (by kernel_rfl) (by kernel_rfl) (by kernel_rfl) (fun _ _ _ h => h) (HF.out _ (by simp)) (by rfl) ?_ ?_
  rotate_left 1
  · (intro w hSw; (try dsimp only at hSw); go_simp; try with_reducible rfl)
  simp only [Act.put, List.setIfInBounds_toArray, List.set_cons_zero, List.set_cons_succ]
  refine abTake 2 (some 27) (v := ?_) rfl rfl (by kernel_rfl) (by kernel_rfl) (by kernel_rfl) (fun _ _ _ h => h) (HF.out _ (by simp)) (by rfl) ?_ ?_
  rotate_left 1
  · (intro w hSw; (try dsimp only at hSw); go_simp; try with_reducible rfl)
  simp only [Act.put, List.setIfInBounds_toArray, List.set_cons_zero, List.set_cons_succ]
  refine abTake 3 (some 28) (v := ?_) rfl rfl (by kernel_rfl) (by kernel_rfl) (by kernel_rfl) (fun _ _ _ h => h) (HF.out _ (by simp)) (by rfl) ?_ ?_
  rotate_left 1
  · (intro w hSw; (try dsimp only at hSw); go_simp; try with_reducible rfl)
  simp only [Act.put, List.setIfInBounds_toArray, List.set_cons_zero, List.set_cons_succ]
  refine abTake 4 (some 29) (v := ?_) rfl rfl (by kernel_rfl) (by kernel_rfl) (by kernel_rfl) (fun _ _ _ h => h) (HF.out _ (by simp)) (by rfl) ?_ ?_
  rotate_left 1
  · (intro w hSw; (try dsimp only at hSw); go_simp; try with_reducible rfl)
  simp only [Act.put, List.setIfInBounds_toArray, List.set_cons_zero, List.set_cons_succ]
  refine abTake 5 (some 30) (v := ?_) rfl rfl (by kernel_rfl) (by kernel_rfl) (by kernel_rfl) (fun _ _ _ h => h) (HF.out _ (by simp)) (by rfl) ?_ ?_
  rotate_left 1
  · (intro w hSw; (try dsimp only at hSw); go_simp; try with_reducible rfl)
  simp only [Act.put, List.setIfInBounds_toArray, List.set_cons_zero, List.set_cons_succ]
  refine abTake 6 (some 31) (v := ?_) rfl rfl (by kernel_rfl) (by kernel_rfl) (by kernel_rfl) (fun _ _ _ h => h) (HF.out _ (by simp)) (by rfl) ?_ ?_
  rotate_left 1
  · (intro w hSw; (try dsimp only at hSw); go_simp; try with_reducible rfl)
  simp only [Act.put, List.setIfInBounds_toArray, List.set_cons_zero, List.set_cons_succ]
  refine abTake 7 (some 32) (v := ?_) rfl rfl (by kernel_rfl) (by kernel_rfl) (by kernel_rfl) (fun _ _ _ h => h) (HF.out _ (by simp)) (by rfl) ?_ ?_
  rotate_left 1
  · (intro w hSw; (try dsimp only at hSw); go_simp; try with_reducible rfl)
  simp only [Act.put, List.setIfInBounds_toArray, List.set_cons_zero, List.set_cons_succ]
  refine abCall 8 (some 33) rfl rfl (by kernel_rfl) (by kernel_rfl) (by kernel_rfl) (fun _ _ _ h => h) (HF.out _ (by simp)) (by rfl) ?_ (fun w hSw => M2.out _) ?_
  · (intro w hSw; (try dsimp only at hSw); go_simp; try with_reducible rfl)
  simp only [Act.put, List.setIfInBounds_toArray, List.set_cons_zero, List.set_cons_succ]
  refine abTake 9 (some 34) (v := ?_) rfl rfl (by kernel_rfl) (by kernel_rfl) (by kernel_rfl) (fun _ _ _ h => h) (HF.out _ (by simp)) (by rfl) ?_ ?_
  rotate_left 1
  · (intro w hSw; (try dsimp only at hSw); go_simp; try with_reducible rfl)
  simp only [Act.put, List.setIfInBounds_toArray, List.set_cons_zero, List.set_cons_succ]
  refine abCall 10 (some 35) rfl rfl (by kernel_rfl) (by kernel_rfl) (by kernel_rfl) (fun _ _ _ h => h) (HF.out _ (by simp)) (by rfl) ?_ (fun w hSw => M3.out _) ?_
  · (intro w hSw; (try dsimp only at hSw); go_simp; try with_reducible rfl)
  simp only [Act.put, List.setIfInBounds_toArray, List.set_cons_zero, List.set_cons_succ]
  refine abTake 11 (some 36) (v := ?_) rfl rfl (by kernel_rfl) (by kernel_rfl) (by kernel_rfl) (fun _ _ _ h => h) (HF.out _ (by simp)) (by rfl) ?_ ?_
  rotate_left 1
  · (intro w hSw; (try dsimp only at hSw); go_simp; try with_reducible rfl)
  simp only [Act.put, List.setIfInBounds_toArray, List.set_cons_zero, List.set_cons_succ]
  refine abMake1 12 7 HOK.out _ (List.mem_cons_self) rfl rfl rfl (by kernel_rfl) (by kernel_rfl) (by kernel_rfl) ⟨by rfl, .cells #[.bool false, .int .u64 0, .int .u64 0, .bool false, .int .u64 0, .int .u64 0] 52, fun w hSw => ⟨(by (try dsimp only at hSw); go_simp; try with_reducible rfl), Blk.newAt rfl⟩⟩ (fun b7 hb7 nb7 => ?_)
  simp only [Act.put, List.setIfInBounds_toArray, List.set_cons_zero, List.set_cons_succ]
  refine abStore 13 HOK.out _ (List.mem_cons_self) rfl rfl rfl (by kernel_rfl) (by kernel_rfl) (by kernel_rfl) (by kernel_rfl) (by rfl) ?_ ?_
  · rintro w b hSw hg hB hp
    obtain rfl : b = b7 := hg
    replace hp : Blk w b #[.bool false, .int .u64 0, .int .u64 0, .bool false, .int .u64 0, .int .u64 0] := hp
    have x0 : w.cell? ⟨b, 0, none⟩ = some (.bool false) := hp.cell rfl
    have x1 : w.cell? ⟨b, 1, none⟩ = some (.int .u64 0) := hp.cell rfl
    have x2 : w.cell? ⟨b, 2, none⟩ = some (.int .u64 0) := hp.cell rfl
    have x3 : w.cell? ⟨b, 3, none⟩ = some (.bool false) := hp.cell rfl
    have x4 : w.cell? ⟨b, 4, none⟩ = some (.int .u64 0) := hp.cell rfl
    have x5 : w.cell? ⟨b, 5, none⟩ = some (.int .u64 0) := hp.cell rfl
    have y0 := hp.free 0
    have y1 := hp.free 1
    have y2 := hp.free 2
    have y3 := hp.free 3
    have y4 := hp.free 4
    have y5 := hp.free 5
    refine ⟨((((((w.setCell ⟨b, 0, none⟩ (.bool c1)).setCell ⟨b, 1, none⟩ (.int .u64 k1)).setCell ⟨b, 2, none⟩ (.int .u64 l1)).setCell ⟨b, 3, none⟩ (.bool c2)).setCell ⟨b, 4, none⟩ (.int .u64 k2)).setCell ⟨b, 5, none⟩ (.int .u64 l2)), ?_, ((((((hp.set 0 (.bool c1)).set 1 (.int .u64 k1)).set 2 (.int .u64 l1)).set 3 (.bool c2)).set 4 (.int .u64 k2)).set 5 (.int .u64 l2)), (((((((Below.refl _ _).setCell (p := ⟨b, 0, none⟩) hB _).setCell (p := ⟨b, 1, none⟩) hB _).setCell (p := ⟨b, 2, none⟩) hB _).setCell (p := ⟨b, 3, none⟩) hB _).setCell (p := ⟨b, 4, none⟩) hB _).setCell (p := ⟨b, 5, none⟩) hB _), fun k hk => ?_⟩
    · (try dsimp only at hSw); go_simp; try with_reducible rfl
    · exact (Below.heap_setCell _ _ _ _ hk).trans ((Below.heap_setCell _ _ _ _ hk).trans ((Below.heap_setCell _ _ _ _ hk).trans ((Below.heap_setCell _ _ _ _ hk).trans ((Below.heap_setCell _ _ _ _ hk).trans ((Below.heap_setCell _ _ _ _ hk))))))
  refine abDone (by kernel_rfl) ?_ _
  rintro w2 hS
  have klow := sof_post hS _ (List.mem_cons_self) (by kernel_rfl) (by kernel_rfl) (b := b7) rfl
  have HMw2 := Lib.hid ((hS.1.2.2.2.2.2.2.2.2.2.2.out).join klow.2.2 klow.1 hlts hlow)
  clear hS HOK HF HMK hlts hlow ltu lto ltr ltf klow hb7
  have llow : b7 < w2.heap.size := HMw2.out.lt 0 rfl
  have clow0 : w2.cell? ⟨b7, 0, none⟩ = some (.bool c1) := HMw2.out.cell 0 rfl rfl
  have clow1 : w2.cell? ⟨b7, 1, none⟩ = some (.int .u64 k1) := HMw2.out.cell 0 rfl rfl
  have clow2 : w2.cell? ⟨b7, 2, none⟩ = some (.int .u64 l1) := HMw2.out.cell 0 rfl rfl
  have clow3 : w2.cell? ⟨b7, 3, none⟩ = some (.bool c2) := HMw2.out.cell 0 rfl rfl
  have clow4 : w2.cell? ⟨b7, 4, none⟩ = some (.int .u64 k2) := HMw2.out.cell 0 rfl rfl
  have clow5 : w2.cell? ⟨b7, 5, none⟩ = some (.int .u64 l2) := HMw2.out.cell 0 rfl rfl
  go_wp2_with fail
  refine (M4.out _).mono ?_
  rintro e w3 ⟨rfl, hb⟩
  have HMw3 := Lib.hid (HMw2.out.call hb)
  clear hb llow clow0 clow1 clow2 clow3 clow4 clow5 HMw2
  have llow : b7 < w3.heap.size := HMw3.out.lt 0 rfl
  have clow0 : w3.cell? ⟨b7, 0, none⟩ = some (.bool c1) := HMw3.out.cell 0 rfl rfl
  have clow1 : w3.cell? ⟨b7, 1, none⟩ = some (.int .u64 k1) := HMw3.out.cell 0 rfl rfl
  have clow2 : w3.cell? ⟨b7, 2, none⟩ = some (.int .u64 l1) := HMw3.out.cell 0 rfl rfl
  have clow3 : w3.cell? ⟨b7, 3, none⟩ = some (.bool c2) := HMw3.out.cell 0 rfl rfl
  have clow4 : w3.cell? ⟨b7, 4, none⟩ = some (.int .u64 k2) := HMw3.out.cell 0 rfl rfl
  have clow5 : w3.cell? ⟨b7, 5, none⟩ = some (.int .u64 l2) := HMw3.out.cell 0 rfl rfl
  go_wp2_with fail
  refine (M5.out _).mono ?_
  rintro e w4 ⟨rfl, hb⟩
  have HMw4 := Lib.hid (HMw3.out.call hb)
  clear hb llow clow0 clow1 clow2 clow3 clow4 clow5 HMw3
  have lr : (w.heap.size + 1) < w4.heap.size := HMw4.out.lt 3 rfl
  have cr0 : w4.cell? ⟨(w.heap.size + 1), 0, none⟩ = some (.int .i64 0) := HMw4.out.cell 3 rfl rfl
  have fr0 : w4.frozen? ⟨(w.heap.size + 1), 0, none⟩ = false := HMw4.out.free 3 rfl 0
  have cr1 : w4.cell? ⟨(w.heap.size + 1), 1, none⟩ = some (.int .i64 0) := HMw4.out.cell 3 rfl rfl
  have fr1 : w4.frozen? ⟨(w.heap.size + 1), 1, none⟩ = false := HMw4.out.free 3 rfl 1
  go_wp2_with fail
  exact bodyPost_ret (v := .tuple #[.agg #[.int .i64 0, .int .i64 0], .int .i64 5]) (by simp [results, Try.results24, go_sem, cr0, cr1]) rfl ⟨rfl, (((HMw4.out.set 3 0 (.int .i64 0) rfl).set 3 1 (.int .i64 0) rfl).to (l' := [(b7, #[.bool c1, .int .u64 k1, .int .u64 l1, .bool c2, .int .u64 k2, .int .u64 l2]), ((w1.heap.size + 1), #[.int .u64 (hi q : Nat), .int .u64 (lo q : Nat)]), (w1.heap.size, #[.int .u64 (hi p : Nat), .int .u64 (lo p : Nat)]), ((w.heap.size + 1), #[.int .i64 0, .int .i64 0]), (w.heap.size, #[.bool A, .int .u64 (hi n : Nat), .int .u64 (lo n : Nat), .bool B, .int .u64 (hi d : Nat), .int .u64 (lo d : Nat)])]) rfl).low⟩
theorem fr_ok (n d p q : Nat) (A B : Bool) (x y : Int) (c1 c2 : Bool) (k1 l1 k2 l2 : Int) (w : World)
    (m1 : ∀ w, Calls Try.prog 45 #[.agg #[.int .u64 (hi n : Nat), .int .u64 (lo n : Nat)], .agg #[.int .u64 (hi d : Nat), .int .u64 (lo d : Nat)]] w fun en w' => en = .returned (.tuple #[.agg #[.int .u64 (hi p : Nat), .int .u64 (lo p : Nat)], .agg #[.int .u64 (hi q : Nat), .int .u64 (lo q : Nat)], .int .i64 0]) ∧ Below w.heap.size w w')
    (m2 : ∀ w, Calls Try.prog 46 #[.bool (!(A == B)), .agg #[.int .u64 (hi p : Nat), .int .u64 (lo p : Nat)]] w fun en w' => en = .returned (.agg #[.bool c1, .int .u64 k1, .int .u64 l1]) ∧ Below w.heap.size w w')
    (m3 : ∀ w, Calls Try.prog 46 #[.bool false, .agg #[.int .u64 (hi q : Nat), .int .u64 (lo q : Nat)]] w fun en w' => en = .returned (.agg #[.bool c2, .int .u64 k2, .int .u64 l2]) ∧ Below w.heap.size w w')
    (m4 : ∀ w, Calls Try.prog 47 #[.agg #[.bool c1, .int .u64 k1, .int .u64 l1]] w fun en w' => en = .returned (.tuple #[.int .i64 x, .int .i64 0]) ∧ Below w.heap.size w w')
    (m5 : ∀ w, Calls Try.prog 47 #[.agg #[.bool c2, .int .u64 k2, .int .u64 l2]] w fun en w' => en = .returned (.tuple #[.int .i64 y, .int .i64 0]) ∧ Below w.heap.size w w') :
    Calls Try.prog 24 #[.agg #[.bool A, .int .u64 (hi n : Nat), .int .u64 (lo n : Nat), .bool B, .int .u64 (hi d : Nat), .int .u64 (lo d : Nat)]] w fun en w' => en = .returned (.tuple #[.agg #[.int .i64 x, .int .i64 y], .int .i64 0]) ∧ Below w.heap.size w w' := by
  have M1 := Lib.hid m1; have M2 := Lib.hid m2; have M3 := Lib.hid m3; have M4 := Lib.hid m4; have M5 := Lib.hid m5
  clear m1 m2 m3 m4 m5
  go_enter Try.func24, Try.ntmps24
  go_wp2_with fail
  refine (M1.out _).mono ?_
  rintro e w1 ⟨rfl, hb⟩
  have HMw1 := Lib.hid ((((Mem.start w).new w.heap.size _ _ rfl).new (w.heap.size + 1) _ _ (by simp)).call hb)
  clear hb
  go_upto_region 4 with fail
  obtain ⟨W4x, hW4x⟩ : ∃ W4x, ((w1.alloc (.cells #[.int .u64 (hi p : Nat), .int .u64 (lo p : Nat)] 48)).alloc (.cells #[.int .u64 (hi q : Nat), .int .u64 (lo q : Nat)] 48)) = W4x := ⟨_, rfl⟩
  have hm : Mem w W4x [((w1.heap.size + 1), #[.int .u64 (hi q : Nat), .int .u64 (lo q : Nat)]), (w1.heap.size, #[.int .u64 (hi p : Nat), .int .u64 (lo p : Nat)]), ((w.heap.size + 1), #[.int .i64 0, .int .i64 0]), (w.heap.size, #[.bool A, .int .u64 (hi n : Nat), .int .u64 (lo n : Nat), .bool B, .int .u64 (hi d : Nat), .int .u64 (lo d : Nat)])] := by rw [← hW4x]; exact ((HMw1.out.new w1.heap.size _ _ rfl).new (w1.heap.size + 1) _ _ (by simp))
  rw [hW4x]
  clear hW4x HMw1
  have mk : ∀ w', Mem w w' [((w1.heap.size + 1), #[.int .u64 (hi q : Nat), .int .u64 (lo q : Nat)]), (w1.heap.size, #[.int .u64 (hi p : Nat), .int .u64 (lo p : Nat)]), ((w.heap.size + 1), #[.int .i64 0, .int .i64 0]), (w.heap.size, #[.bool A, .int .u64 (hi n : Nat), .int .u64 (lo n : Nat), .bool B, .int .u64 (hi d : Nat), .int .u64 (lo d : Nat)])] → (fun w' => w'.cell? ⟨w.heap.size, 0, none⟩ = some (.bool A) ∧ w'.cell? ⟨w.heap.size, 1, none⟩ = some (.int .u64 (hi n : Nat)) ∧ w'.cell? ⟨w.heap.size, 2, none⟩ = some (.int .u64 (lo n : Nat)) ∧ w'.cell? ⟨w.heap.size, 3, none⟩ = some (.bool B) ∧ w'.cell? ⟨w.heap.size, 4, none⟩ = some (.int .u64 (hi d : Nat)) ∧ w'.cell? ⟨w.heap.size, 5, none⟩ = some (.int .u64 (lo d : Nat)) ∧ w'.cell? ⟨w1.heap.size, 0, none⟩ = some (.int .u64 (hi p : Nat)) ∧ w'.cell? ⟨w1.heap.size, 1, none⟩ = some (.int .u64 (lo p : Nat)) ∧ w'.cell? ⟨(w1.heap.size + 1), 0, none⟩ = some (.int .u64 (hi q : Nat)) ∧ w'.cell? ⟨(w1.heap.size + 1), 1, none⟩ = some (.int .u64 (lo q : Nat)) ∧ Hid (Mem w w' [((w1.heap.size + 1), #[.int .u64 (hi q : Nat), .int .u64 (lo q : Nat)]), (w1.heap.size, #[.int .u64 (hi p : Nat), .int .u64 (lo p : Nat)]), ((w.heap.size + 1), #[.int .i64 0, .int .i64 0]), (w.heap.size, #[.bool A, .int .u64 (hi n : Nat), .int .u64 (lo n : Nat), .bool B, .int .u64 (hi d : Nat), .int .u64 (lo d : Nat)])])) w' := fun w' h => ⟨h.cell 3 rfl rfl, h.cell 3 rfl rfl, h.cell 3 rfl rfl, h.cell 3 rfl rfl, h.cell 3 rfl rfl, h.cell 3 rfl rfl, h.cell 1 rfl rfl, h.cell 1 rfl rfl, h.cell 0 rfl rfl, h.cell 0 rfl rfl, Lib.hid h⟩
  have hok : OwnOk (fun w' => w'.cell? ⟨w.heap.size, 0, none⟩ = some (.bool A) ∧ w'.cell? ⟨w.heap.size, 1, none⟩ = some (.int .u64 (hi n : Nat)) ∧ w'.cell? ⟨w.heap.size, 2, none⟩ = some (.int .u64 (lo n : Nat)) ∧ w'.cell? ⟨w.heap.size, 3, none⟩ = some (.bool B) ∧ w'.cell? ⟨w.heap.size, 4, none⟩ = some (.int .u64 (hi d : Nat)) ∧ w'.cell? ⟨w.heap.size, 5, none⟩ = some (.int .u64 (lo d : Nat)) ∧ w'.cell? ⟨w1.heap.size, 0, none⟩ = some (.int .u64 (hi p : Nat)) ∧ w'.cell? ⟨w1.heap.size, 1, none⟩ = some (.int .u64 (lo p : Nat)) ∧ w'.cell? ⟨(w1.heap.size + 1), 0, none⟩ = some (.int .u64 (hi q : Nat)) ∧ w'.cell? ⟨(w1.heap.size + 1), 1, none⟩ = some (.int .u64 (lo q : Nat)) ∧ Hid (Mem w w' [((w1.heap.size + 1), #[.int .u64 (hi q : Nat), .int .u64 (lo q : Nat)]), (w1.heap.size, #[.int .u64 (hi p : Nat), .int .u64 (lo p : Nat)]), ((w.heap.size + 1), #[.int .i64 0, .int .i64 0]), (w.heap.size, #[.bool A, .int .u64 (hi n : Nat), .int .u64 (lo n : Nat), .bool B, .int .u64 (hi d : Nat), .int .u64 (lo d : Nat)])])) W4x.heap.size [⟨12, 13, fun w b => Blk w b #[.bool false, .int .u64 0, .int .u64 0, .bool false, .int .u64 0, .int .u64 0], fun w b => Blk w b #[.bool c1, .int .u64 k1, .int .u64 l1, .bool c2, .int .u64 k2, .int .u64 l2]⟩] := own1_ok (fun v1 v2 h hb => mk _ (h.2.2.2.2.2.2.2.2.2.2.out.step hb hm.lts hm.low.size)) ⟨Blk.local _, Blk.local _⟩ (by simp)
  have hfit : ∀ i, (∀ e ∈ ([⟨12, 13, fun w b => Blk w b #[.bool false, .int .u64 0, .int .u64 0, .bool false, .int .u64 0, .int .u64 0], fun w b => Blk w b #[.bool c1, .int .u64 k1, .int .u64 l1, .bool c2, .int .u64 k2, .int .u64 l2]⟩] : List Ent), e.x ≠ i ∧ e.s ≠ i) → Fit (fun w' => w'.cell? ⟨w.heap.size, 0, none⟩ = some (.bool A) ∧ w'.cell? ⟨w.heap.size, 1, none⟩ = some (.int .u64 (hi n : Nat)) ∧ w'.cell? ⟨w.heap.size, 2, none⟩ = some (.int .u64 (lo n : Nat)) ∧ w'.cell? ⟨w.heap.size, 3, none⟩ = some (.bool B) ∧ w'.cell? ⟨w.heap.size, 4, none⟩ = some (.int .u64 (hi d : Nat)) ∧ w'.cell? ⟨w.heap.size, 5, none⟩ = some (.int .u64 (lo d : Nat)) ∧ w'.cell? ⟨w1.heap.size, 0, none⟩ = some (.int .u64 (hi p : Nat)) ∧ w'.cell? ⟨w1.heap.size, 1, none⟩ = some (.int .u64 (lo p : Nat)) ∧ w'.cell? ⟨(w1.heap.size + 1), 0, none⟩ = some (.int .u64 (hi q : Nat)) ∧ w'.cell? ⟨(w1.heap.size + 1), 1, none⟩ = some (.int .u64 (lo q : Nat)) ∧ Hid (Mem w w' [((w1.heap.size + 1), #[.int .u64 (hi q : Nat), .int .u64 (lo q : Nat)]), (w1.heap.size, #[.int .u64 (hi p : Nat), .int .u64 (lo p : Nat)]), ((w.heap.size + 1), #[.int .i64 0, .int .i64 0]), (w.heap.size, #[.bool A, .int .u64 (hi n : Nat), .int .u64 (lo n : Nat), .bool B, .int .u64 (hi d : Nat), .int .u64 (lo d : Nat)])])) (Sof (fun w' => w'.cell? ⟨w.heap.size, 0, none⟩ = some (.bool A) ∧ w'.cell? ⟨w.heap.size, 1, none⟩ = some (.int .u64 (hi n : Nat)) ∧ w'.cell? ⟨w.heap.size, 2, none⟩ = some (.int .u64 (lo n : Nat)) ∧ w'.cell? ⟨w.heap.size, 3, none⟩ = some (.bool B) ∧ w'.cell? ⟨w.heap.size, 4, none⟩ = some (.int .u64 (hi d : Nat)) ∧ w'.cell? ⟨w.heap.size, 5, none⟩ = some (.int .u64 (lo d : Nat)) ∧ w'.cell? ⟨w1.heap.size, 0, none⟩ = some (.int .u64 (hi p : Nat)) ∧ w'.cell? ⟨w1.heap.size, 1, none⟩ = some (.int .u64 (lo p : Nat)) ∧ w'.cell? ⟨(w1.heap.size + 1), 0, none⟩ = some (.int .u64 (hi q : Nat)) ∧ w'.cell? ⟨(w1.heap.size + 1), 1, none⟩ = some (.int .u64 (lo q : Nat)) ∧ Hid (Mem w w' [((w1.heap.size + 1), #[.int .u64 (hi q : Nat), .int .u64 (lo q : Nat)]), (w1.heap.size, #[.int .u64 (hi p : Nat), .int .u64 (lo p : Nat)]), ((w.heap.size + 1), #[.int .i64 0, .int .i64 0]), (w.heap.size, #[.bool A, .int .u64 (hi n : Nat), .int .u64 (lo n : Nat), .bool B, .int .u64 (hi d : Nat), .int .u64 (lo d : Nat)])])) W4x.heap.size [⟨12, 13, fun w b => Blk w b #[.bool false, .int .u64 0, .int .u64 0, .bool false, .int .u64 0, .int .u64 0], fun w b => Blk w b #[.bool c1, .int .u64 k1, .int .u64 l1, .bool c2, .int .u64 k2, .int .u64 l2]⟩]) i := fun i hi => sof_fit hok.st hok.loc hi
  have HOK := Lib.hid hok; have HF := Lib.hid hfit; clear hok hfit
  refine wp_region_ab (S0 := (fun w' => w'.cell? ⟨w.heap.size, 0, none⟩ = some (.bool A) ∧ w'.cell? ⟨w.heap.size, 1, none⟩ = some (.int .u64 (hi n : Nat)) ∧ w'.cell? ⟨w.heap.size, 2, none⟩ = some (.int .u64 (lo n : Nat)) ∧ w'.cell? ⟨w.heap.size, 3, none⟩ = some (.bool B) ∧ w'.cell? ⟨w.heap.size, 4, none⟩ = some (.int .u64 (hi d : Nat)) ∧ w'.cell? ⟨w.heap.size, 5, none⟩ = some (.int .u64 (lo d : Nat)) ∧ w'.cell? ⟨w1.heap.size, 0, none⟩ = some (.int .u64 (hi p : Nat)) ∧ w'.cell? ⟨w1.heap.size, 1, none⟩ = some (.int .u64 (lo p : Nat)) ∧ w'.cell? ⟨(w1.heap.size + 1), 0, none⟩ = some (.int .u64 (hi q : Nat)) ∧ w'.cell? ⟨(w1.heap.size + 1), 1, none⟩ = some (.int .u64 (lo q : Nat)) ∧ Hid (Mem w w' [((w1.heap.size + 1), #[.int .u64 (hi q : Nat), .int .u64 (lo q : Nat)]), (w1.heap.size, #[.int .u64 (hi p : Nat), .int .u64 (lo p : Nat)]), ((w.heap.size + 1), #[.int .i64 0, .int .i64 0]), (w.heap.size, #[.bool A, .int .u64 (hi n : Nat), .int .u64 (lo n : Nat), .bool B, .int .u64 (hi d : Nat), .int .u64 (lo d : Nat)])]))) W4x.heap.size [⟨12, 13, fun w b => Blk w b #[.bool false, .int .u64 0, .int .u64 0, .bool false, .int .u64 0, .int .u64 0], fun w b => Blk w b #[.bool c1, .int .u64 k1, .int .u64 l1, .bool c2, .int .u64 k2, .int .u64 l2]⟩] (by kernel_rfl) (mk _ hm.drew) (Nat.le_refl _) (by simp) ?_
  have hlts := hm.lts; have hlow := hm.low.size
  have ltu : (w1.heap.size + 1) < W4x.heap.size := hm.lt 0 rfl
  have lto : w1.heap.size < W4x.heap.size := hm.lt 1 rfl
  have ltr : (w.heap.size + 1) < W4x.heap.size := hm.lt 2 rfl
  have ltf : w.heap.size < W4x.heap.size := hm.lt 3 rfl
  have HMK := Lib.hid mk
  clear hm mk
  refine abTake 0 (some 25) (v := ?_) rfl rfl (by kernel_rfl) (by kernel_rfl) (by kernel_rfl) (fun _ _ _ h => h) (HF.out _ (by simp)) (by rfl) ?_ ?_
  rotate_left 1
  · (intro w hSw; (try dsimp only at hSw); go_simp; try with_reducible rfl)
  simp only [Act.put, List.setIfInBounds_toArray, List.set_cons_zero, List.set_cons_succ]
  refine abTake 1 (some 26) (v := ?_) rfl rfl (by kernel_rfl) (by kernel_rfl) (by kernel_rfl) (fun _ _ _ h => h) (HF.out _ (by simp)) (by rfl) ?_ ?_
  rotate_left 1
  · (intro w hSw; (try dsimp only at hSw); go_simp; try with_reducible rfl)
  simp only [Act.put, List.setIfInBounds_toArray, List.set_cons_zero, List.set_cons_succ]
  refine abTake 2 (some 27) (v := ?_) rfl rfl (by kernel_rfl) (by kernel_rfl) (by kernel_rfl) (fun _ _ _ h => h) (HF.out _ (by simp)) (by rfl) ?_ ?_
  rotate_left 1
  · (intro w hSw; (try dsimp only at hSw); go_simp; try with_reducible rfl)
  simp only [Act.put, List.setIfInBounds_toArray, List.set_cons_zero, List.set_cons_succ]
  refine abTake 3 (some 28) (v := ?_) rfl rfl (by kernel_rfl) (by kernel_rfl) (by kernel_rfl) (fun _ _ _ h => h) (HF.out _ (by simp)) (by rfl) ?_ ?_
  rotate_left 1
  · (intro w hSw; (try dsimp only at hSw); go_simp; try with_reducible rfl)
  simp only [Act.put, List.setIfInBounds_toArray, List.set_cons_zero, List.set_cons_succ]
  refine abTake 4 (some 29) (v := ?_) rfl rfl (by kernel_rfl) (by kernel_rfl) (by kernel_rfl) (fun _ _ _ h => h) (HF.out _ (by simp)) (by rfl) ?_ ?_
  rotate_left 1
  · (intro w hSw; (try dsimp only at hSw); go_simp; try with_reducible rfl)
  simp only [Act.put, List.setIfInBounds_toArray, List.set_cons_zero, List.set_cons_succ]
  refine abTake 5 (some 30) (v := ?_) rfl rfl (by kernel_rfl) (by kernel_rfl) (by kernel_rfl) (fun _ _ _ h => h) (HF.out _ (by simp)) (by rfl) ?_ ?_
  rotate_left 1
  · (intro w hSw; (try dsimp only at hSw); go_simp; try with_reducible rfl)
  simp only [Act.put, List.setIfInBounds_toArray, List.set_cons_zero, List.set_cons_succ]
  refine abTake 6 (some 31) (v := ?_) rfl rfl (by kernel_rfl) (by kernel_rfl) (by kernel_rfl) (fun _ _ _ h => h) (HF.out _ (by simp)) (by rfl) ?_ ?_
  rotate_left 1
  · (intro w hSw; (try dsimp only at hSw); go_simp; try with_reducible rfl)
  simp only [Act.put, List.setIfInBounds_toArray, List.set_cons_zero, List.set_cons_succ]
  refine abTake 7 (some 32) (v := ?_) rfl rfl (by kernel_rfl) (by kernel_rfl) (by kernel_rfl) (fun _ _ _ h => h) (HF.out _ (by simp)) (by rfl) ?_ ?_
  rotate_left 1
  · (intro w hSw; (try dsimp only at hSw); go_simp; try with_reducible rfl)
  simp only [Act.put, List.setIfInBounds_toArray, List.set_cons_zero, List.set_cons_succ]
  refine abCall 8 (some 33) rfl rfl (by kernel_rfl) (by kernel_rfl) (by kernel_rfl) (fun _ _ _ h => h) (HF.out _ (by simp)) (by rfl) ?_ (fun w hSw => M2.out _) ?_
  · (intro w hSw; (try dsimp only at hSw); go_simp; try with_reducible rfl)
  simp only [Act.put, List.setIfInBounds_toArray, List.set_cons_zero, List.set_cons_succ]
  refine abTake 9 (some 34) (v := ?_) rfl rfl (by kernel_rfl) (by kernel_rfl) (by kernel_rfl) (fun _ _ _ h => h) (HF.out _ (by simp)) (by rfl) ?_ ?_
  rotate_left 1
  · (intro w hSw; (try dsimp only at hSw); go_simp; try with_reducible rfl)
  simp only [Act.put, List.setIfInBounds_toArray, List.set_cons_zero, List.set_cons_succ]
  refine abCall 10 (some 35) rfl rfl (by kernel_rfl) (by kernel_rfl) (by kernel_rfl) (fun _ _ _ h => h) (HF.out _ (by simp)) (by rfl) ?_ (fun w hSw => M3.out _) ?_
  · (intro w hSw; (try dsimp only at hSw); go_simp; try with_reducible rfl)
  simp only [Act.put, List.setIfInBounds_toArray, List.set_cons_zero, List.set_cons_succ]
  refine abTake 11 (some 36) (v := ?_) rfl rfl (by kernel_rfl) (by kernel_rfl) (by kernel_rfl) (fun _ _ _ h => h) (HF.out _ (by simp)) (by rfl) ?_ ?_
  rotate_left 1
  · (intro w hSw; (try dsimp only at hSw); go_simp; try with_reducible rfl)
  simp only [Act.put, List.setIfInBounds_toArray, List.set_cons_zero, List.set_cons_succ]
  refine abMake1 12 7 HOK.out _ (List.mem_cons_self) rfl rfl rfl (by kernel_rfl) (by kernel_rfl) (by kernel_rfl) ⟨by rfl, .cells #[.bool false, .int .u64 0, .int .u64 0, .bool false, .int .u64 0, .int .u64 0] 52, fun w hSw => ⟨(by (try dsimp only at hSw); go_simp; try with_reducible rfl), Blk.newAt rfl⟩⟩ (fun b7 hb7 nb7 => ?_)
  simp only [Act.put, List.setIfInBounds_toArray, List.set_cons_zero, List.set_cons_succ]
  refine abStore 13 HOK.out _ (List.mem_cons_self) rfl rfl rfl (by kernel_rfl) (by kernel_rfl) (by kernel_rfl) (by kernel_rfl) (by rfl) ?_ ?_
  · rintro w b hSw hg hB hp
    obtain rfl : b = b7 := hg
    replace hp : Blk w b #[.bool false, .int .u64 0, .int .u64 0, .bool false, .int .u64 0, .int .u64 0] := hp
    have x0 : w.cell? ⟨b, 0, none⟩ = some (.bool false) := hp.cell rfl
    have x1 : w.cell? ⟨b, 1, none⟩ = some (.int .u64 0) := hp.cell rfl
    have x2 : w.cell? ⟨b, 2, none⟩ = some (.int .u64 0) := hp.cell rfl
    have x3 : w.cell? ⟨b, 3, none⟩ = some (.bool false) := hp.cell rfl
    have x4 : w.cell? ⟨b, 4, none⟩ = some (.int .u64 0) := hp.cell rfl
    have x5 : w.cell? ⟨b, 5, none⟩ = some (.int .u64 0) := hp.cell rfl
    have y0 := hp.free 0
    have y1 := hp.free 1
    have y2 := hp.free 2
    have y3 := hp.free 3
    have y4 := hp.free 4
    have y5 := hp.free 5
    refine ⟨((((((w.setCell ⟨b, 0, none⟩ (.bool c1)).setCell ⟨b, 1, none⟩ (.int .u64 k1)).setCell ⟨b, 2, none⟩ (.int .u64 l1)).setCell ⟨b, 3, none⟩ (.bool c2)).setCell ⟨b, 4, none⟩ (.int .u64 k2)).setCell ⟨b, 5, none⟩ (.int .u64 l2)), ?_, ((((((hp.set 0 (.bool c1)).set 1 (.int .u64 k1)).set 2 (.int .u64 l1)).set 3 (.bool c2)).set 4 (.int .u64 k2)).set 5 (.int .u64 l2)), (((((((Below.refl _ _).setCell (p := ⟨b, 0, none⟩) hB _).setCell (p := ⟨b, 1, none⟩) hB _).setCell (p := ⟨b, 2, none⟩) hB _).setCell (p := ⟨b, 3, none⟩) hB _).setCell (p := ⟨b, 4, none⟩) hB _).setCell (p := ⟨b, 5, none⟩) hB _), fun k hk => ?_⟩
    · (try dsimp only at hSw); go_simp; try with_reducible rfl
    · exact (Below.heap_setCell _ _ _ _ hk).trans ((Below.heap_setCell _ _ _ _ hk).trans ((Below.heap_setCell _ _ _ _ hk).trans ((Below.heap_setCell _ _ _ _ hk).trans ((Below.heap_setCell _ _ _ _ hk).trans ((Below.heap_setCell _ _ _ _ hk))))))
  refine abDone (by kernel_rfl) ?_ _
  rintro w2 hS
  have klow := sof_post hS _ (List.mem_cons_self) (by kernel_rfl) (by kernel_rfl) (b := b7) rfl
  have HMw2 := Lib.hid ((hS.1.2.2.2.2.2.2.2.2.2.2.out).join klow.2.2 klow.1 hlts hlow)
  clear hS HOK HF HMK hlts hlow ltu lto ltr ltf klow hb7
  have llow : b7 < w2.heap.size := HMw2.out.lt 0 rfl
  have clow0 : w2.cell? ⟨b7, 0, none⟩ = some (.bool c1) := HMw2.out.cell 0 rfl rfl
  have clow1 : w2.cell? ⟨b7, 1, none⟩ = some (.int .u64 k1) := HMw2.out.cell 0 rfl rfl
  have clow2 : w2.cell? ⟨b7, 2, none⟩ = some (.int .u64 l1) := HMw2.out.cell 0 rfl rfl
  have clow3 : w2.cell? ⟨b7, 3, none⟩ = some (.bool c2) := HMw2.out.cell 0 rfl rfl
  have clow4 : w2.cell? ⟨b7, 4, none⟩ = some (.int .u64 k2) := HMw2.out.cell 0 rfl rfl
  have clow5 : w2.cell? ⟨b7, 5, none⟩ = some (.int .u64 l2) := HMw2.out.cell 0 rfl rfl
  go_wp2_with fail
  refine (M4.out _).mono ?_
  rintro e w3 ⟨rfl, hb⟩
  have HMw3 := Lib.hid (HMw2.out.call hb)
  clear hb llow clow0 clow1 clow2 clow3 clow4 clow5 HMw2
  have llow : b7 < w3.heap.size := HMw3.out.lt 0 rfl
  have clow0 : w3.cell? ⟨b7, 0, none⟩ = some (.bool c1) := HMw3.out.cell 0 rfl rfl
  have clow1 : w3.cell? ⟨b7, 1, none⟩ = some (.int .u64 k1) := HMw3.out.cell 0 rfl rfl
  have clow2 : w3.cell? ⟨b7, 2, none⟩ = some (.int .u64 l1) := HMw3.out.cell 0 rfl rfl
  have clow3 : w3.cell? ⟨b7, 3, none⟩ = some (.bool c2) := HMw3.out.cell 0 rfl rfl
  have clow4 : w3.cell? ⟨b7, 4, none⟩ = some (.int .u64 k2) := HMw3.out.cell 0 rfl rfl
  have clow5 : w3.cell? ⟨b7, 5, none⟩ = some (.int .u64 l2) := HMw3.out.cell 0 rfl rfl
  go_wp2_with fail
  refine (M5.out _).mono ?_
  rintro e w4 ⟨rfl, hb⟩
  have HMw4 := Lib.hid (HMw3.out.call hb)
  clear hb llow clow0 clow1 clow2 clow3 clow4 clow5 HMw3
  have lr : (w.heap.size + 1) < w4.heap.size := HMw4.out.lt 3 rfl
  have cr0 : w4.cell? ⟨(w.heap.size + 1), 0, none⟩ = some (.int .i64 0) := HMw4.out.cell 3 rfl rfl
  have fr0 : w4.frozen? ⟨(w.heap.size + 1), 0, none⟩ = false := HMw4.out.free 3 rfl 0
  have cr1 : w4.cell? ⟨(w.heap.size + 1), 1, none⟩ = some (.int .i64 0) := HMw4.out.cell 3 rfl rfl
  have fr1 : w4.frozen? ⟨(w.heap.size + 1), 1, none⟩ = false := HMw4.out.free 3 rfl 1
  go_wp2_with fail
  exact bodyPost_ret (v := .tuple #[.agg #[.int .i64 x, .int .i64 y], .int .i64 0]) (by simp [results, Try.results24, go_sem, cr0, cr1]) rfl ⟨rfl, (((HMw4.out.set 3 0 (.int .i64 x) rfl).set 3 1 (.int .i64 y) rfl).to (l' := [(b7, #[.bool c1, .int .u64 k1, .int .u64 l1, .bool c2, .int .u64 k2, .int .u64 l2]), ((w1.heap.size + 1), #[.int .u64 (hi q : Nat), .int .u64 (lo q : Nat)]), (w1.heap.size, #[.int .u64 (hi p : Nat), .int .u64 (lo p : Nat)]), ((w.heap.size + 1), #[.int .i64 x, .int .i64 y]), (w.heap.size, #[.bool A, .int .u64 (hi n : Nat), .int .u64 (lo n : Nat), .bool B, .int .u64 (hi d : Nat), .int .u64 (lo d : Nat)])]) rfl).low⟩
/-- n divided by d in lowest terms: Num and Den ahead of asking whether they are ints; the answer. -/
def lowN (n d : Int) : Int := sgn (decide (n < 0) != decide (d < 0)) (n.natAbs / Nat.gcd n.natAbs d.natAbs)
def lowD (n d : Int) : Int := ((d.natAbs / Nat.gcd n.natAbs d.natAbs : Nat) : Int)
def Fits (n d : Int) : Prop := d ≠ 0 ∧ IsInt (lowN n d) ∧ IsInt (lowD n d)
instance (n d : Int) : Decidable (Fits n d) := inferInstanceAs (Decidable (d ≠ 0 ∧ (_ ∧ _) ∧ (_ ∧ _)))
def raN (n d : Int) : Int := if Fits n d then lowN n d else 0
def raD (n d : Int) : Int := if Fits n d then lowD n d else 0
def raE (n d : Int) : Int := if d = 0 then 4 else if Fits n d then 0 else 5
theorem raN_ok {n d : Int} (h : Fits n d) : raN n d = lowN n d := if_pos h
theorem raD_ok {n d : Int} (h : Fits n d) : raD n d = lowD n d := if_pos h
theorem raE_ok {n d : Int} (h : Fits n d) : raE n d = 0 := by unfold raE; rw [if_neg h.1, if_pos h]
theorem raN_no {n d : Int} (h : ¬ Fits n d) : raN n d = 0 := if_neg h
theorem raD_no {n d : Int} (h : ¬ Fits n d) : raD n d = 0 := if_neg h
theorem raE_no {n d : Int} (h0 : d ≠ 0) (h : ¬ Fits n d) : raE n d = 5 := by unfold raE; rw [if_neg h0, if_neg h]
theorem raE_zero {n d : Int} : raE n d = 0 ↔ Fits n d := by
  by_cases h : Fits n d
  · exact ⟨fun _ => h, fun _ => raE_ok h⟩
  · refine ⟨fun k => ?_, fun k => absurd k h⟩
    by_cases h0 : d = 0
    · unfold raE at k; rw [if_pos h0] at k; omega
    · rw [raE_no h0 h] at k; omega
theorem quot_lt (n d : Nat) (hn : n < M128) : n / Nat.gcd n d < M128 := Nat.lt_of_le_of_lt (Nat.div_le_self _ _) hn
theorem sgn_natAbs (b : Bool) (n : Nat) : (sgn b n).natAbs = n := by unfold sgn; split <;> omega
theorem fr_any (n d : Int) (hn : n.natAbs < M128) (hd : d.natAbs < M128) (w : World) :
    Calls Try.prog 24 #[.agg (frC n d)] w fun en w' => en = .returned (.tuple #[.agg #[.int .i64 (raN n d), .int .i64 (raD n d)], .int .i64 (raE n d)]) ∧ Below w.heap.size w w' := by
  by_cases h0 : d = 0
  · have no : ¬ Fits n d := fun k => k.1 h0
    rw [raN_no no, raD_no no, show raE n d = 4 from if_pos h0]
    refine fr_zero _ _ _ _ w fun w => ?_
    have := lowest_zero n.natAbs w
    rw [h0]
    exact this
  have m1 := lowest_num n.natAbs d.natAbs hn hd (by omega)
  have m2 := side_any (decide (n < 0) != decide (d < 0)) (n.natAbs / Nat.gcd n.natAbs d.natAbs)
  have m3 := side_any false (d.natAbs / Nat.gcd n.natAbs d.natAbs)
  have b1 : (lowN n d).natAbs < M128 := by unfold lowN; rw [sgn_natAbs]; exact quot_lt _ _ hn
  have b2 : (lowD n d).natAbs < M128 := by unfold lowD; rw [Int.natAbs_natCast]; exact Nat.lt_of_le_of_lt (Nat.div_le_self _ _) hd
  have m4 := zwhole_any (lowN n d) b1
  have m5 := zwhole_any (lowD n d) b2
  change ∀ w, Calls _ _ _ w fun en w' => en = .returned (zS (lowN n d)) ∧ _ at m2
  change ∀ w, Calls _ _ _ w fun en w' => en = .returned (zS (lowD n d)) ∧ _ at m3
  unfold zS at m2 m3 m4 m5
  by_cases i : IsInt (lowN n d)
  · rw [ans_ok i, err_ok i] at m4
    by_cases j : IsInt (lowD n d)
    · have ok : Fits n d := ⟨h0, i, j⟩
      rw [ans_ok j, err_ok j] at m5
      rw [raN_ok ok, raD_ok ok, raE_ok ok]
      exact fr_ok _ _ _ _ _ _ _ _ _ _ _ _ _ _ w m1 m2 m3 m4 m5
    · have no : ¬ Fits n d := fun k => j k.2.2
      rw [ans_no j, err_no j] at m5
      rw [raN_no no, raD_no no, raE_no h0 no]
      exact fr_den _ _ _ _ _ _ _ _ _ _ _ _ _ w m1 m2 m3 m4 m5
  · have no : ¬ Fits n d := fun k => i k.2.1
    rw [ans_no i, err_no i] at m4
    rw [raN_no no, raD_no no, raE_no h0 no]
    exact fr_num _ _ _ _ _ _ _ _ _ _ _ _ w m1 m2 m3 m4
theorem new_core (n d x y e : Int) (c1 c2 : Bool) (k1 l1 k2 l2 : Int) (w : World)
    (m1 : ∀ w, Calls Try.prog 23 #[.int .i64 n, .int .i64 d] w fun en w' => en = .returned (.agg #[.bool c1, .int .u64 k1, .int .u64 l1, .bool c2, .int .u64 k2, .int .u64 l2]) ∧ Below w.heap.size w w')
    (m2 : ∀ w, Calls Try.prog 24 #[.agg #[.bool c1, .int .u64 k1, .int .u64 l1, .bool c2, .int .u64 k2, .int .u64 l2]] w fun en w' => en = .returned (.tuple #[.agg #[.int .i64 x, .int .i64 y], .int .i64 e]) ∧ Below w.heap.size w w') :
    Calls Try.prog 8 #[.int .i64 n, .int .i64 d] w fun en w' => en = .returned (.tuple #[.agg #[.int .i64 x, .int .i64 y], .int .i64 e]) ∧ Below w.heap.size w w' := by
  have M1 := Lib.hid m1; have M2 := Lib.hid m2
  clear m1 m2
  go_enter Try.func8, Try.ntmps8
  go_wp2_with fail
  refine (M1.out _).mono ?_
  rintro e w1 ⟨rfl, hb⟩
  have HMw1 := Lib.hid (((Mem.start w).new w.heap.size _ _ rfl).call hb)
  clear hb
  go_wp2_with fail
  refine (M2.out _).mono ?_
  rintro e w2 ⟨rfl, hb⟩
  have HMw2 := Lib.hid (HMw1.out.call hb)
  clear hb HMw1
  have lr : w.heap.size < w2.heap.size := HMw2.out.lt 0 rfl
  have cr0 : w2.cell? ⟨w.heap.size, 0, none⟩ = some (.int .i64 0) := HMw2.out.cell 0 rfl rfl
  have fr0 : w2.frozen? ⟨w.heap.size, 0, none⟩ = false := HMw2.out.free 0 rfl 0
  have cr1 : w2.cell? ⟨w.heap.size, 1, none⟩ = some (.int .i64 0) := HMw2.out.cell 0 rfl rfl
  have fr1 : w2.frozen? ⟨w.heap.size, 1, none⟩ = false := HMw2.out.free 0 rfl 1
  go_wp2_with fail
  exact bodyPost_ret (v := .tuple #[.agg #[.int .i64 x, .int .i64 y], .int .i64 e]) (by simp [results, Try.results8, go_sem, cr0, cr1]) rfl ⟨rfl, (((HMw2.out.set 0 0 (.int .i64 x) rfl).set 0 1 (.int .i64 y) rfl).to (l' := [(w.heap.size, #[.int .i64 x, .int .i64 y])]) rfl).low⟩
theorem int_M {a : Int} (ha : IsInt a) : a.natAbs < M128 := by have := natAbs_lt ha; unfold M128; omega
theorem new_any (n d : Int) (hn : IsInt n) (hd : IsInt d) (w : World) :
    Calls Try.prog 8 #[.int .i64 n, .int .i64 d] w fun en w' => en = .returned (.tuple #[.agg #[.int .i64 (raN n d), .int .i64 (raD n d)], .int .i64 (raE n d)]) ∧ Below w.heap.size w w' := by
  exact new_core n d _ _ _ _ _ _ _ _ _ w (fof_any n d hn hd) (fr_any n d (int_M hn) (int_M hd))
theorem right_no (n d : Int) (h : ¬ 1 ≤ d) (c1 c2 : Bool) (k1 l1 k2 l2 : Int) (w : World)
    (m1 : ∀ w, Calls Try.prog 23 #[.int .i64 n, .int .i64 d] w fun en w' => en = .returned (.agg #[.bool c1, .int .u64 k1, .int .u64 l1, .bool c2, .int .u64 k2, .int .u64 l2]) ∧ Below w.heap.size w w') :
    Calls Try.prog 9 #[.agg #[.int .i64 n, .int .i64 d]] w fun en w' => en = .returned (.bool false) ∧ Below w.heap.size w w' := by
  have M1 := Lib.hid m1
  clear m1
  have hd : decide ((1 : Int) ≤ d) = false := decide_eq_false h
  go_enter Try.func9, Try.ntmps9
  go_wp2_with fail
  refine (M1.out _).mono ?_
  rintro e w1 ⟨rfl, hb⟩
  have HMw1 := Lib.hid (((Mem.start w).new w.heap.size _ _ rfl).call hb)
  clear hb
  have lr : w.heap.size < w1.heap.size := HMw1.out.lt 0 rfl
  have cr0 : w1.cell? ⟨w.heap.size, 0, none⟩ = some (.int .i64 n) := HMw1.out.cell 0 rfl rfl
  have cr1 : w1.cell? ⟨w.heap.size, 1, none⟩ = some (.int .i64 d) := HMw1.out.cell 0 rfl rfl
  go_wp2_with fail
  go_ret
  exact ⟨rfl, (HMw1.out.new w1.heap.size _ _ rfl).low⟩
theorem right_yes (n d : Int) (h : 1 ≤ d) (g : Nat) (D : Bool) (c1 c2 : Bool) (k1 l1 k2 l2 : Int) (w : World) (hE : ∀ w, (Op.equalIn 10000 48 (.agg #[.int .u64 (hi g : Nat), .int .u64 (lo g : Nat)]) (.agg #[.int .u64 0, .int .u64 1])).run Try.prog w = .ok D w)
    (m1 : ∀ w, Calls Try.prog 23 #[.int .i64 n, .int .i64 d] w fun en w' => en = .returned (.agg #[.bool c1, .int .u64 k1, .int .u64 l1, .bool c2, .int .u64 k2, .int .u64 l2]) ∧ Below w.heap.size w w')
    (m2 : ∀ w, Calls Try.prog 25 #[.agg #[.int .u64 k1, .int .u64 l1], .agg #[.int .u64 k2, .int .u64 l2]] w fun en w' => en = .returned (.agg #[.int .u64 (hi g : Nat), .int .u64 (lo g : Nat)]) ∧ Below w.heap.size w w') :
    Calls Try.prog 9 #[.agg #[.int .i64 n, .int .i64 d]] w fun en w' => en = .returned (.bool D) ∧ Below w.heap.size w w' := by
  have M1 := Lib.hid m1; have M2 := Lib.hid m2
  clear m1 m2
  have hd : decide ((1 : Int) ≤ d) = true := decide_eq_true h
  go_enter Try.func9, Try.ntmps9
  go_wp2_with fail
  refine (M1.out _).mono ?_
  rintro e w1 ⟨rfl, hb⟩
  have HMw1 := Lib.hid (((Mem.start w).new w.heap.size _ _ rfl).call hb)
  clear hb
  have lr : w.heap.size < w1.heap.size := HMw1.out.lt 0 rfl
  have cr0 : w1.cell? ⟨w.heap.size, 0, none⟩ = some (.int .i64 n) := HMw1.out.cell 0 rfl rfl
  have cr1 : w1.cell? ⟨w.heap.size, 1, none⟩ = some (.int .i64 d) := HMw1.out.cell 0 rfl rfl
  go_wp2_with fail
  refine (M2.out _).mono ?_
  rintro e w2 ⟨rfl, hb⟩
  have HMw2 := Lib.hid ((HMw1.out.new w1.heap.size _ _ rfl).call hb)
  clear hb lr cr0 cr1 HMw1
  go_wp2_with fail
  go_ret
  exact ⟨rfl, HMw2.out.low⟩
instance (n d : Int) : Decidable (Low n d) := inferInstanceAs (Decidable (1 ≤ d ∧ Nat.gcd n.natAbs d.natAbs = 1))
theorem right_any (n d : Int) (hn : IsInt n) (hd : IsInt d) (w : World) :
    Calls Try.prog 9 #[.agg #[.int .i64 n, .int .i64 d]] w fun en w' => en = .returned (.bool (decide (Low n d))) ∧ Below w.heap.size w w' := by
  by_cases h : 1 ≤ d
  · have e := eqWide (Nat.gcd n.natAbs d.natAbs) 1
    have e2 : decide (Low n d) = decide (Nat.gcd n.natAbs d.natAbs = 1) := decide_eq_decide.2 ⟨fun k => k.2, fun k => ⟨h, k⟩⟩
    rw [e2]
    exact right_yes n d h _ _ _ _ _ _ _ _ w e (fof_any n d hn hd) (gcd_num n.natAbs d.natAbs (int_M hn) (int_M hd))
  · rw [decide_eq_false (fun k : Low n d => h k.1)]
    exact right_no n d h _ _ _ _ _ _ w (fof_any n d hn hd)
end Go.Proofs.Ytjnebbjjabnipaa
