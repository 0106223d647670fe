/- ratio.Cmp, Add, Mul, Enclose: by cross products, in lowest terms; nothing that was in memory before is changed. -/
import Derived.Test.YtjnebbjjabnipaaRatioF
import Derived.Test.YtjnebbjjabnipaaFixMd
import Derived.Test.YtjnebbjjabnipaaSpanN
namespace Go.Proofs.Ytjnebbjjabnipaa
open Go.RowKit

theorem qcmp_arg1 (a1 a2 b1 b2 : Int) (w : World)
    (m1 : ∀ w, Calls Try.prog 9 #[.agg #[.int .i64 a1, .int .i64 a2]] w fun en w' => en = .returned (.bool false) ∧ Below w.heap.size w w') :
    Calls Try.prog 13 #[.agg #[.int .i64 a1, .int .i64 a2], .agg #[.int .i64 b1, .int .i64 b2]] w fun en w' => en = .returned (.tuple #[.int .i64 0, .int .i64 1]) ∧ Below w.heap.size w w' := by
  have M1 := Lib.hid m1
  clear m1
  go_enter Try.func13, Try.ntmps13
  go_wp2_with fail
  refine (M1.out _).mono ?_
  rintro e w1 ⟨rfl, hb⟩
  have HMw1 := Lib.hid ((((Mem.start w).new w.heap.size _ _ rfl).new (w.heap.size + 1) _ _ (by simp)).call hb)
  clear hb
  go_wp2_with fail
  go_ret2
  exact ⟨rfl, HMw1.out.low⟩
theorem qcmp_arg2 (a1 a2 b1 b2 : Int) (w : World)
    (m1 : ∀ w, Calls Try.prog 9 #[.agg #[.int .i64 a1, .int .i64 a2]] w fun en w' => en = .returned (.bool true) ∧ Below w.heap.size w w')
    (m2 : ∀ w, Calls Try.prog 9 #[.agg #[.int .i64 b1, .int .i64 b2]] w fun en w' => en = .returned (.bool false) ∧ Below w.heap.size w w') :
    Calls Try.prog 13 #[.agg #[.int .i64 a1, .int .i64 a2], .agg #[.int .i64 b1, .int .i64 b2]] w fun en w' => en = .returned (.tuple #[.int .i64 0, .int .i64 1]) ∧ Below w.heap.size w w' := by
  have M1 := Lib.hid m1; have M2 := Lib.hid m2
  clear m1 m2
  go_enter Try.func13, Try.ntmps13
  go_wp2_with fail
  refine (M1.out _).mono ?_
  rintro e w1 ⟨rfl, hb⟩
  have HMw1 := Lib.hid ((((Mem.start w).new w.heap.size _ _ rfl).new (w.heap.size + 1) _ _ (by simp)).call hb)
  clear hb
  have lb : (w.heap.size + 1) < w1.heap.size := HMw1.out.lt 0 rfl
  have cb0 : w1.cell? ⟨(w.heap.size + 1), 0, none⟩ = some (.int .i64 b1) := HMw1.out.cell 0 rfl rfl
  have cb1 : w1.cell? ⟨(w.heap.size + 1), 1, none⟩ = some (.int .i64 b2) := HMw1.out.cell 0 rfl rfl
  go_wp2_with fail
  refine (M2.out _).mono ?_
  rintro e w2 ⟨rfl, hb⟩
  have HMw2 := Lib.hid (HMw1.out.call hb)
  clear hb lb cb0 cb1 HMw1
  go_wp2_with fail
  go_ret2
  exact ⟨rfl, HMw2.out.low⟩
set_option maxHeartbeats 2000000 in
theorem qcmp_core (a1 a2 b1 b2 : Int) (c1 c2 c3 c4 c5 c6 : Bool) (k1 l1 k2 l2 k3 l3 k4 l4 k5 l5 k6 l6 : Int) (o : Int) (w : World)
    (m1 : ∀ w, Calls Try.prog 9 #[.agg #[.int .i64 a1, .int .i64 a2]] w fun en w' => en = .returned (.bool true) ∧ Below w.heap.size w w')
    (m2 : ∀ w, Calls Try.prog 9 #[.agg #[.int .i64 b1, .int .i64 b2]] w fun en w' => en = .returned (.bool true) ∧ Below w.heap.size w w')
    (m3 : ∀ w, Calls Try.prog 23 #[.int .i64 a1, .int .i64 a2] w fun en w' => en = .returned (.agg #[.bool c1, .int .u64 k1, .int .u64 l1, .bool c2, .int .u64 k2, .int .u64 l2]) ∧ Below w.heap.size w w')
    (m4 : ∀ w, Calls Try.prog 23 #[.int .i64 b1, .int .i64 b2] w fun en w' => en = .returned (.agg #[.bool c3, .int .u64 k3, .int .u64 l3, .bool c4, .int .u64 k4, .int .u64 l4]) ∧ Below w.heap.size w w')
    (m5 : ∀ w, Calls Try.prog 31 #[.agg #[.bool c1, .int .u64 k1, .int .u64 l1], .agg #[.bool c4, .int .u64 k4, .int .u64 l4]] w fun en w' => en = .returned (.agg #[.bool c5, .int .u64 k5, .int .u64 l5]) ∧ Below w.heap.size w w')
    (m6 : ∀ w, Calls Try.prog 31 #[.agg #[.bool c3, .int .u64 k3, .int .u64 l3], .agg #[.bool c2, .int .u64 k2, .int .u64 l2]] w fun en w' => en = .returned (.agg #[.bool c6, .int .u64 k6, .int .u64 l6]) ∧ Below w.heap.size w w')
    (m7 : ∀ w, Calls Try.prog 32 #[.agg #[.bool c5, .int .u64 k5, .int .u64 l5], .agg #[.bool c6, .int .u64 k6, .int .u64 l6]] w fun en w' => en = .returned (.int .i64 o) ∧ Below w.heap.size w w') :
    Calls Try.prog 13 #[.agg #[.int .i64 a1, .int .i64 a2], .agg #[.int .i64 b1, .int .i64 b2]] w fun en w' => en = .returned (.tuple #[.int .i64 o, .int .i64 0]) ∧ Below w.heap.size w w' := by
  have M1 := Lib.hid m1; have M2 := Lib.hid m2; have M3 := Lib.hid m3; have M4 := Lib.hid m4; have M5 := Lib.hid m5; have M6 := Lib.hid m6; have M7 := Lib.hid m7
  clear m1 m2 m3 m4 m5 m6 m7
  go_enter Try.func13, Try.ntmps13
  go_wp2_with fail
  refine (M1.out _).mono ?_
  rintro e w1 ⟨rfl, hb⟩
  have HMw1 := Lib.hid ((((Mem.start w).new w.heap.size _ _ rfl).new (w.heap.size + 1) _ _ (by simp)).call hb)
  clear hb
  have lb : (w.heap.size + 1) < w1.heap.size := HMw1.out.lt 0 rfl
  have cb0 : w1.cell? ⟨(w.heap.size + 1), 0, none⟩ = some (.int .i64 b1) := HMw1.out.cell 0 rfl rfl
  have cb1 : w1.cell? ⟨(w.heap.size + 1), 1, none⟩ = some (.int .i64 b2) := HMw1.out.cell 0 rfl rfl
  go_wp2_with fail
  refine (M2.out _).mono ?_
  rintro e w2 ⟨rfl, hb⟩
  have HMw2 := Lib.hid (HMw1.out.call hb)
  clear hb lb cb0 cb1 HMw1
  go_upto_region 3 with fail
  have hm : Mem w w2 [((w.heap.size + 1), #[.int .i64 b1, .int .i64 b2]), (w.heap.size, #[.int .i64 a1, .int .i64 a2])] := HMw2.out
  clear HMw2
  have mk : ∀ w', Mem w w' [((w.heap.size + 1), #[.int .i64 b1, .int .i64 b2]), (w.heap.size, #[.int .i64 a1, .int .i64 a2])] → (fun w' => w'.cell? ⟨w.heap.size, 0, none⟩ = some (.int .i64 a1) ∧ w'.cell? ⟨w.heap.size, 1, none⟩ = some (.int .i64 a2) ∧ w'.cell? ⟨(w.heap.size + 1), 0, none⟩ = some (.int .i64 b1) ∧ w'.cell? ⟨(w.heap.size + 1), 1, none⟩ = some (.int .i64 b2) ∧ Hid (Mem w w' [((w.heap.size + 1), #[.int .i64 b1, .int .i64 b2]), (w.heap.size, #[.int .i64 a1, .int .i64 a2])])) w' := fun w' h => ⟨h.cell 1 rfl rfl, h.cell 1 rfl rfl, h.cell 0 rfl rfl, h.cell 0 rfl rfl, Lib.hid h⟩
  have hok : OwnOk (fun w' => w'.cell? ⟨w.heap.size, 0, none⟩ = some (.int .i64 a1) ∧ w'.cell? ⟨w.heap.size, 1, none⟩ = some (.int .i64 a2) ∧ w'.cell? ⟨(w.heap.size + 1), 0, none⟩ = some (.int .i64 b1) ∧ w'.cell? ⟨(w.heap.size + 1), 1, none⟩ = some (.int .i64 b2) ∧ Hid (Mem w w' [((w.heap.size + 1), #[.int .i64 b1, .int .i64 b2]), (w.heap.size, #[.int .i64 a1, .int .i64 a2])])) w2.heap.size [⟨10, 12, fun w b => Blk w b #[.bool false, .int .u64 0, .int .u64 0, .bool false, .int .u64 0, .int .u64 0], fun w b => Blk w b #[.bool c1, .int .u64 k1, .int .u64 l1, .bool c2, .int .u64 k2, .int .u64 l2]⟩, ⟨11, 13, fun w b => Blk w b #[.bool false, .int .u64 0, .int .u64 0, .bool false, .int .u64 0, .int .u64 0], fun w b => Blk w b #[.bool c3, .int .u64 k3, .int .u64 l3, .bool c4, .int .u64 k4, .int .u64 l4]⟩] := own2_ok (fun v1 v2 h hb => mk _ (h.2.2.2.2.out.step hb hm.lts hm.low.size)) ⟨Blk.local _, Blk.local _⟩ ⟨Blk.local _, Blk.local _⟩ (by simp) (by simp) (by simp)
  have hfit : ∀ i, (∀ e ∈ ([⟨10, 12, fun w b => Blk w b #[.bool false, .int .u64 0, .int .u64 0, .bool false, .int .u64 0, .int .u64 0], fun w b => Blk w b #[.bool c1, .int .u64 k1, .int .u64 l1, .bool c2, .int .u64 k2, .int .u64 l2]⟩, ⟨11, 13, fun w b => Blk w b #[.bool false, .int .u64 0, .int .u64 0, .bool false, .int .u64 0, .int .u64 0], fun w b => Blk w b #[.bool c3, .int .u64 k3, .int .u64 l3, .bool c4, .int .u64 k4, .int .u64 l4]⟩] : List Ent), e.x ≠ i ∧ e.s ≠ i) → Fit (fun w' => w'.cell? ⟨w.heap.size, 0, none⟩ = some (.int .i64 a1) ∧ w'.cell? ⟨w.heap.size, 1, none⟩ = some (.int .i64 a2) ∧ w'.cell? ⟨(w.heap.size + 1), 0, none⟩ = some (.int .i64 b1) ∧ w'.cell? ⟨(w.heap.size + 1), 1, none⟩ = some (.int .i64 b2) ∧ Hid (Mem w w' [((w.heap.size + 1), #[.int .i64 b1, .int .i64 b2]), (w.heap.size, #[.int .i64 a1, .int .i64 a2])])) (Sof (fun w' => w'.cell? ⟨w.heap.size, 0, none⟩ = some (.int .i64 a1) ∧ w'.cell? ⟨w.heap.size, 1, none⟩ = some (.int .i64 a2) ∧ w'.cell? ⟨(w.heap.size + 1), 0, none⟩ = some (.int .i64 b1) ∧ w'.cell? ⟨(w.heap.size + 1), 1, none⟩ = some (.int .i64 b2) ∧ Hid (Mem w w' [((w.heap.size + 1), #[.int .i64 b1, .int .i64 b2]), (w.heap.size, #[.int .i64 a1, .int .i64 a2])])) w2.heap.size [⟨10, 12, fun w b => Blk w b #[.bool false, .int .u64 0, .int .u64 0, .bool false, .int .u64 0, .int .u64 0], fun w b => Blk w b #[.bool c1, .int .u64 k1, .int .u64 l1, .bool c2, .int .u64 k2, .int .u64 l2]⟩, ⟨11, 13, fun w b => Blk w b #[.bool false, .int .u64 0, .int .u64 0, .bool false, .int .u64 0, .int .u64 0], fun w b => Blk w b #[.bool c3, .int .u64 k3, .int .u64 l3, .bool c4, .int .u64 k4, .int .u64 l4]⟩]) i := fun i hi => sof_fit hok.st hok.loc hi
  have HOK := Lib.hid hok; have HF := Lib.hid hfit; clear hok hfit
  refine wp_region_ab (S0 := (fun w' => w'.cell? ⟨w.heap.size, 0, none⟩ = some (.int .i64 a1) ∧ w'.cell? ⟨w.heap.size, 1, none⟩ = some (.int .i64 a2) ∧ w'.cell? ⟨(w.heap.size + 1), 0, none⟩ = some (.int .i64 b1) ∧ w'.cell? ⟨(w.heap.size + 1), 1, none⟩ = some (.int .i64 b2) ∧ Hid (Mem w w' [((w.heap.size + 1), #[.int .i64 b1, .int .i64 b2]), (w.heap.size, #[.int .i64 a1, .int .i64 a2])]))) w2.heap.size [⟨10, 12, fun w b => Blk w b #[.bool false, .int .u64 0, .int .u64 0, .bool false, .int .u64 0, .int .u64 0], fun w b => Blk w b #[.bool c1, .int .u64 k1, .int .u64 l1, .bool c2, .int .u64 k2, .int .u64 l2]⟩, ⟨11, 13, fun w b => Blk w b #[.bool false, .int .u64 0, .int .u64 0, .bool false, .int .u64 0, .int .u64 0], fun w b => Blk w b #[.bool c3, .int .u64 k3, .int .u64 l3, .bool c4, .int .u64 k4, .int .u64 l4]⟩] (by kernel_rfl) (mk _ hm.drew) (Nat.le_refl _) (by simp) ?_
  have hlts := hm.lts; have hlow := hm.low.size
  have ltb : (w.heap.size + 1) < w2.heap.size := hm.lt 0 rfl
  have lta : w.heap.size < w2.heap.size := hm.lt 1 rfl
  have HMK := Lib.hid mk
  clear hm mk
  refine abTake 0 (some 16) (v := ?_) rfl rfl (by kernel_rfl) (by kernel_rfl) (by kernel_rfl) (fun _ _ _ h => h) (HF.out _ (by simp)) (by rfl) ?_ ?_
  rotate_left 1
  · (intro w hSw; (try dsimp only at hSw); go_simp; try with_reducible rfl)
  simp only [Act.put, List.setIfInBounds_toArray, List.set_cons_zero, List.set_cons_succ]
  refine abTake 1 (some 17) (v := ?_) rfl rfl (by kernel_rfl) (by kernel_rfl) (by kernel_rfl) (fun _ _ _ h => h) (HF.out _ (by simp)) (by rfl) ?_ ?_
  rotate_left 1
  · (intro w hSw; (try dsimp only at hSw); go_simp; try with_reducible rfl)
  simp only [Act.put, List.setIfInBounds_toArray, List.set_cons_zero, List.set_cons_succ]
  refine abTake 2 (some 18) (v := ?_) rfl rfl (by kernel_rfl) (by kernel_rfl) (by kernel_rfl) (fun _ _ _ h => h) (HF.out _ (by simp)) (by rfl) ?_ ?_
  rotate_left 1
  · (intro w hSw; (try dsimp only at hSw); go_simp; try with_reducible rfl)
  simp only [Act.put, List.setIfInBounds_toArray, List.set_cons_zero, List.set_cons_succ]
  refine abTake 3 (some 19) (v := ?_) rfl rfl (by kernel_rfl) (by kernel_rfl) (by kernel_rfl) (fun _ _ _ h => h) (HF.out _ (by simp)) (by rfl) ?_ ?_
  rotate_left 1
  · (intro w hSw; (try dsimp only at hSw); go_simp; try with_reducible rfl)
  simp only [Act.put, List.setIfInBounds_toArray, List.set_cons_zero, List.set_cons_succ]
  refine abCall 4 (some 20) rfl rfl (by kernel_rfl) (by kernel_rfl) (by kernel_rfl) (fun _ _ _ h => h) (HF.out _ (by simp)) (by rfl) ?_ (fun w hSw => M3.out _) ?_
  · (intro w hSw; (try dsimp only at hSw); go_simp; try with_reducible rfl)
  simp only [Act.put, List.setIfInBounds_toArray, List.set_cons_zero, List.set_cons_succ]
  refine abTake 5 (some 21) (v := ?_) rfl rfl (by kernel_rfl) (by kernel_rfl) (by kernel_rfl) (fun _ _ _ h => h) (HF.out _ (by simp)) (by rfl) ?_ ?_
  rotate_left 1
  · (intro w hSw; (try dsimp only at hSw); go_simp; try with_reducible rfl)
  simp only [Act.put, List.setIfInBounds_toArray, List.set_cons_zero, List.set_cons_succ]
  refine abTake 6 (some 22) (v := ?_) rfl rfl (by kernel_rfl) (by kernel_rfl) (by kernel_rfl) (fun _ _ _ h => h) (HF.out _ (by simp)) (by rfl) ?_ ?_
  rotate_left 1
  · (intro w hSw; (try dsimp only at hSw); go_simp; try with_reducible rfl)
  simp only [Act.put, List.setIfInBounds_toArray, List.set_cons_zero, List.set_cons_succ]
  refine abTake 7 (some 23) (v := ?_) rfl rfl (by kernel_rfl) (by kernel_rfl) (by kernel_rfl) (fun _ _ _ h => h) (HF.out _ (by simp)) (by rfl) ?_ ?_
  rotate_left 1
  · (intro w hSw; (try dsimp only at hSw); go_simp; try with_reducible rfl)
  simp only [Act.put, List.setIfInBounds_toArray, List.set_cons_zero, List.set_cons_succ]
  refine abTake 8 (some 24) (v := ?_) rfl rfl (by kernel_rfl) (by kernel_rfl) (by kernel_rfl) (fun _ _ _ h => h) (HF.out _ (by simp)) (by rfl) ?_ ?_
  rotate_left 1
  · (intro w hSw; (try dsimp only at hSw); go_simp; try with_reducible rfl)
  simp only [Act.put, List.setIfInBounds_toArray, List.set_cons_zero, List.set_cons_succ]
  refine abCall 9 (some 25) rfl rfl (by kernel_rfl) (by kernel_rfl) (by kernel_rfl) (fun _ _ _ h => h) (HF.out _ (by simp)) (by rfl) ?_ (fun w hSw => M4.out _) ?_
  · (intro w hSw; (try dsimp only at hSw); go_simp; try with_reducible rfl)
  simp only [Act.put, List.setIfInBounds_toArray, List.set_cons_zero, List.set_cons_succ]
  refine abMake2 10 11 6 7 HOK.out _ _ (List.mem_cons_self) (List.mem_cons_of_mem _ (List.mem_cons_self)) rfl rfl rfl rfl rfl rfl (by kernel_rfl) (by kernel_rfl) (by kernel_rfl) (by kernel_rfl) (by decide) (by simp) (by kernel_rfl) (by kernel_rfl) (by kernel_rfl) (by kernel_rfl) (by kernel_rfl) (by kernel_rfl) ⟨by rfl, .cells #[.bool false, .int .u64 0, .int .u64 0, .bool false, .int .u64 0, .int .u64 0] 52, fun w hSw => ⟨(by (try dsimp only at hSw); go_simp; try with_reducible rfl), Blk.newAt rfl⟩⟩ ⟨by rfl, .cells #[.bool false, .int .u64 0, .int .u64 0, .bool false, .int .u64 0, .int .u64 0] 52, fun w hSw => ⟨(by (try dsimp only at hSw); go_simp; try with_reducible rfl), Blk.newAt rfl⟩⟩ (fun b6 b7 hb6 hb7 nb6 => ?_)
  simp only [Act.put, List.setIfInBounds_toArray, List.set_cons_zero, List.set_cons_succ]
  refine abStore 12 HOK.out _ (List.mem_cons_self) rfl rfl rfl (by kernel_rfl) (by kernel_rfl) (by kernel_rfl) (by kernel_rfl) (by rfl) ?_ ?_
  · rintro w b hSw hg hB hp
    obtain rfl : b = b6 := hg
    replace hp : Blk w b #[.bool false, .int .u64 0, .int .u64 0, .bool false, .int .u64 0, .int .u64 0] := hp
    have x0 : w.cell? ⟨b, 0, none⟩ = some (.bool false) := hp.cell rfl
    have x1 : w.cell? ⟨b, 1, none⟩ = some (.int .u64 0) := hp.cell rfl
    have x2 : w.cell? ⟨b, 2, none⟩ = some (.int .u64 0) := hp.cell rfl
    have x3 : w.cell? ⟨b, 3, none⟩ = some (.bool false) := hp.cell rfl
    have x4 : w.cell? ⟨b, 4, none⟩ = some (.int .u64 0) := hp.cell rfl
    have x5 : w.cell? ⟨b, 5, none⟩ = some (.int .u64 0) := hp.cell rfl
    have y0 := hp.free 0
    have y1 := hp.free 1
    have y2 := hp.free 2
    have y3 := hp.free 3
    have y4 := hp.free 4
    have y5 := hp.free 5
    refine ⟨((((((w.setCell ⟨b, 0, none⟩ (.bool c1)).setCell ⟨b, 1, none⟩ (.int .u64 k1)).setCell ⟨b, 2, none⟩ (.int .u64 l1)).setCell ⟨b, 3, none⟩ (.bool c2)).setCell ⟨b, 4, none⟩ (.int .u64 k2)).setCell ⟨b, 5, none⟩ (.int .u64 l2)), ?_, ((((((hp.set 0 (.bool c1)).set 1 (.int .u64 k1)).set 2 (.int .u64 l1)).set 3 (.bool c2)).set 4 (.int .u64 k2)).set 5 (.int .u64 l2)), (((((((Below.refl _ _).setCell (p := ⟨b, 0, none⟩) hB _).setCell (p := ⟨b, 1, none⟩) hB _).setCell (p := ⟨b, 2, none⟩) hB _).setCell (p := ⟨b, 3, none⟩) hB _).setCell (p := ⟨b, 4, none⟩) hB _).setCell (p := ⟨b, 5, none⟩) hB _), fun k hk => ?_⟩
    · (try dsimp only at hSw); go_simp; try with_reducible rfl
    · exact (Below.heap_setCell _ _ _ _ hk).trans ((Below.heap_setCell _ _ _ _ hk).trans ((Below.heap_setCell _ _ _ _ hk).trans ((Below.heap_setCell _ _ _ _ hk).trans ((Below.heap_setCell _ _ _ _ hk).trans ((Below.heap_setCell _ _ _ _ hk))))))
  refine abStore 13 HOK.out _ (List.mem_cons_of_mem _ (List.mem_cons_self)) rfl rfl rfl (by kernel_rfl) (by kernel_rfl) (by kernel_rfl) (by kernel_rfl) (by rfl) ?_ ?_
  · rintro w b hSw hg hB hp
    obtain rfl : b = b7 := hg
    replace hp : Blk w b #[.bool false, .int .u64 0, .int .u64 0, .bool false, .int .u64 0, .int .u64 0] := hp
    have x0 : w.cell? ⟨b, 0, none⟩ = some (.bool false) := hp.cell rfl
    have x1 : w.cell? ⟨b, 1, none⟩ = some (.int .u64 0) := hp.cell rfl
    have x2 : w.cell? ⟨b, 2, none⟩ = some (.int .u64 0) := hp.cell rfl
    have x3 : w.cell? ⟨b, 3, none⟩ = some (.bool false) := hp.cell rfl
    have x4 : w.cell? ⟨b, 4, none⟩ = some (.int .u64 0) := hp.cell rfl
    have x5 : w.cell? ⟨b, 5, none⟩ = some (.int .u64 0) := hp.cell rfl
    have y0 := hp.free 0
    have y1 := hp.free 1
    have y2 := hp.free 2
    have y3 := hp.free 3
    have y4 := hp.free 4
    have y5 := hp.free 5
    refine ⟨((((((w.setCell ⟨b, 0, none⟩ (.bool c3)).setCell ⟨b, 1, none⟩ (.int .u64 k3)).setCell ⟨b, 2, none⟩ (.int .u64 l3)).setCell ⟨b, 3, none⟩ (.bool c4)).setCell ⟨b, 4, none⟩ (.int .u64 k4)).setCell ⟨b, 5, none⟩ (.int .u64 l4)), ?_, ((((((hp.set 0 (.bool c3)).set 1 (.int .u64 k3)).set 2 (.int .u64 l3)).set 3 (.bool c4)).set 4 (.int .u64 k4)).set 5 (.int .u64 l4)), (((((((Below.refl _ _).setCell (p := ⟨b, 0, none⟩) hB _).setCell (p := ⟨b, 1, none⟩) hB _).setCell (p := ⟨b, 2, none⟩) hB _).setCell (p := ⟨b, 3, none⟩) hB _).setCell (p := ⟨b, 4, none⟩) hB _).setCell (p := ⟨b, 5, none⟩) hB _), fun k hk => ?_⟩
    · (try dsimp only at hSw); go_simp; try with_reducible rfl
    · exact (Below.heap_setCell _ _ _ _ hk).trans ((Below.heap_setCell _ _ _ _ hk).trans ((Below.heap_setCell _ _ _ _ hk).trans ((Below.heap_setCell _ _ _ _ hk).trans ((Below.heap_setCell _ _ _ _ hk).trans ((Below.heap_setCell _ _ _ _ hk))))))
  refine abDone (by kernel_rfl) ?_ _
  rintro w3 hS
  have kx := sof_post hS _ (List.mem_cons_self) (by kernel_rfl) (by kernel_rfl) (b := b6) rfl
  have ky := sof_post hS _ (List.mem_cons_of_mem _ (List.mem_cons_self)) (by kernel_rfl) (by kernel_rfl) (b := b7) rfl
  have HMw3 := Lib.hid ((hS.1.2.2.2.2.out).join2 kx.2.2 kx.1 ky.2.2 ky.1 nb6 hlts hlow)
  clear hS HOK HF HMK hlts hlow ltb lta kx ky hb6 hb7
  go_upto_region 4 with fail
  have hm : Mem w w3 [(b7, #[.bool c3, .int .u64 k3, .int .u64 l3, .bool c4, .int .u64 k4, .int .u64 l4]), (b6, #[.bool c1, .int .u64 k1, .int .u64 l1, .bool c2, .int .u64 k2, .int .u64 l2]), ((w.heap.size + 1), #[.int .i64 b1, .int .i64 b2]), (w.heap.size, #[.int .i64 a1, .int .i64 a2])] := HMw3.out
  clear HMw3
  have mk : ∀ w', Mem w w' [(b7, #[.bool c3, .int .u64 k3, .int .u64 l3, .bool c4, .int .u64 k4, .int .u64 l4]), (b6, #[.bool c1, .int .u64 k1, .int .u64 l1, .bool c2, .int .u64 k2, .int .u64 l2]), ((w.heap.size + 1), #[.int .i64 b1, .int .i64 b2]), (w.heap.size, #[.int .i64 a1, .int .i64 a2])] → (fun w' => w'.cell? ⟨b6, 0, none⟩ = some (.bool c1) ∧ w'.cell? ⟨b6, 1, none⟩ = some (.int .u64 k1) ∧ w'.cell? ⟨b6, 2, none⟩ = some (.int .u64 l1) ∧ w'.cell? ⟨b6, 3, none⟩ = some (.bool c2) ∧ w'.cell? ⟨b6, 4, none⟩ = some (.int .u64 k2) ∧ w'.cell? ⟨b6, 5, none⟩ = some (.int .u64 l2) ∧ w'.cell? ⟨b7, 0, none⟩ = some (.bool c3) ∧ w'.cell? ⟨b7, 1, none⟩ = some (.int .u64 k3) ∧ w'.cell? ⟨b7, 2, none⟩ = some (.int .u64 l3) ∧ w'.cell? ⟨b7, 3, none⟩ = some (.bool c4) ∧ w'.cell? ⟨b7, 4, none⟩ = some (.int .u64 k4) ∧ w'.cell? ⟨b7, 5, none⟩ = some (.int .u64 l4) ∧ Hid (Mem w w' [(b7, #[.bool c3, .int .u64 k3, .int .u64 l3, .bool c4, .int .u64 k4, .int .u64 l4]), (b6, #[.bool c1, .int .u64 k1, .int .u64 l1, .bool c2, .int .u64 k2, .int .u64 l2]), ((w.heap.size + 1), #[.int .i64 b1, .int .i64 b2]), (w.heap.size, #[.int .i64 a1, .int .i64 a2])])) w' := fun w' h => ⟨h.cell 1 rfl rfl, h.cell 1 rfl rfl, h.cell 1 rfl rfl, h.cell 1 rfl rfl, h.cell 1 rfl rfl, h.cell 1 rfl rfl, h.cell 0 rfl rfl, h.cell 0 rfl rfl, h.cell 0 rfl rfl, h.cell 0 rfl rfl, h.cell 0 rfl rfl, h.cell 0 rfl rfl, Lib.hid h⟩
  have hok : OwnOk (fun w' => w'.cell? ⟨b6, 0, none⟩ = some (.bool c1) ∧ w'.cell? ⟨b6, 1, none⟩ = some (.int .u64 k1) ∧ w'.cell? ⟨b6, 2, none⟩ = some (.int .u64 l1) ∧ w'.cell? ⟨b6, 3, none⟩ = some (.bool c2) ∧ w'.cell? ⟨b6, 4, none⟩ = some (.int .u64 k2) ∧ w'.cell? ⟨b6, 5, none⟩ = some (.int .u64 l2) ∧ w'.cell? ⟨b7, 0, none⟩ = some (.bool c3) ∧ w'.cell? ⟨b7, 1, none⟩ = some (.int .u64 k3) ∧ w'.cell? ⟨b7, 2, none⟩ = some (.int .u64 l3) ∧ w'.cell? ⟨b7, 3, none⟩ = some (.bool c4) ∧ w'.cell? ⟨b7, 4, none⟩ = some (.int .u64 k4) ∧ w'.cell? ⟨b7, 5, none⟩ = some (.int .u64 l4) ∧ Hid (Mem w w' [(b7, #[.bool c3, .int .u64 k3, .int .u64 l3, .bool c4, .int .u64 k4, .int .u64 l4]), (b6, #[.bool c1, .int .u64 k1, .int .u64 l1, .bool c2, .int .u64 k2, .int .u64 l2]), ((w.heap.size + 1), #[.int .i64 b1, .int .i64 b2]), (w.heap.size, #[.int .i64 a1, .int .i64 a2])])) w3.heap.size [] := own0_ok (fun v1 v2 h hb => mk _ (h.2.2.2.2.2.2.2.2.2.2.2.2.out.step hb hm.lts hm.low.size))
  have hfit : ∀ i, (∀ e ∈ ([] : List Ent), e.x ≠ i ∧ e.s ≠ i) → Fit (fun w' => w'.cell? ⟨b6, 0, none⟩ = some (.bool c1) ∧ w'.cell? ⟨b6, 1, none⟩ = some (.int .u64 k1) ∧ w'.cell? ⟨b6, 2, none⟩ = some (.int .u64 l1) ∧ w'.cell? ⟨b6, 3, none⟩ = some (.bool c2) ∧ w'.cell? ⟨b6, 4, none⟩ = some (.int .u64 k2) ∧ w'.cell? ⟨b6, 5, none⟩ = some (.int .u64 l2) ∧ w'.cell? ⟨b7, 0, none⟩ = some (.bool c3) ∧ w'.cell? ⟨b7, 1, none⟩ = some (.int .u64 k3) ∧ w'.cell? ⟨b7, 2, none⟩ = some (.int .u64 l3) ∧ w'.cell? ⟨b7, 3, none⟩ = some (.bool c4) ∧ w'.cell? ⟨b7, 4, none⟩ = some (.int .u64 k4) ∧ w'.cell? ⟨b7, 5, none⟩ = some (.int .u64 l4) ∧ Hid (Mem w w' [(b7, #[.bool c3, .int .u64 k3, .int .u64 l3, .bool c4, .int .u64 k4, .int .u64 l4]), (b6, #[.bool c1, .int .u64 k1, .int .u64 l1, .bool c2, .int .u64 k2, .int .u64 l2]), ((w.heap.size + 1), #[.int .i64 b1, .int .i64 b2]), (w.heap.size, #[.int .i64 a1, .int .i64 a2])])) (Sof (fun w' => w'.cell? ⟨b6, 0, none⟩ = some (.bool c1) ∧ w'.cell? ⟨b6, 1, none⟩ = some (.int .u64 k1) ∧ w'.cell? ⟨b6, 2, none⟩ = some (.int .u64 l1) ∧ w'.cell? ⟨b6, 3, none⟩ = some (.bool c2) ∧ w'.cell? ⟨b6, 4, none⟩ = some (.int .u64 k2) ∧ w'.cell? ⟨b6, 5, none⟩ = some (.int .u64 l2) ∧ w'.cell? ⟨b7, 0, none⟩ = some (.bool c3) ∧ w'.cell? ⟨b7, 1, none⟩ = some (.int .u64 k3) ∧ w'.cell? ⟨b7, 2, none⟩ = some (.int .u64 l3) ∧ w'.cell? ⟨b7, 3, none⟩ = some (.bool c4) ∧ w'.cell? ⟨b7, 4, none⟩ = some (.int .u64 k4) ∧ w'.cell? ⟨b7, 5, none⟩ = some (.int .u64 l4) ∧ Hid (Mem w w' [(b7, #[.bool c3, .int .u64 k3, .int .u64 l3, .bool c4, .int .u64 k4, .int .u64 l4]), (b6, #[.bool c1, .int .u64 k1, .int .u64 l1, .bool c2, .int .u64 k2, .int .u64 l2]), ((w.heap.size + 1), #[.int .i64 b1, .int .i64 b2]), (w.heap.size, #[.int .i64 a1, .int .i64 a2])])) w3.heap.size []) i := fun i hi => sof_fit hok.st hok.loc hi
  have HOK := Lib.hid hok; have HF := Lib.hid hfit; clear hok hfit
  refine wp_region_ab (S0 := (fun w' => w'.cell? ⟨b6, 0, none⟩ = some (.bool c1) ∧ w'.cell? ⟨b6, 1, none⟩ = some (.int .u64 k1) ∧ w'.cell? ⟨b6, 2, none⟩ = some (.int .u64 l1) ∧ w'.cell? ⟨b6, 3, none⟩ = some (.bool c2) ∧ w'.cell? ⟨b6, 4, none⟩ = some (.int .u64 k2) ∧ w'.cell? ⟨b6, 5, none⟩ = some (.int .u64 l2) ∧ w'.cell? ⟨b7, 0, none⟩ = some (.bool c3) ∧ w'.cell? ⟨b7, 1, none⟩ = some (.int .u64 k3) ∧ w'.cell? ⟨b7, 2, none⟩ = some (.int .u64 l3) ∧ w'.cell? ⟨b7, 3, none⟩ = some (.bool c4) ∧ w'.cell? ⟨b7, 4, none⟩ = some (.int .u64 k4) ∧ w'.cell? ⟨b7, 5, none⟩ = some (.int .u64 l4) ∧ Hid (Mem w w' [(b7, #[.bool c3, .int .u64 k3, .int .u64 l3, .bool c4, .int .u64 k4, .int .u64 l4]), (b6, #[.bool c1, .int .u64 k1, .int .u64 l1, .bool c2, .int .u64 k2, .int .u64 l2]), ((w.heap.size + 1), #[.int .i64 b1, .int .i64 b2]), (w.heap.size, #[.int .i64 a1, .int .i64 a2])]))) w3.heap.size [] (by kernel_rfl) (mk _ hm.drew) (Nat.le_refl _) (by simp) ?_
  have HMK := Lib.hid mk
  clear hm mk
  refine abTake 0 (some 26) (v := ?_) rfl rfl (by kernel_rfl) (by kernel_rfl) (by kernel_rfl) (fun _ _ _ h => h) (HF.out _ (by simp)) (by rfl) ?_ ?_
  rotate_left 1
  · (intro w hSw; (try dsimp only at hSw); go_simp; try with_reducible rfl)
  simp only [Act.put, List.setIfInBounds_toArray, List.set_cons_zero, List.set_cons_succ]
  refine abTake 1 (some 27) (v := ?_) rfl rfl (by kernel_rfl) (by kernel_rfl) (by kernel_rfl) (fun _ _ _ h => h) (HF.out _ (by simp)) (by rfl) ?_ ?_
  rotate_left 1
  · (intro w hSw; (try dsimp only at hSw); go_simp; try with_reducible rfl)
  simp only [Act.put, List.setIfInBounds_toArray, List.set_cons_zero, List.set_cons_succ]
  refine abTake 2 (some 28) (v := ?_) rfl rfl (by kernel_rfl) (by kernel_rfl) (by kernel_rfl) (fun _ _ _ h => h) (HF.out _ (by simp)) (by rfl) ?_ ?_
  rotate_left 1
  · (intro w hSw; (try dsimp only at hSw); go_simp; try with_reducible rfl)
  simp only [Act.put, List.setIfInBounds_toArray, List.set_cons_zero, List.set_cons_succ]
  refine abTake 3 (some 29) (v := ?_) rfl rfl (by kernel_rfl) (by kernel_rfl) (by kernel_rfl) (fun _ _ _ h => h) (HF.out _ (by simp)) (by rfl) ?_ ?_
  rotate_left 1
  · (intro w hSw; (try dsimp only at hSw); go_simp; try with_reducible rfl)
  simp only [Act.put, List.setIfInBounds_toArray, List.set_cons_zero, List.set_cons_succ]
  refine abCall 4 (some 30) rfl rfl (by kernel_rfl) (by kernel_rfl) (by kernel_rfl) (fun _ _ _ h => h) (HF.out _ (by simp)) (by rfl) ?_ (fun w hSw => M5.out _) ?_
  · (intro w hSw; (try dsimp only at hSw); go_simp; try with_reducible rfl)
  simp only [Act.put, List.setIfInBounds_toArray, List.set_cons_zero, List.set_cons_succ]
  refine abTake 5 (some 31) (v := ?_) rfl rfl (by kernel_rfl) (by kernel_rfl) (by kernel_rfl) (fun _ _ _ h => h) (HF.out _ (by simp)) (by rfl) ?_ ?_
  rotate_left 1
  · (intro w hSw; (try dsimp only at hSw); go_simp; try with_reducible rfl)
  simp only [Act.put, List.setIfInBounds_toArray, List.set_cons_zero, List.set_cons_succ]
  refine abTake 6 (some 32) (v := ?_) rfl rfl (by kernel_rfl) (by kernel_rfl) (by kernel_rfl) (fun _ _ _ h => h) (HF.out _ (by simp)) (by rfl) ?_ ?_
  rotate_left 1
  · (intro w hSw; (try dsimp only at hSw); go_simp; try with_reducible rfl)
  simp only [Act.put, List.setIfInBounds_toArray, List.set_cons_zero, List.set_cons_succ]
  refine abTake 7 (some 33) (v := ?_) rfl rfl (by kernel_rfl) (by kernel_rfl) (by kernel_rfl) (fun _ _ _ h => h) (HF.out _ (by simp)) (by rfl) ?_ ?_
  rotate_left 1
  · (intro w hSw; (try dsimp only at hSw); go_simp; try with_reducible rfl)
  simp only [Act.put, List.setIfInBounds_toArray, List.set_cons_zero, List.set_cons_succ]
  refine abTake 8 (some 34) (v := ?_) rfl rfl (by kernel_rfl) (by kernel_rfl) (by kernel_rfl) (fun _ _ _ h => h) (HF.out _ (by simp)) (by rfl) ?_ ?_
  rotate_left 1
  · (intro w hSw; (try dsimp only at hSw); go_simp; try with_reducible rfl)
  simp only [Act.put, List.setIfInBounds_toArray, List.set_cons_zero, List.set_cons_succ]
  refine abCall 9 (some 35) rfl rfl (by kernel_rfl) (by kernel_rfl) (by kernel_rfl) (fun _ _ _ h => h) (HF.out _ (by simp)) (by rfl) ?_ (fun w hSw => M6.out _) ?_
  · (intro w hSw; (try dsimp only at hSw); go_simp; try with_reducible rfl)
  simp only [Act.put, List.setIfInBounds_toArray, List.set_cons_zero, List.set_cons_succ]
  refine abCall 10 (some 36) rfl rfl (by kernel_rfl) (by kernel_rfl) (by kernel_rfl) (fun _ _ _ h => h) (HF.out _ (by simp)) (by rfl) ?_ (fun w hSw => M7.out _) ?_
  · (intro w hSw; (try dsimp only at hSw); go_simp; try with_reducible rfl)
  simp only [Act.put, List.setIfInBounds_toArray, List.set_cons_zero, List.set_cons_succ]
  refine abTake 11 (some 4) (v := ?_) rfl rfl (by kernel_rfl) (by kernel_rfl) (by kernel_rfl) (fun _ _ _ h => h) (HF.out _ (by simp)) (by rfl) ?_ ?_
  rotate_left 1
  · (intro w hSw; (try dsimp only at hSw); go_simp; try with_reducible rfl)
  simp only [Act.put, List.setIfInBounds_toArray, List.set_cons_zero, List.set_cons_succ]
  refine abTake 12 (some 5) (v := ?_) rfl rfl (by kernel_rfl) (by kernel_rfl) (by kernel_rfl) (fun _ _ _ h => h) (HF.out _ (by simp)) (by rfl) ?_ ?_
  rotate_left 1
  · (intro w hSw; (try dsimp only at hSw); go_simp; try with_reducible rfl)
  simp only [Act.put, List.setIfInBounds_toArray, List.set_cons_zero, List.set_cons_succ]
  refine abDone (by kernel_rfl) ?_ _
  rintro w4 hS
  have HMw4 := Lib.hid (hS.1.2.2.2.2.2.2.2.2.2.2.2.2.out)
  clear hS HOK HF HMK
  go_wp2_with fail
  go_ret2
  exact ⟨rfl, HMw4.out.low⟩
theorem qadd_arg1 (a1 a2 b1 b2 : Int) (w : World)
    (m1 : ∀ w, Calls Try.prog 9 #[.agg #[.int .i64 a1, .int .i64 a2]] w fun en w' => en = .returned (.bool false) ∧ Below w.heap.size w w') :
    Calls Try.prog 14 #[.agg #[.int .i64 a1, .int .i64 a2], .agg #[.int .i64 b1, .int .i64 b2]] w fun en w' => en = .returned (.tuple #[.agg #[.int .i64 0, .int .i64 0], .int .i64 1]) ∧ Below w.heap.size w w' := by
  have M1 := Lib.hid m1
  clear m1
  go_enter Try.func14, Try.ntmps14
  go_wp2_with fail
  refine (M1.out _).mono ?_
  rintro e w1 ⟨rfl, hb⟩
  have HMw1 := Lib.hid (((((Mem.start w).new w.heap.size _ _ rfl).new (w.heap.size + 1) _ _ (by simp)).new (w.heap.size + 1 + 1) _ _ (by simp)).call hb)
  clear hb
  have lr : (w.heap.size + 1 + 1) < w1.heap.size := HMw1.out.lt 0 rfl
  have cr0 : w1.cell? ⟨(w.heap.size + 1 + 1), 0, none⟩ = some (.int .i64 0) := HMw1.out.cell 0 rfl rfl
  have fr0 : w1.frozen? ⟨(w.heap.size + 1 + 1), 0, none⟩ = false := HMw1.out.free 0 rfl 0
  have cr1 : w1.cell? ⟨(w.heap.size + 1 + 1), 1, none⟩ = some (.int .i64 0) := HMw1.out.cell 0 rfl rfl
  have fr1 : w1.frozen? ⟨(w.heap.size + 1 + 1), 1, none⟩ = false := HMw1.out.free 0 rfl 1
  go_wp2_with fail
  exact bodyPost_ret (v := .tuple #[.agg #[.int .i64 0, .int .i64 0], .int .i64 1]) (by simp [results, Try.results14, go_sem, cr0, cr1]) rfl ⟨rfl, (((HMw1.out.set 0 0 (.int .i64 0) rfl).set 0 1 (.int .i64 0) rfl).to (l' := [((w.heap.size + 1 + 1), #[.int .i64 0, .int .i64 0]), ((w.heap.size + 1), #[.int .i64 b1, .int .i64 b2]), (w.heap.size, #[.int .i64 a1, .int .i64 a2])]) rfl).low⟩
theorem qadd_arg2 (a1 a2 b1 b2 : Int) (w : World)
    (m1 : ∀ w, Calls Try.prog 9 #[.agg #[.int .i64 a1, .int .i64 a2]] w fun en w' => en = .returned (.bool true) ∧ Below w.heap.size w w')
    (m2 : ∀ w, Calls Try.prog 9 #[.agg #[.int .i64 b1, .int .i64 b2]] w fun en w' => en = .returned (.bool false) ∧ Below w.heap.size w w') :
    Calls Try.prog 14 #[.agg #[.int .i64 a1, .int .i64 a2], .agg #[.int .i64 b1, .int .i64 b2]] w fun en w' => en = .returned (.tuple #[.agg #[.int .i64 0, .int .i64 0], .int .i64 1]) ∧ Below w.heap.size w w' := by
  have M1 := Lib.hid m1; have M2 := Lib.hid m2
  clear m1 m2
  go_enter Try.func14, Try.ntmps14
  go_wp2_with fail
  refine (M1.out _).mono ?_
  rintro e w1 ⟨rfl, hb⟩
  have HMw1 := Lib.hid (((((Mem.start w).new w.heap.size _ _ rfl).new (w.heap.size + 1) _ _ (by simp)).new (w.heap.size + 1 + 1) _ _ (by simp)).call hb)
  clear hb
  have lb : (w.heap.size + 1) < w1.heap.size := HMw1.out.lt 1 rfl
  have cb0 : w1.cell? ⟨(w.heap.size + 1), 0, none⟩ = some (.int .i64 b1) := HMw1.out.cell 1 rfl rfl
  have cb1 : w1.cell? ⟨(w.heap.size + 1), 1, none⟩ = some (.int .i64 b2) := HMw1.out.cell 1 rfl rfl
  go_wp2_with fail
  refine (M2.out _).mono ?_
  rintro e w2 ⟨rfl, hb⟩
  have HMw2 := Lib.hid (HMw1.out.call hb)
  clear hb lb cb0 cb1 HMw1
  have lr : (w.heap.size + 1 + 1) < w2.heap.size := HMw2.out.lt 0 rfl
  have cr0 : w2.cell? ⟨(w.heap.size + 1 + 1), 0, none⟩ = some (.int .i64 0) := HMw2.out.cell 0 rfl rfl
  have fr0 : w2.frozen? ⟨(w.heap.size + 1 + 1), 0, none⟩ = false := HMw2.out.free 0 rfl 0
  have cr1 : w2.cell? ⟨(w.heap.size + 1 + 1), 1, none⟩ = some (.int .i64 0) := HMw2.out.cell 0 rfl rfl
  have fr1 : w2.frozen? ⟨(w.heap.size + 1 + 1), 1, none⟩ = false := HMw2.out.free 0 rfl 1
  go_wp2_with fail
  exact bodyPost_ret (v := .tuple #[.agg #[.int .i64 0, .int .i64 0], .int .i64 1]) (by simp [results, Try.results14, go_sem, cr0, cr1]) rfl ⟨rfl, (((HMw2.out.set 0 0 (.int .i64 0) rfl).set 0 1 (.int .i64 0) rfl).to (l' := [((w.heap.size + 1 + 1), #[.int .i64 0, .int .i64 0]), ((w.heap.size + 1), #[.int .i64 b1, .int .i64 b2]), (w.heap.size, #[.int .i64 a1, .int .i64 a2])]) rfl).low⟩
set_option maxHeartbeats 2000000 in
theorem qadd_core (a1 a2 b1 b2 : Int) (c1 c2 c3 c4 c5 c6 c7 c8 : Bool) (k1 l1 k2 l2 k3 l3 k4 l4 k5 l5 k6 l6 k7 l7 k8 l8 : Int) (x y e : Int) (w : World)
    (m1 : ∀ w, Calls Try.prog 9 #[.agg #[.int .i64 a1, .int .i64 a2]] w fun en w' => en = .returned (.bool true) ∧ Below w.heap.size w w')
    (m2 : ∀ w, Calls Try.prog 9 #[.agg #[.int .i64 b1, .int .i64 b2]] w fun en w' => en = .returned (.bool true) ∧ Below w.heap.size w w')
    (m3 : ∀ w, Calls Try.prog 23 #[.int .i64 a1, .int .i64 a2] w fun en w' => en = .returned (.agg #[.bool c1, .int .u64 k1, .int .u64 l1, .bool c2, .int .u64 k2, .int .u64 l2]) ∧ Below w.heap.size w w')
    (m4 : ∀ w, Calls Try.prog 23 #[.int .i64 b1, .int .i64 b2] w fun en w' => en = .returned (.agg #[.bool c3, .int .u64 k3, .int .u64 l3, .bool c4, .int .u64 k4, .int .u64 l4]) ∧ Below w.heap.size w w')
    (m5 : ∀ w, Calls Try.prog 31 #[.agg #[.bool c1, .int .u64 k1, .int .u64 l1], .agg #[.bool c4, .int .u64 k4, .int .u64 l4]] w fun en w' => en = .returned (.agg #[.bool c5, .int .u64 k5, .int .u64 l5]) ∧ Below w.heap.size w w')
    (m6 : ∀ w, Calls Try.prog 31 #[.agg #[.bool c3, .int .u64 k3, .int .u64 l3], .agg #[.bool c2, .int .u64 k2, .int .u64 l2]] w fun en w' => en = .returned (.agg #[.bool c6, .int .u64 k6, .int .u64 l6]) ∧ Below w.heap.size w w')
    (m7 : ∀ w, Calls Try.prog 33 #[.agg #[.bool c5, .int .u64 k5, .int .u64 l5], .agg #[.bool c6, .int .u64 k6, .int .u64 l6]] w fun en w' => en = .returned (.agg #[.bool c7, .int .u64 k7, .int .u64 l7]) ∧ Below w.heap.size w w')
    (m8 : ∀ w, Calls Try.prog 31 #[.agg #[.bool c2, .int .u64 k2, .int .u64 l2], .agg #[.bool c4, .int .u64 k4, .int .u64 l4]] w fun en w' => en = .returned (.agg #[.bool c8, .int .u64 k8, .int .u64 l8]) ∧ Below w.heap.size w w')
    (m9 : ∀ w, Calls Try.prog 24 #[.agg #[.bool c7, .int .u64 k7, .int .u64 l7, .bool c8, .int .u64 k8, .int .u64 l8]] w fun en w' => en = .returned (.tuple #[.agg #[.int .i64 x, .int .i64 y], .int .i64 e]) ∧ Below w.heap.size w w') :
    Calls Try.prog 14 #[.agg #[.int .i64 a1, .int .i64 a2], .agg #[.int .i64 b1, .int .i64 b2]] w fun en w' => en = .returned (.tuple #[.agg #[.int .i64 x, .int .i64 y], .int .i64 e]) ∧ Below w.heap.size w w' := by
  have M1 := Lib.hid m1; have M2 := Lib.hid m2; have M3 := Lib.hid m3; have M4 := Lib.hid m4; have M5 := Lib.hid m5; have M6 := Lib.hid m6; have M7 := Lib.hid m7; have M8 := Lib.hid m8; have M9 := Lib.hid m9
  clear m1 m2 m3 m4 m5 m6 m7 m8 m9
  go_enter Try.func14, Try.ntmps14
  go_wp2_with fail
  refine (M1.out _).mono ?_
  rintro e w1 ⟨rfl, hb⟩
  have HMw1 := Lib.hid (((((Mem.start w).new w.heap.size _ _ rfl).new (w.heap.size + 1) _ _ (by simp)).new (w.heap.size + 1 + 1) _ _ (by simp)).call hb)
  clear hb
  have lb : (w.heap.size + 1) < w1.heap.size := HMw1.out.lt 1 rfl
  have cb0 : w1.cell? ⟨(w.heap.size + 1), 0, none⟩ = some (.int .i64 b1) := HMw1.out.cell 1 rfl rfl
  have cb1 : w1.cell? ⟨(w.heap.size + 1), 1, none⟩ = some (.int .i64 b2) := HMw1.out.cell 1 rfl rfl
  go_wp2_with fail
  refine (M2.out _).mono ?_
  rintro e w2 ⟨rfl, hb⟩
  have HMw2 := Lib.hid (HMw1.out.call hb)
  clear hb lb cb0 cb1 HMw1
  go_upto_region 3 with fail
  have hm : Mem w w2 [((w.heap.size + 1 + 1), #[.int .i64 0, .int .i64 0]), ((w.heap.size + 1), #[.int .i64 b1, .int .i64 b2]), (w.heap.size, #[.int .i64 a1, .int .i64 a2])] := HMw2.out
  clear HMw2
  have mk : ∀ w', Mem w w' [((w.heap.size + 1 + 1), #[.int .i64 0, .int .i64 0]), ((w.heap.size + 1), #[.int .i64 b1, .int .i64 b2]), (w.heap.size, #[.int .i64 a1, .int .i64 a2])] → (fun w' => w'.cell? ⟨w.heap.size, 0, none⟩ = some (.int .i64 a1) ∧ w'.cell? ⟨w.heap.size, 1, none⟩ = some (.int .i64 a2) ∧ w'.cell? ⟨(w.heap.size + 1), 0, none⟩ = some (.int .i64 b1) ∧ w'.cell? ⟨(w.heap.size + 1), 1, none⟩ = some (.int .i64 b2) ∧ Hid (Mem w w' [((w.heap.size + 1 + 1), #[.int .i64 0, .int .i64 0]), ((w.heap.size + 1), #[.int .i64 b1, .int .i64 b2]), (w.heap.size, #[.int .i64 a1, .int .i64 a2])])) w' := fun w' h => ⟨h.cell 2 rfl rfl, h.cell 2 rfl rfl, h.cell 1 rfl rfl, h.cell 1 rfl rfl, Lib.hid h⟩
  have hok : OwnOk (fun w' => w'.cell? ⟨w.heap.size, 0, none⟩ = some (.int .i64 a1) ∧ w'.cell? ⟨w.heap.size, 1, none⟩ = some (.int .i64 a2) ∧ w'.cell? ⟨(w.heap.size + 1), 0, none⟩ = some (.int .i64 b1) ∧ w'.cell? ⟨(w.heap.size + 1), 1, none⟩ = some (.int .i64 b2) ∧ Hid (Mem w w' [((w.heap.size + 1 + 1), #[.int .i64 0, .int .i64 0]), ((w.heap.size + 1), #[.int .i64 b1, .int .i64 b2]), (w.heap.size, #[.int .i64 a1, .int .i64 a2])])) w2.heap.size [⟨10, 12, fun w b => Blk w b #[.bool false, .int .u64 0, .int .u64 0, .bool false, .int .u64 0, .int .u64 0], fun w b => Blk w b #[.bool c1, .int .u64 k1, .int .u64 l1, .bool c2, .int .u64 k2, .int .u64 l2]⟩, ⟨11, 13, fun w b => Blk w b #[.bool false, .int .u64 0, .int .u64 0, .bool false, .int .u64 0, .int .u64 0], fun w b => Blk w b #[.bool c3, .int .u64 k3, .int .u64 l3, .bool c4, .int .u64 k4, .int .u64 l4]⟩] := own2_ok (fun v1 v2 h hb => mk _ (h.2.2.2.2.out.step hb hm.lts hm.low.size)) ⟨Blk.local _, Blk.local _⟩ ⟨Blk.local _, Blk.local _⟩ (by simp) (by simp) (by simp)
  have hfit : ∀ i, (∀ e ∈ ([⟨10, 12, fun w b => Blk w b #[.bool false, .int .u64 0, .int .u64 0, .bool false, .int .u64 0, .int .u64 0], fun w b => Blk w b #[.bool c1, .int .u64 k1, .int .u64 l1, .bool c2, .int .u64 k2, .int .u64 l2]⟩, ⟨11, 13, fun w b => Blk w b #[.bool false, .int .u64 0, .int .u64 0, .bool false, .int .u64 0, .int .u64 0], fun w b => Blk w b #[.bool c3, .int .u64 k3, .int .u64 l3, .bool c4, .int .u64 k4, .int .u64 l4]⟩] : List Ent), e.x ≠ i ∧ e.s ≠ i) → Fit (fun w' => w'.cell? ⟨w.heap.size, 0, none⟩ = some (.int .i64 a1) ∧ w'.cell? ⟨w.heap.size, 1, none⟩ = some (.int .i64 a2) ∧ w'.cell? ⟨(w.heap.size + 1), 0, none⟩ = some (.int .i64 b1) ∧ w'.cell? ⟨(w.heap.size + 1), 1, none⟩ = some (.int .i64 b2) ∧ Hid (Mem w w' [((w.heap.size + 1 + 1), #[.int .i64 0, .int .i64 0]), ((w.heap.size + 1), #[.int .i64 b1, .int .i64 b2]), (w.heap.size, #[.int .i64 a1, .int .i64 a2])])) (Sof (fun w' => w'.cell? ⟨w.heap.size, 0, none⟩ = some (.int .i64 a1) ∧ w'.cell? ⟨w.heap.size, 1, none⟩ = some (.int .i64 a2) ∧ w'.cell? ⟨(w.heap.size + 1), 0, none⟩ = some (.int .i64 b1) ∧ w'.cell? ⟨(w.heap.size + 1), 1, none⟩ = some (.int .i64 b2) ∧ Hid (Mem w w' [((w.heap.size + 1 + 1), #[.int .i64 0, .int .i64 0]), ((w.heap.size + 1), #[.int .i64 b1, .int .i64 b2]), (w.heap.size, #[.int .i64 a1, .int .i64 a2])])) w2.heap.size [⟨10, 12, fun w b => Blk w b #[.bool false, .int .u64 0, .int .u64 0, .bool false, .int .u64 0, .int .u64 0], fun w b => Blk w b #[.bool c1, .int .u64 k1, .int .u64 l1, .bool c2, .int .u64 k2, .int .u64 l2]⟩, ⟨11, 13, fun w b => Blk w b #[.bool false, .int .u64 0, .int .u64 0, .bool false, .int .u64 0, .int .u64 0], fun w b => Blk w b #[.bool c3, .int .u64 k3, .int .u64 l3, .bool c4, .int .u64 k4, .int .u64 l4]⟩]) i := fun i hi => sof_fit hok.st hok.loc hi
  have HOK := Lib.hid hok; have HF := Lib.hid hfit; clear hok hfit
  refine wp_region_ab (S0 := (fun w' => w'.cell? ⟨w.heap.size, 0, none⟩ = some (.int .i64 a1) ∧ w'.cell? ⟨w.heap.size, 1, none⟩ = some (.int .i64 a2) ∧ w'.cell? ⟨(w.heap.size + 1), 0, none⟩ = some (.int .i64 b1) ∧ w'.cell? ⟨(w.heap.size + 1), 1, none⟩ = some (.int .i64 b2) ∧ Hid (Mem w w' [((w.heap.size + 1 + 1), #[.int .i64 0, .int .i64 0]), ((w.heap.size + 1), #[.int .i64 b1, .int .i64 b2]), (w.heap.size, #[.int .i64 a1, .int .i64 a2])]))) w2.heap.size [⟨10, 12, fun w b => Blk w b #[.bool false, .int .u64 0, .int .u64 0, .bool false, .int .u64 0, .int .u64 0], fun w b => Blk w b #[.bool c1, .int .u64 k1, .int .u64 l1, .bool c2, .int .u64 k2, .int .u64 l2]⟩, ⟨11, 13, fun w b => Blk w b #[.bool false, .int .u64 0, .int .u64 0, .bool false, .int .u64 0, .int .u64 0], fun w b => Blk w b #[.bool c3, .int .u64 k3, .int .u64 l3, .bool c4, .int .u64 k4, .int .u64 l4]⟩] (by kernel_rfl) (mk _ hm.drew) (Nat.le_refl _) (by simp) ?_
  have hlts := hm.lts; have hlow := hm.low.size
  have ltr : (w.heap.size + 1 + 1) < w2.heap.size := hm.lt 0 rfl
  have ltb : (w.heap.size + 1) < w2.heap.size := hm.lt 1 rfl
  have lta : w.heap.size < w2.heap.size := hm.lt 2 rfl
  have HMK := Lib.hid mk
  clear hm mk
  refine abTake 0 (some 18) (v := ?_) rfl rfl (by kernel_rfl) (by kernel_rfl) (by kernel_rfl) (fun _ _ _ h => h) (HF.out _ (by simp)) (by rfl) ?_ ?_
  rotate_left 1
  · (intro w hSw; (try dsimp only at hSw); go_simp; try with_reducible rfl)
  simp only [Act.put, List.setIfInBounds_toArray, List.set_cons_zero, List.set_cons_succ]
  refine abTake 1 (some 19) (v := ?_) rfl rfl (by kernel_rfl) (by kernel_rfl) (by kernel_rfl) (fun _ _ _ h => h) (HF.out _ (by simp)) (by rfl) ?_ ?_
  rotate_left 1
  · (intro w hSw; (try dsimp only at hSw); go_simp; try with_reducible rfl)
  simp only [Act.put, List.setIfInBounds_toArray, List.set_cons_zero, List.set_cons_succ]
  refine abTake 2 (some 20) (v := ?_) rfl rfl (by kernel_rfl) (by kernel_rfl) (by kernel_rfl) (fun _ _ _ h => h) (HF.out _ (by simp)) (by rfl) ?_ ?_
  rotate_left 1
  · (intro w hSw; (try dsimp only at hSw); go_simp; try with_reducible rfl)
  simp only [Act.put, List.setIfInBounds_toArray, List.set_cons_zero, List.set_cons_succ]
  refine abTake 3 (some 21) (v := ?_) rfl rfl (by kernel_rfl) (by kernel_rfl) (by kernel_rfl) (fun _ _ _ h => h) (HF.out _ (by simp)) (by rfl) ?_ ?_
  rotate_left 1
  · (intro w hSw; (try dsimp only at hSw); go_simp; try with_reducible rfl)
  simp only [Act.put, List.setIfInBounds_toArray, List.set_cons_zero, List.set_cons_succ]
  refine abCall 4 (some 22) rfl rfl (by kernel_rfl) (by kernel_rfl) (by kernel_rfl) (fun _ _ _ h => h) (HF.out _ (by simp)) (by rfl) ?_ (fun w hSw => M3.out _) ?_
  · (intro w hSw; (try dsimp only at hSw); go_simp; try with_reducible rfl)
  simp only [Act.put, List.setIfInBounds_toArray, List.set_cons_zero, List.set_cons_succ]
  refine abTake 5 (some 23) (v := ?_) rfl rfl (by kernel_rfl) (by kernel_rfl) (by kernel_rfl) (fun _ _ _ h => h) (HF.out _ (by simp)) (by rfl) ?_ ?_
  rotate_left 1
  · (intro w hSw; (try dsimp only at hSw); go_simp; try with_reducible rfl)
  simp only [Act.put, List.setIfInBounds_toArray, List.set_cons_zero, List.set_cons_succ]
  refine abTake 6 (some 24) (v := ?_) rfl rfl (by kernel_rfl) (by kernel_rfl) (by kernel_rfl) (fun _ _ _ h => h) (HF.out _ (by simp)) (by rfl) ?_ ?_
  rotate_left 1
  · (intro w hSw; (try dsimp only at hSw); go_simp; try with_reducible rfl)
  simp only [Act.put, List.setIfInBounds_toArray, List.set_cons_zero, List.set_cons_succ]
  refine abTake 7 (some 25) (v := ?_) rfl rfl (by kernel_rfl) (by kernel_rfl) (by kernel_rfl) (fun _ _ _ h => h) (HF.out _ (by simp)) (by rfl) ?_ ?_
  rotate_left 1
  · (intro w hSw; (try dsimp only at hSw); go_simp; try with_reducible rfl)
  simp only [Act.put, List.setIfInBounds_toArray, List.set_cons_zero, List.set_cons_succ]
  refine abTake 8 (some 26) (v := ?_) rfl rfl (by kernel_rfl) (by kernel_rfl) (by kernel_rfl) (fun _ _ _ h => h) (HF.out _ (by simp)) (by rfl) ?_ ?_
  rotate_left 1
  · (intro w hSw; (try dsimp only at hSw); go_simp; try with_reducible rfl)
  simp only [Act.put, List.setIfInBounds_toArray, List.set_cons_zero, List.set_cons_succ]
  refine abCall 9 (some 27) rfl rfl (by kernel_rfl) (by kernel_rfl) (by kernel_rfl) (fun _ _ _ h => h) (HF.out _ (by simp)) (by rfl) ?_ (fun w hSw => M4.out _) ?_
  · (intro w hSw; (try dsimp only at hSw); go_simp; try with_reducible rfl)
  simp only [Act.put, List.setIfInBounds_toArray, List.set_cons_zero, List.set_cons_succ]
  refine abMake2 10 11 6 7 HOK.out _ _ (List.mem_cons_self) (List.mem_cons_of_mem _ (List.mem_cons_self)) rfl rfl rfl rfl rfl rfl (by kernel_rfl) (by kernel_rfl) (by kernel_rfl) (by kernel_rfl) (by decide) (by simp) (by kernel_rfl) (by kernel_rfl) (by kernel_rfl) (by kernel_rfl) (by kernel_rfl) (by kernel_rfl) ⟨by rfl, .cells #[.bool false, .int .u64 0, .int .u64 0, .bool false, .int .u64 0, .int .u64 0] 52, fun w hSw => ⟨(by (try dsimp only at hSw); go_simp; try with_reducible rfl), Blk.newAt rfl⟩⟩ ⟨by rfl, .cells #[.bool false, .int .u64 0, .int .u64 0, .bool false, .int .u64 0, .int .u64 0] 52, fun w hSw => ⟨(by (try dsimp only at hSw); go_simp; try with_reducible rfl), Blk.newAt rfl⟩⟩ (fun b6 b7 hb6 hb7 nb6 => ?_)
  simp only [Act.put, List.setIfInBounds_toArray, List.set_cons_zero, List.set_cons_succ]
  refine abStore 12 HOK.out _ (List.mem_cons_self) rfl rfl rfl (by kernel_rfl) (by kernel_rfl) (by kernel_rfl) (by kernel_rfl) (by rfl) ?_ ?_
  · rintro w b hSw hg hB hp
    obtain rfl : b = b6 := hg
    replace hp : Blk w b #[.bool false, .int .u64 0, .int .u64 0, .bool false, .int .u64 0, .int .u64 0] := hp
    have x0 : w.cell? ⟨b, 0, none⟩ = some (.bool false) := hp.cell rfl
    have x1 : w.cell? ⟨b, 1, none⟩ = some (.int .u64 0) := hp.cell rfl
    have x2 : w.cell? ⟨b, 2, none⟩ = some (.int .u64 0) := hp.cell rfl
    have x3 : w.cell? ⟨b, 3, none⟩ = some (.bool false) := hp.cell rfl
    have x4 : w.cell? ⟨b, 4, none⟩ = some (.int .u64 0) := hp.cell rfl
    have x5 : w.cell? ⟨b, 5, none⟩ = some (.int .u64 0) := hp.cell rfl
    have y0 := hp.free 0
    have y1 := hp.free 1
    have y2 := hp.free 2
    have y3 := hp.free 3
    have y4 := hp.free 4
    have y5 := hp.free 5
    refine ⟨((((((w.setCell ⟨b, 0, none⟩ (.bool c1)).setCell ⟨b, 1, none⟩ (.int .u64 k1)).setCell ⟨b, 2, none⟩ (.int .u64 l1)).setCell ⟨b, 3, none⟩ (.bool c2)).setCell ⟨b, 4, none⟩ (.int .u64 k2)).setCell ⟨b, 5, none⟩ (.int .u64 l2)), ?_, ((((((hp.set 0 (.bool c1)).set 1 (.int .u64 k1)).set 2 (.int .u64 l1)).set 3 (.bool c2)).set 4 (.int .u64 k2)).set 5 (.int .u64 l2)), (((((((Below.refl _ _).setCell (p := ⟨b, 0, none⟩) hB _).setCell (p := ⟨b, 1, none⟩) hB _).setCell (p := ⟨b, 2, none⟩) hB _).setCell (p := ⟨b, 3, none⟩) hB _).setCell (p := ⟨b, 4, none⟩) hB _).setCell (p := ⟨b, 5, none⟩) hB _), fun k hk => ?_⟩
    · (try dsimp only at hSw); go_simp; try with_reducible rfl
    · exact (Below.heap_setCell _ _ _ _ hk).trans ((Below.heap_setCell _ _ _ _ hk).trans ((Below.heap_setCell _ _ _ _ hk).trans ((Below.heap_setCell _ _ _ _ hk).trans ((Below.heap_setCell _ _ _ _ hk).trans ((Below.heap_setCell _ _ _ _ hk))))))
  refine abStore 13 HOK.out _ (List.mem_cons_of_mem _ (List.mem_cons_self)) rfl rfl rfl (by kernel_rfl) (by kernel_rfl) (by kernel_rfl) (by kernel_rfl) (by rfl) ?_ ?_
  · rintro w b hSw hg hB hp
    obtain rfl : b = b7 := hg
    replace hp : Blk w b #[.bool false, .int .u64 0, .int .u64 0, .bool false, .int .u64 0, .int .u64 0] := hp
    have x0 : w.cell? ⟨b, 0, none⟩ = some (.bool false) := hp.cell rfl
    have x1 : w.cell? ⟨b, 1, none⟩ = some (.int .u64 0) := hp.cell rfl
    have x2 : w.cell? ⟨b, 2, none⟩ = some (.int .u64 0) := hp.cell rfl
    have x3 : w.cell? ⟨b, 3, none⟩ = some (.bool false) := hp.cell rfl
    have x4 : w.cell? ⟨b, 4, none⟩ = some (.int .u64 0) := hp.cell rfl
    have x5 : w.cell? ⟨b, 5, none⟩ = some (.int .u64 0) := hp.cell rfl
    have y0 := hp.free 0
    have y1 := hp.free 1
    have y2 := hp.free 2
    have y3 := hp.free 3
    have y4 := hp.free 4
    have y5 := hp.free 5
    refine ⟨((((((w.setCell ⟨b, 0, none⟩ (.bool c3)).setCell ⟨b, 1, none⟩ (.int .u64 k3)).setCell ⟨b, 2, none⟩ (.int .u64 l3)).setCell ⟨b, 3, none⟩ (.bool c4)).setCell ⟨b, 4, none⟩ (.int .u64 k4)).setCell ⟨b, 5, none⟩ (.int .u64 l4)), ?_, ((((((hp.set 0 (.bool c3)).set 1 (.int .u64 k3)).set 2 (.int .u64 l3)).set 3 (.bool c4)).set 4 (.int .u64 k4)).set 5 (.int .u64 l4)), (((((((Below.refl _ _).setCell (p := ⟨b, 0, none⟩) hB _).setCell (p := ⟨b, 1, none⟩) hB _).setCell (p := ⟨b, 2, none⟩) hB _).setCell (p := ⟨b, 3, none⟩) hB _).setCell (p := ⟨b, 4, none⟩) hB _).setCell (p := ⟨b, 5, none⟩) hB _), fun k hk => ?_⟩
    · (try dsimp only at hSw); go_simp; try with_reducible rfl
    · exact (Below.heap_setCell _ _ _ _ hk).trans ((Below.heap_setCell _ _ _ _ hk).trans ((Below.heap_setCell _ _ _ _ hk).trans ((Below.heap_setCell _ _ _ _ hk).trans ((Below.heap_setCell _ _ _ _ hk).trans ((Below.heap_setCell _ _ _ _ hk))))))
  refine abDone (by kernel_rfl) ?_ _
  rintro w3 hS
  have kx := sof_post hS _ (List.mem_cons_self) (by kernel_rfl) (by kernel_rfl) (b := b6) rfl
  have ky := sof_post hS _ (List.mem_cons_of_mem _ (List.mem_cons_self)) (by kernel_rfl) (by kernel_rfl) (b := b7) rfl
  have HMw3 := Lib.hid ((hS.1.2.2.2.2.out).join2 kx.2.2 kx.1 ky.2.2 ky.1 nb6 hlts hlow)
  clear hS HOK HF HMK hlts hlow ltr ltb lta kx ky hb6 hb7
  go_upto_region 4 with fail
  have hm : Mem w w3 [(b7, #[.bool c3, .int .u64 k3, .int .u64 l3, .bool c4, .int .u64 k4, .int .u64 l4]), (b6, #[.bool c1, .int .u64 k1, .int .u64 l1, .bool c2, .int .u64 k2, .int .u64 l2]), ((w.heap.size + 1 + 1), #[.int .i64 0, .int .i64 0]), ((w.heap.size + 1), #[.int .i64 b1, .int .i64 b2]), (w.heap.size, #[.int .i64 a1, .int .i64 a2])] := HMw3.out
  clear HMw3
  have mk : ∀ w', Mem w w' [(b7, #[.bool c3, .int .u64 k3, .int .u64 l3, .bool c4, .int .u64 k4, .int .u64 l4]), (b6, #[.bool c1, .int .u64 k1, .int .u64 l1, .bool c2, .int .u64 k2, .int .u64 l2]), ((w.heap.size + 1 + 1), #[.int .i64 0, .int .i64 0]), ((w.heap.size + 1), #[.int .i64 b1, .int .i64 b2]), (w.heap.size, #[.int .i64 a1, .int .i64 a2])] → (fun w' => w'.cell? ⟨b6, 0, none⟩ = some (.bool c1) ∧ w'.cell? ⟨b6, 1, none⟩ = some (.int .u64 k1) ∧ w'.cell? ⟨b6, 2, none⟩ = some (.int .u64 l1) ∧ w'.cell? ⟨b6, 3, none⟩ = some (.bool c2) ∧ w'.cell? ⟨b6, 4, none⟩ = some (.int .u64 k2) ∧ w'.cell? ⟨b6, 5, none⟩ = some (.int .u64 l2) ∧ w'.cell? ⟨b7, 0, none⟩ = some (.bool c3) ∧ w'.cell? ⟨b7, 1, none⟩ = some (.int .u64 k3) ∧ w'.cell? ⟨b7, 2, none⟩ = some (.int .u64 l3) ∧ w'.cell? ⟨b7, 3, none⟩ = some (.bool c4) ∧ w'.cell? ⟨b7, 4, none⟩ = some (.int .u64 k4) ∧ w'.cell? ⟨b7, 5, none⟩ = some (.int .u64 l4) ∧ Hid (Mem w w' [(b7, #[.bool c3, .int .u64 k3, .int .u64 l3, .bool c4, .int .u64 k4, .int .u64 l4]), (b6, #[.bool c1, .int .u64 k1, .int .u64 l1, .bool c2, .int .u64 k2, .int .u64 l2]), ((w.heap.size + 1 + 1), #[.int .i64 0, .int .i64 0]), ((w.heap.size + 1), #[.int .i64 b1, .int .i64 b2]), (w.heap.size, #[.int .i64 a1, .int .i64 a2])])) w' := fun w' h => ⟨h.cell 1 rfl rfl, h.cell 1 rfl rfl, h.cell 1 rfl rfl, h.cell 1 rfl rfl, h.cell 1 rfl rfl, h.cell 1 rfl rfl, h.cell 0 rfl rfl, h.cell 0 rfl rfl, h.cell 0 rfl rfl, h.cell 0 rfl rfl, h.cell 0 rfl rfl, h.cell 0 rfl rfl, Lib.hid h⟩
  have hok : OwnOk (fun w' => w'.cell? ⟨b6, 0, none⟩ = some (.bool c1) ∧ w'.cell? ⟨b6, 1, none⟩ = some (.int .u64 k1) ∧ w'.cell? ⟨b6, 2, none⟩ = some (.int .u64 l1) ∧ w'.cell? ⟨b6, 3, none⟩ = some (.bool c2) ∧ w'.cell? ⟨b6, 4, none⟩ = some (.int .u64 k2) ∧ w'.cell? ⟨b6, 5, none⟩ = some (.int .u64 l2) ∧ w'.cell? ⟨b7, 0, none⟩ = some (.bool c3) ∧ w'.cell? ⟨b7, 1, none⟩ = some (.int .u64 k3) ∧ w'.cell? ⟨b7, 2, none⟩ = some (.int .u64 l3) ∧ w'.cell? ⟨b7, 3, none⟩ = some (.bool c4) ∧ w'.cell? ⟨b7, 4, none⟩ = some (.int .u64 k4) ∧ w'.cell? ⟨b7, 5, none⟩ = some (.int .u64 l4) ∧ Hid (Mem w w' [(b7, #[.bool c3, .int .u64 k3, .int .u64 l3, .bool c4, .int .u64 k4, .int .u64 l4]), (b6, #[.bool c1, .int .u64 k1, .int .u64 l1, .bool c2, .int .u64 k2, .int .u64 l2]), ((w.heap.size + 1 + 1), #[.int .i64 0, .int .i64 0]), ((w.heap.size + 1), #[.int .i64 b1, .int .i64 b2]), (w.heap.size, #[.int .i64 a1, .int .i64 a2])])) w3.heap.size [⟨17, 18, fun w b => Blk w b #[.bool false, .int .u64 0, .int .u64 0, .bool false, .int .u64 0, .int .u64 0], fun w b => Blk w b #[.bool c7, .int .u64 k7, .int .u64 l7, .bool c8, .int .u64 k8, .int .u64 l8]⟩] := own1_ok (fun v1 v2 h hb => mk _ (h.2.2.2.2.2.2.2.2.2.2.2.2.out.step hb hm.lts hm.low.size)) ⟨Blk.local _, Blk.local _⟩ (by simp)
  have hfit : ∀ i, (∀ e ∈ ([⟨17, 18, fun w b => Blk w b #[.bool false, .int .u64 0, .int .u64 0, .bool false, .int .u64 0, .int .u64 0], fun w b => Blk w b #[.bool c7, .int .u64 k7, .int .u64 l7, .bool c8, .int .u64 k8, .int .u64 l8]⟩] : List Ent), e.x ≠ i ∧ e.s ≠ i) → Fit (fun w' => w'.cell? ⟨b6, 0, none⟩ = some (.bool c1) ∧ w'.cell? ⟨b6, 1, none⟩ = some (.int .u64 k1) ∧ w'.cell? ⟨b6, 2, none⟩ = some (.int .u64 l1) ∧ w'.cell? ⟨b6, 3, none⟩ = some (.bool c2) ∧ w'.cell? ⟨b6, 4, none⟩ = some (.int .u64 k2) ∧ w'.cell? ⟨b6, 5, none⟩ = some (.int .u64 l2) ∧ w'.cell? ⟨b7, 0, none⟩ = some (.bool c3) ∧ w'.cell? ⟨b7, 1, none⟩ = some (.int .u64 k3) ∧ w'.cell? ⟨b7, 2, none⟩ = some (.int .u64 l3) ∧ w'.cell? ⟨b7, 3, none⟩ = some (.bool c4) ∧ w'.cell? ⟨b7, 4, none⟩ = some (.int .u64 k4) ∧ w'.cell? ⟨b7, 5, none⟩ = some (.int .u64 l4) ∧ Hid (Mem w w' [(b7, #[.bool c3, .int .u64 k3, .int .u64 l3, .bool c4, .int .u64 k4, .int .u64 l4]), (b6, #[.bool c1, .int .u64 k1, .int .u64 l1, .bool c2, .int .u64 k2, .int .u64 l2]), ((w.heap.size + 1 + 1), #[.int .i64 0, .int .i64 0]), ((w.heap.size + 1), #[.int .i64 b1, .int .i64 b2]), (w.heap.size, #[.int .i64 a1, .int .i64 a2])])) (Sof (fun w' => w'.cell? ⟨b6, 0, none⟩ = some (.bool c1) ∧ w'.cell? ⟨b6, 1, none⟩ = some (.int .u64 k1) ∧ w'.cell? ⟨b6, 2, none⟩ = some (.int .u64 l1) ∧ w'.cell? ⟨b6, 3, none⟩ = some (.bool c2) ∧ w'.cell? ⟨b6, 4, none⟩ = some (.int .u64 k2) ∧ w'.cell? ⟨b6, 5, none⟩ = some (.int .u64 l2) ∧ w'.cell? ⟨b7, 0, none⟩ = some (.bool c3) ∧ w'.cell? ⟨b7, 1, none⟩ = some (.int .u64 k3) ∧ w'.cell? ⟨b7, 2, none⟩ = some (.int .u64 l3) ∧ w'.cell? ⟨b7, 3, none⟩ = some (.bool c4) ∧ w'.cell? ⟨b7, 4, none⟩ = some (.int .u64 k4) ∧ w'.cell? ⟨b7, 5, none⟩ = some (.int .u64 l4) ∧ Hid (Mem w w' [(b7, #[.bool c3, .int .u64 k3, .int .u64 l3, .bool c4, .int .u64 k4, .int .u64 l4]), (b6, #[.bool c1, .int .u64 k1, .int .u64 l1, .bool c2, .int .u64 k2, .int .u64 l2]), ((w.heap.size + 1 + 1), #[.int .i64 0, .int .i64 0]), ((w.heap.size + 1), #[.int .i64 b1, .int .i64 b2]), (w.heap.size, #[.int .i64 a1, .int .i64 a2])])) w3.heap.size [⟨17, 18, fun w b => Blk w b #[.bool false, .int .u64 0, .int .u64 0, .bool false, .int .u64 0, .int .u64 0], fun w b => Blk w b #[.bool c7, .int .u64 k7, .int .u64 l7, .bool c8, .int .u64 k8, .int .u64 l8]⟩]) i := fun i hi => sof_fit hok.st hok.loc hi
  have HOK := Lib.hid hok; have HF := Lib.hid hfit; clear hok hfit
  refine wp_region_ab (S0 := (fun w' => w'.cell? ⟨b6, 0, none⟩ = some (.bool c1) ∧ w'.cell? ⟨b6, 1, none⟩ = some (.int .u64 k1) ∧ w'.cell? ⟨b6, 2, none⟩ = some (.int .u64 l1) ∧ w'.cell? ⟨b6, 3, none⟩ = some (.bool c2) ∧ w'.cell? ⟨b6, 4, none⟩ = some (.int .u64 k2) ∧ w'.cell? ⟨b6, 5, none⟩ = some (.int .u64 l2) ∧ w'.cell? ⟨b7, 0, none⟩ = some (.bool c3) ∧ w'.cell? ⟨b7, 1, none⟩ = some (.int .u64 k3) ∧ w'.cell? ⟨b7, 2, none⟩ = some (.int .u64 l3) ∧ w'.cell? ⟨b7, 3, none⟩ = some (.bool c4) ∧ w'.cell? ⟨b7, 4, none⟩ = some (.int .u64 k4) ∧ w'.cell? ⟨b7, 5, none⟩ = some (.int .u64 l4) ∧ Hid (Mem w w' [(b7, #[.bool c3, .int .u64 k3, .int .u64 l3, .bool c4, .int .u64 k4, .int .u64 l4]), (b6, #[.bool c1, .int .u64 k1, .int .u64 l1, .bool c2, .int .u64 k2, .int .u64 l2]), ((w.heap.size + 1 + 1), #[.int .i64 0, .int .i64 0]), ((w.heap.size + 1), #[.int .i64 b1, .int .i64 b2]), (w.heap.size, #[.int .i64 a1, .int .i64 a2])]))) w3.heap.size [⟨17, 18, fun w b => Blk w b #[.bool false, .int .u64 0, .int .u64 0, .bool false, .int .u64 0, .int .u64 0], fun w b => Blk w b #[.bool c7, .int .u64 k7, .int .u64 l7, .bool c8, .int .u64 k8, .int .u64 l8]⟩] (by kernel_rfl) (mk _ hm.drew) (Nat.le_refl _) (by simp) ?_
  have hlts := hm.lts; have hlow := hm.low.size
  have lty : b7 < w3.heap.size := hm.lt 0 rfl
  have ltx : b6 < w3.heap.size := hm.lt 1 rfl
  have ltr : (w.heap.size + 1 + 1) < w3.heap.size := hm.lt 2 rfl
  have ltb : (w.heap.size + 1) < w3.heap.size := hm.lt 3 rfl
  have lta : w.heap.size < w3.heap.size := hm.lt 4 rfl
  have HMK := Lib.hid mk
  clear hm mk
  refine abTake 0 (some 28) (v := ?_) rfl rfl (by kernel_rfl) (by kernel_rfl) (by kernel_rfl) (fun _ _ _ h => h) (HF.out _ (by simp)) (by rfl) ?_ ?_
  rotate_left 1
  · (intro w hSw; (try dsimp only at hSw); go_simp; try with_reducible rfl)
  simp only [Act.put, List.setIfInBounds_toArray, List.set_cons_zero, List.set_cons_succ]
  refine abTake 1 (some 29) (v := ?_) rfl rfl (by kernel_rfl) (by kernel_rfl) (by kernel_rfl) (fun _ _ _ h => h) (HF.out _ (by simp)) (by rfl) ?_ ?_
  rotate_left 1
  · (intro w hSw; (try dsimp only at hSw); go_simp; try with_reducible rfl)
  simp only [Act.put, List.setIfInBounds_toArray, List.set_cons_zero, List.set_cons_succ]
  refine abTake 2 (some 30) (v := ?_) rfl rfl (by kernel_rfl) (by kernel_rfl) (by kernel_rfl) (fun _ _ _ h => h) (HF.out _ (by simp)) (by rfl) ?_ ?_
  rotate_left 1
  · (intro w hSw; (try dsimp only at hSw); go_simp; try with_reducible rfl)
  simp only [Act.put, List.setIfInBounds_toArray, List.set_cons_zero, List.set_cons_succ]
  refine abTake 3 (some 31) (v := ?_) rfl rfl (by kernel_rfl) (by kernel_rfl) (by kernel_rfl) (fun _ _ _ h => h) (HF.out _ (by simp)) (by rfl) ?_ ?_
  rotate_left 1
  · (intro w hSw; (try dsimp only at hSw); go_simp; try with_reducible rfl)
  simp only [Act.put, List.setIfInBounds_toArray, List.set_cons_zero, List.set_cons_succ]
  refine abCall 4 (some 32) rfl rfl (by kernel_rfl) (by kernel_rfl) (by kernel_rfl) (fun _ _ _ h => h) (HF.out _ (by simp)) (by rfl) ?_ (fun w hSw => M5.out _) ?_
  · (intro w hSw; (try dsimp only at hSw); go_simp; try with_reducible rfl)
  simp only [Act.put, List.setIfInBounds_toArray, List.set_cons_zero, List.set_cons_succ]
  refine abTake 5 (some 33) (v := ?_) rfl rfl (by kernel_rfl) (by kernel_rfl) (by kernel_rfl) (fun _ _ _ h => h) (HF.out _ (by simp)) (by rfl) ?_ ?_
  rotate_left 1
  · (intro w hSw; (try dsimp only at hSw); go_simp; try with_reducible rfl)
  simp only [Act.put, List.setIfInBounds_toArray, List.set_cons_zero, List.set_cons_succ]
  refine abTake 6 (some 34) (v := ?_) rfl rfl (by kernel_rfl) (by kernel_rfl) (by kernel_rfl) (fun _ _ _ h => h) (HF.out _ (by simp)) (by rfl) ?_ ?_
  rotate_left 1
  · (intro w hSw; (try dsimp only at hSw); go_simp; try with_reducible rfl)
  simp only [Act.put, List.setIfInBounds_toArray, List.set_cons_zero, List.set_cons_succ]
  refine abTake 7 (some 35) (v := ?_) rfl rfl (by kernel_rfl) (by kernel_rfl) (by kernel_rfl) (fun _ _ _ h => h) (HF.out _ (by simp)) (by rfl) ?_ ?_
  rotate_left 1
  · (intro w hSw; (try dsimp only at hSw); go_simp; try with_reducible rfl)
  simp only [Act.put, List.setIfInBounds_toArray, List.set_cons_zero, List.set_cons_succ]
  refine abTake 8 (some 36) (v := ?_) rfl rfl (by kernel_rfl) (by kernel_rfl) (by kernel_rfl) (fun _ _ _ h => h) (HF.out _ (by simp)) (by rfl) ?_ ?_
  rotate_left 1
  · (intro w hSw; (try dsimp only at hSw); go_simp; try with_reducible rfl)
  simp only [Act.put, List.setIfInBounds_toArray, List.set_cons_zero, List.set_cons_succ]
  refine abCall 9 (some 37) rfl rfl (by kernel_rfl) (by kernel_rfl) (by kernel_rfl) (fun _ _ _ h => h) (HF.out _ (by simp)) (by rfl) ?_ (fun w hSw => M6.out _) ?_
  · (intro w hSw; (try dsimp only at hSw); go_simp; try with_reducible rfl)
  simp only [Act.put, List.setIfInBounds_toArray, List.set_cons_zero, List.set_cons_succ]
  refine abCall 10 (some 38) rfl rfl (by kernel_rfl) (by kernel_rfl) (by kernel_rfl) (fun _ _ _ h => h) (HF.out _ (by simp)) (by rfl) ?_ (fun w hSw => M7.out _) ?_
  · (intro w hSw; (try dsimp only at hSw); go_simp; try with_reducible rfl)
  simp only [Act.put, List.setIfInBounds_toArray, List.set_cons_zero, List.set_cons_succ]
  refine abTake 11 (some 39) (v := ?_) rfl rfl (by kernel_rfl) (by kernel_rfl) (by kernel_rfl) (fun _ _ _ h => h) (HF.out _ (by simp)) (by rfl) ?_ ?_
  rotate_left 1
  · (intro w hSw; (try dsimp only at hSw); go_simp; try with_reducible rfl)
  simp only [Act.put, List.setIfInBounds_toArray, List.set_cons_zero, List.set_cons_succ]
  refine abTake 12 (some 40) (v := ?_) rfl rfl (by kernel_rfl) (by kernel_rfl) (by kernel_rfl) (fun _ _ _ h => h) (HF.out _ (by simp)) (by rfl) ?_ ?_
  rotate_left 1
  · (intro w hSw; (try dsimp only at hSw); go_simp; try with_reducible rfl)
  simp only [Act.put, List.setIfInBounds_toArray, List.set_cons_zero, List.set_cons_succ]
  refine abTake 13 (some 41) (v := ?_) rfl rfl (by kernel_rfl) (by kernel_rfl) (by kernel_rfl) (fun _ _ _ h => h) (HF.out _ (by simp)) (by rfl) ?_ ?_
  rotate_left 1
  · (intro w hSw; (try dsimp only at hSw); go_simp; try with_reducible rfl)
  simp only [Act.put, List.setIfInBounds_toArray, List.set_cons_zero, List.set_cons_succ]
  refine abTake 14 (some 42) (v := ?_) rfl rfl (by kernel_rfl) (by kernel_rfl) (by kernel_rfl) (fun _ _ _ h => h) (HF.out _ (by simp)) (by rfl) ?_ ?_
  rotate_left 1
  · (intro w hSw; (try dsimp only at hSw); go_simp; try with_reducible rfl)
  simp only [Act.put, List.setIfInBounds_toArray, List.set_cons_zero, List.set_cons_succ]
  refine abCall 15 (some 43) rfl rfl (by kernel_rfl) (by kernel_rfl) (by kernel_rfl) (fun _ _ _ h => h) (HF.out _ (by simp)) (by rfl) ?_ (fun w hSw => M8.out _) ?_
  · (intro w hSw; (try dsimp only at hSw); go_simp; try with_reducible rfl)
  simp only [Act.put, List.setIfInBounds_toArray, List.set_cons_zero, List.set_cons_succ]
  refine abTake 16 (some 44) (v := ?_) rfl rfl (by kernel_rfl) (by kernel_rfl) (by kernel_rfl) (fun _ _ _ h => h) (HF.out _ (by simp)) (by rfl) ?_ ?_
  rotate_left 1
  · (intro w hSw; (try dsimp only at hSw); go_simp; try with_reducible rfl)
  simp only [Act.put, List.setIfInBounds_toArray, List.set_cons_zero, List.set_cons_succ]
  refine abMake1 17 8 HOK.out _ (List.mem_cons_self) rfl rfl rfl (by kernel_rfl) (by kernel_rfl) (by kernel_rfl) ⟨by rfl, .cells #[.bool false, .int .u64 0, .int .u64 0, .bool false, .int .u64 0, .int .u64 0] 52, fun w hSw => ⟨(by (try dsimp only at hSw); go_simp; try with_reducible rfl), Blk.newAt rfl⟩⟩ (fun b8 hb8 nb8 => ?_)
  simp only [Act.put, List.setIfInBounds_toArray, List.set_cons_zero, List.set_cons_succ]
  refine abStore 18 HOK.out _ (List.mem_cons_self) rfl rfl rfl (by kernel_rfl) (by kernel_rfl) (by kernel_rfl) (by kernel_rfl) (by rfl) ?_ ?_
  · rintro w b hSw hg hB hp
    obtain rfl : b = b8 := hg
    replace hp : Blk w b #[.bool false, .int .u64 0, .int .u64 0, .bool false, .int .u64 0, .int .u64 0] := hp
    have x0 : w.cell? ⟨b, 0, none⟩ = some (.bool false) := hp.cell rfl
    have x1 : w.cell? ⟨b, 1, none⟩ = some (.int .u64 0) := hp.cell rfl
    have x2 : w.cell? ⟨b, 2, none⟩ = some (.int .u64 0) := hp.cell rfl
    have x3 : w.cell? ⟨b, 3, none⟩ = some (.bool false) := hp.cell rfl
    have x4 : w.cell? ⟨b, 4, none⟩ = some (.int .u64 0) := hp.cell rfl
    have x5 : w.cell? ⟨b, 5, none⟩ = some (.int .u64 0) := hp.cell rfl
    have y0 := hp.free 0
    have y1 := hp.free 1
    have y2 := hp.free 2
    have y3 := hp.free 3
    have y4 := hp.free 4
    have y5 := hp.free 5
    refine ⟨((((((w.setCell ⟨b, 0, none⟩ (.bool c7)).setCell ⟨b, 1, none⟩ (.int .u64 k7)).setCell ⟨b, 2, none⟩ (.int .u64 l7)).setCell ⟨b, 3, none⟩ (.bool c8)).setCell ⟨b, 4, none⟩ (.int .u64 k8)).setCell ⟨b, 5, none⟩ (.int .u64 l8)), ?_, ((((((hp.set 0 (.bool c7)).set 1 (.int .u64 k7)).set 2 (.int .u64 l7)).set 3 (.bool c8)).set 4 (.int .u64 k8)).set 5 (.int .u64 l8)), (((((((Below.refl _ _).setCell (p := ⟨b, 0, none⟩) hB _).setCell (p := ⟨b, 1, none⟩) hB _).setCell (p := ⟨b, 2, none⟩) hB _).setCell (p := ⟨b, 3, none⟩) hB _).setCell (p := ⟨b, 4, none⟩) hB _).setCell (p := ⟨b, 5, none⟩) hB _), fun k hk => ?_⟩
    · (try dsimp only at hSw); go_simp; try with_reducible rfl
    · exact (Below.heap_setCell _ _ _ _ hk).trans ((Below.heap_setCell _ _ _ _ hk).trans ((Below.heap_setCell _ _ _ _ hk).trans ((Below.heap_setCell _ _ _ _ hk).trans ((Below.heap_setCell _ _ _ _ hk).trans ((Below.heap_setCell _ _ _ _ hk))))))
  refine abDone (by kernel_rfl) ?_ _
  rintro w4 hS
  have ks := sof_post hS _ (List.mem_cons_self) (by kernel_rfl) (by kernel_rfl) (b := b8) rfl
  have HMw4 := Lib.hid ((hS.1.2.2.2.2.2.2.2.2.2.2.2.2.out).join ks.2.2 ks.1 hlts hlow)
  clear hS HOK HF HMK hlts hlow lty ltx ltr ltb lta ks hb8
  have ls : b8 < w4.heap.size := HMw4.out.lt 0 rfl
  have cs0 : w4.cell? ⟨b8, 0, none⟩ = some (.bool c7) := HMw4.out.cell 0 rfl rfl
  have cs1 : w4.cell? ⟨b8, 1, none⟩ = some (.int .u64 k7) := HMw4.out.cell 0 rfl rfl
  have cs2 : w4.cell? ⟨b8, 2, none⟩ = some (.int .u64 l7) := HMw4.out.cell 0 rfl rfl
  have cs3 : w4.cell? ⟨b8, 3, none⟩ = some (.bool c8) := HMw4.out.cell 0 rfl rfl
  have cs4 : w4.cell? ⟨b8, 4, none⟩ = some (.int .u64 k8) := HMw4.out.cell 0 rfl rfl
  have cs5 : w4.cell? ⟨b8, 5, none⟩ = some (.int .u64 l8) := HMw4.out.cell 0 rfl rfl
  go_wp2_with fail
  refine (M9.out _).mono ?_
  rintro e w5 ⟨rfl, hb⟩
  have HMw5 := Lib.hid (HMw4.out.call hb)
  clear hb ls cs0 cs1 cs2 cs3 cs4 cs5 HMw4
  have lr : (w.heap.size + 1 + 1) < w5.heap.size := HMw5.out.lt 3 rfl
  have cr0 : w5.cell? ⟨(w.heap.size + 1 + 1), 0, none⟩ = some (.int .i64 0) := HMw5.out.cell 3 rfl rfl
  have fr0 : w5.frozen? ⟨(w.heap.size + 1 + 1), 0, none⟩ = false := HMw5.out.free 3 rfl 0
  have cr1 : w5.cell? ⟨(w.heap.size + 1 + 1), 1, none⟩ = some (.int .i64 0) := HMw5.out.cell 3 rfl rfl
  have fr1 : w5.frozen? ⟨(w.heap.size + 1 + 1), 1, none⟩ = false := HMw5.out.free 3 rfl 1
  go_wp2_with fail
  exact bodyPost_ret (v := .tuple #[.agg #[.int .i64 x, .int .i64 y], .int .i64 e]) (by simp [results, Try.results14, go_sem, cr0, cr1]) rfl ⟨rfl, (((HMw5.out.set 3 0 (.int .i64 x) rfl).set 3 1 (.int .i64 y) rfl).to (l' := [(b8, #[.bool c7, .int .u64 k7, .int .u64 l7, .bool c8, .int .u64 k8, .int .u64 l8]), (b7, #[.bool c3, .int .u64 k3, .int .u64 l3, .bool c4, .int .u64 k4, .int .u64 l4]), (b6, #[.bool c1, .int .u64 k1, .int .u64 l1, .bool c2, .int .u64 k2, .int .u64 l2]), ((w.heap.size + 1 + 1), #[.int .i64 x, .int .i64 y]), ((w.heap.size + 1), #[.int .i64 b1, .int .i64 b2]), (w.heap.size, #[.int .i64 a1, .int .i64 a2])]) rfl).low⟩
theorem qmul_arg1 (a1 a2 b1 b2 : Int) (w : World)
    (m1 : ∀ w, Calls Try.prog 9 #[.agg #[.int .i64 a1, .int .i64 a2]] w fun en w' => en = .returned (.bool false) ∧ Below w.heap.size w w') :
    Calls Try.prog 15 #[.agg #[.int .i64 a1, .int .i64 a2], .agg #[.int .i64 b1, .int .i64 b2]] w fun en w' => en = .returned (.tuple #[.agg #[.int .i64 0, .int .i64 0], .int .i64 1]) ∧ Below w.heap.size w w' := by
  have M1 := Lib.hid m1
  clear m1
  go_enter Try.func15, Try.ntmps15
  go_wp2_with fail
  refine (M1.out _).mono ?_
  rintro e w1 ⟨rfl, hb⟩
  have HMw1 := Lib.hid (((((Mem.start w).new w.heap.size _ _ rfl).new (w.heap.size + 1) _ _ (by simp)).new (w.heap.size + 1 + 1) _ _ (by simp)).call hb)
  clear hb
  have lr : (w.heap.size + 1 + 1) < w1.heap.size := HMw1.out.lt 0 rfl
  have cr0 : w1.cell? ⟨(w.heap.size + 1 + 1), 0, none⟩ = some (.int .i64 0) := HMw1.out.cell 0 rfl rfl
  have fr0 : w1.frozen? ⟨(w.heap.size + 1 + 1), 0, none⟩ = false := HMw1.out.free 0 rfl 0
  have cr1 : w1.cell? ⟨(w.heap.size + 1 + 1), 1, none⟩ = some (.int .i64 0) := HMw1.out.cell 0 rfl rfl
  have fr1 : w1.frozen? ⟨(w.heap.size + 1 + 1), 1, none⟩ = false := HMw1.out.free 0 rfl 1
  go_wp2_with fail
  exact bodyPost_ret (v := .tuple #[.agg #[.int .i64 0, .int .i64 0], .int .i64 1]) (by simp [results, Try.results15, go_sem, cr0, cr1]) rfl ⟨rfl, (((HMw1.out.set 0 0 (.int .i64 0) rfl).set 0 1 (.int .i64 0) rfl).to (l' := [((w.heap.size + 1 + 1), #[.int .i64 0, .int .i64 0]), ((w.heap.size + 1), #[.int .i64 b1, .int .i64 b2]), (w.heap.size, #[.int .i64 a1, .int .i64 a2])]) rfl).low⟩
theorem qmul_arg2 (a1 a2 b1 b2 : Int) (w : World)
    (m1 : ∀ w, Calls Try.prog 9 #[.agg #[.int .i64 a1, .int .i64 a2]] w fun en w' => en = .returned (.bool true) ∧ Below w.heap.size w w')
    (m2 : ∀ w, Calls Try.prog 9 #[.agg #[.int .i64 b1, .int .i64 b2]] w fun en w' => en = .returned (.bool false) ∧ Below w.heap.size w w') :
    Calls Try.prog 15 #[.agg #[.int .i64 a1, .int .i64 a2], .agg #[.int .i64 b1, .int .i64 b2]] w fun en w' => en = .returned (.tuple #[.agg #[.int .i64 0, .int .i64 0], .int .i64 1]) ∧ Below w.heap.size w w' := by
  have M1 := Lib.hid m1; have M2 := Lib.hid m2
  clear m1 m2
  go_enter Try.func15, Try.ntmps15
  go_wp2_with fail
  refine (M1.out _).mono ?_
  rintro e w1 ⟨rfl, hb⟩
  have HMw1 := Lib.hid (((((Mem.start w).new w.heap.size _ _ rfl).new (w.heap.size + 1) _ _ (by simp)).new (w.heap.size + 1 + 1) _ _ (by simp)).call hb)
  clear hb
  have lb : (w.heap.size + 1) < w1.heap.size := HMw1.out.lt 1 rfl
  have cb0 : w1.cell? ⟨(w.heap.size + 1), 0, none⟩ = some (.int .i64 b1) := HMw1.out.cell 1 rfl rfl
  have cb1 : w1.cell? ⟨(w.heap.size + 1), 1, none⟩ = some (.int .i64 b2) := HMw1.out.cell 1 rfl rfl
  go_wp2_with fail
  refine (M2.out _).mono ?_
  rintro e w2 ⟨rfl, hb⟩
  have HMw2 := Lib.hid (HMw1.out.call hb)
  clear hb lb cb0 cb1 HMw1
  have lr : (w.heap.size + 1 + 1) < w2.heap.size := HMw2.out.lt 0 rfl
  have cr0 : w2.cell? ⟨(w.heap.size + 1 + 1), 0, none⟩ = some (.int .i64 0) := HMw2.out.cell 0 rfl rfl
  have fr0 : w2.frozen? ⟨(w.heap.size + 1 + 1), 0, none⟩ = false := HMw2.out.free 0 rfl 0
  have cr1 : w2.cell? ⟨(w.heap.size + 1 + 1), 1, none⟩ = some (.int .i64 0) := HMw2.out.cell 0 rfl rfl
  have fr1 : w2.frozen? ⟨(w.heap.size + 1 + 1), 1, none⟩ = false := HMw2.out.free 0 rfl 1
  go_wp2_with fail
  exact bodyPost_ret (v := .tuple #[.agg #[.int .i64 0, .int .i64 0], .int .i64 1]) (by simp [results, Try.results15, go_sem, cr0, cr1]) rfl ⟨rfl, (((HMw2.out.set 0 0 (.int .i64 0) rfl).set 0 1 (.int .i64 0) rfl).to (l' := [((w.heap.size + 1 + 1), #[.int .i64 0, .int .i64 0]), ((w.heap.size + 1), #[.int .i64 b1, .int .i64 b2]), (w.heap.size, #[.int .i64 a1, .int .i64 a2])]) rfl).low⟩
set_option maxHeartbeats 2000000 in
theorem qmul_core (a1 a2 b1 b2 : Int) (c1 c2 c3 c4 c5 c6 : Bool) (k1 l1 k2 l2 k3 l3 k4 l4 k5 l5 k6 l6 : Int) (x y e : Int) (w : World)
    (m1 : ∀ w, Calls Try.prog 9 #[.agg #[.int .i64 a1, .int .i64 a2]] w fun en w' => en = .returned (.bool true) ∧ Below w.heap.size w w')
    (m2 : ∀ w, Calls Try.prog 9 #[.agg #[.int .i64 b1, .int .i64 b2]] w fun en w' => en = .returned (.bool true) ∧ Below w.heap.size w w')
    (m3 : ∀ w, Calls Try.prog 23 #[.int .i64 a1, .int .i64 a2] w fun en w' => en = .returned (.agg #[.bool c1, .int .u64 k1, .int .u64 l1, .bool c2, .int .u64 k2, .int .u64 l2]) ∧ Below w.heap.size w w')
    (m4 : ∀ w, Calls Try.prog 23 #[.int .i64 b1, .int .i64 b2] w fun en w' => en = .returned (.agg #[.bool c3, .int .u64 k3, .int .u64 l3, .bool c4, .int .u64 k4, .int .u64 l4]) ∧ Below w.heap.size w w')
    (m5 : ∀ w, Calls Try.prog 31 #[.agg #[.bool c1, .int .u64 k1, .int .u64 l1], .agg #[.bool c3, .int .u64 k3, .int .u64 l3]] w fun en w' => en = .returned (.agg #[.bool c5, .int .u64 k5, .int .u64 l5]) ∧ Below w.heap.size w w')
    (m6 : ∀ w, Calls Try.prog 31 #[.agg #[.bool c2, .int .u64 k2, .int .u64 l2], .agg #[.bool c4, .int .u64 k4, .int .u64 l4]] w fun en w' => en = .returned (.agg #[.bool c6, .int .u64 k6, .int .u64 l6]) ∧ Below w.heap.size w w')
    (m7 : ∀ w, Calls Try.prog 24 #[.agg #[.bool c5, .int .u64 k5, .int .u64 l5, .bool c6, .int .u64 k6, .int .u64 l6]] w fun en w' => en = .returned (.tuple #[.agg #[.int .i64 x, .int .i64 y], .int .i64 e]) ∧ Below w.heap.size w w') :
    Calls Try.prog 15 #[.agg #[.int .i64 a1, .int .i64 a2], .agg #[.int .i64 b1, .int .i64 b2]] w fun en w' => en = .returned (.tuple #[.agg #[.int .i64 x, .int .i64 y], .int .i64 e]) ∧ Below w.heap.size w w' := by
  have M1 := Lib.hid m1; have M2 := Lib.hid m2; have M3 := Lib.hid m3; have M4 := Lib.hid m4; have M5 := Lib.hid m5; have M6 := Lib.hid m6; have M7 := Lib.hid m7
  clear m1 m2 m3 m4 m5 m6 m7
  go_enter Try.func15, Try.ntmps15
  go_wp2_with fail
  refine (M1.out _).mono ?_
  rintro e w1 ⟨rfl, hb⟩
  have HMw1 := Lib.hid (((((Mem.start w).new w.heap.size _ _ rfl).new (w.heap.size + 1) _ _ (by simp)).new (w.heap.size + 1 + 1) _ _ (by simp)).call hb)
  clear hb
  have lb : (w.heap.size + 1) < w1.heap.size := HMw1.out.lt 1 rfl
  have cb0 : w1.cell? ⟨(w.heap.size + 1), 0, none⟩ = some (.int .i64 b1) := HMw1.out.cell 1 rfl rfl
  have cb1 : w1.cell? ⟨(w.heap.size + 1), 1, none⟩ = some (.int .i64 b2) := HMw1.out.cell 1 rfl rfl
  go_wp2_with fail
  refine (M2.out _).mono ?_
  rintro e w2 ⟨rfl, hb⟩
  have HMw2 := Lib.hid (HMw1.out.call hb)
  clear hb lb cb0 cb1 HMw1
  go_upto_region 3 with fail
  have hm : Mem w w2 [((w.heap.size + 1 + 1), #[.int .i64 0, .int .i64 0]), ((w.heap.size + 1), #[.int .i64 b1, .int .i64 b2]), (w.heap.size, #[.int .i64 a1, .int .i64 a2])] := HMw2.out
  clear HMw2
  have mk : ∀ w', Mem w w' [((w.heap.size + 1 + 1), #[.int .i64 0, .int .i64 0]), ((w.heap.size + 1), #[.int .i64 b1, .int .i64 b2]), (w.heap.size, #[.int .i64 a1, .int .i64 a2])] → (fun w' => w'.cell? ⟨w.heap.size, 0, none⟩ = some (.int .i64 a1) ∧ w'.cell? ⟨w.heap.size, 1, none⟩ = some (.int .i64 a2) ∧ w'.cell? ⟨(w.heap.size + 1), 0, none⟩ = some (.int .i64 b1) ∧ w'.cell? ⟨(w.heap.size + 1), 1, none⟩ = some (.int .i64 b2) ∧ Hid (Mem w w' [((w.heap.size + 1 + 1), #[.int .i64 0, .int .i64 0]), ((w.heap.size + 1), #[.int .i64 b1, .int .i64 b2]), (w.heap.size, #[.int .i64 a1, .int .i64 a2])])) w' := fun w' h => ⟨h.cell 2 rfl rfl, h.cell 2 rfl rfl, h.cell 1 rfl rfl, h.cell 1 rfl rfl, Lib.hid h⟩
  have hok : OwnOk (fun w' => w'.cell? ⟨w.heap.size, 0, none⟩ = some (.int .i64 a1) ∧ w'.cell? ⟨w.heap.size, 1, none⟩ = some (.int .i64 a2) ∧ w'.cell? ⟨(w.heap.size + 1), 0, none⟩ = some (.int .i64 b1) ∧ w'.cell? ⟨(w.heap.size + 1), 1, none⟩ = some (.int .i64 b2) ∧ Hid (Mem w w' [((w.heap.size + 1 + 1), #[.int .i64 0, .int .i64 0]), ((w.heap.size + 1), #[.int .i64 b1, .int .i64 b2]), (w.heap.size, #[.int .i64 a1, .int .i64 a2])])) w2.heap.size [⟨10, 12, fun w b => Blk w b #[.bool false, .int .u64 0, .int .u64 0, .bool false, .int .u64 0, .int .u64 0], fun w b => Blk w b #[.bool c1, .int .u64 k1, .int .u64 l1, .bool c2, .int .u64 k2, .int .u64 l2]⟩, ⟨11, 13, fun w b => Blk w b #[.bool false, .int .u64 0, .int .u64 0, .bool false, .int .u64 0, .int .u64 0], fun w b => Blk w b #[.bool c3, .int .u64 k3, .int .u64 l3, .bool c4, .int .u64 k4, .int .u64 l4]⟩] := own2_ok (fun v1 v2 h hb => mk _ (h.2.2.2.2.out.step hb hm.lts hm.low.size)) ⟨Blk.local _, Blk.local _⟩ ⟨Blk.local _, Blk.local _⟩ (by simp) (by simp) (by simp)
  have hfit : ∀ i, (∀ e ∈ ([⟨10, 12, fun w b => Blk w b #[.bool false, .int .u64 0, .int .u64 0, .bool false, .int .u64 0, .int .u64 0], fun w b => Blk w b #[.bool c1, .int .u64 k1, .int .u64 l1, .bool c2, .int .u64 k2, .int .u64 l2]⟩, ⟨11, 13, fun w b => Blk w b #[.bool false, .int .u64 0, .int .u64 0, .bool false, .int .u64 0, .int .u64 0], fun w b => Blk w b #[.bool c3, .int .u64 k3, .int .u64 l3, .bool c4, .int .u64 k4, .int .u64 l4]⟩] : List Ent), e.x ≠ i ∧ e.s ≠ i) → Fit (fun w' => w'.cell? ⟨w.heap.size, 0, none⟩ = some (.int .i64 a1) ∧ w'.cell? ⟨w.heap.size, 1, none⟩ = some (.int .i64 a2) ∧ w'.cell? ⟨(w.heap.size + 1), 0, none⟩ = some (.int .i64 b1) ∧ w'.cell? ⟨(w.heap.size + 1), 1, none⟩ = some (.int .i64 b2) ∧ Hid (Mem w w' [((w.heap.size + 1 + 1), #[.int .i64 0, .int .i64 0]), ((w.heap.size + 1), #[.int .i64 b1, .int .i64 b2]), (w.heap.size, #[.int .i64 a1, .int .i64 a2])])) (Sof (fun w' => w'.cell? ⟨w.heap.size, 0, none⟩ = some (.int .i64 a1) ∧ w'.cell? ⟨w.heap.size, 1, none⟩ = some (.int .i64 a2) ∧ w'.cell? ⟨(w.heap.size + 1), 0, none⟩ = some (.int .i64 b1) ∧ w'.cell? ⟨(w.heap.size + 1), 1, none⟩ = some (.int .i64 b2) ∧ Hid (Mem w w' [((w.heap.size + 1 + 1), #[.int .i64 0, .int .i64 0]), ((w.heap.size + 1), #[.int .i64 b1, .int .i64 b2]), (w.heap.size, #[.int .i64 a1, .int .i64 a2])])) w2.heap.size [⟨10, 12, fun w b => Blk w b #[.bool false, .int .u64 0, .int .u64 0, .bool false, .int .u64 0, .int .u64 0], fun w b => Blk w b #[.bool c1, .int .u64 k1, .int .u64 l1, .bool c2, .int .u64 k2, .int .u64 l2]⟩, ⟨11, 13, fun w b => Blk w b #[.bool false, .int .u64 0, .int .u64 0, .bool false, .int .u64 0, .int .u64 0], fun w b => Blk w b #[.bool c3, .int .u64 k3, .int .u64 l3, .bool c4, .int .u64 k4, .int .u64 l4]⟩]) i := fun i hi => sof_fit hok.st hok.loc hi
  have HOK := Lib.hid hok; have HF := Lib.hid hfit; clear hok hfit
  refine wp_region_ab (S0 := (fun w' => w'.cell? ⟨w.heap.size, 0, none⟩ = some (.int .i64 a1) ∧ w'.cell? ⟨w.heap.size, 1, none⟩ = some (.int .i64 a2) ∧ w'.cell? ⟨(w.heap.size + 1), 0, none⟩ = some (.int .i64 b1) ∧ w'.cell? ⟨(w.heap.size + 1), 1, none⟩ = some (.int .i64 b2) ∧ Hid (Mem w w' [((w.heap.size + 1 + 1), #[.int .i64 0, .int .i64 0]), ((w.heap.size + 1), #[.int .i64 b1, .int .i64 b2]), (w.heap.size, #[.int .i64 a1, .int .i64 a2])]))) w2.heap.size [⟨10, 12, fun w b => Blk w b #[.bool false, .int .u64 0, .int .u64 0, .bool false, .int .u64 0, .int .u64 0], fun w b => Blk w b #[.bool c1, .int .u64 k1, .int .u64 l1, .bool c2, .int .u64 k2, .int .u64 l2]⟩, ⟨11, 13, fun w b => Blk w b #[.bool false, .int .u64 0, .int .u64 0, .bool false, .int .u64 0, .int .u64 0], fun w b => Blk w b #[.bool c3, .int .u64 k3, .int .u64 l3, .bool c4, .int .u64 k4, .int .u64 l4]⟩] (by kernel_rfl) (mk _ hm.drew) (Nat.le_refl _) (by simp) ?_
  have hlts := hm.lts; have hlow := hm.low.size
  have ltr : (w.heap.size + 1 + 1) < w2.heap.size := hm.lt 0 rfl
  have ltb : (w.heap.size + 1) < w2.heap.size := hm.lt 1 rfl
  have lta : w.heap.size < w2.heap.size := hm.lt 2 rfl
  have HMK := Lib.hid mk
  clear hm mk
  refine abTake 0 (some 18) (v := ?_) rfl rfl (by kernel_rfl) (by kernel_rfl) (by kernel_rfl) (fun _ _ _ h => h) (HF.out _ (by simp)) (by rfl) ?_ ?_
  rotate_left 1
  · (intro w hSw; (try dsimp only at hSw); go_simp; try with_reducible rfl)
  simp only [Act.put, List.setIfInBounds_toArray, List.set_cons_zero, List.set_cons_succ]
  refine abTake 1 (some 19) (v := ?_) rfl rfl (by kernel_rfl) (by kernel_rfl) (by kernel_rfl) (fun _ _ _ h => h) (HF.out _ (by simp)) (by rfl) ?_ ?_
  rotate_left 1
  · (intro w hSw; (try dsimp only at hSw); go_simp; try with_reducible rfl)
  simp only [Act.put, List.setIfInBounds_toArray, List.set_cons_zero, List.set_cons_succ]
  refine abTake 2 (some 20) (v := ?_) rfl rfl (by kernel_rfl) (by kernel_rfl) (by kernel_rfl) (fun _ _ _ h => h) (HF.out _ (by simp)) (by rfl) ?_ ?_
  rotate_left 1
  · (intro w hSw; (try dsimp only at hSw); go_simp; try with_reducible rfl)
  simp only [Act.put, List.setIfInBounds_toArray, List.set_cons_zero, List.set_cons_succ]
  refine abTake 3 (some 21) (v := ?_) rfl rfl (by kernel_rfl) (by kernel_rfl) (by kernel_rfl) (fun _ _ _ h => h) (HF.out _ (by simp)) (by rfl) ?_ ?_
  rotate_left 1
  · (intro w hSw; (try dsimp only at hSw); go_simp; try with_reducible rfl)
  simp only [Act.put, List.setIfInBounds_toArray, List.set_cons_zero, List.set_cons_succ]
  refine abCall 4 (some 22) rfl rfl (by kernel_rfl) (by kernel_rfl) (by kernel_rfl) (fun _ _ _ h => h) (HF.out _ (by simp)) (by rfl) ?_ (fun w hSw => M3.out _) ?_
  · (intro w hSw; (try dsimp only at hSw); go_simp; try with_reducible rfl)
  simp only [Act.put, List.setIfInBounds_toArray, List.set_cons_zero, List.set_cons_succ]
  refine abTake 5 (some 23) (v := ?_) rfl rfl (by kernel_rfl) (by kernel_rfl) (by kernel_rfl) (fun _ _ _ h => h) (HF.out _ (by simp)) (by rfl) ?_ ?_
  rotate_left 1
  · (intro w hSw; (try dsimp only at hSw); go_simp; try with_reducible rfl)
  simp only [Act.put, List.setIfInBounds_toArray, List.set_cons_zero, List.set_cons_succ]
  refine abTake 6 (some 24) (v := ?_) rfl rfl (by kernel_rfl) (by kernel_rfl) (by kernel_rfl) (fun _ _ _ h => h) (HF.out _ (by simp)) (by rfl) ?_ ?_
  rotate_left 1
  · (intro w hSw; (try dsimp only at hSw); go_simp; try with_reducible rfl)
  simp only [Act.put, List.setIfInBounds_toArray, List.set_cons_zero, List.set_cons_succ]
  refine abTake 7 (some 25) (v := ?_) rfl rfl (by kernel_rfl) (by kernel_rfl) (by kernel_rfl) (fun _ _ _ h => h) (HF.out _ (by simp)) (by rfl) ?_ ?_
  rotate_left 1
  · (intro w hSw; (try dsimp only at hSw); go_simp; try with_reducible rfl)
  simp only [Act.put, List.setIfInBounds_toArray, List.set_cons_zero, List.set_cons_succ]
  refine abTake 8 (some 26) (v := ?_) rfl rfl (by kernel_rfl) (by kernel_rfl) (by kernel_rfl) (fun _ _ _ h => h) (HF.out _ (by simp)) (by rfl) ?_ ?_
  rotate_left 1
  · (intro w hSw; (try dsimp only at hSw); go_simp; try with_reducible rfl)
  simp only [Act.put, List.setIfInBounds_toArray, List.set_cons_zero, List.set_cons_succ]
  refine abCall 9 (some 27) rfl rfl (by kernel_rfl) (by kernel_rfl) (by kernel_rfl) (fun _ _ _ h => h) (HF.out _ (by simp)) (by rfl) ?_ (fun w hSw => M4.out _) ?_
  · (intro w hSw; (try dsimp only at hSw); go_simp; try with_reducible rfl)
  simp only [Act.put, List.setIfInBounds_toArray, List.set_cons_zero, List.set_cons_succ]
  refine abMake2 10 11 6 7 HOK.out _ _ (List.mem_cons_self) (List.mem_cons_of_mem _ (List.mem_cons_self)) rfl rfl rfl rfl rfl rfl (by kernel_rfl) (by kernel_rfl) (by kernel_rfl) (by kernel_rfl) (by decide) (by simp) (by kernel_rfl) (by kernel_rfl) (by kernel_rfl) (by kernel_rfl) (by kernel_rfl) (by kernel_rfl) ⟨by rfl, .cells #[.bool false, .int .u64 0, .int .u64 0, .bool false, .int .u64 0, .int .u64 0] 52, fun w hSw => ⟨(by (try dsimp only at hSw); go_simp; try with_reducible rfl), Blk.newAt rfl⟩⟩ ⟨by rfl, .cells #[.bool false, .int .u64 0, .int .u64 0, .bool false, .int .u64 0, .int .u64 0] 52, fun w hSw => ⟨(by (try dsimp only at hSw); go_simp; try with_reducible rfl), Blk.newAt rfl⟩⟩ (fun b6 b7 hb6 hb7 nb6 => ?_)
  simp only [Act.put, List.setIfInBounds_toArray, List.set_cons_zero, List.set_cons_succ]
  refine abStore 12 HOK.out _ (List.mem_cons_self) rfl rfl rfl (by kernel_rfl) (by kernel_rfl) (by kernel_rfl) (by kernel_rfl) (by rfl) ?_ ?_
  · rintro w b hSw hg hB hp
    obtain rfl : b = b6 := hg
    replace hp : Blk w b #[.bool false, .int .u64 0, .int .u64 0, .bool false, .int .u64 0, .int .u64 0] := hp
    have x0 : w.cell? ⟨b, 0, none⟩ = some (.bool false) := hp.cell rfl
    have x1 : w.cell? ⟨b, 1, none⟩ = some (.int .u64 0) := hp.cell rfl
    have x2 : w.cell? ⟨b, 2, none⟩ = some (.int .u64 0) := hp.cell rfl
    have x3 : w.cell? ⟨b, 3, none⟩ = some (.bool false) := hp.cell rfl
    have x4 : w.cell? ⟨b, 4, none⟩ = some (.int .u64 0) := hp.cell rfl
    have x5 : w.cell? ⟨b, 5, none⟩ = some (.int .u64 0) := hp.cell rfl
    have y0 := hp.free 0
    have y1 := hp.free 1
    have y2 := hp.free 2
    have y3 := hp.free 3
    have y4 := hp.free 4
    have y5 := hp.free 5
    refine ⟨((((((w.setCell ⟨b, 0, none⟩ (.bool c1)).setCell ⟨b, 1, none⟩ (.int .u64 k1)).setCell ⟨b, 2, none⟩ (.int .u64 l1)).setCell ⟨b, 3, none⟩ (.bool c2)).setCell ⟨b, 4, none⟩ (.int .u64 k2)).setCell ⟨b, 5, none⟩ (.int .u64 l2)), ?_, ((((((hp.set 0 (.bool c1)).set 1 (.int .u64 k1)).set 2 (.int .u64 l1)).set 3 (.bool c2)).set 4 (.int .u64 k2)).set 5 (.int .u64 l2)), (((((((Below.refl _ _).setCell (p := ⟨b, 0, none⟩) hB _).setCell (p := ⟨b, 1, none⟩) hB _).setCell (p := ⟨b, 2, none⟩) hB _).setCell (p := ⟨b, 3, none⟩) hB _).setCell (p := ⟨b, 4, none⟩) hB _).setCell (p := ⟨b, 5, none⟩) hB _), fun k hk => ?_⟩
    · (try dsimp only at hSw); go_simp; try with_reducible rfl
    · exact (Below.heap_setCell _ _ _ _ hk).trans ((Below.heap_setCell _ _ _ _ hk).trans ((Below.heap_setCell _ _ _ _ hk).trans ((Below.heap_setCell _ _ _ _ hk).trans ((Below.heap_setCell _ _ _ _ hk).trans ((Below.heap_setCell _ _ _ _ hk))))))
  refine abStore 13 HOK.out _ (List.mem_cons_of_mem _ (List.mem_cons_self)) rfl rfl rfl (by kernel_rfl) (by kernel_rfl) (by kernel_rfl) (by kernel_rfl) (by rfl) ?_ ?_
  · rintro w b hSw hg hB hp
    obtain rfl : b = b7 := hg
    replace hp : Blk w b #[.bool false, .int .u64 0, .int .u64 0, .bool false, .int .u64 0, .int .u64 0] := hp
    have x0 : w.cell? ⟨b, 0, none⟩ = some (.bool false) := hp.cell rfl
    have x1 : w.cell? ⟨b, 1, none⟩ = some (.int .u64 0) := hp.cell rfl
    have x2 : w.cell? ⟨b, 2, none⟩ = some (.int .u64 0) := hp.cell rfl
    have x3 : w.cell? ⟨b, 3, none⟩ = some (.bool false) := hp.cell rfl
    have x4 : w.cell? ⟨b, 4, none⟩ = some (.int .u64 0) := hp.cell rfl
    have x5 : w.cell? ⟨b, 5, none⟩ = some (.int .u64 0) := hp.cell rfl
    have y0 := hp.free 0
    have y1 := hp.free 1
    have y2 := hp.free 2
    have y3 := hp.free 3
    have y4 := hp.free 4
    have y5 := hp.free 5
    refine ⟨((((((w.setCell ⟨b, 0, none⟩ (.bool c3)).setCell ⟨b, 1, none⟩ (.int .u64 k3)).setCell ⟨b, 2, none⟩ (.int .u64 l3)).setCell ⟨b, 3, none⟩ (.bool c4)).setCell ⟨b, 4, none⟩ (.int .u64 k4)).setCell ⟨b, 5, none⟩ (.int .u64 l4)), ?_, ((((((hp.set 0 (.bool c3)).set 1 (.int .u64 k3)).set 2 (.int .u64 l3)).set 3 (.bool c4)).set 4 (.int .u64 k4)).set 5 (.int .u64 l4)), (((((((Below.refl _ _).setCell (p := ⟨b, 0, none⟩) hB _).setCell (p := ⟨b, 1, none⟩) hB _).setCell (p := ⟨b, 2, none⟩) hB _).setCell (p := ⟨b, 3, none⟩) hB _).setCell (p := ⟨b, 4, none⟩) hB _).setCell (p := ⟨b, 5, none⟩) hB _), fun k hk => ?_⟩
    · (try dsimp only at hSw); go_simp; try with_reducible rfl
    · exact (Below.heap_setCell _ _ _ _ hk).trans ((Below.heap_setCell _ _ _ _ hk).trans ((Below.heap_setCell _ _ _ _ hk).trans ((Below.heap_setCell _ _ _ _ hk).trans ((Below.heap_setCell _ _ _ _ hk).trans ((Below.heap_setCell _ _ _ _ hk))))))
  refine abDone (by kernel_rfl) ?_ _
  rintro w3 hS
  have kx := sof_post hS _ (List.mem_cons_self) (by kernel_rfl) (by kernel_rfl) (b := b6) rfl
  have ky := sof_post hS _ (List.mem_cons_of_mem _ (List.mem_cons_self)) (by kernel_rfl) (by kernel_rfl) (b := b7) rfl
  have HMw3 := Lib.hid ((hS.1.2.2.2.2.out).join2 kx.2.2 kx.1 ky.2.2 ky.1 nb6 hlts hlow)
  clear hS HOK HF HMK hlts hlow ltr ltb lta kx ky hb6 hb7
  go_upto_region 4 with fail
  have hm : Mem w w3 [(b7, #[.bool c3, .int .u64 k3, .int .u64 l3, .bool c4, .int .u64 k4, .int .u64 l4]), (b6, #[.bool c1, .int .u64 k1, .int .u64 l1, .bool c2, .int .u64 k2, .int .u64 l2]), ((w.heap.size + 1 + 1), #[.int .i64 0, .int .i64 0]), ((w.heap.size + 1), #[.int .i64 b1, .int .i64 b2]), (w.heap.size, #[.int .i64 a1, .int .i64 a2])] := HMw3.out
  clear HMw3
  have mk : ∀ w', Mem w w' [(b7, #[.bool c3, .int .u64 k3, .int .u64 l3, .bool c4, .int .u64 k4, .int .u64 l4]), (b6, #[.bool c1, .int .u64 k1, .int .u64 l1, .bool c2, .int .u64 k2, .int .u64 l2]), ((w.heap.size + 1 + 1), #[.int .i64 0, .int .i64 0]), ((w.heap.size + 1), #[.int .i64 b1, .int .i64 b2]), (w.heap.size, #[.int .i64 a1, .int .i64 a2])] → (fun w' => w'.cell? ⟨b6, 0, none⟩ = some (.bool c1) ∧ w'.cell? ⟨b6, 1, none⟩ = some (.int .u64 k1) ∧ w'.cell? ⟨b6, 2, none⟩ = some (.int .u64 l1) ∧ w'.cell? ⟨b6, 3, none⟩ = some (.bool c2) ∧ w'.cell? ⟨b6, 4, none⟩ = some (.int .u64 k2) ∧ w'.cell? ⟨b6, 5, none⟩ = some (.int .u64 l2) ∧ w'.cell? ⟨b7, 0, none⟩ = some (.bool c3) ∧ w'.cell? ⟨b7, 1, none⟩ = some (.int .u64 k3) ∧ w'.cell? ⟨b7, 2, none⟩ = some (.int .u64 l3) ∧ w'.cell? ⟨b7, 3, none⟩ = some (.bool c4) ∧ w'.cell? ⟨b7, 4, none⟩ = some (.int .u64 k4) ∧ w'.cell? ⟨b7, 5, none⟩ = some (.int .u64 l4) ∧ Hid (Mem w w' [(b7, #[.bool c3, .int .u64 k3, .int .u64 l3, .bool c4, .int .u64 k4, .int .u64 l4]), (b6, #[.bool c1, .int .u64 k1, .int .u64 l1, .bool c2, .int .u64 k2, .int .u64 l2]), ((w.heap.size + 1 + 1), #[.int .i64 0, .int .i64 0]), ((w.heap.size + 1), #[.int .i64 b1, .int .i64 b2]), (w.heap.size, #[.int .i64 a1, .int .i64 a2])])) w' := fun w' h => ⟨h.cell 1 rfl rfl, h.cell 1 rfl rfl, h.cell 1 rfl rfl, h.cell 1 rfl rfl, h.cell 1 rfl rfl, h.cell 1 rfl rfl, h.cell 0 rfl rfl, h.cell 0 rfl rfl, h.cell 0 rfl rfl, h.cell 0 rfl rfl, h.cell 0 rfl rfl, h.cell 0 rfl rfl, Lib.hid h⟩
  have hok : OwnOk (fun w' => w'.cell? ⟨b6, 0, none⟩ = some (.bool c1) ∧ w'.cell? ⟨b6, 1, none⟩ = some (.int .u64 k1) ∧ w'.cell? ⟨b6, 2, none⟩ = some (.int .u64 l1) ∧ w'.cell? ⟨b6, 3, none⟩ = some (.bool c2) ∧ w'.cell? ⟨b6, 4, none⟩ = some (.int .u64 k2) ∧ w'.cell? ⟨b6, 5, none⟩ = some (.int .u64 l2) ∧ w'.cell? ⟨b7, 0, none⟩ = some (.bool c3) ∧ w'.cell? ⟨b7, 1, none⟩ = some (.int .u64 k3) ∧ w'.cell? ⟨b7, 2, none⟩ = some (.int .u64 l3) ∧ w'.cell? ⟨b7, 3, none⟩ = some (.bool c4) ∧ w'.cell? ⟨b7, 4, none⟩ = some (.int .u64 k4) ∧ w'.cell? ⟨b7, 5, none⟩ = some (.int .u64 l4) ∧ Hid (Mem w w' [(b7, #[.bool c3, .int .u64 k3, .int .u64 l3, .bool c4, .int .u64 k4, .int .u64 l4]), (b6, #[.bool c1, .int .u64 k1, .int .u64 l1, .bool c2, .int .u64 k2, .int .u64 l2]), ((w.heap.size + 1 + 1), #[.int .i64 0, .int .i64 0]), ((w.heap.size + 1), #[.int .i64 b1, .int .i64 b2]), (w.heap.size, #[.int .i64 a1, .int .i64 a2])])) w3.heap.size [⟨11, 12, fun w b => Blk w b #[.bool false, .int .u64 0, .int .u64 0, .bool false, .int .u64 0, .int .u64 0], fun w b => Blk w b #[.bool c5, .int .u64 k5, .int .u64 l5, .bool c6, .int .u64 k6, .int .u64 l6]⟩] := own1_ok (fun v1 v2 h hb => mk _ (h.2.2.2.2.2.2.2.2.2.2.2.2.out.step hb hm.lts hm.low.size)) ⟨Blk.local _, Blk.local _⟩ (by simp)
  have hfit : ∀ i, (∀ e ∈ ([⟨11, 12, fun w b => Blk w b #[.bool false, .int .u64 0, .int .u64 0, .bool false, .int .u64 0, .int .u64 0], fun w b => Blk w b #[.bool c5, .int .u64 k5, .int .u64 l5, .bool c6, .int .u64 k6, .int .u64 l6]⟩] : List Ent), e.x ≠ i ∧ e.s ≠ i) → Fit (fun w' => w'.cell? ⟨b6, 0, none⟩ = some (.bool c1) ∧ w'.cell? ⟨b6, 1, none⟩ = some (.int .u64 k1) ∧ w'.cell? ⟨b6, 2, none⟩ = some (.int .u64 l1) ∧ w'.cell? ⟨b6, 3, none⟩ = some (.bool c2) ∧ w'.cell? ⟨b6, 4, none⟩ = some (.int .u64 k2) ∧ w'.cell? ⟨b6, 5, none⟩ = some (.int .u64 l2) ∧ w'.cell? ⟨b7, 0, none⟩ = some (.bool c3) ∧ w'.cell? ⟨b7, 1, none⟩ = some (.int .u64 k3) ∧ w'.cell? ⟨b7, 2, none⟩ = some (.int .u64 l3) ∧ w'.cell? ⟨b7, 3, none⟩ = some (.bool c4) ∧ w'.cell? ⟨b7, 4, none⟩ = some (.int .u64 k4) ∧ w'.cell? ⟨b7, 5, none⟩ = some (.int .u64 l4) ∧ Hid (Mem w w' [(b7, #[.bool c3, .int .u64 k3, .int .u64 l3, .bool c4, .int .u64 k4, .int .u64 l4]), (b6, #[.bool c1, .int .u64 k1, .int .u64 l1, .bool c2, .int .u64 k2, .int .u64 l2]), ((w.heap.size + 1 + 1), #[.int .i64 0, .int .i64 0]), ((w.heap.size + 1), #[.int .i64 b1, .int .i64 b2]), (w.heap.size, #[.int .i64 a1, .int .i64 a2])])) (Sof (fun w' => w'.cell? ⟨b6, 0, none⟩ = some (.bool c1) ∧ w'.cell? ⟨b6, 1, none⟩ = some (.int .u64 k1) ∧ w'.cell? ⟨b6, 2, none⟩ = some (.int .u64 l1) ∧ w'.cell? ⟨b6, 3, none⟩ = some (.bool c2) ∧ w'.cell? ⟨b6, 4, none⟩ = some (.int .u64 k2) ∧ w'.cell? ⟨b6, 5, none⟩ = some (.int .u64 l2) ∧ w'.cell? ⟨b7, 0, none⟩ = some (.bool c3) ∧ w'.cell? ⟨b7, 1, none⟩ = some (.int .u64 k3) ∧ w'.cell? ⟨b7, 2, none⟩ = some (.int .u64 l3) ∧ w'.cell? ⟨b7, 3, none⟩ = some (.bool c4) ∧ w'.cell? ⟨b7, 4, none⟩ = some (.int .u64 k4) ∧ w'.cell? ⟨b7, 5, none⟩ = some (.int .u64 l4) ∧ Hid (Mem w w' [(b7, #[.bool c3, .int .u64 k3, .int .u64 l3, .bool c4, .int .u64 k4, .int .u64 l4]), (b6, #[.bool c1, .int .u64 k1, .int .u64 l1, .bool c2, .int .u64 k2, .int .u64 l2]), ((w.heap.size + 1 + 1), #[.int .i64 0, .int .i64 0]), ((w.heap.size + 1), #[.int .i64 b1, .int .i64 b2]), (w.heap.size, #[.int .i64 a1, .int .i64 a2])])) w3.heap.size [⟨11, 12, fun w b => Blk w b #[.bool false, .int .u64 0, .int .u64 0, .bool false, .int .u64 0, .int .u64 0], fun w b => Blk w b #[.bool c5, .int .u64 k5, .int .u64 l5, .bool c6, .int .u64 k6, .int .u64 l6]⟩]) i := fun i hi => sof_fit hok.st hok.loc hi
  have HOK := Lib.hid hok; have HF := Lib.hid hfit; clear hok hfit
  refine wp_region_ab (S0 := (fun w' => w'.cell? ⟨b6, 0, none⟩ = some (.bool c1) ∧ w'.cell? ⟨b6, 1, none⟩ = some (.int .u64 k1) ∧ w'.cell? ⟨b6, 2, none⟩ = some (.int .u64 l1) ∧ w'.cell? ⟨b6, 3, none⟩ = some (.bool c2) ∧ w'.cell? ⟨b6, 4, none⟩ = some (.int .u64 k2) ∧ w'.cell? ⟨b6, 5, none⟩ = some (.int .u64 l2) ∧ w'.cell? ⟨b7, 0, none⟩ = some (.bool c3) ∧ w'.cell? ⟨b7, 1, none⟩ = some (.int .u64 k3) ∧ w'.cell? ⟨b7, 2, none⟩ = some (.int .u64 l3) ∧ w'.cell? ⟨b7, 3, none⟩ = some (.bool c4) ∧ w'.cell? ⟨b7, 4, none⟩ = some (.int .u64 k4) ∧ w'.cell? ⟨b7, 5, none⟩ = some (.int .u64 l4) ∧ Hid (Mem w w' [(b7, #[.bool c3, .int .u64 k3, .int .u64 l3, .bool c4, .int .u64 k4, .int .u64 l4]), (b6, #[.bool c1, .int .u64 k1, .int .u64 l1, .bool c2, .int .u64 k2, .int .u64 l2]), ((w.heap.size + 1 + 1), #[.int .i64 0, .int .i64 0]), ((w.heap.size + 1), #[.int .i64 b1, .int .i64 b2]), (w.heap.size, #[.int .i64 a1, .int .i64 a2])]))) w3.heap.size [⟨11, 12, fun w b => Blk w b #[.bool false, .int .u64 0, .int .u64 0, .bool false, .int .u64 0, .int .u64 0], fun w b => Blk w b #[.bool c5, .int .u64 k5, .int .u64 l5, .bool c6, .int .u64 k6, .int .u64 l6]⟩] (by kernel_rfl) (mk _ hm.drew) (Nat.le_refl _) (by simp) ?_
  have hlts := hm.lts; have hlow := hm.low.size
  have lty : b7 < w3.heap.size := hm.lt 0 rfl
  have ltx : b6 < w3.heap.size := hm.lt 1 rfl
  have ltr : (w.heap.size + 1 + 1) < w3.heap.size := hm.lt 2 rfl
  have ltb : (w.heap.size + 1) < w3.heap.size := hm.lt 3 rfl
  have lta : w.heap.size < w3.heap.size := hm.lt 4 rfl
  have HMK := Lib.hid mk
  clear hm mk
  refine abTake 0 (some 28) (v := ?_) rfl rfl (by kernel_rfl) (by kernel_rfl) (by kernel_rfl) (fun _ _ _ h => h) (HF.out _ (by simp)) (by rfl) ?_ ?_
  rotate_left 1
  · (intro w hSw; (try dsimp only at hSw); go_simp; try with_reducible rfl)
  simp only [Act.put, List.setIfInBounds_toArray, List.set_cons_zero, List.set_cons_succ]
  refine abTake 1 (some 29) (v := ?_) rfl rfl (by kernel_rfl) (by kernel_rfl) (by kernel_rfl) (fun _ _ _ h => h) (HF.out _ (by simp)) (by rfl) ?_ ?_
  rotate_left 1
  · (intro w hSw; (try dsimp only at hSw); go_simp; try with_reducible rfl)
  simp only [Act.put, List.setIfInBounds_toArray, List.set_cons_zero, List.set_cons_succ]
  refine abTake 2 (some 30) (v := ?_) rfl rfl (by kernel_rfl) (by kernel_rfl) (by kernel_rfl) (fun _ _ _ h => h) (HF.out _ (by simp)) (by rfl) ?_ ?_
  rotate_left 1
  · (intro w hSw; (try dsimp only at hSw); go_simp; try with_reducible rfl)
  simp only [Act.put, List.setIfInBounds_toArray, List.set_cons_zero, List.set_cons_succ]
  refine abTake 3 (some 31) (v := ?_) rfl rfl (by kernel_rfl) (by kernel_rfl) (by kernel_rfl) (fun _ _ _ h => h) (HF.out _ (by simp)) (by rfl) ?_ ?_
  rotate_left 1
  · (intro w hSw; (try dsimp only at hSw); go_simp; try with_reducible rfl)
  simp only [Act.put, List.setIfInBounds_toArray, List.set_cons_zero, List.set_cons_succ]
  refine abCall 4 (some 32) rfl rfl (by kernel_rfl) (by kernel_rfl) (by kernel_rfl) (fun _ _ _ h => h) (HF.out _ (by simp)) (by rfl) ?_ (fun w hSw => M5.out _) ?_
  · (intro w hSw; (try dsimp only at hSw); go_simp; try with_reducible rfl)
  simp only [Act.put, List.setIfInBounds_toArray, List.set_cons_zero, List.set_cons_succ]
  refine abTake 5 (some 33) (v := ?_) rfl rfl (by kernel_rfl) (by kernel_rfl) (by kernel_rfl) (fun _ _ _ h => h) (HF.out _ (by simp)) (by rfl) ?_ ?_
  rotate_left 1
  · (intro w hSw; (try dsimp only at hSw); go_simp; try with_reducible rfl)
  simp only [Act.put, List.setIfInBounds_toArray, List.set_cons_zero, List.set_cons_succ]
  refine abTake 6 (some 34) (v := ?_) rfl rfl (by kernel_rfl) (by kernel_rfl) (by kernel_rfl) (fun _ _ _ h => h) (HF.out _ (by simp)) (by rfl) ?_ ?_
  rotate_left 1
  · (intro w hSw; (try dsimp only at hSw); go_simp; try with_reducible rfl)
  simp only [Act.put, List.setIfInBounds_toArray, List.set_cons_zero, List.set_cons_succ]
  refine abTake 7 (some 35) (v := ?_) rfl rfl (by kernel_rfl) (by kernel_rfl) (by kernel_rfl) (fun _ _ _ h => h) (HF.out _ (by simp)) (by rfl) ?_ ?_
  rotate_left 1
  · (intro w hSw; (try dsimp only at hSw); go_simp; try with_reducible rfl)
  simp only [Act.put, List.setIfInBounds_toArray, List.set_cons_zero, List.set_cons_succ]
  refine abTake 8 (some 36) (v := ?_) rfl rfl (by kernel_rfl) (by kernel_rfl) (by kernel_rfl) (fun _ _ _ h => h) (HF.out _ (by simp)) (by rfl) ?_ ?_
  rotate_left 1
  · (intro w hSw; (try dsimp only at hSw); go_simp; try with_reducible rfl)
  simp only [Act.put, List.setIfInBounds_toArray, List.set_cons_zero, List.set_cons_succ]
  refine abCall 9 (some 37) rfl rfl (by kernel_rfl) (by kernel_rfl) (by kernel_rfl) (fun _ _ _ h => h) (HF.out _ (by simp)) (by rfl) ?_ (fun w hSw => M6.out _) ?_
  · (intro w hSw; (try dsimp only at hSw); go_simp; try with_reducible rfl)
  simp only [Act.put, List.setIfInBounds_toArray, List.set_cons_zero, List.set_cons_succ]
  refine abTake 10 (some 38) (v := ?_) rfl rfl (by kernel_rfl) (by kernel_rfl) (by kernel_rfl) (fun _ _ _ h => h) (HF.out _ (by simp)) (by rfl) ?_ ?_
  rotate_left 1
  · (intro w hSw; (try dsimp only at hSw); go_simp; try with_reducible rfl)
  simp only [Act.put, List.setIfInBounds_toArray, List.set_cons_zero, List.set_cons_succ]
  refine abMake1 11 8 HOK.out _ (List.mem_cons_self) rfl rfl rfl (by kernel_rfl) (by kernel_rfl) (by kernel_rfl) ⟨by rfl, .cells #[.bool false, .int .u64 0, .int .u64 0, .bool false, .int .u64 0, .int .u64 0] 52, fun w hSw => ⟨(by (try dsimp only at hSw); go_simp; try with_reducible rfl), Blk.newAt rfl⟩⟩ (fun b8 hb8 nb8 => ?_)
  simp only [Act.put, List.setIfInBounds_toArray, List.set_cons_zero, List.set_cons_succ]
  refine abStore 12 HOK.out _ (List.mem_cons_self) rfl rfl rfl (by kernel_rfl) (by kernel_rfl) (by kernel_rfl) (by kernel_rfl) (by rfl) ?_ ?_
  · rintro w b hSw hg hB hp
    obtain rfl : b = b8 := hg
    replace hp : Blk w b #[.bool false, .int .u64 0, .int .u64 0, .bool false, .int .u64 0, .int .u64 0] := hp
    have x0 : w.cell? ⟨b, 0, none⟩ = some (.bool false) := hp.cell rfl
    have x1 : w.cell? ⟨b, 1, none⟩ = some (.int .u64 0) := hp.cell rfl
    have x2 : w.cell? ⟨b, 2, none⟩ = some (.int .u64 0) := hp.cell rfl
    have x3 : w.cell? ⟨b, 3, none⟩ = some (.bool false) := hp.cell rfl
    have x4 : w.cell? ⟨b, 4, none⟩ = some (.int .u64 0) := hp.cell rfl
    have x5 : w.cell? ⟨b, 5, none⟩ = some (.int .u64 0) := hp.cell rfl
    have y0 := hp.free 0
    have y1 := hp.free 1
    have y2 := hp.free 2
    have y3 := hp.free 3
    have y4 := hp.free 4
    have y5 := hp.free 5
    refine ⟨((((((w.setCell ⟨b, 0, none⟩ (.bool c5)).setCell ⟨b, 1, none⟩ (.int .u64 k5)).setCell ⟨b, 2, none⟩ (.int .u64 l5)).setCell ⟨b, 3, none⟩ (.bool c6)).setCell ⟨b, 4, none⟩ (.int .u64 k6)).setCell ⟨b, 5, none⟩ (.int .u64 l6)), ?_, ((((((hp.set 0 (.bool c5)).set 1 (.int .u64 k5)).set 2 (.int .u64 l5)).set 3 (.bool c6)).set 4 (.int .u64 k6)).set 5 (.int .u64 l6)), (((((((Below.refl _ _).setCell (p := ⟨b, 0, none⟩) hB _).setCell (p := ⟨b, 1, none⟩) hB _).setCell (p := ⟨b, 2, none⟩) hB _).setCell (p := ⟨b, 3, none⟩) hB _).setCell (p := ⟨b, 4, none⟩) hB _).setCell (p := ⟨b, 5, none⟩) hB _), fun k hk => ?_⟩
    · (try dsimp only at hSw); go_simp; try with_reducible rfl
    · exact (Below.heap_setCell _ _ _ _ hk).trans ((Below.heap_setCell _ _ _ _ hk).trans ((Below.heap_setCell _ _ _ _ hk).trans ((Below.heap_setCell _ _ _ _ hk).trans ((Below.heap_setCell _ _ _ _ hk).trans ((Below.heap_setCell _ _ _ _ hk))))))
  refine abDone (by kernel_rfl) ?_ _
  rintro w4 hS
  have ks := sof_post hS _ (List.mem_cons_self) (by kernel_rfl) (by kernel_rfl) (b := b8) rfl
  have HMw4 := Lib.hid ((hS.1.2.2.2.2.2.2.2.2.2.2.2.2.out).join ks.2.2 ks.1 hlts hlow)
  clear hS HOK HF HMK hlts hlow lty ltx ltr ltb lta ks hb8
  have ls : b8 < w4.heap.size := HMw4.out.lt 0 rfl
  have cs0 : w4.cell? ⟨b8, 0, none⟩ = some (.bool c5) := HMw4.out.cell 0 rfl rfl
  have cs1 : w4.cell? ⟨b8, 1, none⟩ = some (.int .u64 k5) := HMw4.out.cell 0 rfl rfl
  have cs2 : w4.cell? ⟨b8, 2, none⟩ = some (.int .u64 l5) := HMw4.out.cell 0 rfl rfl
  have cs3 : w4.cell? ⟨b8, 3, none⟩ = some (.bool c6) := HMw4.out.cell 0 rfl rfl
  have cs4 : w4.cell? ⟨b8, 4, none⟩ = some (.int .u64 k6) := HMw4.out.cell 0 rfl rfl
  have cs5 : w4.cell? ⟨b8, 5, none⟩ = some (.int .u64 l6) := HMw4.out.cell 0 rfl rfl
  go_wp2_with fail
  refine (M7.out _).mono ?_
  rintro e w5 ⟨rfl, hb⟩
  have HMw5 := Lib.hid (HMw4.out.call hb)
  clear hb ls cs0 cs1 cs2 cs3 cs4 cs5 HMw4
  have lr : (w.heap.size + 1 + 1) < w5.heap.size := HMw5.out.lt 3 rfl
  have cr0 : w5.cell? ⟨(w.heap.size + 1 + 1), 0, none⟩ = some (.int .i64 0) := HMw5.out.cell 3 rfl rfl
  have fr0 : w5.frozen? ⟨(w.heap.size + 1 + 1), 0, none⟩ = false := HMw5.out.free 3 rfl 0
  have cr1 : w5.cell? ⟨(w.heap.size + 1 + 1), 1, none⟩ = some (.int .i64 0) := HMw5.out.cell 3 rfl rfl
  have fr1 : w5.frozen? ⟨(w.heap.size + 1 + 1), 1, none⟩ = false := HMw5.out.free 3 rfl 1
  go_wp2_with fail
  exact bodyPost_ret (v := .tuple #[.agg #[.int .i64 x, .int .i64 y], .int .i64 e]) (by simp [results, Try.results15, go_sem, cr0, cr1]) rfl ⟨rfl, (((HMw5.out.set 3 0 (.int .i64 x) rfl).set 3 1 (.int .i64 y) rfl).to (l' := [(b8, #[.bool c5, .int .u64 k5, .int .u64 l5, .bool c6, .int .u64 k6, .int .u64 l6]), (b7, #[.bool c3, .int .u64 k3, .int .u64 l3, .bool c4, .int .u64 k4, .int .u64 l4]), (b6, #[.bool c1, .int .u64 k1, .int .u64 l1, .bool c2, .int .u64 k2, .int .u64 l2]), ((w.heap.size + 1 + 1), #[.int .i64 x, .int .i64 y]), ((w.heap.size + 1), #[.int .i64 b1, .int .i64 b2]), (w.heap.size, #[.int .i64 a1, .int .i64 a2])]) rfl).low⟩
theorem right_ok {n d : Int} (hn : IsInt n) (hd : IsInt d) (h : Low n d) (w : World) :
    Calls Try.prog 9 #[.agg #[.int .i64 n, .int .i64 d]] w fun en w' => en = .returned (.bool true) ∧ Below w.heap.size w w' := by
  have := right_any n d hn hd w
  rwa [decide_eq_true h] at this
theorem right_not {n d : Int} (hn : IsInt n) (hd : IsInt d) (h : ¬ Low n d) (w : World) :
    Calls Try.prog 9 #[.agg #[.int .i64 n, .int .i64 d]] w fun en w' => en = .returned (.bool false) ∧ Below w.heap.size w w' := by
  have := right_any n d hn hd w
  rwa [decide_eq_false h] at this
theorem ztim (a b : Int) (ha : IsInt a) (hb : IsInt b) (w : World) :
    Calls Try.prog 31 #[zS a, zS b] w fun en w' => en = .returned (zS (a * b)) ∧ Below w.heap.size w w' := by
  exact ztimes_any a b (int_M ha) (int_M hb) (prod_fit ha hb) w
theorem mul_bnd {a b : Int} (ha : IsInt a) (hb : IsInt b) : (a * b).natAbs ≤ 85070591730234615865843651857942052864 := by rw [Int.natAbs_mul]; exact prod_le ha hb
theorem qcmp_ok (a1 a2 b1 b2 : Int) (ha1 : IsInt a1) (ha2 : IsInt a2) (hb1 : IsInt b1) (hb2 : IsInt b2) (ha : Low a1 a2) (hb : Low b1 b2) (w : World) :
    Calls Try.prog 13 #[.agg #[.int .i64 a1, .int .i64 a2], .agg #[.int .i64 b1, .int .i64 b2]] w fun en w' => en = .returned (.tuple #[.int .i64 (ordI (a1 * b2 - b1 * a2)), .int .i64 0]) ∧ Below w.heap.size w w' := by
  have p1 := mul_bnd ha1 hb2
  have p2 := mul_bnd hb1 ha2
  exact qcmp_core a1 a2 b1 b2 _ _ _ _ _ _ _ _ _ _ _ _ _ _ _ _ _ _ _ w (right_ok ha1 ha2 ha) (right_ok hb1 hb2 hb) (fof_any a1 a2 ha1 ha2) (fof_any b1 b2 hb1 hb2) (ztim a1 b2 ha1 hb2) (ztim b1 a2 hb1 ha2) (zorder_any _ _ (by unfold M128; omega))
theorem qadd_ok (a1 a2 b1 b2 : Int) (ha1 : IsInt a1) (ha2 : IsInt a2) (hb1 : IsInt b1) (hb2 : IsInt b2) (ha : Low a1 a2) (hb : Low b1 b2) (w : World) :
    Calls Try.prog 14 #[.agg #[.int .i64 a1, .int .i64 a2], .agg #[.int .i64 b1, .int .i64 b2]] w fun en w' => en = .returned (.tuple #[.agg #[.int .i64 (raN (a1 * b2 + b1 * a2) (a2 * b2)), .int .i64 (raD (a1 * b2 + b1 * a2) (a2 * b2))], .int .i64 (raE (a1 * b2 + b1 * a2) (a2 * b2))]) ∧ Below w.heap.size w w' := by
  have p1 := mul_bnd ha1 hb2
  have p2 := mul_bnd hb1 ha2
  have p3 := mul_bnd ha2 hb2
  exact qadd_core a1 a2 b1 b2 _ _ _ _ _ _ _ _ _ _ _ _ _ _ _ _ _ _ _ _ _ _ _ _ _ _ _ w (right_ok ha1 ha2 ha) (right_ok hb1 hb2 hb) (fof_any a1 a2 ha1 ha2) (fof_any b1 b2 hb1 hb2) (ztim a1 b2 ha1 hb2) (ztim b1 a2 hb1 ha2) (zplus_any _ _ (by unfold M128; omega)) (ztim a2 b2 ha2 hb2) (fr_any _ _ (by unfold M128; omega) (by unfold M128; omega))
theorem qmul_ok (a1 a2 b1 b2 : Int) (ha1 : IsInt a1) (ha2 : IsInt a2) (hb1 : IsInt b1) (hb2 : IsInt b2) (ha : Low a1 a2) (hb : Low b1 b2) (w : World) :
    Calls Try.prog 15 #[.agg #[.int .i64 a1, .int .i64 a2], .agg #[.int .i64 b1, .int .i64 b2]] w fun en w' => en = .returned (.tuple #[.agg #[.int .i64 (raN (a1 * b1) (a2 * b2)), .int .i64 (raD (a1 * b1) (a2 * b2))], .int .i64 (raE (a1 * b1) (a2 * b2))]) ∧ Below w.heap.size w w' := by
  have p1 := mul_bnd ha1 hb1
  have p3 := mul_bnd ha2 hb2
  exact qmul_core a1 a2 b1 b2 _ _ _ _ _ _ _ _ _ _ _ _ _ _ _ _ _ _ _ _ _ w (right_ok ha1 ha2 ha) (right_ok hb1 hb2 hb) (fof_any a1 a2 ha1 ha2) (fof_any b1 b2 hb1 hb2) (ztim a1 b1 ha1 hb1) (ztim a2 b2 ha2 hb2) (fr_any _ _ (by unfold M128; omega) (by unfold M128; omega))
theorem qcmp_no (a1 a2 b1 b2 : Int) (ha1 : IsInt a1) (ha2 : IsInt a2) (hb1 : IsInt b1) (hb2 : IsInt b2) (h : ¬ (Low a1 a2 ∧ Low b1 b2)) (w : World) :
    Calls Try.prog 13 #[.agg #[.int .i64 a1, .int .i64 a2], .agg #[.int .i64 b1, .int .i64 b2]] w fun en w' => en = .returned (.tuple #[.int .i64 0, .int .i64 1]) ∧ Below w.heap.size w w' := by
  by_cases k : Low a1 a2
  · exact qcmp_arg2 a1 a2 b1 b2 w (right_ok ha1 ha2 k) (right_not hb1 hb2 (fun j => h ⟨k, j⟩))
  · exact qcmp_arg1 a1 a2 b1 b2 w (right_not ha1 ha2 k)
theorem qadd_no (a1 a2 b1 b2 : Int) (ha1 : IsInt a1) (ha2 : IsInt a2) (hb1 : IsInt b1) (hb2 : IsInt b2) (h : ¬ (Low a1 a2 ∧ Low b1 b2)) (w : World) :
    Calls Try.prog 14 #[.agg #[.int .i64 a1, .int .i64 a2], .agg #[.int .i64 b1, .int .i64 b2]] w fun en w' => en = .returned (.tuple #[.agg #[.int .i64 0, .int .i64 0], .int .i64 1]) ∧ Below w.heap.size w w' := by
  by_cases k : Low a1 a2
  · exact qadd_arg2 a1 a2 b1 b2 w (right_ok ha1 ha2 k) (right_not hb1 hb2 (fun j => h ⟨k, j⟩))
  · exact qadd_arg1 a1 a2 b1 b2 w (right_not ha1 ha2 k)
theorem qmul_no (a1 a2 b1 b2 : Int) (ha1 : IsInt a1) (ha2 : IsInt a2) (hb1 : IsInt b1) (hb2 : IsInt b2) (h : ¬ (Low a1 a2 ∧ Low b1 b2)) (w : World) :
    Calls Try.prog 15 #[.agg #[.int .i64 a1, .int .i64 a2], .agg #[.int .i64 b1, .int .i64 b2]] w fun en w' => en = .returned (.tuple #[.agg #[.int .i64 0, .int .i64 0], .int .i64 1]) ∧ Below w.heap.size w w' := by
  by_cases k : Low a1 a2
  · exact qmul_arg2 a1 a2 b1 b2 w (right_ok ha1 ha2 k) (right_not hb1 hb2 (fun j => h ⟨k, j⟩))
  · exact qmul_arg1 a1 a2 b1 b2 w (right_not ha1 ha2 k)
theorem enc_arg (n d s : Int) (w : World)
    (m1 : ∀ w, Calls Try.prog 9 #[.agg #[.int .i64 n, .int .i64 d]] w fun en w' => en = .returned (.bool false) ∧ Below w.heap.size w w') :
    Calls Try.prog 16 #[.agg #[.int .i64 n, .int .i64 d], .int .i64 s] w fun en w' => en = .returned (.tuple #[.agg #[.int .i64 0, .int .i64 0], .int .i64 1]) ∧ Below w.heap.size w w' := by
  have M1 := Lib.hid m1
  clear m1
  go_enter Try.func16, Try.ntmps16
  go_wp2_with fail
  refine (M1.out _).mono ?_
  rintro e w1 ⟨rfl, hb⟩
  have HMw1 := Lib.hid ((((Mem.start w).new w.heap.size _ _ rfl).new (w.heap.size + 1) _ _ (by simp)).call hb)
  clear hb
  have lr : (w.heap.size + 1) < w1.heap.size := HMw1.out.lt 0 rfl
  have cr0 : w1.cell? ⟨(w.heap.size + 1), 0, none⟩ = some (.int .i64 0) := HMw1.out.cell 0 rfl rfl
  have fr0 : w1.frozen? ⟨(w.heap.size + 1), 0, none⟩ = false := HMw1.out.free 0 rfl 0
  have cr1 : w1.cell? ⟨(w.heap.size + 1), 1, none⟩ = some (.int .i64 0) := HMw1.out.cell 0 rfl rfl
  have fr1 : w1.frozen? ⟨(w.heap.size + 1), 1, none⟩ = false := HMw1.out.free 0 rfl 1
  go_wp2_with fail
  exact bodyPost_ret (v := .tuple #[.agg #[.int .i64 0, .int .i64 0], .int .i64 1]) (by simp [results, Try.results16, go_sem, cr0, cr1]) rfl ⟨rfl, (((HMw1.out.set 0 0 (.int .i64 0) rfl).set 0 1 (.int .i64 0) rfl).to (l' := [((w.heap.size + 1), #[.int .i64 0, .int .i64 0]), (w.heap.size, #[.int .i64 n, .int .i64 d])]) rfl).low⟩
theorem enc_range (n d s : Int) (h : s < 1) (w : World)
    (m1 : ∀ w, Calls Try.prog 9 #[.agg #[.int .i64 n, .int .i64 d]] w fun en w' => en = .returned (.bool true) ∧ Below w.heap.size w w') :
    Calls Try.prog 16 #[.agg #[.int .i64 n, .int .i64 d], .int .i64 s] w fun en w' => en = .returned (.tuple #[.agg #[.int .i64 0, .int .i64 0], .int .i64 3]) ∧ Below w.heap.size w w' := by
  have M1 := Lib.hid m1
  clear m1
  go_enter Try.func16, Try.ntmps16
  go_wp2_with fail
  refine (M1.out _).mono ?_
  rintro e w1 ⟨rfl, hb⟩
  have HMw1 := Lib.hid ((((Mem.start w).new w.heap.size _ _ rfl).new (w.heap.size + 1) _ _ (by simp)).call hb)
  clear hb
  have lr : (w.heap.size + 1) < w1.heap.size := HMw1.out.lt 0 rfl
  have cr0 : w1.cell? ⟨(w.heap.size + 1), 0, none⟩ = some (.int .i64 0) := HMw1.out.cell 0 rfl rfl
  have fr0 : w1.frozen? ⟨(w.heap.size + 1), 0, none⟩ = false := HMw1.out.free 0 rfl 0
  have cr1 : w1.cell? ⟨(w.heap.size + 1), 1, none⟩ = some (.int .i64 0) := HMw1.out.cell 0 rfl rfl
  have fr1 : w1.frozen? ⟨(w.heap.size + 1), 1, none⟩ = false := HMw1.out.free 0 rfl 1
  go_wp2_with fail
  exact bodyPost_ret (v := .tuple #[.agg #[.int .i64 0, .int .i64 0], .int .i64 3]) (by simp [results, Try.results16, go_sem, cr0, cr1]) rfl ⟨rfl, (((HMw1.out.set 0 0 (.int .i64 0) rfl).set 0 1 (.int .i64 0) rfl).to (l' := [((w.heap.size + 1), #[.int .i64 0, .int .i64 0]), (w.heap.size, #[.int .i64 n, .int .i64 d])]) rfl).low⟩
theorem enc_lo (n d s : Int) (h : ¬ s < 1) (w : World)
    (m1 : ∀ w, Calls Try.prog 9 #[.agg #[.int .i64 n, .int .i64 d]] w fun en w' => en = .returned (.bool true) ∧ Below w.heap.size w w')
    (m2 : ∀ w, Calls Try.prog 34 #[.int .i64 n, .int .i64 s, .int .i64 d, .int .i64 0] w fun en w' => en = .returned (.tuple #[.int .i64 0, .int .i64 5]) ∧ Below w.heap.size w w') :
    Calls Try.prog 16 #[.agg #[.int .i64 n, .int .i64 d], .int .i64 s] w fun en w' => en = .returned (.tuple #[.agg #[.int .i64 0, .int .i64 0], .int .i64 5]) ∧ Below w.heap.size w w' := by
  have M1 := Lib.hid m1; have M2 := Lib.hid m2
  clear m1 m2
  go_enter Try.func16, Try.ntmps16
  go_wp2_with fail
  refine (M1.out _).mono ?_
  rintro e w1 ⟨rfl, hb⟩
  have HMw1 := Lib.hid ((((Mem.start w).new w.heap.size _ _ rfl).new (w.heap.size + 1) _ _ (by simp)).call hb)
  clear hb
  have la : w.heap.size < w1.heap.size := HMw1.out.lt 1 rfl
  have ca0 : w1.cell? ⟨w.heap.size, 0, none⟩ = some (.int .i64 n) := HMw1.out.cell 1 rfl rfl
  have ca1 : w1.cell? ⟨w.heap.size, 1, none⟩ = some (.int .i64 d) := HMw1.out.cell 1 rfl rfl
  go_wp2_with fail
  refine (M2.out _).mono ?_
  rintro e w2 ⟨rfl, hb⟩
  have HMw2 := Lib.hid (HMw1.out.call hb)
  clear hb la ca0 ca1 HMw1
  clear h
  have lr : (w.heap.size + 1) < w2.heap.size := HMw2.out.lt 0 rfl
  have cr0 : w2.cell? ⟨(w.heap.size + 1), 0, none⟩ = some (.int .i64 0) := HMw2.out.cell 0 rfl rfl
  have fr0 : w2.frozen? ⟨(w.heap.size + 1), 0, none⟩ = false := HMw2.out.free 0 rfl 0
  have cr1 : w2.cell? ⟨(w.heap.size + 1), 1, none⟩ = some (.int .i64 0) := HMw2.out.cell 0 rfl rfl
  have fr1 : w2.frozen? ⟨(w.heap.size + 1), 1, none⟩ = false := HMw2.out.free 0 rfl 1
  go_wp2_with fail
  exact bodyPost_ret (v := .tuple #[.agg #[.int .i64 0, .int .i64 0], .int .i64 5]) (by simp [results, Try.results16, go_sem, cr0, cr1]) rfl ⟨rfl, (((HMw2.out.set 0 0 (.int .i64 0) rfl).set 0 1 (.int .i64 0) rfl).to (l' := [((w.heap.size + 1), #[.int .i64 0, .int .i64 0]), (w.heap.size, #[.int .i64 n, .int .i64 d])]) rfl).low⟩
theorem enc_hi (n d s x : Int) (h : ¬ s < 1) (w : World)
    (m1 : ∀ w, Calls Try.prog 9 #[.agg #[.int .i64 n, .int .i64 d]] w fun en w' => en = .returned (.bool true) ∧ Below w.heap.size w w')
    (m2 : ∀ w, Calls Try.prog 34 #[.int .i64 n, .int .i64 s, .int .i64 d, .int .i64 0] w fun en w' => en = .returned (.tuple #[.int .i64 x, .int .i64 0]) ∧ Below w.heap.size w w')
    (m3 : ∀ w, Calls Try.prog 34 #[.int .i64 n, .int .i64 s, .int .i64 d, .int .i64 1] w fun en w' => en = .returned (.tuple #[.int .i64 0, .int .i64 5]) ∧ Below w.heap.size w w') :
    Calls Try.prog 16 #[.agg #[.int .i64 n, .int .i64 d], .int .i64 s] w fun en w' => en = .returned (.tuple #[.agg #[.int .i64 0, .int .i64 0], .int .i64 5]) ∧ Below w.heap.size w w' := by
  have M1 := Lib.hid m1; have M2 := Lib.hid m2; have M3 := Lib.hid m3
  clear m1 m2 m3
  go_enter Try.func16, Try.ntmps16
  go_wp2_with fail
  refine (M1.out _).mono ?_
  rintro e w1 ⟨rfl, hb⟩
  have HMw1 := Lib.hid ((((Mem.start w).new w.heap.size _ _ rfl).new (w.heap.size + 1) _ _ (by simp)).call hb)
  clear hb
  have la : w.heap.size < w1.heap.size := HMw1.out.lt 1 rfl
  have ca0 : w1.cell? ⟨w.heap.size, 0, none⟩ = some (.int .i64 n) := HMw1.out.cell 1 rfl rfl
  have ca1 : w1.cell? ⟨w.heap.size, 1, none⟩ = some (.int .i64 d) := HMw1.out.cell 1 rfl rfl
  go_wp2_with fail
  refine (M2.out _).mono ?_
  rintro e w2 ⟨rfl, hb⟩
  have HMw2 := Lib.hid (HMw1.out.call hb)
  clear hb la ca0 ca1 HMw1
  clear h
  have la : w.heap.size < w2.heap.size := HMw2.out.lt 1 rfl
  have ca0 : w2.cell? ⟨w.heap.size, 0, none⟩ = some (.int .i64 n) := HMw2.out.cell 1 rfl rfl
  have ca1 : w2.cell? ⟨w.heap.size, 1, none⟩ = some (.int .i64 d) := HMw2.out.cell 1 rfl rfl
  go_wp2_with fail
  refine (M3.out _).mono ?_
  rintro e w3 ⟨rfl, hb⟩
  have HMw3 := Lib.hid (HMw2.out.call hb)
  clear hb la ca0 ca1 HMw2
  have lr : (w.heap.size + 1) < w3.heap.size := HMw3.out.lt 0 rfl
  have cr0 : w3.cell? ⟨(w.heap.size + 1), 0, none⟩ = some (.int .i64 0) := HMw3.out.cell 0 rfl rfl
  have fr0 : w3.frozen? ⟨(w.heap.size + 1), 0, none⟩ = false := HMw3.out.free 0 rfl 0
  have cr1 : w3.cell? ⟨(w.heap.size + 1), 1, none⟩ = some (.int .i64 0) := HMw3.out.cell 0 rfl rfl
  have fr1 : w3.frozen? ⟨(w.heap.size + 1), 1, none⟩ = false := HMw3.out.free 0 rfl 1
  go_wp2_with fail
  exact bodyPost_ret (v := .tuple #[.agg #[.int .i64 0, .int .i64 0], .int .i64 5]) (by simp [results, Try.results16, go_sem, cr0, cr1]) rfl ⟨rfl, (((HMw3.out.set 0 0 (.int .i64 0) rfl).set 0 1 (.int .i64 0) rfl).to (l' := [((w.heap.size + 1), #[.int .i64 0, .int .i64 0]), (w.heap.size, #[.int .i64 n, .int .i64 d])]) rfl).low⟩
theorem enc_ok (n d s x y : Int) (h : ¬ s < 1) (w : World)
    (m1 : ∀ w, Calls Try.prog 9 #[.agg #[.int .i64 n, .int .i64 d]] w fun en w' => en = .returned (.bool true) ∧ Below w.heap.size w w')
    (m2 : ∀ w, Calls Try.prog 34 #[.int .i64 n, .int .i64 s, .int .i64 d, .int .i64 0] w fun en w' => en = .returned (.tuple #[.int .i64 x, .int .i64 0]) ∧ Below w.heap.size w w')
    (m3 : ∀ w, Calls Try.prog 34 #[.int .i64 n, .int .i64 s, .int .i64 d, .int .i64 1] w fun en w' => en = .returned (.tuple #[.int .i64 y, .int .i64 0]) ∧ Below w.heap.size w w') :
    Calls Try.prog 16 #[.agg #[.int .i64 n, .int .i64 d], .int .i64 s] w fun en w' => en = .returned (.tuple #[.agg #[.int .i64 x, .int .i64 y], .int .i64 0]) ∧ Below w.heap.size w w' := by
  have M1 := Lib.hid m1; have M2 := Lib.hid m2; have M3 := Lib.hid m3
  clear m1 m2 m3
  go_enter Try.func16, Try.ntmps16
  go_wp2_with fail
  refine (M1.out _).mono ?_
  rintro e w1 ⟨rfl, hb⟩
  have HMw1 := Lib.hid ((((Mem.start w).new w.heap.size _ _ rfl).new (w.heap.size + 1) _ _ (by simp)).call hb)
  clear hb
  have la : w.heap.size < w1.heap.size := HMw1.out.lt 1 rfl
  have ca0 : w1.cell? ⟨w.heap.size, 0, none⟩ = some (.int .i64 n) := HMw1.out.cell 1 rfl rfl
  have ca1 : w1.cell? ⟨w.heap.size, 1, none⟩ = some (.int .i64 d) := HMw1.out.cell 1 rfl rfl
  go_wp2_with fail
  refine (M2.out _).mono ?_
  rintro e w2 ⟨rfl, hb⟩
  have HMw2 := Lib.hid (HMw1.out.call hb)
  clear hb la ca0 ca1 HMw1
  clear h
  have la : w.heap.size < w2.heap.size := HMw2.out.lt 1 rfl
  have ca0 : w2.cell? ⟨w.heap.size, 0, none⟩ = some (.int .i64 n) := HMw2.out.cell 1 rfl rfl
  have ca1 : w2.cell? ⟨w.heap.size, 1, none⟩ = some (.int .i64 d) := HMw2.out.cell 1 rfl rfl
  go_wp2_with fail
  refine (M3.out _).mono ?_
  rintro e w3 ⟨rfl, hb⟩
  have HMw3 := Lib.hid (HMw2.out.call hb)
  clear hb la ca0 ca1 HMw2
  have lr : (w.heap.size + 1) < w3.heap.size := HMw3.out.lt 0 rfl
  have cr0 : w3.cell? ⟨(w.heap.size + 1), 0, none⟩ = some (.int .i64 0) := HMw3.out.cell 0 rfl rfl
  have fr0 : w3.frozen? ⟨(w.heap.size + 1), 0, none⟩ = false := HMw3.out.free 0 rfl 0
  have cr1 : w3.cell? ⟨(w.heap.size + 1), 1, none⟩ = some (.int .i64 0) := HMw3.out.cell 0 rfl rfl
  have fr1 : w3.frozen? ⟨(w.heap.size + 1), 1, none⟩ = false := HMw3.out.free 0 rfl 1
  go_wp2_with fail
  exact bodyPost_ret (v := .tuple #[.agg #[.int .i64 x, .int .i64 y], .int .i64 0]) (by simp [results, Try.results16, go_sem, cr0, cr1]) rfl ⟨rfl, (((HMw3.out.set 0 0 (.int .i64 x) rfl).set 0 1 (.int .i64 y) rfl).to (l' := [((w.heap.size + 1), #[.int .i64 x, .int .i64 y]), (w.heap.size, #[.int .i64 n, .int .i64 d])]) rfl).low⟩
theorem enclose_no (n d s : Int) (hn : IsInt n) (hd : IsInt d) (h : ¬ Low n d) (w : World) :
    Calls Try.prog 16 #[.agg #[.int .i64 n, .int .i64 d], .int .i64 s] w fun en w' => en = .returned (.tuple #[.agg #[.int .i64 0, .int .i64 0], .int .i64 1]) ∧ Below w.heap.size w w' := by
  exact enc_arg n d s w (right_not hn hd h)
theorem enclose_range (n d s : Int) (hn : IsInt n) (hd : IsInt d) (h : Low n d) (hs : s < 1) (w : World) :
    Calls Try.prog 16 #[.agg #[.int .i64 n, .int .i64 d], .int .i64 s] w fun en w' => en = .returned (.tuple #[.agg #[.int .i64 0, .int .i64 0], .int .i64 3]) ∧ Below w.heap.size w w' := by
  exact enc_range n d s hs w (right_ok hn hd h)
theorem enclose_any (n d s : Int) (hn : IsInt n) (hd : IsInt d) (hs : IsInt s) (h : Low n d) (h1 : ¬ s < 1) (w : World) :
    Calls Try.prog 16 #[.agg #[.int .i64 n, .int .i64 d], .int .i64 s] w fun en w' => en = .returned (.tuple #[.agg #[.int .i64 (rLo (md n s d 0) (md n s d 1)), .int .i64 (rHi (md n s d 0) (md n s d 1))], .int .i64 (rErr (md n s d 0) (md n s d 1))]) ∧ Below w.heap.size w w' := by
  have d0 : d ≠ 0 := by have := h.1; omega
  have m1 := right_ok hn hd h
  have m2 := fun w => muldiv_any 0 (by decide) n s d hn hs hd d0 w
  have m3 := fun w => muldiv_any 1 (by decide) n s d hn hs hd d0 w
  by_cases i : IsInt (md n s d 0)
  · rw [ans_ok i, err_ok i] at m2
    by_cases j : IsInt (md n s d 1)
    · rw [ans_ok j, err_ok j] at m3
      have k : IsInt (md n s d 0) ∧ IsInt (md n s d 1) := ⟨i, j⟩
      rw [rLo_ok k, rHi_ok k, rErr_ok k]
      exact enc_ok n d s _ _ h1 w m1 m2 m3
    · rw [ans_no j, err_no j] at m3
      have k : ¬ (IsInt (md n s d 0) ∧ IsInt (md n s d 1)) := fun k => j k.2
      rw [rLo_no k, rHi_no k, rErr_no k]
      exact enc_hi n d s _ h1 w m1 m2 m3
  · rw [ans_no i, err_no i] at m2
    have k : ¬ (IsInt (md n s d 0) ∧ IsInt (md n s d 1)) := fun k => i k.1
    rw [rLo_no k, rHi_no k, rErr_no k]
    exact enc_lo n d s h1 w m1 m2
end Go.Proofs.Ytjnebbjjabnipaa
