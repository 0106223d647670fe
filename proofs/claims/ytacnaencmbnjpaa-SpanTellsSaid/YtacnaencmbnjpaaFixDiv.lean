/- fix.divided: the product of two ints, divided by a third one: how often, what is left, the divisor, and the sign; by 0 it gives up. -/
import Derived.Test.YtacnaencmbnjpaaFixMul
import Derived.Test.YtacnaencmbnjpaaBlk
import Derived.Test.YtacnaencmbnjpaaDiv
namespace Go.Proofs.Ytacnaencmbnjpaa
open Go.RowKit

set_option maxHeartbeats 1000000 in
theorem divided_ok (a b c : Int) (x y z n Q R : Nat) (X Y Z : Bool) (w : World) (hX : decide (a < 0) = X) (hY : decide (b < 0) = Y) (hZ : decide (c < 0) = Z)
    (m1 : ∀ w, Calls Try.prog 55 #[.int .i64 a] w fun e w' => e = .returned (.int .u64 (x : Nat)) ∧ Below w.heap.size w w')
    (m2 : ∀ w, Calls Try.prog 55 #[.int .i64 b] w fun e w' => e = .returned (.int .u64 (y : Nat)) ∧ Below w.heap.size w w')
    (m3 : ∀ w, Calls Try.prog 55 #[.int .i64 c] w fun e w' => e = .returned (.int .u64 (z : Nat)) ∧ Below w.heap.size w w')
    (m4 : ∀ w, Calls Try.prog 54 #[.int .u64 (x : Nat), .int .u64 (y : Nat)] w fun e w' => e = .returned (.agg #[.int .u64 (hi n : Nat), .int .u64 (lo n : Nat)]) ∧ Below w.heap.size w w')
    (m5 : ∀ w, Calls Try.prog 76 #[.agg #[.int .u64 (hi n : Nat), .int .u64 (lo n : Nat)], .agg #[.int .u64 0, .int .u64 (z : Nat)]] w fun e w' => e = .returned (.tuple #[.agg #[.int .u64 (hi Q : Nat), .int .u64 (lo Q : Nat)], .agg #[.int .u64 (hi R : Nat), .int .u64 (lo R : Nat)], .int .i64 0]) ∧ Below w.heap.size w w') :
    Calls Try.prog 58 #[.int .i64 a, .int .i64 b, .int .i64 c] w fun e w' => e = .returned (.agg #[.bool (!((!(X == Y)) == Z)), .int .u64 (hi Q : Nat), .int .u64 (lo Q : Nat), .int .u64 (hi R : Nat), .int .u64 (lo R : Nat), .int .u64 0, .int .u64 (z : Nat)]) ∧ Below w.heap.size w w' := by
  have M1 := Lib.hid m1; have M2 := Lib.hid m2; have M3 := Lib.hid m3; have M4 := Lib.hid m4; have M5 := Lib.hid m5
  clear m1 m2 m3 m4 m5
  go_enter Try.func58, Try.ntmps58
  go_wp2_with fail
  refine (M3.out _).mono ?_
  rintro e w1 ⟨rfl, hb1⟩
  have b6 : Blk w1 w.heap.size #[.bool false, .int .u64 0, .int .u64 0, .int .u64 0, .int .u64 0, .int .u64 0, .int .u64 0] := (Blk.new _ _ _).call hb1
  have hw1 : Below w.heap.size w w1 := ((Below.refl _ _).alloc (Nat.le_refl _) _).trans (hb1.mono (by simp))
  have B6' := Lib.hid b6; have HW1 := Lib.hid hw1
  clear hb1 b6 hw1
  go_upto_region 2 with fail
  obtain ⟨W0, hW0⟩ : ∃ W0, w1.alloc (.cells #[.int .u64 0, .int .u64 (z : Nat)] 55) = W0 := ⟨_, rfl⟩
  have b6 : Blk W0 w.heap.size #[.bool false, .int .u64 0, .int .u64 0, .int .u64 0, .int .u64 0, .int .u64 0, .int .u64 0] := by rw [← hW0]; exact B6'.out.alloc _
  have b7 : Blk W0 w1.heap.size #[.int .u64 0, .int .u64 (z : Nat)] := by rw [← hW0]; exact Blk.new _ _ _
  have hw0 : Below w.heap.size w W0 := by rw [← hW0]; exact HW1.out.alloc HW1.out.size _
  rw [hW0]
  clear hW0
  have n67 : w.heap.size ≠ w1.heap.size := by have := B6'.out.lt; omega
  clear B6' HW1
  have HB0 := b6.lt
  have hok : OwnOk (fun w' => w'.cell? ⟨w1.heap.size, 0, none⟩ = some (.int .u64 0) ∧ w'.cell? ⟨w1.heap.size, 1, none⟩ = some (.int .u64 (z : Nat)) ∧ Hid (Blk w' w.heap.size #[.bool false, .int .u64 0, .int .u64 0, .int .u64 0, .int .u64 0, .int .u64 0, .int .u64 0] ∧ Blk w' w1.heap.size #[.int .u64 0, .int .u64 (z : Nat)] ∧ Below w.heap.size w w')) W0.heap.size [⟨11, 13, fun w b => Blk w b #[.int .u64 0, .int .u64 0], fun w b => Blk w b #[.int .u64 (hi Q : Nat), .int .u64 (lo Q : Nat)]⟩, ⟨12, 14, fun w b => Blk w b #[.int .u64 0, .int .u64 0], fun w b => Blk w b #[.int .u64 (hi R : Nat), .int .u64 (lo R : Nat)]⟩] := own2_ok (fun v1 v2 h hb => ⟨(h.2.2.out.2.1.below hb b7.lt).cell rfl, (h.2.2.out.2.1.below hb b7.lt).cell rfl, Lib.hid ⟨(h.2.2.out.1.below hb b6.lt), (h.2.2.out.2.1.below hb b7.lt), (h.2.2.out.2.2.trans (hb.mono hw0.size))⟩⟩) ⟨Blk.local _, Blk.local _⟩ ⟨Blk.local _, Blk.local _⟩ (by simp) (by simp) (by simp)
  have hfit : ∀ i, (∀ e ∈ ([⟨11, 13, fun w b => Blk w b #[.int .u64 0, .int .u64 0], fun w b => Blk w b #[.int .u64 (hi Q : Nat), .int .u64 (lo Q : Nat)]⟩, ⟨12, 14, fun w b => Blk w b #[.int .u64 0, .int .u64 0], fun w b => Blk w b #[.int .u64 (hi R : Nat), .int .u64 (lo R : Nat)]⟩] : List Ent), e.x ≠ i ∧ e.s ≠ i) → Fit (fun w' => w'.cell? ⟨w1.heap.size, 0, none⟩ = some (.int .u64 0) ∧ w'.cell? ⟨w1.heap.size, 1, none⟩ = some (.int .u64 (z : Nat)) ∧ Hid (Blk w' w.heap.size #[.bool false, .int .u64 0, .int .u64 0, .int .u64 0, .int .u64 0, .int .u64 0, .int .u64 0] ∧ Blk w' w1.heap.size #[.int .u64 0, .int .u64 (z : Nat)] ∧ Below w.heap.size w w')) (Sof (fun w' => w'.cell? ⟨w1.heap.size, 0, none⟩ = some (.int .u64 0) ∧ w'.cell? ⟨w1.heap.size, 1, none⟩ = some (.int .u64 (z : Nat)) ∧ Hid (Blk w' w.heap.size #[.bool false, .int .u64 0, .int .u64 0, .int .u64 0, .int .u64 0, .int .u64 0, .int .u64 0] ∧ Blk w' w1.heap.size #[.int .u64 0, .int .u64 (z : Nat)] ∧ Below w.heap.size w w')) W0.heap.size [⟨11, 13, fun w b => Blk w b #[.int .u64 0, .int .u64 0], fun w b => Blk w b #[.int .u64 (hi Q : Nat), .int .u64 (lo Q : Nat)]⟩, ⟨12, 14, fun w b => Blk w b #[.int .u64 0, .int .u64 0], fun w b => Blk w b #[.int .u64 (hi R : Nat), .int .u64 (lo R : Nat)]⟩]) i := fun i hi => sof_fit hok.st hok.loc hi
  have HOK := Lib.hid hok; have HF := Lib.hid hfit; clear hok hfit
  refine wp_region_ab (S0 := (fun w' => w'.cell? ⟨w1.heap.size, 0, none⟩ = some (.int .u64 0) ∧ w'.cell? ⟨w1.heap.size, 1, none⟩ = some (.int .u64 (z : Nat)) ∧ Hid (Blk w' w.heap.size #[.bool false, .int .u64 0, .int .u64 0, .int .u64 0, .int .u64 0, .int .u64 0, .int .u64 0] ∧ Blk w' w1.heap.size #[.int .u64 0, .int .u64 (z : Nat)] ∧ Below w.heap.size w w'))) W0.heap.size [⟨11, 13, fun w b => Blk w b #[.int .u64 0, .int .u64 0], fun w b => Blk w b #[.int .u64 (hi Q : Nat), .int .u64 (lo Q : Nat)]⟩, ⟨12, 14, fun w b => Blk w b #[.int .u64 0, .int .u64 0], fun w b => Blk w b #[.int .u64 (hi R : Nat), .int .u64 (lo R : Nat)]⟩] (by kernel_rfl) ⟨b7.drew.cell rfl, b7.drew.cell rfl, Lib.hid ⟨b6.drew, b7.drew, hw0.drew⟩⟩ (Nat.le_refl _) (by simp) ?_
  clear b6 b7
  refine abTake 0 (some 16) (v := ?_) rfl rfl (by kernel_rfl) (by kernel_rfl) (by kernel_rfl) (fun _ _ _ h => h) (HF.out _ (by simp)) (by rfl) ?_ ?_
  rotate_left 1
  · (intro w hSw; (try dsimp only at hSw); go_simp; try with_reducible rfl)
  simp only [Act.put, List.setIfInBounds_toArray, List.set_cons_zero, List.set_cons_succ]
  refine abCall 1 (some 17) rfl rfl (by kernel_rfl) (by kernel_rfl) (by kernel_rfl) (fun _ _ _ h => h) (HF.out _ (by simp)) (by rfl) ?_ (fun w hSw => M1.out w) ?_
  · (intro w hSw; (try dsimp only at hSw); go_simp; try with_reducible rfl)
  simp only [Act.put, List.setIfInBounds_toArray, List.set_cons_zero, List.set_cons_succ]
  refine abTake 2 (some 18) (v := ?_) rfl rfl (by kernel_rfl) (by kernel_rfl) (by kernel_rfl) (fun _ _ _ h => h) (HF.out _ (by simp)) (by rfl) ?_ ?_
  rotate_left 1
  · (intro w hSw; (try dsimp only at hSw); go_simp; try with_reducible rfl)
  simp only [Act.put, List.setIfInBounds_toArray, List.set_cons_zero, List.set_cons_succ]
  refine abCall 3 (some 19) rfl rfl (by kernel_rfl) (by kernel_rfl) (by kernel_rfl) (fun _ _ _ h => h) (HF.out _ (by simp)) (by rfl) ?_ (fun w hSw => M2.out w) ?_
  · (intro w hSw; (try dsimp only at hSw); go_simp; try with_reducible rfl)
  simp only [Act.put, List.setIfInBounds_toArray, List.set_cons_zero, List.set_cons_succ]
  refine abCall 4 (some 20) rfl rfl (by kernel_rfl) (by kernel_rfl) (by kernel_rfl) (fun _ _ _ h => h) (HF.out _ (by simp)) (by rfl) ?_ (fun w hSw => M4.out w) ?_
  · (intro w hSw; (try dsimp only at hSw); go_simp; try with_reducible rfl)
  simp only [Act.put, List.setIfInBounds_toArray, List.set_cons_zero, List.set_cons_succ]
  refine abTake 5 (some 21) (v := ?_) rfl rfl (by kernel_rfl) (by kernel_rfl) (by kernel_rfl) (fun _ _ _ h => h) (HF.out _ (by simp)) (by rfl) ?_ ?_
  rotate_left 1
  · (intro w hSw; (try dsimp only at hSw); go_simp; try with_reducible rfl)
  simp only [Act.put, List.setIfInBounds_toArray, List.set_cons_zero, List.set_cons_succ]
  refine abCall 6 (some 22) rfl rfl (by kernel_rfl) (by kernel_rfl) (by kernel_rfl) (fun _ _ _ h => h) (HF.out _ (by simp)) (by rfl) ?_ (fun w hSw => M5.out w) ?_
  · (intro w hSw; (try dsimp only at hSw); go_simp; try with_reducible rfl)
  simp only [Act.put, List.setIfInBounds_toArray, List.set_cons_zero, List.set_cons_succ]
  refine abTake 7 (some 15) (v := ?_) rfl rfl (by kernel_rfl) (by kernel_rfl) (by kernel_rfl) (fun _ _ _ h => h) (HF.out _ (by simp)) (by rfl) ?_ ?_
  rotate_left 1
  · (intro w hSw; (try dsimp only at hSw); go_simp; try with_reducible rfl)
  simp only [Act.put, List.setIfInBounds_toArray, List.set_cons_zero, List.set_cons_succ]
  refine abTake 8 (some 23) (v := ?_) rfl rfl (by kernel_rfl) (by kernel_rfl) (by kernel_rfl) (fun _ _ _ h => h) (HF.out _ (by simp)) (by rfl) ?_ ?_
  rotate_left 1
  · (intro w hSw; (try dsimp only at hSw); go_simp; try with_reducible rfl)
  simp only [Act.put, List.setIfInBounds_toArray, List.set_cons_zero, List.set_cons_succ]
  refine abTake 9 (some 24) (v := ?_) rfl rfl (by kernel_rfl) (by kernel_rfl) (by kernel_rfl) (fun _ _ _ h => h) (HF.out _ (by simp)) (by rfl) ?_ ?_
  rotate_left 1
  · (intro w hSw; (try dsimp only at hSw); go_simp; try with_reducible rfl)
  simp only [Act.put, List.setIfInBounds_toArray, List.set_cons_zero, List.set_cons_succ]
  refine abTake 10 (some 25) (v := ?_) rfl rfl (by kernel_rfl) (by kernel_rfl) (by kernel_rfl) (fun _ _ _ h => h) (HF.out _ (by simp)) (by rfl) ?_ ?_
  rotate_left 1
  · (intro w hSw; (try dsimp only at hSw); go_simp; try with_reducible rfl)
  simp only [Act.put, List.setIfInBounds_toArray, List.set_cons_zero, List.set_cons_succ]
  refine abMake2 11 12 8 9 HOK.out _ _ (List.mem_cons_self) (List.mem_cons_of_mem _ (List.mem_cons_self)) rfl rfl rfl rfl rfl rfl (by kernel_rfl) (by kernel_rfl) (by kernel_rfl) (by kernel_rfl) (by decide) (by simp) (by kernel_rfl) (by kernel_rfl) (by kernel_rfl) (by kernel_rfl) (by kernel_rfl) (by kernel_rfl) ⟨by rfl, .cells #[.int .u64 0, .int .u64 0] 55, fun w hSw => ⟨(by (try dsimp only at hSw); go_simp; try with_reducible rfl), Blk.newAt rfl⟩⟩ ⟨by rfl, .cells #[.int .u64 0, .int .u64 0] 55, fun w hSw => ⟨(by (try dsimp only at hSw); go_simp; try with_reducible rfl), Blk.newAt rfl⟩⟩ (fun p8 p9 hp8 hp9 np8 => ?_)
  simp only [Act.put, List.setIfInBounds_toArray, List.set_cons_zero, List.set_cons_succ]
  refine abStore 13 HOK.out _ (List.mem_cons_self) rfl rfl rfl (by kernel_rfl) (by kernel_rfl) (by kernel_rfl) (by kernel_rfl) (by rfl) ?_ ?_
  · rintro w b hSw hg hB hp
    obtain rfl : b = p8 := hg
    replace hp : Blk w b #[.int .u64 0, .int .u64 0] := hp
    have x0 : w.cell? ⟨b, 0, none⟩ = some (.int .u64 0) := hp.cell rfl
    have x1 : w.cell? ⟨b, 1, none⟩ = some (.int .u64 0) := hp.cell rfl
    have y0 := hp.free 0
    have y1 := hp.free 1
    refine ⟨((w.setCell ⟨b, 0, none⟩ (.int .u64 (hi Q : Nat))).setCell ⟨b, 1, none⟩ (.int .u64 (lo Q : Nat))), ?_, ((hp.set 0 (.int .u64 (hi Q : Nat))).set 1 (.int .u64 (lo Q : Nat))), (((Below.refl _ _).setCell (p := ⟨b, 0, none⟩) hB _).setCell (p := ⟨b, 1, none⟩) hB _), fun k hk => ?_⟩
    · (try dsimp only at hSw); go_simp; try with_reducible rfl
    · exact (Below.heap_setCell _ _ _ _ hk).trans ((Below.heap_setCell _ _ _ _ hk))
  refine abStore 14 HOK.out _ (List.mem_cons_of_mem _ (List.mem_cons_self)) rfl rfl rfl (by kernel_rfl) (by kernel_rfl) (by kernel_rfl) (by kernel_rfl) (by rfl) ?_ ?_
  · rintro w b hSw hg hB hp
    obtain rfl : b = p9 := hg
    replace hp : Blk w b #[.int .u64 0, .int .u64 0] := hp
    have x0 : w.cell? ⟨b, 0, none⟩ = some (.int .u64 0) := hp.cell rfl
    have x1 : w.cell? ⟨b, 1, none⟩ = some (.int .u64 0) := hp.cell rfl
    have y0 := hp.free 0
    have y1 := hp.free 1
    refine ⟨((w.setCell ⟨b, 0, none⟩ (.int .u64 (hi R : Nat))).setCell ⟨b, 1, none⟩ (.int .u64 (lo R : Nat))), ?_, ((hp.set 0 (.int .u64 (hi R : Nat))).set 1 (.int .u64 (lo R : Nat))), (((Below.refl _ _).setCell (p := ⟨b, 0, none⟩) hB _).setCell (p := ⟨b, 1, none⟩) hB _), fun k hk => ?_⟩
    · (try dsimp only at hSw); go_simp; try with_reducible rfl
    · exact (Below.heap_setCell _ _ _ _ hk).trans ((Below.heap_setCell _ _ _ _ hk))
  refine abTake 15 (some 10) (v := ?_) rfl rfl (by kernel_rfl) (by kernel_rfl) (by kernel_rfl) (fun _ _ _ h => h) (HF.out _ (by simp)) (by rfl) ?_ ?_
  rotate_left 1
  · (intro w hSw; (try dsimp only at hSw); go_simp; try with_reducible rfl)
  simp only [Act.put, List.setIfInBounds_toArray, List.set_cons_zero, List.set_cons_succ]
  refine abDone (by kernel_rfl) ?_ _
  rintro w2 hS
  have k8 := sof_post hS _ (List.mem_cons_self) (by kernel_rfl) (by kernel_rfl) (b := p8) rfl
  have k9 := sof_post hS _ (List.mem_cons_of_mem _ (List.mem_cons_self)) (by kernel_rfl) (by kernel_rfl) (b := p9) rfl
  obtain ⟨b6, b7, hw⟩ := hS.1.2.2.out
  have n86 : p8 ≠ w.heap.size := by have := k8.1; omega
  have n96 : p9 ≠ w.heap.size := by have := k9.1; omega
  clear hS HOK HF
  have b8 : Blk w2 p8 #[.int .u64 (hi Q : Nat), .int .u64 (lo Q : Nat)] := k8.2.2
  have b9 : Blk w2 p9 #[.int .u64 (hi R : Nat), .int .u64 (lo R : Nat)] := k9.2.2
  have c60 : w2.cell? ⟨w.heap.size, 0, none⟩ = some (.bool false) := b6.cell rfl
  have c61 : w2.cell? ⟨w.heap.size, 1, none⟩ = some (.int .u64 0) := b6.cell rfl
  have c62 : w2.cell? ⟨w.heap.size, 2, none⟩ = some (.int .u64 0) := b6.cell rfl
  have c63 : w2.cell? ⟨w.heap.size, 3, none⟩ = some (.int .u64 0) := b6.cell rfl
  have c64 : w2.cell? ⟨w.heap.size, 4, none⟩ = some (.int .u64 0) := b6.cell rfl
  have c65 : w2.cell? ⟨w.heap.size, 5, none⟩ = some (.int .u64 0) := b6.cell rfl
  have c66 : w2.cell? ⟨w.heap.size, 6, none⟩ = some (.int .u64 0) := b6.cell rfl
  have f60 := b6.free 0
  have f61 := b6.free 1
  have f62 := b6.free 2
  have f63 := b6.free 3
  have f64 := b6.free 4
  have f65 := b6.free 5
  have f66 := b6.free 6
  have c70 : w2.cell? ⟨w1.heap.size, 0, none⟩ = some (.int .u64 0) := b7.cell rfl
  have c71 : w2.cell? ⟨w1.heap.size, 1, none⟩ = some (.int .u64 (z : Nat)) := b7.cell rfl
  have c80 : w2.cell? ⟨p8, 0, none⟩ = some (.int .u64 (hi Q : Nat)) := b8.cell rfl
  have c81 : w2.cell? ⟨p8, 1, none⟩ = some (.int .u64 (lo Q : Nat)) := b8.cell rfl
  have c90 : w2.cell? ⟨p9, 0, none⟩ = some (.int .u64 (hi R : Nat)) := b9.cell rfl
  have c91 : w2.cell? ⟨p9, 1, none⟩ = some (.int .u64 (lo R : Nat)) := b9.cell rfl
  have HW := Lib.hid hw
  clear hw b6 b7 b8 b9 k8 k9
  have n76 : w1.heap.size ≠ w.heap.size := Ne.symm n67
  go_wp2_with fail
  exact bodyPost_ret (v := .agg #[.bool (!((!(X == Y)) == Z)), .int .u64 (hi Q : Nat), .int .u64 (lo Q : Nat), .int .u64 (hi R : Nat), .int .u64 (lo R : Nat), .int .u64 0, .int .u64 (z : Nat)]) (by simp [results, Try.results58, go_sem, c60, c61, c62, c63, c64, c65, c66]) rfl ⟨rfl, (((((((HW.out.setCell (p := ⟨w.heap.size, 0, none⟩) (Nat.le_refl _) _).setCell (p := ⟨w.heap.size, 1, none⟩) (Nat.le_refl _) _).setCell (p := ⟨w.heap.size, 2, none⟩) (Nat.le_refl _) _).setCell (p := ⟨w.heap.size, 3, none⟩) (Nat.le_refl _) _).setCell (p := ⟨w.heap.size, 4, none⟩) (Nat.le_refl _) _).setCell (p := ⟨w.heap.size, 5, none⟩) (Nat.le_refl _) _).setCell (p := ⟨w.heap.size, 6, none⟩) (Nat.le_refl _) _)⟩
set_option maxHeartbeats 1000000 in
theorem divided_no (a b c : Int) (x y z n Q R : Nat) (w : World)
    (m1 : ∀ w, Calls Try.prog 55 #[.int .i64 a] w fun e w' => e = .returned (.int .u64 (x : Nat)) ∧ Below w.heap.size w w')
    (m2 : ∀ w, Calls Try.prog 55 #[.int .i64 b] w fun e w' => e = .returned (.int .u64 (y : Nat)) ∧ Below w.heap.size w w')
    (m3 : ∀ w, Calls Try.prog 55 #[.int .i64 c] w fun e w' => e = .returned (.int .u64 (z : Nat)) ∧ Below w.heap.size w w')
    (m4 : ∀ w, Calls Try.prog 54 #[.int .u64 (x : Nat), .int .u64 (y : Nat)] w fun e w' => e = .returned (.agg #[.int .u64 (hi n : Nat), .int .u64 (lo n : Nat)]) ∧ Below w.heap.size w w')
    (m5 : ∀ w, Calls Try.prog 76 #[.agg #[.int .u64 (hi n : Nat), .int .u64 (lo n : Nat)], .agg #[.int .u64 0, .int .u64 (z : Nat)]] w fun e w' => e = .returned (.tuple #[.agg #[.int .u64 (hi Q : Nat), .int .u64 (lo Q : Nat)], .agg #[.int .u64 (hi R : Nat), .int .u64 (lo R : Nat)], .int .i64 4]) ∧ Below w.heap.size w w') :
    Calls Try.prog 58 #[.int .i64 a, .int .i64 b, .int .i64 c] w fun e w' => e = gaveUp 4 ∧ Below w.heap.size w w' := by
  have M1 := Lib.hid m1; have M2 := Lib.hid m2; have M3 := Lib.hid m3; have M4 := Lib.hid m4; have M5 := Lib.hid m5
  clear m1 m2 m3 m4 m5
  go_enter Try.func58, Try.ntmps58
  go_wp2_with fail
  refine (M3.out _).mono ?_
  rintro e w1 ⟨rfl, hb1⟩
  have b6 : Blk w1 w.heap.size #[.bool false, .int .u64 0, .int .u64 0, .int .u64 0, .int .u64 0, .int .u64 0, .int .u64 0] := (Blk.new _ _ _).call hb1
  have hw1 : Below w.heap.size w w1 := ((Below.refl _ _).alloc (Nat.le_refl _) _).trans (hb1.mono (by simp))
  have B6' := Lib.hid b6; have HW1 := Lib.hid hw1
  clear hb1 b6 hw1
  go_upto_region 2 with fail
  obtain ⟨W0, hW0⟩ : ∃ W0, w1.alloc (.cells #[.int .u64 0, .int .u64 (z : Nat)] 55) = W0 := ⟨_, rfl⟩
  have b6 : Blk W0 w.heap.size #[.bool false, .int .u64 0, .int .u64 0, .int .u64 0, .int .u64 0, .int .u64 0, .int .u64 0] := by rw [← hW0]; exact B6'.out.alloc _
  have b7 : Blk W0 w1.heap.size #[.int .u64 0, .int .u64 (z : Nat)] := by rw [← hW0]; exact Blk.new _ _ _
  have hw0 : Below w.heap.size w W0 := by rw [← hW0]; exact HW1.out.alloc HW1.out.size _
  rw [hW0]
  clear hW0
  have n67 : w.heap.size ≠ w1.heap.size := by have := B6'.out.lt; omega
  clear B6' HW1
  have HB0 := b6.lt
  have hok : OwnOk (fun w' => w'.cell? ⟨w1.heap.size, 0, none⟩ = some (.int .u64 0) ∧ w'.cell? ⟨w1.heap.size, 1, none⟩ = some (.int .u64 (z : Nat)) ∧ Hid (Blk w' w.heap.size #[.bool false, .int .u64 0, .int .u64 0, .int .u64 0, .int .u64 0, .int .u64 0, .int .u64 0] ∧ Blk w' w1.heap.size #[.int .u64 0, .int .u64 (z : Nat)] ∧ Below w.heap.size w w')) W0.heap.size [⟨11, 13, fun w b => Blk w b #[.int .u64 0, .int .u64 0], fun w b => Blk w b #[.int .u64 (hi Q : Nat), .int .u64 (lo Q : Nat)]⟩, ⟨12, 14, fun w b => Blk w b #[.int .u64 0, .int .u64 0], fun w b => Blk w b #[.int .u64 (hi R : Nat), .int .u64 (lo R : Nat)]⟩] := own2_ok (fun v1 v2 h hb => ⟨(h.2.2.out.2.1.below hb b7.lt).cell rfl, (h.2.2.out.2.1.below hb b7.lt).cell rfl, Lib.hid ⟨(h.2.2.out.1.below hb b6.lt), (h.2.2.out.2.1.below hb b7.lt), (h.2.2.out.2.2.trans (hb.mono hw0.size))⟩⟩) ⟨Blk.local _, Blk.local _⟩ ⟨Blk.local _, Blk.local _⟩ (by simp) (by simp) (by simp)
  have hfit : ∀ i, (∀ e ∈ ([⟨11, 13, fun w b => Blk w b #[.int .u64 0, .int .u64 0], fun w b => Blk w b #[.int .u64 (hi Q : Nat), .int .u64 (lo Q : Nat)]⟩, ⟨12, 14, fun w b => Blk w b #[.int .u64 0, .int .u64 0], fun w b => Blk w b #[.int .u64 (hi R : Nat), .int .u64 (lo R : Nat)]⟩] : List Ent), e.x ≠ i ∧ e.s ≠ i) → Fit (fun w' => w'.cell? ⟨w1.heap.size, 0, none⟩ = some (.int .u64 0) ∧ w'.cell? ⟨w1.heap.size, 1, none⟩ = some (.int .u64 (z : Nat)) ∧ Hid (Blk w' w.heap.size #[.bool false, .int .u64 0, .int .u64 0, .int .u64 0, .int .u64 0, .int .u64 0, .int .u64 0] ∧ Blk w' w1.heap.size #[.int .u64 0, .int .u64 (z : Nat)] ∧ Below w.heap.size w w')) (Sof (fun w' => w'.cell? ⟨w1.heap.size, 0, none⟩ = some (.int .u64 0) ∧ w'.cell? ⟨w1.heap.size, 1, none⟩ = some (.int .u64 (z : Nat)) ∧ Hid (Blk w' w.heap.size #[.bool false, .int .u64 0, .int .u64 0, .int .u64 0, .int .u64 0, .int .u64 0, .int .u64 0] ∧ Blk w' w1.heap.size #[.int .u64 0, .int .u64 (z : Nat)] ∧ Below w.heap.size w w')) W0.heap.size [⟨11, 13, fun w b => Blk w b #[.int .u64 0, .int .u64 0], fun w b => Blk w b #[.int .u64 (hi Q : Nat), .int .u64 (lo Q : Nat)]⟩, ⟨12, 14, fun w b => Blk w b #[.int .u64 0, .int .u64 0], fun w b => Blk w b #[.int .u64 (hi R : Nat), .int .u64 (lo R : Nat)]⟩]) i := fun i hi => sof_fit hok.st hok.loc hi
  have HOK := Lib.hid hok; have HF := Lib.hid hfit; clear hok hfit
  refine wp_region_ab (S0 := (fun w' => w'.cell? ⟨w1.heap.size, 0, none⟩ = some (.int .u64 0) ∧ w'.cell? ⟨w1.heap.size, 1, none⟩ = some (.int .u64 (z : Nat)) ∧ Hid (Blk w' w.heap.size #[.bool false, .int .u64 0, .int .u64 0, .int .u64 0, .int .u64 0, .int .u64 0, .int .u64 0] ∧ Blk w' w1.heap.size #[.int .u64 0, .int .u64 (z : Nat)] ∧ Below w.heap.size w w'))) W0.heap.size [⟨11, 13, fun w b => Blk w b #[.int .u64 0, .int .u64 0], fun w b => Blk w b #[.int .u64 (hi Q : Nat), .int .u64 (lo Q : Nat)]⟩, ⟨12, 14, fun w b => Blk w b #[.int .u64 0, .int .u64 0], fun w b => Blk w b #[.int .u64 (hi R : Nat), .int .u64 (lo R : Nat)]⟩] (by kernel_rfl) ⟨b7.drew.cell rfl, b7.drew.cell rfl, Lib.hid ⟨b6.drew, b7.drew, hw0.drew⟩⟩ (Nat.le_refl _) (by simp) ?_
  clear b6 b7
  refine abTake 0 (some 16) (v := ?_) rfl rfl (by kernel_rfl) (by kernel_rfl) (by kernel_rfl) (fun _ _ _ h => h) (HF.out _ (by simp)) (by rfl) ?_ ?_
  rotate_left 1
  · (intro w hSw; (try dsimp only at hSw); go_simp; try with_reducible rfl)
  simp only [Act.put, List.setIfInBounds_toArray, List.set_cons_zero, List.set_cons_succ]
  refine abCall 1 (some 17) rfl rfl (by kernel_rfl) (by kernel_rfl) (by kernel_rfl) (fun _ _ _ h => h) (HF.out _ (by simp)) (by rfl) ?_ (fun w hSw => M1.out w) ?_
  · (intro w hSw; (try dsimp only at hSw); go_simp; try with_reducible rfl)
  simp only [Act.put, List.setIfInBounds_toArray, List.set_cons_zero, List.set_cons_succ]
  refine abTake 2 (some 18) (v := ?_) rfl rfl (by kernel_rfl) (by kernel_rfl) (by kernel_rfl) (fun _ _ _ h => h) (HF.out _ (by simp)) (by rfl) ?_ ?_
  rotate_left 1
  · (intro w hSw; (try dsimp only at hSw); go_simp; try with_reducible rfl)
  simp only [Act.put, List.setIfInBounds_toArray, List.set_cons_zero, List.set_cons_succ]
  refine abCall 3 (some 19) rfl rfl (by kernel_rfl) (by kernel_rfl) (by kernel_rfl) (fun _ _ _ h => h) (HF.out _ (by simp)) (by rfl) ?_ (fun w hSw => M2.out w) ?_
  · (intro w hSw; (try dsimp only at hSw); go_simp; try with_reducible rfl)
  simp only [Act.put, List.setIfInBounds_toArray, List.set_cons_zero, List.set_cons_succ]
  refine abCall 4 (some 20) rfl rfl (by kernel_rfl) (by kernel_rfl) (by kernel_rfl) (fun _ _ _ h => h) (HF.out _ (by simp)) (by rfl) ?_ (fun w hSw => M4.out w) ?_
  · (intro w hSw; (try dsimp only at hSw); go_simp; try with_reducible rfl)
  simp only [Act.put, List.setIfInBounds_toArray, List.set_cons_zero, List.set_cons_succ]
  refine abTake 5 (some 21) (v := ?_) rfl rfl (by kernel_rfl) (by kernel_rfl) (by kernel_rfl) (fun _ _ _ h => h) (HF.out _ (by simp)) (by rfl) ?_ ?_
  rotate_left 1
  · (intro w hSw; (try dsimp only at hSw); go_simp; try with_reducible rfl)
  simp only [Act.put, List.setIfInBounds_toArray, List.set_cons_zero, List.set_cons_succ]
  refine abCall 6 (some 22) rfl rfl (by kernel_rfl) (by kernel_rfl) (by kernel_rfl) (fun _ _ _ h => h) (HF.out _ (by simp)) (by rfl) ?_ (fun w hSw => M5.out w) ?_
  · (intro w hSw; (try dsimp only at hSw); go_simp; try with_reducible rfl)
  simp only [Act.put, List.setIfInBounds_toArray, List.set_cons_zero, List.set_cons_succ]
  refine abTake 7 (some 15) (v := ?_) rfl rfl (by kernel_rfl) (by kernel_rfl) (by kernel_rfl) (fun _ _ _ h => h) (HF.out _ (by simp)) (by rfl) ?_ ?_
  rotate_left 1
  · (intro w hSw; (try dsimp only at hSw); go_simp; try with_reducible rfl)
  simp only [Act.put, List.setIfInBounds_toArray, List.set_cons_zero, List.set_cons_succ]
  refine abTake 8 (some 23) (v := ?_) rfl rfl (by kernel_rfl) (by kernel_rfl) (by kernel_rfl) (fun _ _ _ h => h) (HF.out _ (by simp)) (by rfl) ?_ ?_
  rotate_left 1
  · (intro w hSw; (try dsimp only at hSw); go_simp; try with_reducible rfl)
  simp only [Act.put, List.setIfInBounds_toArray, List.set_cons_zero, List.set_cons_succ]
  refine abTake 9 (some 24) (v := ?_) rfl rfl (by kernel_rfl) (by kernel_rfl) (by kernel_rfl) (fun _ _ _ h => h) (HF.out _ (by simp)) (by rfl) ?_ ?_
  rotate_left 1
  · (intro w hSw; (try dsimp only at hSw); go_simp; try with_reducible rfl)
  simp only [Act.put, List.setIfInBounds_toArray, List.set_cons_zero, List.set_cons_succ]
  refine abTake 10 (some 25) (v := ?_) rfl rfl (by kernel_rfl) (by kernel_rfl) (by kernel_rfl) (fun _ _ _ h => h) (HF.out _ (by simp)) (by rfl) ?_ ?_
  rotate_left 1
  · (intro w hSw; (try dsimp only at hSw); go_simp; try with_reducible rfl)
  simp only [Act.put, List.setIfInBounds_toArray, List.set_cons_zero, List.set_cons_succ]
  refine abMake2 11 12 8 9 HOK.out _ _ (List.mem_cons_self) (List.mem_cons_of_mem _ (List.mem_cons_self)) rfl rfl rfl rfl rfl rfl (by kernel_rfl) (by kernel_rfl) (by kernel_rfl) (by kernel_rfl) (by decide) (by simp) (by kernel_rfl) (by kernel_rfl) (by kernel_rfl) (by kernel_rfl) (by kernel_rfl) (by kernel_rfl) ⟨by rfl, .cells #[.int .u64 0, .int .u64 0] 55, fun w hSw => ⟨(by (try dsimp only at hSw); go_simp; try with_reducible rfl), Blk.newAt rfl⟩⟩ ⟨by rfl, .cells #[.int .u64 0, .int .u64 0] 55, fun w hSw => ⟨(by (try dsimp only at hSw); go_simp; try with_reducible rfl), Blk.newAt rfl⟩⟩ (fun p8 p9 hp8 hp9 np8 => ?_)
  simp only [Act.put, List.setIfInBounds_toArray, List.set_cons_zero, List.set_cons_succ]
  refine abStore 13 HOK.out _ (List.mem_cons_self) rfl rfl rfl (by kernel_rfl) (by kernel_rfl) (by kernel_rfl) (by kernel_rfl) (by rfl) ?_ ?_
  · rintro w b hSw hg hB hp
    obtain rfl : b = p8 := hg
    replace hp : Blk w b #[.int .u64 0, .int .u64 0] := hp
    have x0 : w.cell? ⟨b, 0, none⟩ = some (.int .u64 0) := hp.cell rfl
    have x1 : w.cell? ⟨b, 1, none⟩ = some (.int .u64 0) := hp.cell rfl
    have y0 := hp.free 0
    have y1 := hp.free 1
    refine ⟨((w.setCell ⟨b, 0, none⟩ (.int .u64 (hi Q : Nat))).setCell ⟨b, 1, none⟩ (.int .u64 (lo Q : Nat))), ?_, ((hp.set 0 (.int .u64 (hi Q : Nat))).set 1 (.int .u64 (lo Q : Nat))), (((Below.refl _ _).setCell (p := ⟨b, 0, none⟩) hB _).setCell (p := ⟨b, 1, none⟩) hB _), fun k hk => ?_⟩
    · (try dsimp only at hSw); go_simp; try with_reducible rfl
    · exact (Below.heap_setCell _ _ _ _ hk).trans ((Below.heap_setCell _ _ _ _ hk))
  refine abStore 14 HOK.out _ (List.mem_cons_of_mem _ (List.mem_cons_self)) rfl rfl rfl (by kernel_rfl) (by kernel_rfl) (by kernel_rfl) (by kernel_rfl) (by rfl) ?_ ?_
  · rintro w b hSw hg hB hp
    obtain rfl : b = p9 := hg
    replace hp : Blk w b #[.int .u64 0, .int .u64 0] := hp
    have x0 : w.cell? ⟨b, 0, none⟩ = some (.int .u64 0) := hp.cell rfl
    have x1 : w.cell? ⟨b, 1, none⟩ = some (.int .u64 0) := hp.cell rfl
    have y0 := hp.free 0
    have y1 := hp.free 1
    refine ⟨((w.setCell ⟨b, 0, none⟩ (.int .u64 (hi R : Nat))).setCell ⟨b, 1, none⟩ (.int .u64 (lo R : Nat))), ?_, ((hp.set 0 (.int .u64 (hi R : Nat))).set 1 (.int .u64 (lo R : Nat))), (((Below.refl _ _).setCell (p := ⟨b, 0, none⟩) hB _).setCell (p := ⟨b, 1, none⟩) hB _), fun k hk => ?_⟩
    · (try dsimp only at hSw); go_simp; try with_reducible rfl
    · exact (Below.heap_setCell _ _ _ _ hk).trans ((Below.heap_setCell _ _ _ _ hk))
  refine abTake 15 (some 10) (v := ?_) rfl rfl (by kernel_rfl) (by kernel_rfl) (by kernel_rfl) (fun _ _ _ h => h) (HF.out _ (by simp)) (by rfl) ?_ ?_
  rotate_left 1
  · (intro w hSw; (try dsimp only at hSw); go_simp; try with_reducible rfl)
  simp only [Act.put, List.setIfInBounds_toArray, List.set_cons_zero, List.set_cons_succ]
  refine abDone (by kernel_rfl) ?_ _
  rintro w2 hS
  have k8 := sof_post hS _ (List.mem_cons_self) (by kernel_rfl) (by kernel_rfl) (b := p8) rfl
  have k9 := sof_post hS _ (List.mem_cons_of_mem _ (List.mem_cons_self)) (by kernel_rfl) (by kernel_rfl) (b := p9) rfl
  obtain ⟨b6, b7, hw⟩ := hS.1.2.2.out
  have n86 : p8 ≠ w.heap.size := by have := k8.1; omega
  have n96 : p9 ≠ w.heap.size := by have := k9.1; omega
  clear hS HOK HF
  have HW := Lib.hid hw
  clear hw b6 b7 k8 k9
  go_wp2_with fail
  exact ⟨rfl, rfl, HW.out⟩

theorem divided_any (a b c : Int) (ha : IsInt a) (hb : IsInt b) (hc : IsInt c) (h0 : c ≠ 0) (w : World) :
    Calls Try.prog 58 #[.int .i64 a, .int .i64 b, .int .i64 c] w fun e w' => e = .returned (.agg #[.bool (mdB a b c), .int .u64 (hi (mdQ a b c) : Nat), .int .u64 (lo (mdQ a b c) : Nat), .int .u64 (hi (mdR a b c) : Nat), .int .u64 (lo (mdR a b c) : Nat), .int .u64 0, .int .u64 (c.natAbs : Nat)]) ∧ Below w.heap.size w w' := by
  have s1 : ∀ a, IsInt a → ∀ w, Calls Try.prog 55 #[.int .i64 a] w fun e w' => e = .returned (.int .u64 (a.natAbs : Nat)) ∧ Below w.heap.size w w' := fun a ha w => (size_any a ha w).mono fun e w' h => ⟨h.1, by rw [h.2]; exact Below.refl _ _⟩
  refine divided_ok a b c _ _ _ _ _ _ _ _ _ w rfl rfl rfl (s1 a ha) (s1 b hb) (s1 c hc) (fixMul_any _ _ (natAbs_B ha) (natAbs_B hb)) ?_
  intro w
  have := div_num (a.natAbs * b.natAbs) c.natAbs (prod_fit ha hb) (by have := natAbs_lt hc; unfold M128; omega) (by omega) w
  rw [hi_low _ (natAbs_B hc), lo_low _ (natAbs_B hc)] at this
  exact this
theorem divided_zero (a b : Int) (ha : IsInt a) (hb : IsInt b) (w : World) :
    Calls Try.prog 58 #[.int .i64 a, .int .i64 b, .int .i64 0] w fun e w' => e = gaveUp 4 ∧ Below w.heap.size w w' := by
  have s1 : ∀ a, IsInt a → ∀ w, Calls Try.prog 55 #[.int .i64 a] w fun e w' => e = .returned (.int .u64 (a.natAbs : Nat)) ∧ Below w.heap.size w w' := fun a ha w => (size_any a ha w).mono fun e w' h => ⟨h.1, by rw [h.2]; exact Below.refl _ _⟩
  exact divided_no a b 0 _ _ 0 _ 0 0 w (s1 a ha) (s1 b hb) (s1 0 isInt_zero) (fixMul_any _ _ (natAbs_B ha) (natAbs_B hb)) (div_zero _)
end Go.Proofs.Ytacnaencmbnjpaa
