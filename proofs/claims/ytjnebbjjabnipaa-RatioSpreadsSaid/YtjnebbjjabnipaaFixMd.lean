/- fix.MulDiv: a product that is divided and rounded by a mode, if it is an int. -/
import Derived.Test.YtjnebbjjabnipaaFixMul
import Derived.Test.YtjnebbjjabnipaaGen
import Derived.Test.YtjnebbjjabnipaaDiv
import Derived.Test.YtjnebbjjabnipaaBase
/- fix.divided: the product of two ints, divided by a third one: how often, what is left, the divisor, and the sign; by 0 it gives up. -/
namespace Go.Proofs.Ytjnebbjjabnipaa
open Go.RowKit

set_option maxHeartbeats 1000000 in
theorem divided_ok (a b c : Int) (x y z n Q R : Nat) (X Y Z : Bool) (w : World) (hX : decide (a < 0) = X) (hY : decide (b < 0) = Y) (hZ : decide (c < 0) = Z)
    (m1 : ∀ w, Calls Try.prog 43 #[.int .i64 a] w fun e w' => e = .returned (.int .u64 (x : Nat)) ∧ Below w.heap.size w w')
    (m2 : ∀ w, Calls Try.prog 43 #[.int .i64 b] w fun e w' => e = .returned (.int .u64 (y : Nat)) ∧ Below w.heap.size w w')
    (m3 : ∀ w, Calls Try.prog 43 #[.int .i64 c] w fun e w' => e = .returned (.int .u64 (z : Nat)) ∧ Below w.heap.size w w')
    (m4 : ∀ w, Calls Try.prog 42 #[.int .u64 (x : Nat), .int .u64 (y : Nat)] w fun e w' => e = .returned (.agg #[.int .u64 (hi n : Nat), .int .u64 (lo n : Nat)]) ∧ Below w.heap.size w w')
    (m5 : ∀ w, Calls Try.prog 66 #[.agg #[.int .u64 (hi n : Nat), .int .u64 (lo n : Nat)], .agg #[.int .u64 0, .int .u64 (z : Nat)]] w fun e w' => e = .returned (.tuple #[.agg #[.int .u64 (hi Q : Nat), .int .u64 (lo Q : Nat)], .agg #[.int .u64 (hi R : Nat), .int .u64 (lo R : Nat)], .int .i64 0]) ∧ Below w.heap.size w w') :
    Calls Try.prog 59 #[.int .i64 a, .int .i64 b, .int .i64 c] w fun e w' => e = .returned (.agg #[.bool (!((!(X == Y)) == Z)), .int .u64 (hi Q : Nat), .int .u64 (lo Q : Nat), .int .u64 (hi R : Nat), .int .u64 (lo R : Nat), .int .u64 0, .int .u64 (z : Nat)]) ∧ Below w.heap.size w w' := by
  have M1 := Lib.hid m1; have M2 := Lib.hid m2; have M3 := Lib.hid m3; have M4 := Lib.hid m4; have M5 := Lib.hid m5
  clear m1 m2 m3 m4 m5
  go_enter Try.func59, Try.ntmps59
  go_wp2_with fail
  refine (M3.out _).mono ?_
  rintro e w1 ⟨rfl, hb1⟩
  have b6 : Blk w1 w.heap.size #[.bool false, .int .u64 0, .int .u64 0, .int .u64 0, .int .u64 0, .int .u64 0, .int .u64 0] := (Blk.new _ _ _).call hb1
  have hw1 : Below w.heap.size w w1 := ((Below.refl _ _).alloc (Nat.le_refl _) _).trans (hb1.mono (by simp))
  have B6' := Lib.hid b6; have HW1 := Lib.hid hw1
  clear hb1 b6 hw1
  go_upto_region 2 with fail
  obtain ⟨W0, hW0⟩ : ∃ W0, w1.alloc (.cells #[.int .u64 0, .int .u64 (z : Nat)] 48) = W0 := ⟨_, rfl⟩
  have b6 : Blk W0 w.heap.size #[.bool false, .int .u64 0, .int .u64 0, .int .u64 0, .int .u64 0, .int .u64 0, .int .u64 0] := by rw [← hW0]; exact B6'.out.alloc _
  have b7 : Blk W0 w1.heap.size #[.int .u64 0, .int .u64 (z : Nat)] := by rw [← hW0]; exact Blk.new _ _ _
  have hw0 : Below w.heap.size w W0 := by rw [← hW0]; exact HW1.out.alloc HW1.out.size _
  rw [hW0]
  clear hW0
  have n67 : w.heap.size ≠ w1.heap.size := by have := B6'.out.lt; omega
  clear B6' HW1
  have HB0 := b6.lt
  have hok : OwnOk (fun w' => w'.cell? ⟨w1.heap.size, 0, none⟩ = some (.int .u64 0) ∧ w'.cell? ⟨w1.heap.size, 1, none⟩ = some (.int .u64 (z : Nat)) ∧ Hid (Blk w' w.heap.size #[.bool false, .int .u64 0, .int .u64 0, .int .u64 0, .int .u64 0, .int .u64 0, .int .u64 0] ∧ Blk w' w1.heap.size #[.int .u64 0, .int .u64 (z : Nat)] ∧ Below w.heap.size w w')) W0.heap.size [⟨11, 13, fun w b => Blk w b #[.int .u64 0, .int .u64 0], fun w b => Blk w b #[.int .u64 (hi Q : Nat), .int .u64 (lo Q : Nat)]⟩, ⟨12, 14, fun w b => Blk w b #[.int .u64 0, .int .u64 0], fun w b => Blk w b #[.int .u64 (hi R : Nat), .int .u64 (lo R : Nat)]⟩] := own2_ok (fun v1 v2 h hb => ⟨(h.2.2.out.2.1.below hb b7.lt).cell rfl, (h.2.2.out.2.1.below hb b7.lt).cell rfl, Lib.hid ⟨(h.2.2.out.1.below hb b6.lt), (h.2.2.out.2.1.below hb b7.lt), (h.2.2.out.2.2.trans (hb.mono hw0.size))⟩⟩) ⟨Blk.local _, Blk.local _⟩ ⟨Blk.local _, Blk.local _⟩ (by simp) (by simp) (by simp)
  have hfit : ∀ i, (∀ e ∈ ([⟨11, 13, fun w b => Blk w b #[.int .u64 0, .int .u64 0], fun w b => Blk w b #[.int .u64 (hi Q : Nat), .int .u64 (lo Q : Nat)]⟩, ⟨12, 14, fun w b => Blk w b #[.int .u64 0, .int .u64 0], fun w b => Blk w b #[.int .u64 (hi R : Nat), .int .u64 (lo R : Nat)]⟩] : List Ent), e.x ≠ i ∧ e.s ≠ i) → Fit (fun w' => w'.cell? ⟨w1.heap.size, 0, none⟩ = some (.int .u64 0) ∧ w'.cell? ⟨w1.heap.size, 1, none⟩ = some (.int .u64 (z : Nat)) ∧ Hid (Blk w' w.heap.size #[.bool false, .int .u64 0, .int .u64 0, .int .u64 0, .int .u64 0, .int .u64 0, .int .u64 0] ∧ Blk w' w1.heap.size #[.int .u64 0, .int .u64 (z : Nat)] ∧ Below w.heap.size w w')) (Sof (fun w' => w'.cell? ⟨w1.heap.size, 0, none⟩ = some (.int .u64 0) ∧ w'.cell? ⟨w1.heap.size, 1, none⟩ = some (.int .u64 (z : Nat)) ∧ Hid (Blk w' w.heap.size #[.bool false, .int .u64 0, .int .u64 0, .int .u64 0, .int .u64 0, .int .u64 0, .int .u64 0] ∧ Blk w' w1.heap.size #[.int .u64 0, .int .u64 (z : Nat)] ∧ Below w.heap.size w w')) W0.heap.size [⟨11, 13, fun w b => Blk w b #[.int .u64 0, .int .u64 0], fun w b => Blk w b #[.int .u64 (hi Q : Nat), .int .u64 (lo Q : Nat)]⟩, ⟨12, 14, fun w b => Blk w b #[.int .u64 0, .int .u64 0], fun w b => Blk w b #[.int .u64 (hi R : Nat), .int .u64 (lo R : Nat)]⟩]) i := fun i hi => sof_fit hok.st hok.loc hi
  have HOK := Lib.hid hok; have HF := Lib.hid hfit; clear hok hfit
  refine wp_region_ab (S0 := (fun w' => w'.cell? ⟨w1.heap.size, 0, none⟩ = some (.int .u64 0) ∧ w'.cell? ⟨w1.heap.size, 1, none⟩ = some (.int .u64 (z : Nat)) ∧ Hid (Blk w' w.heap.size #[.bool false, .int .u64 0, .int .u64 0, .int .u64 0, .int .u64 0, .int .u64 0, .int .u64 0] ∧ Blk w' w1.heap.size #[.int .u64 0, .int .u64 (z : Nat)] ∧ Below w.heap.size w w'))) W0.heap.size [⟨11, 13, fun w b => Blk w b #[.int .u64 0, .int .u64 0], fun w b => Blk w b #[.int .u64 (hi Q : Nat), .int .u64 (lo Q : Nat)]⟩, ⟨12, 14, fun w b => Blk w b #[.int .u64 0, .int .u64 0], fun w b => Blk w b #[.int .u64 (hi R : Nat), .int .u64 (lo R : Nat)]⟩] (by kernel_rfl) ⟨b7.drew.cell rfl, b7.drew.cell rfl, Lib.hid ⟨b6.drew, b7.drew, hw0.drew⟩⟩ (Nat.le_refl _) (by simp) ?_
  clear b6 b7
  refine abTake 0 (some 16) (v := ?_) rfl rfl (by kernel_rfl) (by kernel_rfl) (by kernel_rfl) (fun _ _ _ h => h) (HF.out _ (by simp)) (by rfl) ?_ ?_
  rotate_left 1
  · (intro w hSw; (try dsimp only at hSw); go_simp; try with_reducible rfl)
  simp only [Act.put, List.setIfInBounds_toArray, List.set_cons_zero, List.set_cons_succ]
  refine abCall 1 (some 17) rfl rfl (by kernel_rfl) (by kernel_rfl) (by kernel_rfl) (fun _ _ _ h => h) (HF.out _ (by simp)) (by rfl) ?_ (fun w hSw => M1.out w) ?_
  · (intro w hSw; (try dsimp only at hSw); go_simp; try with_reducible rfl)
  simp only [Act.put, List.setIfInBounds_toArray, List.set_cons_zero, List.set_cons_succ]
  refine abTake 2 (some 18) (v := ?_) rfl rfl (by kernel_rfl) (by kernel_rfl) (by kernel_rfl) (fun _ _ _ h => h) (HF.out _ (by simp)) (by rfl) ?_ ?_
  rotate_left 1
  · (intro w hSw; (try dsimp only at hSw); go_simp; try with_reducible rfl)
  simp only [Act.put, List.setIfInBounds_toArray, List.set_cons_zero, List.set_cons_succ]
  refine abCall 3 (some 19) rfl rfl (by kernel_rfl) (by kernel_rfl) (by kernel_rfl) (fun _ _ _ h => h) (HF.out _ (by simp)) (by rfl) ?_ (fun w hSw => M2.out w) ?_
  · (intro w hSw; (try dsimp only at hSw); go_simp; try with_reducible rfl)
  simp only [Act.put, List.setIfInBounds_toArray, List.set_cons_zero, List.set_cons_succ]
  refine abCall 4 (some 20) rfl rfl (by kernel_rfl) (by kernel_rfl) (by kernel_rfl) (fun _ _ _ h => h) (HF.out _ (by simp)) (by rfl) ?_ (fun w hSw => M4.out w) ?_
  · (intro w hSw; (try dsimp only at hSw); go_simp; try with_reducible rfl)
  simp only [Act.put, List.setIfInBounds_toArray, List.set_cons_zero, List.set_cons_succ]
  refine abTake 5 (some 21) (v := ?_) rfl rfl (by kernel_rfl) (by kernel_rfl) (by kernel_rfl) (fun _ _ _ h => h) (HF.out _ (by simp)) (by rfl) ?_ ?_
  rotate_left 1
  · (intro w hSw; (try dsimp only at hSw); go_simp; try with_reducible rfl)
  simp only [Act.put, List.setIfInBounds_toArray, List.set_cons_zero, List.set_cons_succ]
  refine abCall 6 (some 22) rfl rfl (by kernel_rfl) (by kernel_rfl) (by kernel_rfl) (fun _ _ _ h => h) (HF.out _ (by simp)) (by rfl) ?_ (fun w hSw => M5.out w) ?_
  · (intro w hSw; (try dsimp only at hSw); go_simp; try with_reducible rfl)
  simp only [Act.put, List.setIfInBounds_toArray, List.set_cons_zero, List.set_cons_succ]
  refine abTake 7 (some 15) (v := ?_) rfl rfl (by kernel_rfl) (by kernel_rfl) (by kernel_rfl) (fun _ _ _ h => h) (HF.out _ (by simp)) (by rfl) ?_ ?_
  rotate_left 1
  · (intro w hSw; (try dsimp only at hSw); go_simp; try with_reducible rfl)
  simp only [Act.put, List.setIfInBounds_toArray, List.set_cons_zero, List.set_cons_succ]
  refine abTake 8 (some 23) (v := ?_) rfl rfl (by kernel_rfl) (by kernel_rfl) (by kernel_rfl) (fun _ _ _ h => h) (HF.out _ (by simp)) (by rfl) ?_ ?_
  rotate_left 1
  · (intro w hSw; (try dsimp only at hSw); go_simp; try with_reducible rfl)
  simp only [Act.put, List.setIfInBounds_toArray, List.set_cons_zero, List.set_cons_succ]
  refine abTake 9 (some 24) (v := ?_) rfl rfl (by kernel_rfl) (by kernel_rfl) (by kernel_rfl) (fun _ _ _ h => h) (HF.out _ (by simp)) (by rfl) ?_ ?_
  rotate_left 1
  · (intro w hSw; (try dsimp only at hSw); go_simp; try with_reducible rfl)
  simp only [Act.put, List.setIfInBounds_toArray, List.set_cons_zero, List.set_cons_succ]
  refine abTake 10 (some 25) (v := ?_) rfl rfl (by kernel_rfl) (by kernel_rfl) (by kernel_rfl) (fun _ _ _ h => h) (HF.out _ (by simp)) (by rfl) ?_ ?_
  rotate_left 1
  · (intro w hSw; (try dsimp only at hSw); go_simp; try with_reducible rfl)
  simp only [Act.put, List.setIfInBounds_toArray, List.set_cons_zero, List.set_cons_succ]
  refine abMake2 11 12 8 9 HOK.out _ _ (List.mem_cons_self) (List.mem_cons_of_mem _ (List.mem_cons_self)) rfl rfl rfl rfl rfl rfl (by kernel_rfl) (by kernel_rfl) (by kernel_rfl) (by kernel_rfl) (by decide) (by simp) (by kernel_rfl) (by kernel_rfl) (by kernel_rfl) (by kernel_rfl) (by kernel_rfl) (by kernel_rfl) ⟨by rfl, .cells #[.int .u64 0, .int .u64 0] 48, fun w hSw => ⟨(by (try dsimp only at hSw); go_simp; try with_reducible rfl), Blk.newAt rfl⟩⟩ ⟨by rfl, .cells #[.int .u64 0, .int .u64 0] 48, fun w hSw => ⟨(by (try dsimp only at hSw); go_simp; try with_reducible rfl), Blk.newAt rfl⟩⟩ (fun p8 p9 hp8 hp9 np8 => ?_)
  simp only [Act.put, List.setIfInBounds_toArray, List.set_cons_zero, List.set_cons_succ]
  refine abStore 13 HOK.out _ (List.mem_cons_self) rfl rfl rfl (by kernel_rfl) (by kernel_rfl) (by kernel_rfl) (by kernel_rfl) (by rfl) ?_ ?_
  · rintro w b hSw hg hB hp
    obtain rfl : b = p8 := hg
    replace hp : Blk w b #[.int .u64 0, .int .u64 0] := hp
    have x0 : w.cell? ⟨b, 0, none⟩ = some (.int .u64 0) := hp.cell rfl
    have x1 : w.cell? ⟨b, 1, none⟩ = some (.int .u64 0) := hp.cell rfl
    have y0 := hp.free 0
    have y1 := hp.free 1
    refine ⟨((w.setCell ⟨b, 0, none⟩ (.int .u64 (hi Q : Nat))).setCell ⟨b, 1, none⟩ (.int .u64 (lo Q : Nat))), ?_, ((hp.set 0 (.int .u64 (hi Q : Nat))).set 1 (.int .u64 (lo Q : Nat))), (((Below.refl _ _).setCell (p := ⟨b, 0, none⟩) hB _).setCell (p := ⟨b, 1, none⟩) hB _), fun k hk => ?_⟩
    · (try dsimp only at hSw); go_simp; try with_reducible rfl
    · exact (Below.heap_setCell _ _ _ _ hk).trans ((Below.heap_setCell _ _ _ _ hk))
  refine abStore 14 HOK.out _ (List.mem_cons_of_mem _ (List.mem_cons_self)) rfl rfl rfl (by kernel_rfl) (by kernel_rfl) (by kernel_rfl) (by kernel_rfl) (by rfl) ?_ ?_
  · rintro w b hSw hg hB hp
    obtain rfl : b = p9 := hg
    replace hp : Blk w b #[.int .u64 0, .int .u64 0] := hp
    have x0 : w.cell? ⟨b, 0, none⟩ = some (.int .u64 0) := hp.cell rfl
    have x1 : w.cell? ⟨b, 1, none⟩ = some (.int .u64 0) := hp.cell rfl
    have y0 := hp.free 0
    have y1 := hp.free 1
    refine ⟨((w.setCell ⟨b, 0, none⟩ (.int .u64 (hi R : Nat))).setCell ⟨b, 1, none⟩ (.int .u64 (lo R : Nat))), ?_, ((hp.set 0 (.int .u64 (hi R : Nat))).set 1 (.int .u64 (lo R : Nat))), (((Below.refl _ _).setCell (p := ⟨b, 0, none⟩) hB _).setCell (p := ⟨b, 1, none⟩) hB _), fun k hk => ?_⟩
    · (try dsimp only at hSw); go_simp; try with_reducible rfl
    · exact (Below.heap_setCell _ _ _ _ hk).trans ((Below.heap_setCell _ _ _ _ hk))
  refine abTake 15 (some 10) (v := ?_) rfl rfl (by kernel_rfl) (by kernel_rfl) (by kernel_rfl) (fun _ _ _ h => h) (HF.out _ (by simp)) (by rfl) ?_ ?_
  rotate_left 1
  · (intro w hSw; (try dsimp only at hSw); go_simp; try with_reducible rfl)
  simp only [Act.put, List.setIfInBounds_toArray, List.set_cons_zero, List.set_cons_succ]
  refine abDone (by kernel_rfl) ?_ _
  rintro w2 hS
  have k8 := sof_post hS _ (List.mem_cons_self) (by kernel_rfl) (by kernel_rfl) (b := p8) rfl
  have k9 := sof_post hS _ (List.mem_cons_of_mem _ (List.mem_cons_self)) (by kernel_rfl) (by kernel_rfl) (b := p9) rfl
  obtain ⟨b6, b7, hw⟩ := hS.1.2.2.out
  have n86 : p8 ≠ w.heap.size := by have := k8.1; omega
  have n96 : p9 ≠ w.heap.size := by have := k9.1; omega
  clear hS HOK HF
  have b8 : Blk w2 p8 #[.int .u64 (hi Q : Nat), .int .u64 (lo Q : Nat)] := k8.2.2
  have b9 : Blk w2 p9 #[.int .u64 (hi R : Nat), .int .u64 (lo R : Nat)] := k9.2.2
  have c60 : w2.cell? ⟨w.heap.size, 0, none⟩ = some (.bool false) := b6.cell rfl
  have c61 : w2.cell? ⟨w.heap.size, 1, none⟩ = some (.int .u64 0) := b6.cell rfl
  have c62 : w2.cell? ⟨w.heap.size, 2, none⟩ = some (.int .u64 0) := b6.cell rfl
  have c63 : w2.cell? ⟨w.heap.size, 3, none⟩ = some (.int .u64 0) := b6.cell rfl
  have c64 : w2.cell? ⟨w.heap.size, 4, none⟩ = some (.int .u64 0) := b6.cell rfl
  have c65 : w2.cell? ⟨w.heap.size, 5, none⟩ = some (.int .u64 0) := b6.cell rfl
  have c66 : w2.cell? ⟨w.heap.size, 6, none⟩ = some (.int .u64 0) := b6.cell rfl
  have f60 := b6.free 0
  have f61 := b6.free 1
  have f62 := b6.free 2
  have f63 := b6.free 3
  have f64 := b6.free 4
  have f65 := b6.free 5
  have f66 := b6.free 6
  have c70 : w2.cell? ⟨w1.heap.size, 0, none⟩ = some (.int .u64 0) := b7.cell rfl
  have c71 : w2.cell? ⟨w1.heap.size, 1, none⟩ = some (.int .u64 (z : Nat)) := b7.cell rfl
  have c80 : w2.cell? ⟨p8, 0, none⟩ = some (.int .u64 (hi Q : Nat)) := b8.cell rfl
  have c81 : w2.cell? ⟨p8, 1, none⟩ = some (.int .u64 (lo Q : Nat)) := b8.cell rfl
  have c90 : w2.cell? ⟨p9, 0, none⟩ = some (.int .u64 (hi R : Nat)) := b9.cell rfl
  have c91 : w2.cell? ⟨p9, 1, none⟩ = some (.int .u64 (lo R : Nat)) := b9.cell rfl
  have HW := Lib.hid hw
  clear hw b6 b7 b8 b9 k8 k9
  have n76 : w1.heap.size ≠ w.heap.size := Ne.symm n67
  go_wp2_with fail
  exact bodyPost_ret (v := .agg #[.bool (!((!(X == Y)) == Z)), .int .u64 (hi Q : Nat), .int .u64 (lo Q : Nat), .int .u64 (hi R : Nat), .int .u64 (lo R : Nat), .int .u64 0, .int .u64 (z : Nat)]) (by simp [results, Try.results59, go_sem, c60, c61, c62, c63, c64, c65, c66]) rfl ⟨rfl, (((((((HW.out.setCell (p := ⟨w.heap.size, 0, none⟩) (Nat.le_refl _) _).setCell (p := ⟨w.heap.size, 1, none⟩) (Nat.le_refl _) _).setCell (p := ⟨w.heap.size, 2, none⟩) (Nat.le_refl _) _).setCell (p := ⟨w.heap.size, 3, none⟩) (Nat.le_refl _) _).setCell (p := ⟨w.heap.size, 4, none⟩) (Nat.le_refl _) _).setCell (p := ⟨w.heap.size, 5, none⟩) (Nat.le_refl _) _).setCell (p := ⟨w.heap.size, 6, none⟩) (Nat.le_refl _) _)⟩
set_option maxHeartbeats 1000000 in
theorem divided_no (a b c : Int) (x y z n Q R : Nat) (w : World)
    (m1 : ∀ w, Calls Try.prog 43 #[.int .i64 a] w fun e w' => e = .returned (.int .u64 (x : Nat)) ∧ Below w.heap.size w w')
    (m2 : ∀ w, Calls Try.prog 43 #[.int .i64 b] w fun e w' => e = .returned (.int .u64 (y : Nat)) ∧ Below w.heap.size w w')
    (m3 : ∀ w, Calls Try.prog 43 #[.int .i64 c] w fun e w' => e = .returned (.int .u64 (z : Nat)) ∧ Below w.heap.size w w')
    (m4 : ∀ w, Calls Try.prog 42 #[.int .u64 (x : Nat), .int .u64 (y : Nat)] w fun e w' => e = .returned (.agg #[.int .u64 (hi n : Nat), .int .u64 (lo n : Nat)]) ∧ Below w.heap.size w w')
    (m5 : ∀ w, Calls Try.prog 66 #[.agg #[.int .u64 (hi n : Nat), .int .u64 (lo n : Nat)], .agg #[.int .u64 0, .int .u64 (z : Nat)]] w fun e w' => e = .returned (.tuple #[.agg #[.int .u64 (hi Q : Nat), .int .u64 (lo Q : Nat)], .agg #[.int .u64 (hi R : Nat), .int .u64 (lo R : Nat)], .int .i64 4]) ∧ Below w.heap.size w w') :
    Calls Try.prog 59 #[.int .i64 a, .int .i64 b, .int .i64 c] w fun e w' => e = gaveUp 4 ∧ Below w.heap.size w w' := by
  have M1 := Lib.hid m1; have M2 := Lib.hid m2; have M3 := Lib.hid m3; have M4 := Lib.hid m4; have M5 := Lib.hid m5
  clear m1 m2 m3 m4 m5
  go_enter Try.func59, Try.ntmps59
  go_wp2_with fail
  refine (M3.out _).mono ?_
  rintro e w1 ⟨rfl, hb1⟩
  have b6 : Blk w1 w.heap.size #[.bool false, .int .u64 0, .int .u64 0, .int .u64 0, .int .u64 0, .int .u64 0, .int .u64 0] := (Blk.new _ _ _).call hb1
  have hw1 : Below w.heap.size w w1 := ((Below.refl _ _).alloc (Nat.le_refl _) _).trans (hb1.mono (by simp))
  have B6' := Lib.hid b6; have HW1 := Lib.hid hw1
  clear hb1 b6 hw1
  go_upto_region 2 with fail
  obtain ⟨W0, hW0⟩ : ∃ W0, w1.alloc (.cells #[.int .u64 0, .int .u64 (z : Nat)] 48) = W0 := ⟨_, rfl⟩
  have b6 : Blk W0 w.heap.size #[.bool false, .int .u64 0, .int .u64 0, .int .u64 0, .int .u64 0, .int .u64 0, .int .u64 0] := by rw [← hW0]; exact B6'.out.alloc _
  have b7 : Blk W0 w1.heap.size #[.int .u64 0, .int .u64 (z : Nat)] := by rw [← hW0]; exact Blk.new _ _ _
  have hw0 : Below w.heap.size w W0 := by rw [← hW0]; exact HW1.out.alloc HW1.out.size _
  rw [hW0]
  clear hW0
  have n67 : w.heap.size ≠ w1.heap.size := by have := B6'.out.lt; omega
  clear B6' HW1
  have HB0 := b6.lt
  have hok : OwnOk (fun w' => w'.cell? ⟨w1.heap.size, 0, none⟩ = some (.int .u64 0) ∧ w'.cell? ⟨w1.heap.size, 1, none⟩ = some (.int .u64 (z : Nat)) ∧ Hid (Blk w' w.heap.size #[.bool false, .int .u64 0, .int .u64 0, .int .u64 0, .int .u64 0, .int .u64 0, .int .u64 0] ∧ Blk w' w1.heap.size #[.int .u64 0, .int .u64 (z : Nat)] ∧ Below w.heap.size w w')) W0.heap.size [⟨11, 13, fun w b => Blk w b #[.int .u64 0, .int .u64 0], fun w b => Blk w b #[.int .u64 (hi Q : Nat), .int .u64 (lo Q : Nat)]⟩, ⟨12, 14, fun w b => Blk w b #[.int .u64 0, .int .u64 0], fun w b => Blk w b #[.int .u64 (hi R : Nat), .int .u64 (lo R : Nat)]⟩] := own2_ok (fun v1 v2 h hb => ⟨(h.2.2.out.2.1.below hb b7.lt).cell rfl, (h.2.2.out.2.1.below hb b7.lt).cell rfl, Lib.hid ⟨(h.2.2.out.1.below hb b6.lt), (h.2.2.out.2.1.below hb b7.lt), (h.2.2.out.2.2.trans (hb.mono hw0.size))⟩⟩) ⟨Blk.local _, Blk.local _⟩ ⟨Blk.local _, Blk.local _⟩ (by simp) (by simp) (by simp)
  have hfit : ∀ i, (∀ e ∈ ([⟨11, 13, fun w b => Blk w b #[.int .u64 0, .int .u64 0], fun w b => Blk w b #[.int .u64 (hi Q : Nat), .int .u64 (lo Q : Nat)]⟩, ⟨12, 14, fun w b => Blk w b #[.int .u64 0, .int .u64 0], fun w b => Blk w b #[.int .u64 (hi R : Nat), .int .u64 (lo R : Nat)]⟩] : List Ent), e.x ≠ i ∧ e.s ≠ i) → Fit (fun w' => w'.cell? ⟨w1.heap.size, 0, none⟩ = some (.int .u64 0) ∧ w'.cell? ⟨w1.heap.size, 1, none⟩ = some (.int .u64 (z : Nat)) ∧ Hid (Blk w' w.heap.size #[.bool false, .int .u64 0, .int .u64 0, .int .u64 0, .int .u64 0, .int .u64 0, .int .u64 0] ∧ Blk w' w1.heap.size #[.int .u64 0, .int .u64 (z : Nat)] ∧ Below w.heap.size w w')) (Sof (fun w' => w'.cell? ⟨w1.heap.size, 0, none⟩ = some (.int .u64 0) ∧ w'.cell? ⟨w1.heap.size, 1, none⟩ = some (.int .u64 (z : Nat)) ∧ Hid (Blk w' w.heap.size #[.bool false, .int .u64 0, .int .u64 0, .int .u64 0, .int .u64 0, .int .u64 0, .int .u64 0] ∧ Blk w' w1.heap.size #[.int .u64 0, .int .u64 (z : Nat)] ∧ Below w.heap.size w w')) W0.heap.size [⟨11, 13, fun w b => Blk w b #[.int .u64 0, .int .u64 0], fun w b => Blk w b #[.int .u64 (hi Q : Nat), .int .u64 (lo Q : Nat)]⟩, ⟨12, 14, fun w b => Blk w b #[.int .u64 0, .int .u64 0], fun w b => Blk w b #[.int .u64 (hi R : Nat), .int .u64 (lo R : Nat)]⟩]) i := fun i hi => sof_fit hok.st hok.loc hi
  have HOK := Lib.hid hok; have HF := Lib.hid hfit; clear hok hfit
  refine wp_region_ab (S0 := (fun w' => w'.cell? ⟨w1.heap.size, 0, none⟩ = some (.int .u64 0) ∧ w'.cell? ⟨w1.heap.size, 1, none⟩ = some (.int .u64 (z : Nat)) ∧ Hid (Blk w' w.heap.size #[.bool false, .int .u64 0, .int .u64 0, .int .u64 0, .int .u64 0, .int .u64 0, .int .u64 0] ∧ Blk w' w1.heap.size #[.int .u64 0, .int .u64 (z : Nat)] ∧ Below w.heap.size w w'))) W0.heap.size [⟨11, 13, fun w b => Blk w b #[.int .u64 0, .int .u64 0], fun w b => Blk w b #[.int .u64 (hi Q : Nat), .int .u64 (lo Q : Nat)]⟩, ⟨12, 14, fun w b => Blk w b #[.int .u64 0, .int .u64 0], fun w b => Blk w b #[.int .u64 (hi R : Nat), .int .u64 (lo R : Nat)]⟩] (by kernel_rfl) ⟨b7.drew.cell rfl, b7.drew.cell rfl, Lib.hid ⟨b6.drew, b7.drew, hw0.drew⟩⟩ (Nat.le_refl _) (by simp) ?_
  clear b6 b7
  refine abTake 0 (some 16) (v := ?_) rfl rfl (by kernel_rfl) (by kernel_rfl) (by kernel_rfl) (fun _ _ _ h => h) (HF.out _ (by simp)) (by rfl) ?_ ?_
  rotate_left 1
  · (intro w hSw; (try dsimp only at hSw); go_simp; try with_reducible rfl)
  simp only [Act.put, List.setIfInBounds_toArray, List.set_cons_zero, List.set_cons_succ]
  refine abCall 1 (some 17) rfl rfl (by kernel_rfl) (by kernel_rfl) (by kernel_rfl) (fun _ _ _ h => h) (HF.out _ (by simp)) (by rfl) ?_ (fun w hSw => M1.out w) ?_
  · (intro w hSw; (try dsimp only at hSw); go_simp; try with_reducible rfl)
  simp only [Act.put, List.setIfInBounds_toArray, List.set_cons_zero, List.set_cons_succ]
  refine abTake 2 (some 18) (v := ?_) rfl rfl (by kernel_rfl) (by kernel_rfl) (by kernel_rfl) (fun _ _ _ h => h) (HF.out _ (by simp)) (by rfl) ?_ ?_
  rotate_left 1
  · (intro w hSw; (try dsimp only at hSw); go_simp; try with_reducible rfl)
  simp only [Act.put, List.setIfInBounds_toArray, List.set_cons_zero, List.set_cons_succ]
  refine abCall 3 (some 19) rfl rfl (by kernel_rfl) (by kernel_rfl) (by kernel_rfl) (fun _ _ _ h => h) (HF.out _ (by simp)) (by rfl) ?_ (fun w hSw => M2.out w) ?_
  · (intro w hSw; (try dsimp only at hSw); go_simp; try with_reducible rfl)
  simp only [Act.put, List.setIfInBounds_toArray, List.set_cons_zero, List.set_cons_succ]
  refine abCall 4 (some 20) rfl rfl (by kernel_rfl) (by kernel_rfl) (by kernel_rfl) (fun _ _ _ h => h) (HF.out _ (by simp)) (by rfl) ?_ (fun w hSw => M4.out w) ?_
  · (intro w hSw; (try dsimp only at hSw); go_simp; try with_reducible rfl)
  simp only [Act.put, List.setIfInBounds_toArray, List.set_cons_zero, List.set_cons_succ]
  refine abTake 5 (some 21) (v := ?_) rfl rfl (by kernel_rfl) (by kernel_rfl) (by kernel_rfl) (fun _ _ _ h => h) (HF.out _ (by simp)) (by rfl) ?_ ?_
  rotate_left 1
  · (intro w hSw; (try dsimp only at hSw); go_simp; try with_reducible rfl)
  simp only [Act.put, List.setIfInBounds_toArray, List.set_cons_zero, List.set_cons_succ]
  refine abCall 6 (some 22) rfl rfl (by kernel_rfl) (by kernel_rfl) (by kernel_rfl) (fun _ _ _ h => h) (HF.out _ (by simp)) (by rfl) ?_ (fun w hSw => M5.out w) ?_
  · (intro w hSw; (try dsimp only at hSw); go_simp; try with_reducible rfl)
  simp only [Act.put, List.setIfInBounds_toArray, List.set_cons_zero, List.set_cons_succ]
  refine abTake 7 (some 15) (v := ?_) rfl rfl (by kernel_rfl) (by kernel_rfl) (by kernel_rfl) (fun _ _ _ h => h) (HF.out _ (by simp)) (by rfl) ?_ ?_
  rotate_left 1
  · (intro w hSw; (try dsimp only at hSw); go_simp; try with_reducible rfl)
  simp only [Act.put, List.setIfInBounds_toArray, List.set_cons_zero, List.set_cons_succ]
  refine abTake 8 (some 23) (v := ?_) rfl rfl (by kernel_rfl) (by kernel_rfl) (by kernel_rfl) (fun _ _ _ h => h) (HF.out _ (by simp)) (by rfl) ?_ ?_
  rotate_left 1
  · (intro w hSw; (try dsimp only at hSw); go_simp; try with_reducible rfl)
  simp only [Act.put, List.setIfInBounds_toArray, List.set_cons_zero, List.set_cons_succ]
  refine abTake 9 (some 24) (v := ?_) rfl rfl (by kernel_rfl) (by kernel_rfl) (by kernel_rfl) (fun _ _ _ h => h) (HF.out _ (by simp)) (by rfl) ?_ ?_
  rotate_left 1
  · (intro w hSw; (try dsimp only at hSw); go_simp; try with_reducible rfl)
  simp only [Act.put, List.setIfInBounds_toArray, List.set_cons_zero, List.set_cons_succ]
  refine abTake 10 (some 25) (v := ?_) rfl rfl (by kernel_rfl) (by kernel_rfl) (by kernel_rfl) (fun _ _ _ h => h) (HF.out _ (by simp)) (by rfl) ?_ ?_
  rotate_left 1
  · (intro w hSw; (try dsimp only at hSw); go_simp; try with_reducible rfl)
  simp only [Act.put, List.setIfInBounds_toArray, List.set_cons_zero, List.set_cons_succ]
  refine abMake2 11 12 8 9 HOK.out _ _ (List.mem_cons_self) (List.mem_cons_of_mem _ (List.mem_cons_self)) rfl rfl rfl rfl rfl rfl (by kernel_rfl) (by kernel_rfl) (by kernel_rfl) (by kernel_rfl) (by decide) (by simp) (by kernel_rfl) (by kernel_rfl) (by kernel_rfl) (by kernel_rfl) (by kernel_rfl) (by kernel_rfl) ⟨by rfl, .cells #[.int .u64 0, .int .u64 0] 48, fun w hSw => ⟨(by (try dsimp only at hSw); go_simp; try with_reducible rfl), Blk.newAt rfl⟩⟩ ⟨by rfl, .cells #[.int .u64 0, .int .u64 0] 48, fun w hSw => ⟨(by (try dsimp only at hSw); go_simp; try with_reducible rfl), Blk.newAt rfl⟩⟩ (fun p8 p9 hp8 hp9 np8 => ?_)
  simp only [Act.put, List.setIfInBounds_toArray, List.set_cons_zero, List.set_cons_succ]
  refine abStore 13 HOK.out _ (List.mem_cons_self) rfl rfl rfl (by kernel_rfl) (by kernel_rfl) (by kernel_rfl) (by kernel_rfl) (by rfl) ?_ ?_
  · rintro w b hSw hg hB hp
    obtain rfl : b = p8 := hg
    replace hp : Blk w b #[.int .u64 0, .int .u64 0] := hp
    have x0 : w.cell? ⟨b, 0, none⟩ = some (.int .u64 0) := hp.cell rfl
    have x1 : w.cell? ⟨b, 1, none⟩ = some (.int .u64 0) := hp.cell rfl
    have y0 := hp.free 0
    have y1 := hp.free 1
    refine ⟨((w.setCell ⟨b, 0, none⟩ (.int .u64 (hi Q : Nat))).setCell ⟨b, 1, none⟩ (.int .u64 (lo Q : Nat))), ?_, ((hp.set 0 (.int .u64 (hi Q : Nat))).set 1 (.int .u64 (lo Q : Nat))), (((Below.refl _ _).setCell (p := ⟨b, 0, none⟩) hB _).setCell (p := ⟨b, 1, none⟩) hB _), fun k hk => ?_⟩
    · (try dsimp only at hSw); go_simp; try with_reducible rfl
    · exact (Below.heap_setCell _ _ _ _ hk).trans ((Below.heap_setCell _ _ _ _ hk))
  refine abStore 14 HOK.out _ (List.mem_cons_of_mem _ (List.mem_cons_self)) rfl rfl rfl (by kernel_rfl) (by kernel_rfl) (by kernel_rfl) (by kernel_rfl) (by rfl) ?_ ?_
  · rintro w b hSw hg hB hp
    obtain rfl : b = p9 := hg
    replace hp : Blk w b #[.int .u64 0, .int .u64 0] := hp
    have x0 : w.cell? ⟨b, 0, none⟩ = some (.int .u64 0) := hp.cell rfl
    have x1 : w.cell? ⟨b, 1, none⟩ = some (.int .u64 0) := hp.cell rfl
    have y0 := hp.free 0
    have y1 := hp.free 1
    refine ⟨((w.setCell ⟨b, 0, none⟩ (.int .u64 (hi R : Nat))).setCell ⟨b, 1, none⟩ (.int .u64 (lo R : Nat))), ?_, ((hp.set 0 (.int .u64 (hi R : Nat))).set 1 (.int .u64 (lo R : Nat))), (((Below.refl _ _).setCell (p := ⟨b, 0, none⟩) hB _).setCell (p := ⟨b, 1, none⟩) hB _), fun k hk => ?_⟩
    · (try dsimp only at hSw); go_simp; try with_reducible rfl
    · exact (Below.heap_setCell _ _ _ _ hk).trans ((Below.heap_setCell _ _ _ _ hk))
  refine abTake 15 (some 10) (v := ?_) rfl rfl (by kernel_rfl) (by kernel_rfl) (by kernel_rfl) (fun _ _ _ h => h) (HF.out _ (by simp)) (by rfl) ?_ ?_
  rotate_left 1
  · (intro w hSw; (try dsimp only at hSw); go_simp; try with_reducible rfl)
  simp only [Act.put, List.setIfInBounds_toArray, List.set_cons_zero, List.set_cons_succ]
  refine abDone (by kernel_rfl) ?_ _
  rintro w2 hS
  have k8 := sof_post hS _ (List.mem_cons_self) (by kernel_rfl) (by kernel_rfl) (b := p8) rfl
  have k9 := sof_post hS _ (List.mem_cons_of_mem _ (List.mem_cons_self)) (by kernel_rfl) (by kernel_rfl) (b := p9) rfl
  obtain ⟨b6, b7, hw⟩ := hS.1.2.2.out
  have n86 : p8 ≠ w.heap.size := by have := k8.1; omega
  have n96 : p9 ≠ w.heap.size := by have := k9.1; omega
  clear hS HOK HF
  have HW := Lib.hid hw
  clear hw b6 b7 k8 k9
  go_wp2_with fail
  exact ⟨rfl, rfl, HW.out⟩

theorem divided_any (a b c : Int) (ha : IsInt a) (hb : IsInt b) (hc : IsInt c) (h0 : c ≠ 0) (w : World) :
    Calls Try.prog 59 #[.int .i64 a, .int .i64 b, .int .i64 c] w fun e w' => e = .returned (.agg #[.bool (mdB a b c), .int .u64 (hi (mdQ a b c) : Nat), .int .u64 (lo (mdQ a b c) : Nat), .int .u64 (hi (mdR a b c) : Nat), .int .u64 (lo (mdR a b c) : Nat), .int .u64 0, .int .u64 (c.natAbs : Nat)]) ∧ Below w.heap.size w w' := by
  have s1 : ∀ a, IsInt a → ∀ w, Calls Try.prog 43 #[.int .i64 a] w fun e w' => e = .returned (.int .u64 (a.natAbs : Nat)) ∧ Below w.heap.size w w' := fun a ha w => (size_any a ha w).mono fun e w' h => ⟨h.1, by rw [h.2]; exact Below.refl _ _⟩
  refine divided_ok a b c _ _ _ _ _ _ _ _ _ w rfl rfl rfl (s1 a ha) (s1 b hb) (s1 c hc) (fixMul_any _ _ (natAbs_B ha) (natAbs_B hb)) ?_
  intro w
  have := div_num (a.natAbs * b.natAbs) c.natAbs (prod_fit ha hb) (by have := natAbs_lt hc; unfold M128; omega) (by omega) w
  rw [hi_low _ (natAbs_B hc), lo_low _ (natAbs_B hc)] at this
  exact this
theorem divided_zero (a b : Int) (ha : IsInt a) (hb : IsInt b) (w : World) :
    Calls Try.prog 59 #[.int .i64 a, .int .i64 b, .int .i64 0] w fun e w' => e = gaveUp 4 ∧ Below w.heap.size w w' := by
  have s1 : ∀ a, IsInt a → ∀ w, Calls Try.prog 43 #[.int .i64 a] w fun e w' => e = .returned (.int .u64 (a.natAbs : Nat)) ∧ Below w.heap.size w w' := fun a ha w => (size_any a ha w).mono fun e w' h => ⟨h.1, by rw [h.2]; exact Below.refl _ _⟩
  exact divided_no a b 0 _ _ 0 _ 0 0 w (s1 a ha) (s1 b hb) (s1 0 isInt_zero) (fixMul_any _ _ (natAbs_B ha) (natAbs_B hb)) (div_zero _)
end Go.Proofs.Ytjnebbjjabnipaa

/- fix.modeOf, down, up, near: the mode's function, and whether a quotient is rounded away from 0. -/
namespace Go.Proofs.Ytjnebbjjabnipaa
open Go.RowKit

theorem run_store_func {P : Program} {a : Addr} {m : Mode} {w : World} (f : Fn) (b c : Array Value) : (store a (.func f b c) m).run P w = stored P w a (.func f b c) m := run_store P w a _ m rfl
attribute [local go_sem] run_store_func
theorem mode_0 (w : World) : Calls Try.prog 58 #[.int .i64 0] w fun e w' => e = .returned (.func (.func 78) #[] #[]) ∧ Below w.heap.size w w' := by
  go_enter Try.func58, Try.ntmps58
  go_wp2_with fail
  go_ret
  exact ⟨rfl, (Below.refl _ _).alloc (Nat.le_refl _) _⟩
theorem mode_1 (w : World) : Calls Try.prog 58 #[.int .i64 1] w fun e w' => e = .returned (.func (.func 79) #[] #[]) ∧ Below w.heap.size w w' := by
  go_enter Try.func58, Try.ntmps58
  go_wp2_with fail
  go_ret
  exact ⟨rfl, (Below.refl _ _).alloc (Nat.le_refl _) _⟩
theorem mode_2 (w : World) : Calls Try.prog 58 #[.int .i64 2] w fun e w' => e = .returned (.func (.func 80) #[] #[]) ∧ Below w.heap.size w w' := by
  go_enter Try.func58, Try.ntmps58
  go_wp2_with fail
  go_ret
  exact ⟨rfl, (Below.refl _ _).alloc (Nat.le_refl _) _⟩
theorem mode_none (m : Int) (h : m < 0 ∨ 2 < m) (w : World) : Calls Try.prog 58 #[.int .i64 m] w fun e w' => e = gaveUp 1 ∧ Below w.heap.size w w' := by
  rcases h with h | h
  · go_enter Try.func58, Try.ntmps58
    go_wp2_with fail
    exact ⟨rfl, rfl, (Below.refl _ _).alloc (Nat.le_refl _) _⟩
  · have h' : ¬ m < 0 := by omega
    have h3 : 3 ≤ m := by omega
    clear h
    go_enter Try.func58, Try.ntmps58
    go_wp2_with fail
    exact ⟨rfl, rfl, (Below.refl _ _).alloc (Nat.le_refl _) _⟩
theorem down_any (B : Bool) (Q R z : Nat) (w : World) : Calls Try.prog 78 #[.agg #[.bool B, .int .u64 (hi Q : Nat), .int .u64 (lo Q : Nat), .int .u64 (hi R : Nat), .int .u64 (lo R : Nat), .int .u64 0, .int .u64 (z : Nat)]] w fun e w' => e = .returned (.bool (away 0 B Q R z)) ∧ Below w.heap.size w w' := by
  have hE := eqZero R
  obtain ⟨D, hD⟩ : ∃ D, decide (R = 0) = D := ⟨_, rfl⟩
  have hA : away 0 true Q R z = !D := by rw [← hD]; simp [away]
  rw [hD] at hE
  have HA := Lib.hid hA
  clear hD hA
  cases B with
  | false =>
    clear hE
    go_enter Try.func78, Try.ntmps78
    go_wp2_with fail
    go_ret
    exact ⟨rfl, (Below.refl _ _).alloc (Nat.le_refl _) _⟩
  | true =>
    rw [HA.out]
    go_enter Try.func78, Try.ntmps78
    go_wp2_with fail
    go_ret
    exact ⟨rfl, (Below.refl _ _).alloc (Nat.le_refl _) _⟩
theorem up_any (B : Bool) (Q R z : Nat) (w : World) : Calls Try.prog 79 #[.agg #[.bool B, .int .u64 (hi Q : Nat), .int .u64 (lo Q : Nat), .int .u64 (hi R : Nat), .int .u64 (lo R : Nat), .int .u64 0, .int .u64 (z : Nat)]] w fun e w' => e = .returned (.bool (away 1 B Q R z)) ∧ Below w.heap.size w w' := by
  have hE := eqZero R
  obtain ⟨D, hD⟩ : ∃ D, decide (R = 0) = D := ⟨_, rfl⟩
  have hA : away 1 false Q R z = !D := by rw [← hD]; simp [away]
  rw [hD] at hE
  have HA := Lib.hid hA
  clear hD hA
  cases B with
  | true =>
    clear hE
    go_enter Try.func79, Try.ntmps79
    go_wp2_with fail
    go_ret
    exact ⟨rfl, (Below.refl _ _).alloc (Nat.le_refl _) _⟩
  | false =>
    rw [HA.out]
    go_enter Try.func79, Try.ntmps79
    go_wp2_with fail
    go_ret
    exact ⟨rfl, (Below.refl _ _).alloc (Nat.le_refl _) _⟩
theorem near_core (B : Bool) (Q R z N : Nat) (L D P : Bool) (w : World)
    (m1 : ∀ w, Calls Try.prog 54 #[.agg #[.int .u64 (hi R : Nat), .int .u64 (lo R : Nat)], .agg #[.int .u64 (hi R : Nat), .int .u64 (lo R : Nat)]] w fun e w' => e = .returned (.tuple #[.agg #[.int .u64 (hi N : Nat), .int .u64 (lo N : Nat)], .bool false]) ∧ Below w.heap.size w w')
    (m2 : ∀ w, Calls Try.prog 55 #[.agg #[.int .u64 0, .int .u64 (z : Nat)], .agg #[.int .u64 (hi N : Nat), .int .u64 (lo N : Nat)]] w fun e w' => e = .returned (.bool L) ∧ Below w.heap.size w w')
    (hE : ∀ w, (Op.equalIn 10000 48 (.agg #[.int .u64 (hi N : Nat), .int .u64 (lo N : Nat)]) (.agg #[.int .u64 0, .int .u64 (z : Nat)])).run Try.prog w = .ok (decide (N = z)) w) (hD : decide (N = z) = D) (hP : ((lo Q : Int) % 2 == 1) = P) :
    Calls Try.prog 80 #[.agg #[.bool B, .int .u64 (hi Q : Nat), .int .u64 (lo Q : Nat), .int .u64 (hi R : Nat), .int .u64 (lo R : Nat), .int .u64 0, .int .u64 (z : Nat)]] w fun e w' => e = .returned (.bool (L || (D && P))) ∧ Below w.heap.size w w' := by
  rw [hD] at hE
  clear hD
  have M1 := Lib.hid m1; have M2 := Lib.hid m2
  clear m1 m2
  go_enter Try.func80, Try.ntmps80
  go_wp2_with fail
  refine (M1.out _).mono ?_
  rintro e w1 ⟨rfl, hb1⟩
  have b1 : Blk w1 w.heap.size #[.bool B, .int .u64 (hi Q : Nat), .int .u64 (lo Q : Nat), .int .u64 (hi R : Nat), .int .u64 (lo R : Nat), .int .u64 0, .int .u64 (z : Nat)] := (Blk.new _ _ _).call hb1
  have hw1 : Below w.heap.size w w1 := ((Below.refl _ _).alloc (Nat.le_refl _) _).trans (hb1.mono (by simp))
  have c3 : w1.cell? ⟨w.heap.size, 2, none⟩ = some (.int .u64 (lo Q : Nat)) := b1.cell rfl
  have c5 : w1.cell? ⟨w.heap.size, 5, none⟩ = some (.int .u64 0) := b1.cell rfl
  have c6 : w1.cell? ⟨w.heap.size, 6, none⟩ = some (.int .u64 (z : Nat)) := b1.cell rfl
  have hlt := b1.lt
  have B1 := Lib.hid b1; have HW := Lib.hid hw1
  clear hb1 b1 hw1
  go_wp2_with fail
  refine (M2.out _).mono ?_
  rintro e w2 ⟨rfl, hb2⟩
  have b1 : Blk w2 w.heap.size #[.bool B, .int .u64 (hi Q : Nat), .int .u64 (lo Q : Nat), .int .u64 (hi R : Nat), .int .u64 (lo R : Nat), .int .u64 0, .int .u64 (z : Nat)] := (B1.out.alloc _).call hb2
  have b2 : Blk w2 w1.heap.size #[.int .u64 (hi N : Nat), .int .u64 (lo N : Nat)] := (Blk.new _ _ _).call hb2
  have hw2 : Below w.heap.size w w2 := (HW.out.alloc HW.out.size _).trans (hb2.mono (by have := HW.out.size; simp; omega))
  have d5 : w2.cell? ⟨w.heap.size, 5, none⟩ = some (.int .u64 0) := b1.cell rfl
  have d6 : w2.cell? ⟨w.heap.size, 6, none⟩ = some (.int .u64 (z : Nat)) := b1.cell rfl
  have e0 : w2.cell? ⟨w1.heap.size, 0, none⟩ = some (.int .u64 (hi N : Nat)) := b2.cell rfl
  have e1 : w2.cell? ⟨w1.heap.size, 1, none⟩ = some (.int .u64 (lo N : Nat)) := b2.cell rfl
  have HW2 := Lib.hid hw2
  clear hb2 b1 b2 hw2 B1 HW c3 c5 c6
  cases L with
  | true =>
    go_wp2_with fail
    go_ret
    exact ⟨rfl, HW2.out⟩
  | false =>
    cases D with
    | true =>
      go_wp2_with fail
      go_ret
      exact ⟨by simp, HW2.out⟩
    | false =>
      go_wp2_with fail
      go_ret
      exact ⟨rfl, HW2.out⟩
theorem near_any (B : Bool) (Q R z : Nat) (hz : z < B64) (hR : R < z) (w : World) : Calls Try.prog 80 #[.agg #[.bool B, .int .u64 (hi Q : Nat), .int .u64 (lo Q : Nat), .int .u64 (hi R : Nat), .int .u64 (lo R : Nat), .int .u64 0, .int .u64 (z : Nat)]] w fun e w' => e = .returned (.bool (away 2 B Q R z)) ∧ Below w.heap.size w w' := by
  have hM : R + R < M128 := by unfold B64 at hz; unfold M128; omega
  have h1 := fun w => less_num z (R + R) (by unfold B64 at hz; unfold M128; omega) hM w
  have hE := fun w => eqWide (R + R) z w
  rw [hi_low z hz, lo_low z hz] at h1 hE
  have := near_core B Q R z (R + R) _ _ _ w (add_fit R R hM) h1 hE rfl rfl
  have e : (((lo Q : Nat) : Int) % 2 == 1) = decide (Q % 2 = 1) := by
    rw [Bool.eq_iff_iff]; unfold lo; simp; omega
  rw [e] at this
  exact this
end Go.Proofs.Ytjnebbjjabnipaa

/- fix.MulDiv: a product that is divided and rounded by a mode, if it is an int. -/
namespace Go.Proofs.Ytjnebbjjabnipaa
open Go.RowKit

set_option maxHeartbeats 1000000 in
theorem md_stay_ok (K : FuncId) (eg : ∀ args w, (callFunc K args).run Try.prog w = .ok (.enter K args) w) (a b c m : Int) (B : Bool) (Q R z : Nat) (s : Int) (p0 p1 p2 p3 : Nat) (w : World)
    (c0 : w.cell? ⟨p0, 0, none⟩ = some (.int .i64 m)) (c1 : w.cell? ⟨p1, 0, none⟩ = some (.int .i64 a)) (c2 : w.cell? ⟨p2, 0, none⟩ = some (.int .i64 b)) (c3 : w.cell? ⟨p3, 0, none⟩ = some (.int .i64 c))
    (m1 : ∀ w, Calls Try.prog 58 #[.int .i64 m] w fun e w' => e = .returned (.func (.func K) #[] #[]) ∧ Below w.heap.size w w')
    (m2 : ∀ w, Calls Try.prog 59 #[.int .i64 a, .int .i64 b, .int .i64 c] w fun e w' => e = .returned (.agg #[.bool B, .int .u64 (hi Q : Nat), .int .u64 (lo Q : Nat), .int .u64 (hi R : Nat), .int .u64 (lo R : Nat), .int .u64 0, .int .u64 (z : Nat)]) ∧ Below w.heap.size w w')
    (m3 : ∀ w, Calls Try.prog K #[.agg #[.bool B, .int .u64 (hi Q : Nat), .int .u64 (lo Q : Nat), .int .u64 (hi R : Nat), .int .u64 (lo R : Nat), .int .u64 0, .int .u64 (z : Nat)]] w fun e w' => e = .returned (.bool false) ∧ Below w.heap.size w w')
    (m5 : ∀ w, Calls Try.prog 41 #[.bool B, .agg #[.int .u64 (hi Q : Nat), .int .u64 (lo Q : Nat)]] w fun e w' => e = .returned (.int .i64 s) ∧ Below w.heap.size w w') :
    Calls Try.prog 57 #[.pointer (some ⟨p0, 0, none⟩), .pointer (some ⟨p1, 0, none⟩), .pointer (some ⟨p2, 0, none⟩), .pointer (some ⟨p3, 0, none⟩)] w fun e w' => e = .returned (.int .i64 s) ∧ Below w.heap.size w w' := by
  have M1 := Lib.hid m1; have M2 := Lib.hid m2; have M3 := Lib.hid m3; have M5 := Lib.hid m5
  clear m1 m2 m3 m5
  have z1 := lt_of_cell c1; have z2 := lt_of_cell c2; have z3 := lt_of_cell c3
  have C1 := Lib.hid c1; have C2 := Lib.hid c2; have C3 := Lib.hid c3
  clear c1 c2 c3
  go_enter Try.func57, Try.ntmps57
  go_wp2_with fail
  refine (M1.out _).mono ?_
  rintro e w1 ⟨rfl, hb1⟩
  have c1 := (hb1.cell (p := ⟨p1, 0, none⟩) z1).trans C1.out; have c2 := (hb1.cell (p := ⟨p2, 0, none⟩) z2).trans C2.out; have c3 := (hb1.cell (p := ⟨p3, 0, none⟩) z3).trans C3.out
  have HW1 := Lib.hid hb1
  clear hb1 z1 z2 z3 C1 C2 C3
  go_wp2_with fail
  refine (M2.out _).mono ?_
  rintro e w2 ⟨rfl, hb2⟩
  have hw2 : Below w.heap.size w w2 := HW1.out.trans (hb2.mono HW1.out.size)
  have HW2 := Lib.hid hw2
  clear hb2 hw2 c1 c2 c3 c0
  go_wp2_with fail
  refine (M3.out _).mono ?_
  rintro e w3 ⟨rfl, hb3⟩
  have b6 : Blk w3 w2.heap.size #[.bool B, .int .u64 (hi Q : Nat), .int .u64 (lo Q : Nat), .int .u64 (hi R : Nat), .int .u64 (lo R : Nat), .int .u64 0, .int .u64 (z : Nat)] := (Blk.new _ _ _).call hb3
  have hw3 : Below w.heap.size w w3 := (HW2.out.alloc HW2.out.size _).trans (hb3.mono (by have := HW2.out.size; simp; omega))
  have s2 := HW2.out.size
  have HW3 := Lib.hid hw3
  clear hb3 hw3 HW2 HW1
  have x0 : w3.cell? ⟨w2.heap.size, 0, none⟩ = some (.bool B) := b6.cell rfl
  have x1 : w3.cell? ⟨w2.heap.size, 1, none⟩ = some (.int .u64 (hi Q : Nat)) := b6.cell rfl
  have x2 : w3.cell? ⟨w2.heap.size, 2, none⟩ = some (.int .u64 (lo Q : Nat)) := b6.cell rfl
  clear b6
  go_wp2_with fail
  refine (M5.out _).mono ?_
  rintro e w5 ⟨rfl, hb5⟩
  have hw5 : Below w.heap.size w w5 := HW3.out.trans (hb5.mono HW3.out.size)
  have HW5 := Lib.hid hw5
  clear hb5 hw5 HW3 x0 x1 x2 s2
  go_wp2_with fail
  go_ret
  exact ⟨rfl, HW5.out⟩
set_option maxHeartbeats 1000000 in
theorem md_stay_no (K : FuncId) (eg : ∀ args w, (callFunc K args).run Try.prog w = .ok (.enter K args) w) (a b c m : Int) (B : Bool) (Q R z : Nat) (p0 p1 p2 p3 : Nat) (w : World)
    (c0 : w.cell? ⟨p0, 0, none⟩ = some (.int .i64 m)) (c1 : w.cell? ⟨p1, 0, none⟩ = some (.int .i64 a)) (c2 : w.cell? ⟨p2, 0, none⟩ = some (.int .i64 b)) (c3 : w.cell? ⟨p3, 0, none⟩ = some (.int .i64 c))
    (m1 : ∀ w, Calls Try.prog 58 #[.int .i64 m] w fun e w' => e = .returned (.func (.func K) #[] #[]) ∧ Below w.heap.size w w')
    (m2 : ∀ w, Calls Try.prog 59 #[.int .i64 a, .int .i64 b, .int .i64 c] w fun e w' => e = .returned (.agg #[.bool B, .int .u64 (hi Q : Nat), .int .u64 (lo Q : Nat), .int .u64 (hi R : Nat), .int .u64 (lo R : Nat), .int .u64 0, .int .u64 (z : Nat)]) ∧ Below w.heap.size w w')
    (m3 : ∀ w, Calls Try.prog K #[.agg #[.bool B, .int .u64 (hi Q : Nat), .int .u64 (lo Q : Nat), .int .u64 (hi R : Nat), .int .u64 (lo R : Nat), .int .u64 0, .int .u64 (z : Nat)]] w fun e w' => e = .returned (.bool false) ∧ Below w.heap.size w w')
    (m5 : ∀ w, Calls Try.prog 41 #[.bool B, .agg #[.int .u64 (hi Q : Nat), .int .u64 (lo Q : Nat)]] w fun e w' => e = gaveUp 5 ∧ Below w.heap.size w w') :
    Calls Try.prog 57 #[.pointer (some ⟨p0, 0, none⟩), .pointer (some ⟨p1, 0, none⟩), .pointer (some ⟨p2, 0, none⟩), .pointer (some ⟨p3, 0, none⟩)] w fun e w' => e = gaveUp 5 ∧ Below w.heap.size w w' := by
  have M1 := Lib.hid m1; have M2 := Lib.hid m2; have M3 := Lib.hid m3; have M5 := Lib.hid m5
  clear m1 m2 m3 m5
  have z1 := lt_of_cell c1; have z2 := lt_of_cell c2; have z3 := lt_of_cell c3
  have C1 := Lib.hid c1; have C2 := Lib.hid c2; have C3 := Lib.hid c3
  clear c1 c2 c3
  go_enter Try.func57, Try.ntmps57
  go_wp2_with fail
  refine (M1.out _).mono ?_
  rintro e w1 ⟨rfl, hb1⟩
  have c1 := (hb1.cell (p := ⟨p1, 0, none⟩) z1).trans C1.out; have c2 := (hb1.cell (p := ⟨p2, 0, none⟩) z2).trans C2.out; have c3 := (hb1.cell (p := ⟨p3, 0, none⟩) z3).trans C3.out
  have HW1 := Lib.hid hb1
  clear hb1 z1 z2 z3 C1 C2 C3
  go_wp2_with fail
  refine (M2.out _).mono ?_
  rintro e w2 ⟨rfl, hb2⟩
  have hw2 : Below w.heap.size w w2 := HW1.out.trans (hb2.mono HW1.out.size)
  have HW2 := Lib.hid hw2
  clear hb2 hw2 c1 c2 c3 c0
  go_wp2_with fail
  refine (M3.out _).mono ?_
  rintro e w3 ⟨rfl, hb3⟩
  have b6 : Blk w3 w2.heap.size #[.bool B, .int .u64 (hi Q : Nat), .int .u64 (lo Q : Nat), .int .u64 (hi R : Nat), .int .u64 (lo R : Nat), .int .u64 0, .int .u64 (z : Nat)] := (Blk.new _ _ _).call hb3
  have hw3 : Below w.heap.size w w3 := (HW2.out.alloc HW2.out.size _).trans (hb3.mono (by have := HW2.out.size; simp; omega))
  have s2 := HW2.out.size
  have HW3 := Lib.hid hw3
  clear hb3 hw3 HW2 HW1
  have x0 : w3.cell? ⟨w2.heap.size, 0, none⟩ = some (.bool B) := b6.cell rfl
  have x1 : w3.cell? ⟨w2.heap.size, 1, none⟩ = some (.int .u64 (hi Q : Nat)) := b6.cell rfl
  have x2 : w3.cell? ⟨w2.heap.size, 2, none⟩ = some (.int .u64 (lo Q : Nat)) := b6.cell rfl
  clear b6
  go_wp2_with fail
  refine (M5.out _).mono ?_
  rintro e w5 ⟨rfl, hb5⟩
  have hw5 : Below w.heap.size w w5 := HW3.out.trans (hb5.mono HW3.out.size)
  have HW5 := Lib.hid hw5
  clear hb5 hw5 HW3 x0 x1 x2 s2
  unfold gaveUp
  go_wp2_with fail
  exact ⟨rfl, rfl, HW5.out⟩
set_option maxHeartbeats 1000000 in
theorem md_away_ok (K : FuncId) (eg : ∀ args w, (callFunc K args).run Try.prog w = .ok (.enter K args) w) (a b c m : Int) (B : Bool) (Q R z N : Nat) (s : Int) (p0 p1 p2 p3 : Nat) (w : World)
    (c0 : w.cell? ⟨p0, 0, none⟩ = some (.int .i64 m)) (c1 : w.cell? ⟨p1, 0, none⟩ = some (.int .i64 a)) (c2 : w.cell? ⟨p2, 0, none⟩ = some (.int .i64 b)) (c3 : w.cell? ⟨p3, 0, none⟩ = some (.int .i64 c))
    (m1 : ∀ w, Calls Try.prog 58 #[.int .i64 m] w fun e w' => e = .returned (.func (.func K) #[] #[]) ∧ Below w.heap.size w w')
    (m2 : ∀ w, Calls Try.prog 59 #[.int .i64 a, .int .i64 b, .int .i64 c] w fun e w' => e = .returned (.agg #[.bool B, .int .u64 (hi Q : Nat), .int .u64 (lo Q : Nat), .int .u64 (hi R : Nat), .int .u64 (lo R : Nat), .int .u64 0, .int .u64 (z : Nat)]) ∧ Below w.heap.size w w')
    (m3 : ∀ w, Calls Try.prog K #[.agg #[.bool B, .int .u64 (hi Q : Nat), .int .u64 (lo Q : Nat), .int .u64 (hi R : Nat), .int .u64 (lo R : Nat), .int .u64 0, .int .u64 (z : Nat)]] w fun e w' => e = .returned (.bool true) ∧ Below w.heap.size w w')
    (m4 : ∀ w, Calls Try.prog 54 #[.agg #[.int .u64 (hi Q : Nat), .int .u64 (lo Q : Nat)], .agg #[.int .u64 0, .int .u64 1]] w fun e w' => e = .returned (.tuple #[.agg #[.int .u64 (hi N : Nat), .int .u64 (lo N : Nat)], .bool false]) ∧ Below w.heap.size w w')
    (m5 : ∀ w, Calls Try.prog 41 #[.bool B, .agg #[.int .u64 (hi N : Nat), .int .u64 (lo N : Nat)]] w fun e w' => e = .returned (.int .i64 s) ∧ Below w.heap.size w w') :
    Calls Try.prog 57 #[.pointer (some ⟨p0, 0, none⟩), .pointer (some ⟨p1, 0, none⟩), .pointer (some ⟨p2, 0, none⟩), .pointer (some ⟨p3, 0, none⟩)] w fun e w' => e = .returned (.int .i64 s) ∧ Below w.heap.size w w' := by
  have M1 := Lib.hid m1; have M2 := Lib.hid m2; have M3 := Lib.hid m3; have M5 := Lib.hid m5; have M4 := Lib.hid m4
  clear m1 m2 m3 m5 m4
  have z1 := lt_of_cell c1; have z2 := lt_of_cell c2; have z3 := lt_of_cell c3
  have C1 := Lib.hid c1; have C2 := Lib.hid c2; have C3 := Lib.hid c3
  clear c1 c2 c3
  go_enter Try.func57, Try.ntmps57
  go_wp2_with fail
  refine (M1.out _).mono ?_
  rintro e w1 ⟨rfl, hb1⟩
  have c1 := (hb1.cell (p := ⟨p1, 0, none⟩) z1).trans C1.out; have c2 := (hb1.cell (p := ⟨p2, 0, none⟩) z2).trans C2.out; have c3 := (hb1.cell (p := ⟨p3, 0, none⟩) z3).trans C3.out
  have HW1 := Lib.hid hb1
  clear hb1 z1 z2 z3 C1 C2 C3
  go_wp2_with fail
  refine (M2.out _).mono ?_
  rintro e w2 ⟨rfl, hb2⟩
  have hw2 : Below w.heap.size w w2 := HW1.out.trans (hb2.mono HW1.out.size)
  have HW2 := Lib.hid hw2
  clear hb2 hw2 c1 c2 c3 c0
  go_wp2_with fail
  refine (M3.out _).mono ?_
  rintro e w3 ⟨rfl, hb3⟩
  have b6 : Blk w3 w2.heap.size #[.bool B, .int .u64 (hi Q : Nat), .int .u64 (lo Q : Nat), .int .u64 (hi R : Nat), .int .u64 (lo R : Nat), .int .u64 0, .int .u64 (z : Nat)] := (Blk.new _ _ _).call hb3
  have hw3 : Below w.heap.size w w3 := (HW2.out.alloc HW2.out.size _).trans (hb3.mono (by have := HW2.out.size; simp; omega))
  have s2 := HW2.out.size
  have HW3 := Lib.hid hw3
  clear hb3 hw3 HW2 HW1
  have x1 : w3.cell? ⟨w2.heap.size, 1, none⟩ = some (.int .u64 (hi Q : Nat)) := b6.cell rfl
  have x2 : w3.cell? ⟨w2.heap.size, 2, none⟩ = some (.int .u64 (lo Q : Nat)) := b6.cell rfl
  have B6 := Lib.hid b6
  clear b6
  go_wp2_with fail
  refine (M4.out _).mono ?_
  rintro e w4 ⟨rfl, hb4⟩
  have b6 := B6.out.call hb4
  have hw4 : Below w.heap.size w w4 := HW3.out.trans (hb4.mono HW3.out.size)
  have HW4 := Lib.hid hw4
  clear hb4 hw4 HW3 x1 x2 B6
  have y0 : w4.cell? ⟨w2.heap.size, 0, none⟩ = some (.bool B) := b6.cell rfl
  have y1 : w4.cell? ⟨w2.heap.size, 1, none⟩ = some (.int .u64 (hi Q : Nat)) := b6.cell rfl
  have y2 : w4.cell? ⟨w2.heap.size, 2, none⟩ = some (.int .u64 (lo Q : Nat)) := b6.cell rfl
  have g1 := b6.free 1; have g2 := b6.free 2
  clear b6
  go_wp2_with fail
  refine (M5.out _).mono ?_
  rintro e w5 ⟨rfl, hb5⟩
  have hw5 : Below w.heap.size w w5 := ((HW4.out.setCell (p := ⟨w2.heap.size, 1, none⟩) s2 _).setCell (p := ⟨w2.heap.size, 2, none⟩) s2 _).trans (hb5.mono (by have := HW4.out.size; simpa [World.setCell] using this))
  have HW5 := Lib.hid hw5
  clear hb5 hw5 HW4 y0 y1 y2 g1 g2
  go_wp2_with fail
  go_ret
  exact ⟨rfl, HW5.out⟩
set_option maxHeartbeats 1000000 in
theorem md_away_no (K : FuncId) (eg : ∀ args w, (callFunc K args).run Try.prog w = .ok (.enter K args) w) (a b c m : Int) (B : Bool) (Q R z N : Nat) (p0 p1 p2 p3 : Nat) (w : World)
    (c0 : w.cell? ⟨p0, 0, none⟩ = some (.int .i64 m)) (c1 : w.cell? ⟨p1, 0, none⟩ = some (.int .i64 a)) (c2 : w.cell? ⟨p2, 0, none⟩ = some (.int .i64 b)) (c3 : w.cell? ⟨p3, 0, none⟩ = some (.int .i64 c))
    (m1 : ∀ w, Calls Try.prog 58 #[.int .i64 m] w fun e w' => e = .returned (.func (.func K) #[] #[]) ∧ Below w.heap.size w w')
    (m2 : ∀ w, Calls Try.prog 59 #[.int .i64 a, .int .i64 b, .int .i64 c] w fun e w' => e = .returned (.agg #[.bool B, .int .u64 (hi Q : Nat), .int .u64 (lo Q : Nat), .int .u64 (hi R : Nat), .int .u64 (lo R : Nat), .int .u64 0, .int .u64 (z : Nat)]) ∧ Below w.heap.size w w')
    (m3 : ∀ w, Calls Try.prog K #[.agg #[.bool B, .int .u64 (hi Q : Nat), .int .u64 (lo Q : Nat), .int .u64 (hi R : Nat), .int .u64 (lo R : Nat), .int .u64 0, .int .u64 (z : Nat)]] w fun e w' => e = .returned (.bool true) ∧ Below w.heap.size w w')
    (m4 : ∀ w, Calls Try.prog 54 #[.agg #[.int .u64 (hi Q : Nat), .int .u64 (lo Q : Nat)], .agg #[.int .u64 0, .int .u64 1]] w fun e w' => e = .returned (.tuple #[.agg #[.int .u64 (hi N : Nat), .int .u64 (lo N : Nat)], .bool false]) ∧ Below w.heap.size w w')
    (m5 : ∀ w, Calls Try.prog 41 #[.bool B, .agg #[.int .u64 (hi N : Nat), .int .u64 (lo N : Nat)]] w fun e w' => e = gaveUp 5 ∧ Below w.heap.size w w') :
    Calls Try.prog 57 #[.pointer (some ⟨p0, 0, none⟩), .pointer (some ⟨p1, 0, none⟩), .pointer (some ⟨p2, 0, none⟩), .pointer (some ⟨p3, 0, none⟩)] w fun e w' => e = gaveUp 5 ∧ Below w.heap.size w w' := by
  have M1 := Lib.hid m1; have M2 := Lib.hid m2; have M3 := Lib.hid m3; have M5 := Lib.hid m5; have M4 := Lib.hid m4
  clear m1 m2 m3 m5 m4
  have z1 := lt_of_cell c1; have z2 := lt_of_cell c2; have z3 := lt_of_cell c3
  have C1 := Lib.hid c1; have C2 := Lib.hid c2; have C3 := Lib.hid c3
  clear c1 c2 c3
  go_enter Try.func57, Try.ntmps57
  go_wp2_with fail
  refine (M1.out _).mono ?_
  rintro e w1 ⟨rfl, hb1⟩
  have c1 := (hb1.cell (p := ⟨p1, 0, none⟩) z1).trans C1.out; have c2 := (hb1.cell (p := ⟨p2, 0, none⟩) z2).trans C2.out; have c3 := (hb1.cell (p := ⟨p3, 0, none⟩) z3).trans C3.out
  have HW1 := Lib.hid hb1
  clear hb1 z1 z2 z3 C1 C2 C3
  go_wp2_with fail
  refine (M2.out _).mono ?_
  rintro e w2 ⟨rfl, hb2⟩
  have hw2 : Below w.heap.size w w2 := HW1.out.trans (hb2.mono HW1.out.size)
  have HW2 := Lib.hid hw2
  clear hb2 hw2 c1 c2 c3 c0
  go_wp2_with fail
  refine (M3.out _).mono ?_
  rintro e w3 ⟨rfl, hb3⟩
  have b6 : Blk w3 w2.heap.size #[.bool B, .int .u64 (hi Q : Nat), .int .u64 (lo Q : Nat), .int .u64 (hi R : Nat), .int .u64 (lo R : Nat), .int .u64 0, .int .u64 (z : Nat)] := (Blk.new _ _ _).call hb3
  have hw3 : Below w.heap.size w w3 := (HW2.out.alloc HW2.out.size _).trans (hb3.mono (by have := HW2.out.size; simp; omega))
  have s2 := HW2.out.size
  have HW3 := Lib.hid hw3
  clear hb3 hw3 HW2 HW1
  have x1 : w3.cell? ⟨w2.heap.size, 1, none⟩ = some (.int .u64 (hi Q : Nat)) := b6.cell rfl
  have x2 : w3.cell? ⟨w2.heap.size, 2, none⟩ = some (.int .u64 (lo Q : Nat)) := b6.cell rfl
  have B6 := Lib.hid b6
  clear b6
  go_wp2_with fail
  refine (M4.out _).mono ?_
  rintro e w4 ⟨rfl, hb4⟩
  have b6 := B6.out.call hb4
  have hw4 : Below w.heap.size w w4 := HW3.out.trans (hb4.mono HW3.out.size)
  have HW4 := Lib.hid hw4
  clear hb4 hw4 HW3 x1 x2 B6
  have y0 : w4.cell? ⟨w2.heap.size, 0, none⟩ = some (.bool B) := b6.cell rfl
  have y1 : w4.cell? ⟨w2.heap.size, 1, none⟩ = some (.int .u64 (hi Q : Nat)) := b6.cell rfl
  have y2 : w4.cell? ⟨w2.heap.size, 2, none⟩ = some (.int .u64 (lo Q : Nat)) := b6.cell rfl
  have g1 := b6.free 1; have g2 := b6.free 2
  clear b6
  go_wp2_with fail
  refine (M5.out _).mono ?_
  rintro e w5 ⟨rfl, hb5⟩
  have hw5 : Below w.heap.size w w5 := ((HW4.out.setCell (p := ⟨w2.heap.size, 1, none⟩) s2 _).setCell (p := ⟨w2.heap.size, 2, none⟩) s2 _).trans (hb5.mono (by have := HW4.out.size; simpa [World.setCell] using this))
  have HW5 := Lib.hid hw5
  clear hb5 hw5 HW4 y0 y1 y2 g1 g2
  unfold gaveUp
  go_wp2_with fail
  exact ⟨rfl, rfl, HW5.out⟩
theorem md_nomode (m : Int) (p0 p1 p2 p3 : Nat) (w : World)
    (c0 : w.cell? ⟨p0, 0, none⟩ = some (.int .i64 m))
    (m1 : ∀ w, Calls Try.prog 58 #[.int .i64 m] w fun e w' => e = gaveUp 1 ∧ Below w.heap.size w w')
    : Calls Try.prog 57 #[.pointer (some ⟨p0, 0, none⟩), .pointer (some ⟨p1, 0, none⟩), .pointer (some ⟨p2, 0, none⟩), .pointer (some ⟨p3, 0, none⟩)] w fun e w' => e = gaveUp 1 ∧ Below w.heap.size w w' := by
  have M1 := Lib.hid m1
  clear m1
  go_enter Try.func57, Try.ntmps57
  go_wp2_with fail
  refine (M1.out _).mono ?_
  rintro e w1 ⟨rfl, hb1⟩
  have HW1 := Lib.hid hb1
  clear hb1
  unfold gaveUp
  go_wp2_with fail
  exact ⟨rfl, rfl, HW1.out⟩
theorem md_nodiv (K : FuncId) (a b c m : Int) (p0 p1 p2 p3 : Nat) (w : World)
    (c0 : w.cell? ⟨p0, 0, none⟩ = some (.int .i64 m)) (c1 : w.cell? ⟨p1, 0, none⟩ = some (.int .i64 a)) (c2 : w.cell? ⟨p2, 0, none⟩ = some (.int .i64 b)) (c3 : w.cell? ⟨p3, 0, none⟩ = some (.int .i64 c))
    (m1 : ∀ w, Calls Try.prog 58 #[.int .i64 m] w fun e w' => e = .returned (.func (.func K) #[] #[]) ∧ Below w.heap.size w w')
    (m2 : ∀ w, Calls Try.prog 59 #[.int .i64 a, .int .i64 b, .int .i64 c] w fun e w' => e = gaveUp 4 ∧ Below w.heap.size w w')
    : Calls Try.prog 57 #[.pointer (some ⟨p0, 0, none⟩), .pointer (some ⟨p1, 0, none⟩), .pointer (some ⟨p2, 0, none⟩), .pointer (some ⟨p3, 0, none⟩)] w fun e w' => e = gaveUp 4 ∧ Below w.heap.size w w' := by
  have M1 := Lib.hid m1; have M2 := Lib.hid m2
  clear m1 m2
  have z1 := lt_of_cell c1; have z2 := lt_of_cell c2; have z3 := lt_of_cell c3
  have C1 := Lib.hid c1; have C2 := Lib.hid c2; have C3 := Lib.hid c3
  clear c1 c2 c3
  go_enter Try.func57, Try.ntmps57
  go_wp2_with fail
  refine (M1.out _).mono ?_
  rintro e w1 ⟨rfl, hb1⟩
  have c1 := (hb1.cell (p := ⟨p1, 0, none⟩) z1).trans C1.out; have c2 := (hb1.cell (p := ⟨p2, 0, none⟩) z2).trans C2.out; have c3 := (hb1.cell (p := ⟨p3, 0, none⟩) z3).trans C3.out
  have HW1 := Lib.hid hb1
  clear hb1 z1 z2 z3 C1 C2 C3
  go_wp2_with fail
  refine (M2.out _).mono ?_
  rintro e w2 ⟨rfl, hb2⟩
  have hw2 : Below w.heap.size w w2 := HW1.out.trans (hb2.mono HW1.out.size)
  have HW2 := Lib.hid hw2
  clear hb2 hw2 c1 c2 c3 c0
  unfold gaveUp
  go_wp2_with fail
  exact ⟨rfl, rfl, HW2.out⟩

theorem add_one_fit (Q : Nat) (h : Q ≤ 85070591730234615865843651857942052864) (w : World) :
    Calls Try.prog 54 #[.agg #[.int .u64 (hi Q : Nat), .int .u64 (lo Q : Nat)], .agg #[.int .u64 0, .int .u64 1]] w fun e w' => e = .returned (.tuple #[.agg #[.int .u64 (hi (Q + 1) : Nat), .int .u64 (lo (Q + 1) : Nat)], .bool false]) ∧ Below w.heap.size w w' :=
  add_fit Q 1 (by unfold M128; omega) w
/-- What the work of MulDiv ends with, by a mode's function K. -/
theorem md_work (K : FuncId) (eg : ∀ args w, (callFunc K args).run Try.prog w = .ok (.enter K args) w) (m : Nat) (a b c : Int) (ha : IsInt a) (hb : IsInt b) (hc : IsInt c) (h0 : c ≠ 0) (p0 p1 p2 p3 : Nat) (w : World)
    (c0 : w.cell? ⟨p0, 0, none⟩ = some (.int .i64 (m : Nat))) (c1 : w.cell? ⟨p1, 0, none⟩ = some (.int .i64 a)) (c2 : w.cell? ⟨p2, 0, none⟩ = some (.int .i64 b)) (c3 : w.cell? ⟨p3, 0, none⟩ = some (.int .i64 c))
    (m1 : ∀ w, Calls Try.prog 58 #[.int .i64 (m : Nat)] w fun e w' => e = .returned (.func (.func K) #[] #[]) ∧ Below w.heap.size w w')
    (m3 : ∀ w, Calls Try.prog K #[.agg #[.bool (mdB a b c), .int .u64 (hi (mdQ a b c) : Nat), .int .u64 (lo (mdQ a b c) : Nat), .int .u64 (hi (mdR a b c) : Nat), .int .u64 (lo (mdR a b c) : Nat), .int .u64 0, .int .u64 (c.natAbs : Nat)]] w fun e w' => e = .returned (.bool (away m (mdB a b c) (mdQ a b c) (mdR a b c) c.natAbs)) ∧ Below w.heap.size w w') :
    Calls Try.prog 57 #[.pointer (some ⟨p0, 0, none⟩), .pointer (some ⟨p1, 0, none⟩), .pointer (some ⟨p2, 0, none⟩), .pointer (some ⟨p3, 0, none⟩)] w fun e w' => e = told (md a b c m) ∧ Below w.heap.size w w' := by
  have hQ := mdQ_le c ha hb
  have hM : mdQ a b c < M128 := by unfold M128; omega
  have hM1 : mdQ a b c + 1 < M128 := by unfold M128; omega
  cases hA : away m (mdB a b c) (mdQ a b c) (mdR a b c) c.natAbs with
  | true =>
    rw [hA] at m3
    have e : md a b c m = sgn (mdB a b c) (mdQ a b c + 1) := by unfold md; rw [hA]; rfl
    have hw := fun w => fixWhole_any (mdB a b c) (mdQ a b c + 1) hM1 w
    rw [← e] at hw
    by_cases h : IsInt (md a b c m)
    · rw [told_ok h] at hw ⊢
      exact md_away_ok K eg a b c _ _ _ _ _ _ _ p0 p1 p2 p3 w c0 c1 c2 c3 m1 (divided_any a b c ha hb hc h0) m3 (add_one_fit _ hQ) hw
    · rw [told_no h] at hw ⊢
      exact md_away_no K eg a b c _ _ _ _ _ _ p0 p1 p2 p3 w c0 c1 c2 c3 m1 (divided_any a b c ha hb hc h0) m3 (add_one_fit _ hQ) hw
  | false =>
    rw [hA] at m3
    have e : md a b c m = sgn (mdB a b c) (mdQ a b c) := by unfold md; rw [hA]; rfl
    have hw := fun w => fixWhole_any (mdB a b c) (mdQ a b c) hM w
    rw [← e] at hw
    by_cases h : IsInt (md a b c m)
    · rw [told_ok h] at hw ⊢
      exact md_stay_ok K eg a b c _ _ _ _ _ _ p0 p1 p2 p3 w c0 c1 c2 c3 m1 (divided_any a b c ha hb hc h0) m3 hw
    · rw [told_no h] at hw ⊢
      exact md_stay_no K eg a b c _ _ _ _ _ p0 p1 p2 p3 w c0 c1 c2 c3 m1 (divided_any a b c ha hb hc h0) m3 hw


/-- MulDiv, by what its work ends with. -/
theorem md_told (a b c m x y : Int) (w : World)
    (hk : Calls Try.prog 39 #[.func (.func 57) #[] #[.pointer (some ⟨w.heap.size + 1 + 1 + 1, 0, none⟩), .pointer (some ⟨w.heap.size, 0, none⟩), .pointer (some ⟨w.heap.size + 1, 0, none⟩), .pointer (some ⟨w.heap.size + 1 + 1, 0, none⟩)]] ((((w.alloc (.cells #[.int .i64 a] 3)).alloc (.cells #[.int .i64 b] 3)).alloc (.cells #[.int .i64 c] 3)).alloc (.cells #[.int .i64 m] 3)) fun e w' => e = .returned (.tuple #[.int .i64 x, .int .i64 y]) ∧ Below ((((w.alloc (.cells #[.int .i64 a] 3)).alloc (.cells #[.int .i64 b] 3)).alloc (.cells #[.int .i64 c] 3)).alloc (.cells #[.int .i64 m] 3)).heap.size ((((w.alloc (.cells #[.int .i64 a] 3)).alloc (.cells #[.int .i64 b] 3)).alloc (.cells #[.int .i64 c] 3)).alloc (.cells #[.int .i64 m] 3)) w') :
    Calls Try.prog 34 #[.int .i64 a, .int .i64 b, .int .i64 c, .int .i64 m] w fun e w' => e = .returned (.tuple #[.int .i64 x, .int .i64 y]) ∧ Below w.heap.size w w' := by
  have HK := Lib.hid hk
  clear hk
  have hmf : ∀ (fn : Fn) (first cap : Array Value) (w : World), (Instr.makeFunc fn first cap).run Try.prog w = .ok (.func fn first cap) w := fun _ _ _ _ => rfl
  go_enter Try.func34, Try.ntmps34
  go_wp2_with fail
  refine HK.out.mono ?_
  rintro e w1 ⟨rfl, hb1⟩
  have HW := Lib.hid ((((((Below.refl w.heap.size w).alloc (Nat.le_refl _) _).alloc (by simp) _).alloc (by simp; omega) _).alloc (by simp; omega) _).trans (hb1.mono (by simp; omega)))
  clear hb1
  go_wp2_with fail
  go_ret2
  exact ⟨rfl, HW.out⟩
theorem md_boxes (a b c m : Int) (w w1 : World) (hb : Below ((((w.alloc (.cells #[.int .i64 a] 3)).alloc (.cells #[.int .i64 b] 3)).alloc (.cells #[.int .i64 c] 3)).alloc (.cells #[.int .i64 m] 3)).heap.size ((((w.alloc (.cells #[.int .i64 a] 3)).alloc (.cells #[.int .i64 b] 3)).alloc (.cells #[.int .i64 c] 3)).alloc (.cells #[.int .i64 m] 3)) w1) :
    w1.cell? ⟨w.heap.size, 0, none⟩ = some (.int .i64 a) ∧ w1.cell? ⟨w.heap.size + 1, 0, none⟩ = some (.int .i64 b) ∧ w1.cell? ⟨w.heap.size + 1 + 1, 0, none⟩ = some (.int .i64 c) ∧ w1.cell? ⟨w.heap.size + 1 + 1 + 1, 0, none⟩ = some (.int .i64 m) :=
  ⟨(((((IBox.new _ _ _).alloc _).alloc _).alloc _).call hb).c, ((((IBox.newAt (by simp)).alloc _).alloc _).call hb).c, (((IBox.newAt (by simp)).alloc _).call hb).c, ((IBox.newAt (by simp)).call hb).c⟩
theorem eg1 : ∀ args w, (callFunc 57 args).run Try.prog w = .ok (.enter 57 args) w := enters_of Try.func57 (by kernel_rfl) rfl
theorem muldiv_any (m : Nat) (hm : m ≤ 2) (a b c : Int) (ha : IsInt a) (hb : IsInt b) (hc : IsInt c) (h0 : c ≠ 0) (w : World) :
    Calls Try.prog 34 #[.int .i64 a, .int .i64 b, .int .i64 c, .int .i64 (m : Nat)] w fun e w' => e = .returned (.tuple #[.int .i64 (ans (md a b c m)), .int .i64 (err (md a b c m))]) ∧ Below w.heap.size w w' := by
  refine md_told _ _ _ _ _ _ w (attempt_told _ _ (md a b c m) _ eg1 fun w1 hb1 => ?_)
  obtain ⟨k1, k2, k3, k4⟩ := md_boxes a b c (m : Nat) w w1 hb1
  have hz := mdR_lt a b h0
  rcases (by omega : m = 0 ∨ m = 1 ∨ m = 2) with rfl | rfl | rfl
  · exact md_work 78 (enters_of Try.func78 (by kernel_rfl) rfl) 0 a b c ha hb hc h0 _ _ _ _ w1 k4 k1 k2 k3 mode_0 (down_any _ _ _ _)
  · exact md_work 79 (enters_of Try.func79 (by kernel_rfl) rfl) 1 a b c ha hb hc h0 _ _ _ _ w1 k4 k1 k2 k3 mode_1 (up_any _ _ _ _)
  · exact md_work 80 (enters_of Try.func80 (by kernel_rfl) rfl) 2 a b c ha hb hc h0 _ _ _ _ w1 k4 k1 k2 k3 mode_2 (near_any _ _ _ _ (natAbs_B hc) hz)
theorem muldiv_nomode (m a b c : Int) (h : m < 0 ∨ 2 < m) (w : World) :
    Calls Try.prog 34 #[.int .i64 a, .int .i64 b, .int .i64 c, .int .i64 m] w fun e w' => e = .returned (.tuple #[.int .i64 0, .int .i64 1]) ∧ Below w.heap.size w w' := by
  refine md_told _ _ _ _ _ _ w (attempt_no _ _ 1 _ eg1 fun w1 hb1 => ?_)
  obtain ⟨k1, k2, k3, k4⟩ := md_boxes a b c m w w1 hb1
  exact md_nomode m _ _ _ _ w1 k4 (mode_none m h)
theorem muldiv_zero (m : Nat) (hm : m ≤ 2) (a b : Int) (ha : IsInt a) (hb : IsInt b) (w : World) :
    Calls Try.prog 34 #[.int .i64 a, .int .i64 b, .int .i64 0, .int .i64 (m : Nat)] w fun e w' => e = .returned (.tuple #[.int .i64 0, .int .i64 4]) ∧ Below w.heap.size w w' := by
  refine md_told _ _ _ _ _ _ w (attempt_no _ _ 4 _ eg1 fun w1 hb1 => ?_)
  obtain ⟨k1, k2, k3, k4⟩ := md_boxes a b 0 (m : Nat) w w1 hb1
  rcases (by omega : m = 0 ∨ m = 1 ∨ m = 2) with rfl | rfl | rfl
  · exact md_nodiv _ a b 0 _ _ _ _ _ w1 k4 k1 k2 k3 mode_0 (divided_zero a b ha hb)
  · exact md_nodiv _ a b 0 _ _ _ _ _ w1 k4 k1 k2 k3 mode_1 (divided_zero a b ha hb)
  · exact md_nodiv _ a b 0 _ _ _ _ _ w1 k4 k1 k2 k3 mode_2 (divided_zero a b ha hb)
end Go.Proofs.Ytjnebbjjabnipaa
