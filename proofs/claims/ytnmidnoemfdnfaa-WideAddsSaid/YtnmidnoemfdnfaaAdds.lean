/- WideAdds: sums, differences and the order of two wide numbers are as the document says. For every two wide numbers the law answers true. -/
import Derived.Test.YtnmidnoemfdnfaaAlive1
import Derived.Test.YtnmidnoemfdnfaaRAdd
import Derived.Test.YtnmidnoemfdnfaaRSub
namespace Go.Proofs.Ytnmidnoemfdnfaa
open Go.RowKit

set_option maxHeartbeats 8000000 in
theorem adds_core (ah al bh bl sh sl dh dl : Nat) (o u : Bool) (w : World)
    (m1 : ∀ w, Calls Try.prog 8 #[.agg #[.int .u64 (ah : Nat), .int .u64 (al : Nat)], .agg #[.int .u64 (bh : Nat), .int .u64 (bl : Nat)]] w fun e w' => e = .returned (.tuple #[.agg #[.int .u64 (sh : Nat), .int .u64 (sl : Nat)], .bool o]) ∧ Below w.heap.size w w')
    (m2 : ∀ w, Calls Try.prog 9 #[.agg #[.int .u64 (ah : Nat), .int .u64 (al : Nat)], .agg #[.int .u64 (bh : Nat), .int .u64 (bl : Nat)]] w fun e w' => e = .returned (.tuple #[.agg #[.int .u64 (dh : Nat), .int .u64 (dl : Nat)], .bool u]) ∧ Below w.heap.size w w')
    (m3 : ∀ w, Calls Try.prog 10 #[.agg #[.int .u64 (ah : Nat), .int .u64 (al : Nat)], .agg #[.int .u64 (bh : Nat), .int .u64 (bl : Nat)]] w fun e w' => e = .returned (.tuple #[.agg #[.int .u64 (sh : Nat), .int .u64 (sl : Nat)], .bool o]) ∧ Below w.heap.size w w')
    (m4 : ∀ w, Calls Try.prog 11 #[.agg #[.int .u64 (ah : Nat), .int .u64 (al : Nat)], .agg #[.int .u64 (bh : Nat), .int .u64 (bl : Nat)]] w fun e w' => e = .returned (.tuple #[.agg #[.int .u64 (dh : Nat), .int .u64 (dl : Nat)], .bool u]) ∧ Below w.heap.size w w')
    (m5 : ∀ w, Calls Try.prog 13 #[.agg #[.int .u64 (ah : Nat), .int .u64 (al : Nat)], .agg #[.int .u64 (bh : Nat), .int .u64 (bl : Nat)]] w fun e w' => e = .returned (.bool u) ∧ Below w.heap.size w w')
    (m6 : ∀ w, Calls Try.prog 14 #[.agg #[.int .u64 (ah : Nat), .int .u64 (al : Nat)], .agg #[.int .u64 (bh : Nat), .int .u64 (bl : Nat)]] w fun e w' => e = .returned (.bool u) ∧ Below w.heap.size w w') :
    Calls Try.prog 3 #[.agg #[.int .u64 (ah : Nat), .int .u64 (al : Nat)], .agg #[.int .u64 (bh : Nat), .int .u64 (bl : Nat)]] w fun e w' => e = .returned (.bool true) ∧ Below w.heap.size w w' := by
  have M1 := Lib.hid m1; clear m1
  have M2 := Lib.hid m2; clear m2
  have M3 := Lib.hid m3; clear m3
  have M4 := Lib.hid m4; clear m4
  have M5 := Lib.hid m5; clear m5
  have M6 := Lib.hid m6; clear m6
  go_enter Try.func3, Try.ntmps3
  go_wp2_with fail
  refine (M1.out _).mono ?_
  rintro e w1 ⟨rfl, hb1⟩
  have A1 := keep2 (b := w.heap.size) (x := .int .u64 ah) (y := .int .u64 al) hb1 (by first | omega | (simp; done) | (simp; omega)) (by simp [go_sem, *])
  have B1 := keep2 (b := w.heap.size + 1) (x := .int .u64 bh) (y := .int .u64 bl) hb1 (by first | omega | (simp; done) | (simp; omega)) (by simp [go_sem, *])
  have L1 : Below w.heap.size w w1 := (((Below.refl _ _).alloc (Nat.le_refl _) _).alloc (by simp) _).trans (hb1.mono (by first | omega | (simp; omega)))
  clear hb1
  go_wp2_with fail
  refine (M2.out _).mono ?_
  rintro e w2 ⟨rfl, hb2⟩
  have A2 := keep2 (b := w.heap.size) (x := .int .u64 ah) (y := .int .u64 al) hb2 (by first | omega | (simp; done) | (simp; omega)) (by simp [go_sem, *])
  have B2 := keep2 (b := w.heap.size + 1) (x := .int .u64 bh) (y := .int .u64 bl) hb2 (by first | omega | (simp; done) | (simp; omega)) (by simp [go_sem, *])
  have SS2 := keep2 (b := w1.heap.size) (x := .int .u64 sh) (y := .int .u64 sl) hb2 (by first | omega | (simp; done) | (simp; omega)) (by simp [go_sem, *])
  have L2 : Below w.heap.size w w2 := (L1.alloc (by omega) _).trans (hb2.mono (by first | omega | (simp; omega)))
  clear hb2 L1 A1 B1
  go_wp2_with fail
  refine (M3.out _).mono ?_
  rintro e w3 ⟨rfl, hb3⟩
  have A3 := keep2 (b := w.heap.size) (x := .int .u64 ah) (y := .int .u64 al) hb3 (by first | omega | (simp; done) | (simp; omega)) (by simp [go_sem, *])
  have B3 := keep2 (b := w.heap.size + 1) (x := .int .u64 bh) (y := .int .u64 bl) hb3 (by first | omega | (simp; done) | (simp; omega)) (by simp [go_sem, *])
  have SS3 := keep2 (b := w1.heap.size) (x := .int .u64 sh) (y := .int .u64 sl) hb3 (by first | omega | (simp; done) | (simp; omega)) (by simp [go_sem, *])
  have DD3 := keep2 (b := w2.heap.size) (x := .int .u64 dh) (y := .int .u64 dl) hb3 (by first | omega | (simp; done) | (simp; omega)) (by simp [go_sem, *])
  have L3 : Below w.heap.size w w3 := (L2.alloc (by omega) _).trans (hb3.mono (by first | omega | (simp; omega)))
  clear hb3 L2 A2 B2 SS2
  go_wp2_with fail
  refine (M4.out _).mono ?_
  rintro e w4 ⟨rfl, hb4⟩
  have A4 := keep2 (b := w.heap.size) (x := .int .u64 ah) (y := .int .u64 al) hb4 (by first | omega | (simp; done) | (simp; omega)) (by simp [go_sem, *])
  have B4 := keep2 (b := w.heap.size + 1) (x := .int .u64 bh) (y := .int .u64 bl) hb4 (by first | omega | (simp; done) | (simp; omega)) (by simp [go_sem, *])
  have SS4 := keep2 (b := w1.heap.size) (x := .int .u64 sh) (y := .int .u64 sl) hb4 (by first | omega | (simp; done) | (simp; omega)) (by simp [go_sem, *])
  have DD4 := keep2 (b := w2.heap.size) (x := .int .u64 dh) (y := .int .u64 dl) hb4 (by first | omega | (simp; done) | (simp; omega)) (by simp [go_sem, *])
  have XX4 := keep2 (b := w3.heap.size) (x := .int .u64 sh) (y := .int .u64 sl) hb4 (by first | omega | (simp; done) | (simp; omega)) (by simp [go_sem, *])
  have L4 : Below w.heap.size w w4 := (L3.alloc (by omega) _).trans (hb4.mono (by first | omega | (simp; omega)))
  clear hb4 L3 A3 B3 SS3 DD3
  go_wp2_with fail
  refine wp_region_held_drew (S := (fun w' => (w.heap.size < w'.heap.size ∧ w'.cell? ⟨w.heap.size, 0, none⟩ = some (.int .u64 ah) ∧ w'.cell? ⟨w.heap.size, 1, none⟩ = some (.int .u64 al)) ∧ (w.heap.size + 1 < w'.heap.size ∧ w'.cell? ⟨w.heap.size + 1, 0, none⟩ = some (.int .u64 bh) ∧ w'.cell? ⟨w.heap.size + 1, 1, none⟩ = some (.int .u64 bl)) ∧ (w1.heap.size < w'.heap.size ∧ w'.cell? ⟨w1.heap.size, 0, none⟩ = some (.int .u64 sh) ∧ w'.cell? ⟨w1.heap.size, 1, none⟩ = some (.int .u64 sl)) ∧ (w2.heap.size < w'.heap.size ∧ w'.cell? ⟨w2.heap.size, 0, none⟩ = some (.int .u64 dh) ∧ w'.cell? ⟨w2.heap.size, 1, none⟩ = some (.int .u64 dl)) ∧ (w3.heap.size < w'.heap.size ∧ w'.cell? ⟨w3.heap.size, 0, none⟩ = some (.int .u64 sh) ∧ w'.cell? ⟨w3.heap.size, 1, none⟩ = some (.int .u64 sl)) ∧ (w4.heap.size < w'.heap.size ∧ w'.cell? ⟨w4.heap.size, 0, none⟩ = some (.int .u64 dh) ∧ w'.cell? ⟨w4.heap.size, 1, none⟩ = some (.int .u64 dl)) ∧ Hid (Below w.heap.size w w'))) (by kernel_rfl) ⟨by simp [go_sem, *], by simp [go_sem, *], by simp [go_sem, *], by simp [go_sem, *], by simp [go_sem, *], by simp [go_sem], Lib.hid (L4.alloc (by omega) _).drew⟩ (fun hHeld => ?_)
  clear A4 B4 SS4 DD4 XX4 L4
  refine regCall 0 (some 37) (f := 12) (args := ?_) rfl rfl (by kernel_rfl) (by rfl) ?_ ?_
  rotate_left 1
  · (go_simp; try with_reducible rfl)
  refine (alive_any _).mono ?_
  rintro e wx0 ⟨rfl, hbx⟩
  refine ⟨_, rfl, ⟨keep2 hbx hHeld.1.1 hHeld.1.2, keep2 hbx hHeld.2.1.1 hHeld.2.1.2, keep2 hbx hHeld.2.2.1.1 hHeld.2.2.1.2, keep2 hbx hHeld.2.2.2.1.1 hHeld.2.2.2.1.2, keep2 hbx hHeld.2.2.2.2.1.1 hHeld.2.2.2.2.1.2, keep2 hbx hHeld.2.2.2.2.2.1.1 hHeld.2.2.2.2.2.1.2, Lib.hid (hHeld.2.2.2.2.2.2.out.trans (hbx.mono (Nat.le_of_lt hHeld.1.1)))⟩, fun hHeld => ?_⟩
  simp only [Act.put, List.setIfInBounds_toArray, List.set_cons_zero, List.set_cons_succ]
  refine regTake 1 (some 38) (v := ?_) rfl rfl (by kernel_rfl) (by kernel_rfl) (by kernel_rfl) (fun _ _ _ h => h) (by rfl) hHeld ?_ ?_
  rotate_left 1
  · (intro w hSw; (try dsimp only at hSw); go_simp; try with_reducible rfl)
  simp only [Act.put, List.setIfInBounds_toArray, List.set_cons_zero, List.set_cons_succ]
  refine regTake 2 (some 39) (v := ?_) rfl rfl (by kernel_rfl) (by kernel_rfl) (by kernel_rfl) (fun _ _ _ h => h) (by rfl) hHeld ?_ ?_
  rotate_left 1
  · (intro w hSw; (try dsimp only at hSw); go_simp; try with_reducible rfl)
  simp only [Act.put, List.setIfInBounds_toArray, List.set_cons_zero, List.set_cons_succ]
  refine regTake 3 (some 40) (v := ?_) rfl rfl (by kernel_rfl) (by kernel_rfl) (by kernel_rfl) (fun _ _ _ h => h) (by rfl) hHeld ?_ ?_
  rotate_left 1
  · (intro w hSw; (try dsimp only at hSw); go_simp; try with_reducible rfl)
  simp only [Act.put, List.setIfInBounds_toArray, List.set_cons_zero, List.set_cons_succ]
  refine regTake 4 (some 41) (v := ?_) rfl rfl (by kernel_rfl) (by kernel_rfl) (by kernel_rfl) (fun _ _ _ h => h) (by rfl) hHeld ?_ ?_
  rotate_left 1
  · (intro w hSw; (try dsimp only at hSw); go_simp; try with_reducible rfl)
  simp only [Act.put, List.setIfInBounds_toArray, List.set_cons_zero, List.set_cons_succ]
  refine regTake 5 (some 42) (v := ?_) rfl rfl (by kernel_rfl) (by kernel_rfl) (by kernel_rfl) (fun _ _ _ h => h) (by rfl) hHeld ?_ ?_
  rotate_left 1
  · (intro w hSw; (try dsimp only at hSw); go_simp; try with_reducible rfl)
  simp only [Act.put, List.setIfInBounds_toArray, List.set_cons_zero, List.set_cons_succ]
  refine regTake 6 (some 43) (v := ?_) rfl rfl (by kernel_rfl) (by kernel_rfl) (by kernel_rfl) (fun _ _ _ h => h) (by rfl) hHeld ?_ ?_
  rotate_left 1
  · (intro w hSw; (try dsimp only at hSw); go_simp; try with_reducible rfl)
  simp only [Act.put, List.setIfInBounds_toArray, List.set_cons_zero, List.set_cons_succ]
  refine regTake 7 (some 44) (v := ?_) rfl rfl (by kernel_rfl) (by kernel_rfl) (by kernel_rfl) (fun _ _ _ h => h) (by rfl) hHeld ?_ ?_
  rotate_left 1
  · (intro w hSw; (try dsimp only at hSw); go_simp; try with_reducible rfl)
  simp only [Act.put, List.setIfInBounds_toArray, List.set_cons_zero, List.set_cons_succ]
  refine regTake 8 (some 45) (v := ?_) rfl rfl (by kernel_rfl) (by kernel_rfl) (by kernel_rfl) (fun _ _ _ h => h) (by rfl) hHeld ?_ ?_
  rotate_left 1
  · (intro w hSw; (try dsimp only at hSw); go_simp; try with_reducible rfl)
  simp only [Act.put, List.setIfInBounds_toArray, List.set_cons_zero, List.set_cons_succ]
  refine regTake 9 (some 46) (v := ?_) rfl rfl (by kernel_rfl) (by kernel_rfl) (by kernel_rfl) (fun _ _ _ h => h) (by rfl) hHeld ?_ ?_
  rotate_left 1
  · (intro w hSw; (try dsimp only at hSw); go_simp; try with_reducible rfl)
  simp only [Act.put, List.setIfInBounds_toArray, List.set_cons_zero, List.set_cons_succ]
  refine regTake 10 (some 47) (v := ?_) rfl rfl (by kernel_rfl) (by kernel_rfl) (by kernel_rfl) (fun _ _ _ h => h) (by rfl) hHeld ?_ ?_
  rotate_left 1
  · (intro w hSw; (try dsimp only at hSw); go_simp; try with_reducible rfl)
  simp only [Act.put, List.setIfInBounds_toArray, List.set_cons_zero, List.set_cons_succ]
  refine regTake 11 (some 48) (v := ?_) rfl rfl (by kernel_rfl) (by kernel_rfl) (by kernel_rfl) (fun _ _ _ h => h) (by rfl) hHeld ?_ ?_
  rotate_left 1
  · (intro w hSw; (try dsimp only at hSw); go_simp; try with_reducible rfl)
  simp only [Act.put, List.setIfInBounds_toArray, List.set_cons_zero, List.set_cons_succ]
  refine regTake 12 (some 49) (v := ?_) rfl rfl (by kernel_rfl) (by kernel_rfl) (by kernel_rfl) (fun _ _ _ h => h) (by rfl) hHeld ?_ ?_
  rotate_left 1
  · (intro w hSw; (try dsimp only at hSw); go_simp; try with_reducible rfl)
  simp only [Act.put, List.setIfInBounds_toArray, List.set_cons_zero, List.set_cons_succ]
  refine regTake 13 (some 50) (v := ?_) rfl rfl (by kernel_rfl) (by kernel_rfl) (by kernel_rfl) (fun _ _ _ h => h) (by rfl) hHeld ?_ ?_
  rotate_left 1
  · (intro w hSw; (try dsimp only at hSw); go_simp; try with_reducible rfl)
  simp only [Act.put, List.setIfInBounds_toArray, List.set_cons_zero, List.set_cons_succ]
  refine regTake 14 (some 51) (v := ?_) rfl rfl (by kernel_rfl) (by kernel_rfl) (by kernel_rfl) (fun _ _ _ h => h) (by rfl) hHeld ?_ ?_
  rotate_left 1
  · (intro w hSw; (try dsimp only at hSw); go_simp; try with_reducible rfl)
  simp only [Act.put, List.setIfInBounds_toArray, List.set_cons_zero, List.set_cons_succ]
  refine regTake 15 (some 52) (v := ?_) rfl rfl (by kernel_rfl) (by kernel_rfl) (by kernel_rfl) (fun _ _ _ h => h) (by rfl) hHeld ?_ ?_
  rotate_left 1
  · (intro w hSw; (try dsimp only at hSw); go_simp; try with_reducible rfl)
  simp only [Act.put, List.setIfInBounds_toArray, List.set_cons_zero, List.set_cons_succ]
  refine regTake 16 (some 53) (v := ?_) rfl rfl (by kernel_rfl) (by kernel_rfl) (by kernel_rfl) (fun _ _ _ h => h) (by rfl) hHeld ?_ ?_
  rotate_left 1
  · (intro w hSw; (try dsimp only at hSw); go_simp; try with_reducible rfl)
  simp only [Act.put, List.setIfInBounds_toArray, List.set_cons_zero, List.set_cons_succ]
  refine regTake 17 (some 54) (v := ?_) rfl rfl (by kernel_rfl) (by kernel_rfl) (by kernel_rfl) (fun _ _ _ h => h) (by rfl) hHeld ?_ ?_
  rotate_left 1
  · (intro w hSw; (try dsimp only at hSw); go_simp; try with_reducible rfl)
  simp only [Act.put, List.setIfInBounds_toArray, List.set_cons_zero, List.set_cons_succ]
  refine regTake 18 (some 55) (v := ?_) rfl rfl (by kernel_rfl) (by kernel_rfl) (by kernel_rfl) (fun _ _ _ h => h) (by rfl) hHeld ?_ ?_
  rotate_left 1
  · (intro w hSw; (try dsimp only at hSw); go_simp; try with_reducible rfl)
  simp only [Act.put, List.setIfInBounds_toArray, List.set_cons_zero, List.set_cons_succ]
  refine regTake 19 (some 56) (v := ?_) rfl rfl (by kernel_rfl) (by kernel_rfl) (by kernel_rfl) (fun _ _ _ h => h) (by rfl) hHeld ?_ ?_
  rotate_left 1
  · (intro w hSw; (try dsimp only at hSw); go_simp; try with_reducible rfl)
  simp only [Act.put, List.setIfInBounds_toArray, List.set_cons_zero, List.set_cons_succ]
  refine regTake 20 (some 57) (v := ?_) rfl rfl (by kernel_rfl) (by kernel_rfl) (by kernel_rfl) (fun _ _ _ h => h) (by rfl) hHeld ?_ ?_
  rotate_left 1
  · (intro w hSw; (try dsimp only at hSw); go_simp; try with_reducible rfl)
  simp only [Act.put, List.setIfInBounds_toArray, List.set_cons_zero, List.set_cons_succ]
  refine regTake 21 (some 58) (v := ?_) rfl rfl (by kernel_rfl) (by kernel_rfl) (by kernel_rfl) (fun _ _ _ h => h) (by rfl) hHeld ?_ ?_
  rotate_left 1
  · (intro w hSw; (try dsimp only at hSw); go_simp; try with_reducible rfl)
  simp only [Act.put, List.setIfInBounds_toArray, List.set_cons_zero, List.set_cons_succ]
  refine regTake 22 (some 59) (v := ?_) rfl rfl (by kernel_rfl) (by kernel_rfl) (by kernel_rfl) (fun _ _ _ h => h) (by rfl) hHeld ?_ ?_
  rotate_left 1
  · (intro w hSw; (try dsimp only at hSw); go_simp; try with_reducible rfl)
  simp only [Act.put, List.setIfInBounds_toArray, List.set_cons_zero, List.set_cons_succ]
  refine regTake 23 (some 60) (v := ?_) rfl rfl (by kernel_rfl) (by kernel_rfl) (by kernel_rfl) (fun _ _ _ h => h) (by rfl) hHeld ?_ ?_
  rotate_left 1
  · (intro w hSw; (try dsimp only at hSw); go_simp; try with_reducible rfl)
  simp only [Act.put, List.setIfInBounds_toArray, List.set_cons_zero, List.set_cons_succ]
  refine regTake 25 (some 62) (v := ?_) rfl rfl (by kernel_rfl) (by kernel_rfl) (by kernel_rfl) (fun _ _ _ h => h) (by rfl) hHeld ?_ ?_
  rotate_left 1
  · (intro w hSw; (try dsimp only at hSw); go_simp; try with_reducible rfl)
  simp only [Act.put, List.setIfInBounds_toArray, List.set_cons_zero, List.set_cons_succ]
  refine regTake 26 (some 63) (v := ?_) rfl rfl (by kernel_rfl) (by kernel_rfl) (by kernel_rfl) (fun _ _ _ h => h) (by rfl) hHeld ?_ ?_
  rotate_left 1
  · (intro w hSw; (try dsimp only at hSw); go_simp; try with_reducible rfl)
  simp only [Act.put, List.setIfInBounds_toArray, List.set_cons_zero, List.set_cons_succ]
  refine regCall 24 (some 61) (f := 13) (args := ?_) rfl rfl (by kernel_rfl) (by rfl) ?_ ?_
  rotate_left 1
  · (go_simp; try with_reducible rfl)
  refine (M5.out _).mono ?_
  rintro e wx24 ⟨rfl, hbx⟩
  refine ⟨_, rfl, ⟨keep2 hbx hHeld.1.1 hHeld.1.2, keep2 hbx hHeld.2.1.1 hHeld.2.1.2, keep2 hbx hHeld.2.2.1.1 hHeld.2.2.1.2, keep2 hbx hHeld.2.2.2.1.1 hHeld.2.2.2.1.2, keep2 hbx hHeld.2.2.2.2.1.1 hHeld.2.2.2.2.1.2, keep2 hbx hHeld.2.2.2.2.2.1.1 hHeld.2.2.2.2.2.1.2, Lib.hid (hHeld.2.2.2.2.2.2.out.trans (hbx.mono (Nat.le_of_lt hHeld.1.1)))⟩, fun hHeld => ?_⟩
  simp only [Act.put, List.setIfInBounds_toArray, List.set_cons_zero, List.set_cons_succ]
  refine regCall 27 (some 64) (f := 14) (args := ?_) rfl rfl (by kernel_rfl) (by rfl) ?_ ?_
  rotate_left 1
  · (go_simp; try with_reducible rfl)
  refine (M6.out _).mono ?_
  rintro e wx27 ⟨rfl, hbx⟩
  refine ⟨_, rfl, ⟨keep2 hbx hHeld.1.1 hHeld.1.2, keep2 hbx hHeld.2.1.1 hHeld.2.1.2, keep2 hbx hHeld.2.2.1.1 hHeld.2.2.1.2, keep2 hbx hHeld.2.2.2.1.1 hHeld.2.2.2.1.2, keep2 hbx hHeld.2.2.2.2.1.1 hHeld.2.2.2.2.1.2, keep2 hbx hHeld.2.2.2.2.2.1.1 hHeld.2.2.2.2.2.1.2, Lib.hid (hHeld.2.2.2.2.2.2.out.trans (hbx.mono (Nat.le_of_lt hHeld.1.1)))⟩, fun hHeld => ?_⟩
  simp only [Act.put, List.setIfInBounds_toArray, List.set_cons_zero, List.set_cons_succ]
  refine regTake 28 (some 65) (v := ?_) rfl rfl (by kernel_rfl) (by kernel_rfl) (by kernel_rfl) (fun _ _ _ h => h) (by rfl) hHeld ?_ ?_
  rotate_left 1
  · (intro w hSw; (try dsimp only at hSw); go_simp; try with_reducible rfl)
  simp only [Act.put, List.setIfInBounds_toArray, List.set_cons_zero, List.set_cons_succ]
  refine regTake 29 (some 66) (v := ?_) rfl rfl (by kernel_rfl) (by kernel_rfl) (by kernel_rfl) (fun _ _ _ h => h) (by rfl) hHeld ?_ ?_
  rotate_left 1
  · (intro w hSw; (try dsimp only at hSw); go_simp; try with_reducible rfl)
  simp only [Act.put, List.setIfInBounds_toArray, List.set_cons_zero, List.set_cons_succ]
  refine regTake 30 (some 4) (v := ?_) rfl rfl (by kernel_rfl) (by kernel_rfl) (by kernel_rfl) (fun _ _ _ h => h) (by rfl) hHeld ?_ ?_
  rotate_left 1
  · (intro w hSw; (try dsimp only at hSw); go_simp; try with_reducible rfl)
  simp only [Act.put, List.setIfInBounds_toArray, List.set_cons_zero, List.set_cons_succ]
  refine wpAnyH_done (by kernel_rfl) ?_ _
  go_wp2_with fail
  go_ret
  exact ⟨rfl, hHeld.2.2.2.2.2.2.out⟩

theorem adds_walk (a b : Nat) (ha : a < M128) (hb : b < M128) (w : World) :
    Calls Try.prog 3 #[.agg #[.int .u64 (hi a : Nat), .int .u64 (lo a : Nat)], .agg #[.int .u64 (hi b : Nat), .int .u64 (lo b : Nat)]] w fun e w' => e = .returned (.bool true) ∧ Below w.heap.size w w' :=
  adds_core (hi a) (lo a) (hi b) (lo b) _ _ _ _ _ _ w (add_num a b) (sub_num a b ha hb) (radd_any a b ha hb) (rsub_any a b ha hb) (less_num a b ha hb) (rless_any a b)
end Go.Proofs.Ytnmidnoemfdnfaa
