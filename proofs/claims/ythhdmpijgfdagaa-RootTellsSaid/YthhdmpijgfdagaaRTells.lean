/- The law RootTells, walked: it answers true at every wide number, and nothing that was in memory before is changed. -/
import Derived.Test.YthhdmpijgfdagaaAlive3
import Derived.Test.YthhdmpijgfdagaaRUp
namespace Go.Proofs.Ythhdmpijgfdagaa
open Go.RowKit

set_option maxHeartbeats 2000000 in
theorem rtells_core (a r U : Nat) (q : Bool) (w : World)
    (m1 : ∀ w, Calls Try.prog 7 #[.agg #[.int .u64 (hi a : Nat), .int .u64 (lo a : Nat)]] w fun e w' => e = .returned (.int .u64 (r : Nat)) ∧ Below w.heap.size w w')
    (m2 : ∀ w, Calls Try.prog 8 #[.agg #[.int .u64 (hi a : Nat), .int .u64 (lo a : Nat)]] w fun e w' => e = .returned (.int .u64 (r : Nat)) ∧ Below w.heap.size w w')
    (m3 : ∀ w, Calls Try.prog 9 #[.agg #[.int .u64 (hi a : Nat), .int .u64 (lo a : Nat)]] w fun e w' => e = .returned (.agg #[.int .u64 (hi U : Nat), .int .u64 (lo U : Nat)]) ∧ Below w.heap.size w w')
    (m4 : ∀ w, Calls Try.prog 10 #[.agg #[.int .u64 (hi a : Nat), .int .u64 (lo a : Nat)]] w fun e w' => e = .returned (.agg #[.int .u64 (hi U : Nat), .int .u64 (lo U : Nat)]) ∧ Below w.heap.size w w')
    (m5 : ∀ w, Calls Try.prog 11 #[.agg #[.int .u64 (hi a : Nat), .int .u64 (lo a : Nat)]] w fun e w' => e = .returned (.bool q) ∧ Below w.heap.size w w')
    (m6 : ∀ w, Calls Try.prog 12 #[.agg #[.int .u64 (hi a : Nat), .int .u64 (lo a : Nat)]] w fun e w' => e = .returned (.bool q) ∧ Below w.heap.size w w')
    : Calls Try.prog 3 #[.agg #[.int .u64 (hi a : Nat), .int .u64 (lo a : Nat)]] w fun e w' => e = .returned (.bool true) ∧ Below w.heap.size w w' := by
  have M1 := Lib.hid m1; have M2 := Lib.hid m2; have M3 := Lib.hid m3; have M4 := Lib.hid m4; have M5 := Lib.hid m5; have M6 := Lib.hid m6
  clear m1 m2 m3 m4 m5 m6
  go_enter Try.func3, Try.ntmps3
  go_upto_region 1 with fail
  have bA : Box (w.alloc (.cells #[.int .u64 (hi a : Nat), .int .u64 (lo a : Nat)] 24)) w.heap.size a := Box.new _ _ _
  have hW : Below w.heap.size w (w.alloc (.cells #[.int .u64 (hi a : Nat), .int .u64 (lo a : Nat)] 24)) := (Below.refl _ _).alloc (Nat.le_refl _) _
  obtain ⟨W0, hW0⟩ : ∃ W0, w.alloc (.cells #[.int .u64 (hi a : Nat), .int .u64 (lo a : Nat)] 24) = W0 := ⟨_, rfl⟩
  rw [hW0] at bA hW ⊢
  clear hW0
  have mkS : ∀ w', (Box w' w.heap.size a ∧ Below w.heap.size w w') → (fun w' => w'.cell? ⟨w.heap.size, 0, none⟩ = some (.int .u64 (hi a : Nat)) ∧ w'.cell? ⟨w.heap.size, 1, none⟩ = some (.int .u64 (lo a : Nat)) ∧ Hid (Box w' w.heap.size a ∧ Below w.heap.size w w')) w' := fun w' h => ⟨h.1.c0, h.1.c1, Lib.hid h⟩
  have MKS := Lib.hid mkS; clear mkS
  refine wp_region_held_drew (S := (fun w' => w'.cell? ⟨w.heap.size, 0, none⟩ = some (.int .u64 (hi a : Nat)) ∧ w'.cell? ⟨w.heap.size, 1, none⟩ = some (.int .u64 (lo a : Nat)) ∧ Hid (Box w' w.heap.size a ∧ Below w.heap.size w w'))) (by kernel_rfl) (MKS.out _ ⟨bA.drew, hW.drew⟩) (fun hHeld => ?_)
  clear bA hW
  have hK := hHeld.2.2.out
  refine regCall 0 (some 3) (f := 6) (args := ?_) rfl rfl (by kernel_rfl) (by rfl) ?_ ?_
  rotate_left 1
  · (go_simp; try with_reducible rfl)
  clear hHeld
  refine (alive3 _).mono ?_
  rintro e wx0 ⟨rfl, hbx⟩
  refine ⟨_, rfl, MKS.out _ ⟨hK.1.call hbx, hK.2.trans (hbx.mono hK.2.size)⟩, fun hHeld => ?_⟩
  clear hbx hK
  simp only [Act.put, List.setIfInBounds_toArray, List.set_cons_zero, List.set_cons_succ]
  refine regTake 1 (some 4) (v := ?_) rfl rfl (by kernel_rfl) (by kernel_rfl) (by kernel_rfl) (fun _ _ _ h => h) (by rfl) hHeld ?_ ?_
  rotate_left 1
  · (intro w hSw; (try dsimp only at hSw); go_simp; try with_reducible rfl)
  simp only [Act.put, List.setIfInBounds_toArray, List.set_cons_zero, List.set_cons_succ]
  refine regTake 2 (some 5) (v := ?_) rfl rfl (by kernel_rfl) (by kernel_rfl) (by kernel_rfl) (fun _ _ _ h => h) (by rfl) hHeld ?_ ?_
  rotate_left 1
  · (intro w hSw; (try dsimp only at hSw); go_simp; try with_reducible rfl)
  simp only [Act.put, List.setIfInBounds_toArray, List.set_cons_zero, List.set_cons_succ]
  refine regTake 4 (some 7) (v := ?_) rfl rfl (by kernel_rfl) (by kernel_rfl) (by kernel_rfl) (fun _ _ _ h => h) (by rfl) hHeld ?_ ?_
  rotate_left 1
  · (intro w hSw; (try dsimp only at hSw); go_simp; try with_reducible rfl)
  simp only [Act.put, List.setIfInBounds_toArray, List.set_cons_zero, List.set_cons_succ]
  have hK := hHeld.2.2.out
  refine regCall 3 (some 6) (f := 7) (args := ?_) rfl rfl (by kernel_rfl) (by rfl) ?_ ?_
  rotate_left 1
  · (go_simp; try with_reducible rfl)
  clear hHeld
  refine (M1.out _).mono ?_
  rintro e wx3 ⟨rfl, hbx⟩
  refine ⟨_, rfl, MKS.out _ ⟨hK.1.call hbx, hK.2.trans (hbx.mono hK.2.size)⟩, fun hHeld => ?_⟩
  clear hbx hK
  simp only [Act.put, List.setIfInBounds_toArray, List.set_cons_zero, List.set_cons_succ]
  have hK := hHeld.2.2.out
  refine regCall 5 (some 8) (f := 8) (args := ?_) rfl rfl (by kernel_rfl) (by rfl) ?_ ?_
  rotate_left 1
  · (go_simp; try with_reducible rfl)
  clear hHeld
  refine (M2.out _).mono ?_
  rintro e wx5 ⟨rfl, hbx⟩
  refine ⟨_, rfl, MKS.out _ ⟨hK.1.call hbx, hK.2.trans (hbx.mono hK.2.size)⟩, fun hHeld => ?_⟩
  clear hbx hK
  simp only [Act.put, List.setIfInBounds_toArray, List.set_cons_zero, List.set_cons_succ]
  refine regTake 6 (some 9) (v := ?_) rfl rfl (by kernel_rfl) (by kernel_rfl) (by kernel_rfl) (fun _ _ _ h => h) (by rfl) hHeld ?_ ?_
  rotate_left 1
  · (intro w hSw; (try dsimp only at hSw); go_simp; try with_reducible rfl)
  simp only [Act.put, List.setIfInBounds_toArray, List.set_cons_zero, List.set_cons_succ]
  refine regTake 7 (some 10) (v := ?_) rfl rfl (by kernel_rfl) (by kernel_rfl) (by kernel_rfl) (fun _ _ _ h => h) (by rfl) hHeld ?_ ?_
  rotate_left 1
  · (intro w hSw; (try dsimp only at hSw); go_simp; try with_reducible rfl)
  simp only [Act.put, List.setIfInBounds_toArray, List.set_cons_zero, List.set_cons_succ]
  refine regTake 8 (some 11) (v := ?_) rfl rfl (by kernel_rfl) (by kernel_rfl) (by kernel_rfl) (fun _ _ _ h => h) (by rfl) hHeld ?_ ?_
  rotate_left 1
  · (intro w hSw; (try dsimp only at hSw); go_simp; try with_reducible rfl)
  simp only [Act.put, List.setIfInBounds_toArray, List.set_cons_zero, List.set_cons_succ]
  refine regTake 9 (some 12) (v := ?_) rfl rfl (by kernel_rfl) (by kernel_rfl) (by kernel_rfl) (fun _ _ _ h => h) (by rfl) hHeld ?_ ?_
  rotate_left 1
  · (intro w hSw; (try dsimp only at hSw); go_simp; try with_reducible rfl)
  simp only [Act.put, List.setIfInBounds_toArray, List.set_cons_zero, List.set_cons_succ]
  refine regTake 11 (some 14) (v := ?_) rfl rfl (by kernel_rfl) (by kernel_rfl) (by kernel_rfl) (fun _ _ _ h => h) (by rfl) hHeld ?_ ?_
  rotate_left 1
  · (intro w hSw; (try dsimp only at hSw); go_simp; try with_reducible rfl)
  simp only [Act.put, List.setIfInBounds_toArray, List.set_cons_zero, List.set_cons_succ]
  have hK := hHeld.2.2.out
  refine regCall 10 (some 13) (f := 9) (args := ?_) rfl rfl (by kernel_rfl) (by rfl) ?_ ?_
  rotate_left 1
  · (go_simp; try with_reducible rfl)
  clear hHeld
  refine (M3.out _).mono ?_
  rintro e wx10 ⟨rfl, hbx⟩
  refine ⟨_, rfl, MKS.out _ ⟨hK.1.call hbx, hK.2.trans (hbx.mono hK.2.size)⟩, fun hHeld => ?_⟩
  clear hbx hK
  simp only [Act.put, List.setIfInBounds_toArray, List.set_cons_zero, List.set_cons_succ]
  have hK := hHeld.2.2.out
  refine regCall 12 (some 15) (f := 10) (args := ?_) rfl rfl (by kernel_rfl) (by rfl) ?_ ?_
  rotate_left 1
  · (go_simp; try with_reducible rfl)
  clear hHeld
  refine (M4.out _).mono ?_
  rintro e wx12 ⟨rfl, hbx⟩
  refine ⟨_, rfl, MKS.out _ ⟨hK.1.call hbx, hK.2.trans (hbx.mono hK.2.size)⟩, fun hHeld => ?_⟩
  clear hbx hK
  simp only [Act.put, List.setIfInBounds_toArray, List.set_cons_zero, List.set_cons_succ]
  refine regTake 13 (some 16) (v := ?_) rfl rfl (by kernel_rfl) (by kernel_rfl) (by kernel_rfl) (fun _ _ _ h => h) (by rfl) hHeld ?_ ?_
  rotate_left 1
  · (intro w hSw; (try dsimp only at hSw); go_simp; try with_reducible rfl)
  simp only [Act.put, List.setIfInBounds_toArray, List.set_cons_zero, List.set_cons_succ]
  refine regTake 14 (some 17) (v := ?_) rfl rfl (by kernel_rfl) (by kernel_rfl) (by kernel_rfl) (fun _ _ _ h => h) (by rfl) hHeld ?_ ?_
  rotate_left 1
  · (intro w hSw; (try dsimp only at hSw); go_simp; try with_reducible rfl)
  simp only [Act.put, List.setIfInBounds_toArray, List.set_cons_zero, List.set_cons_succ]
  refine regTake 15 (some 18) (v := ?_) rfl rfl (by kernel_rfl) (by kernel_rfl) (by kernel_rfl) (fun _ _ _ h => h) (by rfl) hHeld ?_ ?_
  rotate_left 1
  · (intro w hSw; (try dsimp only at hSw); go_simp; try with_reducible rfl)
  simp only [Act.put, List.setIfInBounds_toArray, List.set_cons_zero, List.set_cons_succ]
  refine regTake 16 (some 19) (v := ?_) rfl rfl (by kernel_rfl) (by kernel_rfl) (by kernel_rfl) (fun _ _ _ h => h) (by rfl) hHeld ?_ ?_
  rotate_left 1
  · (intro w hSw; (try dsimp only at hSw); go_simp; try with_reducible rfl)
  simp only [Act.put, List.setIfInBounds_toArray, List.set_cons_zero, List.set_cons_succ]
  refine regTake 18 (some 21) (v := ?_) rfl rfl (by kernel_rfl) (by kernel_rfl) (by kernel_rfl) (fun _ _ _ h => h) (by rfl) hHeld ?_ ?_
  rotate_left 1
  · (intro w hSw; (try dsimp only at hSw); go_simp; try with_reducible rfl)
  simp only [Act.put, List.setIfInBounds_toArray, List.set_cons_zero, List.set_cons_succ]
  have hK := hHeld.2.2.out
  refine regCall 17 (some 20) (f := 11) (args := ?_) rfl rfl (by kernel_rfl) (by rfl) ?_ ?_
  rotate_left 1
  · (go_simp; try with_reducible rfl)
  clear hHeld
  refine (M5.out _).mono ?_
  rintro e wx17 ⟨rfl, hbx⟩
  refine ⟨_, rfl, MKS.out _ ⟨hK.1.call hbx, hK.2.trans (hbx.mono hK.2.size)⟩, fun hHeld => ?_⟩
  clear hbx hK
  simp only [Act.put, List.setIfInBounds_toArray, List.set_cons_zero, List.set_cons_succ]
  have hK := hHeld.2.2.out
  refine regCall 19 (some 22) (f := 12) (args := ?_) rfl rfl (by kernel_rfl) (by rfl) ?_ ?_
  rotate_left 1
  · (go_simp; try with_reducible rfl)
  clear hHeld
  refine (M6.out _).mono ?_
  rintro e wx19 ⟨rfl, hbx⟩
  refine ⟨_, rfl, MKS.out _ ⟨hK.1.call hbx, hK.2.trans (hbx.mono hK.2.size)⟩, fun hHeld => ?_⟩
  clear hbx hK
  simp only [Act.put, List.setIfInBounds_toArray, List.set_cons_zero, List.set_cons_succ]
  refine regTake 20 (some 23) (v := ?_) rfl rfl (by kernel_rfl) (by kernel_rfl) (by kernel_rfl) (fun _ _ _ h => h) (by rfl) hHeld ?_ ?_
  rotate_left 1
  · (intro w hSw; (try dsimp only at hSw); go_simp; try with_reducible rfl)
  simp only [Act.put, List.setIfInBounds_toArray, List.set_cons_zero, List.set_cons_succ]
  refine regTake 21 (some 24) (v := ?_) rfl rfl (by kernel_rfl) (by kernel_rfl) (by kernel_rfl) (fun _ _ _ h => h) (by rfl) hHeld ?_ ?_
  rotate_left 1
  · (intro w hSw; (try dsimp only at hSw); go_simp; try with_reducible rfl)
  simp only [Act.put, List.setIfInBounds_toArray, List.set_cons_zero, List.set_cons_succ]
  refine regTake 22 (some 2) (v := ?_) rfl rfl (by kernel_rfl) (by kernel_rfl) (by kernel_rfl) (fun _ _ _ h => h) (by rfl) hHeld ?_ ?_
  rotate_left 1
  · (intro w hSw; (try dsimp only at hSw); go_simp; try with_reducible rfl)
  simp only [Act.put, List.setIfInBounds_toArray, List.set_cons_zero, List.set_cons_succ]
  refine wpAnyH_done (by kernel_rfl) ?_ _
  have hK := hHeld.2.2.out
  clear hHeld
  go_wp2_with fail
  go_ret
  exact ⟨rfl, hK.2⟩

theorem rtells_walk (a : Nat) (ha : a < M128) (w : World) :
    Calls Try.prog 3 #[.agg #[.int .u64 (hi a : Nat), .int .u64 (lo a : Nat)]] w fun e w' => e = .returned (.bool true) ∧ Below w.heap.size w w' := by
  obtain ⟨r, hr⟩ := IsRoot.is a
  exact rtells_core a r _ _ w (root_num a r ha hr) (rroot_num a r ha hr) (up_num a r ha hr) (rup_num a r ha hr) (square_num a r ha hr) (rsquare_num a r ha hr)
end Go.Proofs.Ythhdmpijgfdagaa
