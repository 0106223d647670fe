/- The law RootFits, walked: it answers true at every wide number, and nothing that was in memory before is changed. -/
import Derived.Test.YthhdmpijgfdagaaAlive3
import Derived.Test.YthhdmpijgfdagaaReg2
namespace Go.Proofs.Ythhdmpijgfdagaa
open Go.RowKit

set_option maxHeartbeats 2000000 in
theorem fits_core (a r U N G P : Nat) (q much : Bool) (w : World)
    (m1 : ∀ w, Calls Try.prog 7 #[.agg #[.int .u64 (hi a : Nat), .int .u64 (lo a : Nat)]] w fun e w' => e = .returned (.int .u64 (r : Nat)) ∧ Below w.heap.size w w')
    (m2 : ∀ w, Calls Try.prog 9 #[.agg #[.int .u64 (hi a : Nat), .int .u64 (lo a : Nat)]] w fun e w' => e = .returned (.agg #[.int .u64 (hi U : Nat), .int .u64 (lo U : Nat)]) ∧ Below w.heap.size w w')
    (m3 : ∀ w, Calls Try.prog 13 #[.agg #[.int .u64 0, .int .u64 (r : Nat)], .agg #[.int .u64 0, .int .u64 1]] w fun e w' => e = .returned (.tuple #[.agg #[.int .u64 (hi N : Nat), .int .u64 (lo N : Nat)], .bool false]) ∧ Below w.heap.size w w')
    (m4 : ∀ w, Calls Try.prog 14 #[.agg #[.int .u64 (hi N : Nat), .int .u64 (lo N : Nat)], .agg #[.int .u64 (hi N : Nat), .int .u64 (lo N : Nat)]] w fun e w' => e = .returned (.tuple #[.agg #[.int .u64 (hi G : Nat), .int .u64 (lo G : Nat)], .bool much]) ∧ Below w.heap.size w w')
    (m5 : ∀ w, Calls Try.prog 16 #[.int .u64 (r : Nat), .int .u64 (r : Nat)] w fun e w' => e = .returned (.agg #[.int .u64 (hi P : Nat), .int .u64 (lo P : Nat)]) ∧ Below w.heap.size w w')
    (m6 : ∀ w, Calls Try.prog 15 #[.agg #[.int .u64 (hi a : Nat), .int .u64 (lo a : Nat)], .agg #[.int .u64 (hi P : Nat), .int .u64 (lo P : Nat)]] w fun e w' => e = .returned (.bool false) ∧ Below w.heap.size w w')
    (m7 : much = false → ∀ w, Calls Try.prog 15 #[.agg #[.int .u64 (hi a : Nat), .int .u64 (lo a : Nat)], .agg #[.int .u64 (hi G : Nat), .int .u64 (lo G : Nat)]] w fun e w' => e = .returned (.bool true) ∧ Below w.heap.size w w')
    (m8 : ∀ w, Calls Try.prog 11 #[.agg #[.int .u64 (hi a : Nat), .int .u64 (lo a : Nat)]] w fun e w' => e = .returned (.bool q) ∧ Below w.heap.size w w')
    (m9 : q = true → hi U = 0 ∧ lo U = r ∧ P = a) (m0 : q = false → U = N ∧ P ≠ a) :
    Calls Try.prog 4 #[.agg #[.int .u64 (hi a : Nat), .int .u64 (lo a : Nat)]] w fun e w' => e = .returned (.bool true) ∧ Below w.heap.size w w' := by
  have M1 := Lib.hid m1; have M2 := Lib.hid m2; have M3 := Lib.hid m3; have M4 := Lib.hid m4; have M5 := Lib.hid m5; have M6 := Lib.hid m6; have M7 := Lib.hid m7; have M8 := Lib.hid m8; have M9 := Lib.hid m9; have M0 := Lib.hid m0
  clear m1 m2 m3 m4 m5 m6 m7 m8 m9 m0
  go_enter Try.func4, Try.ntmps4
  go_upto_region 1 with fail
  go_cut [3, 4] (fun s3 s4 wx => s3 = .int .u64 (r : Nat) ∧ ∃ g : Nat, s4 = .pointer (some ⟨g, 0, none⟩) ∧ Box wx w.heap.size a ∧ Box wx g U ∧ Hid (Below w.heap.size w wx))
  case first =>
    have bA : Box (w.alloc (.cells #[.int .u64 (hi a : Nat), .int .u64 (lo a : Nat)] 24)) w.heap.size a := Box.new _ _ _
    have hW : Below w.heap.size w (w.alloc (.cells #[.int .u64 (hi a : Nat), .int .u64 (lo a : Nat)] 24)) := (Below.refl _ _).alloc (Nat.le_refl _) _
    obtain ⟨W0, hW0⟩ : ∃ W0, w.alloc (.cells #[.int .u64 (hi a : Nat), .int .u64 (lo a : Nat)] 24) = W0 := ⟨_, rfl⟩
    rw [hW0] at bA hW ⊢
    clear hW0
    have mkS : ∀ w', (Box w' w.heap.size a ∧ Below w.heap.size w w') → (fun w' => w'.cell? ⟨w.heap.size, 0, none⟩ = some (.int .u64 (hi a : Nat)) ∧ w'.cell? ⟨w.heap.size, 1, none⟩ = some (.int .u64 (lo a : Nat)) ∧ Hid (Box w' w.heap.size a ∧ Below w.heap.size w w')) w' := fun w' h => ⟨h.1.c0, h.1.c1, Lib.hid h⟩
    have MKS := Lib.hid mkS; clear mkS
    refine wp_region_held_drew (S := (fun w' => w'.cell? ⟨w.heap.size, 0, none⟩ = some (.int .u64 (hi a : Nat)) ∧ w'.cell? ⟨w.heap.size, 1, none⟩ = some (.int .u64 (lo a : Nat)) ∧ Hid (Box w' w.heap.size a ∧ Below w.heap.size w w'))) (by kernel_rfl) (MKS.out _ ⟨bA.drew, hW.drew⟩) (fun hHeld => ?_)
    clear bA hW
    refine regTake 0 (some 9) (v := ?_) rfl rfl (by kernel_rfl) (by kernel_rfl) (by kernel_rfl) (fun _ _ _ h => h) (by rfl) hHeld ?_ ?_
    rotate_left 1
    · (intro w hSw; (try dsimp only at hSw); go_simp; try with_reducible rfl)
    simp only [Act.put, List.setIfInBounds_toArray, List.set_cons_zero, List.set_cons_succ]
    refine regTake 2 (some 11) (v := ?_) rfl rfl (by kernel_rfl) (by kernel_rfl) (by kernel_rfl) (fun _ _ _ h => h) (by rfl) hHeld ?_ ?_
    rotate_left 1
    · (intro w hSw; (try dsimp only at hSw); go_simp; try with_reducible rfl)
    simp only [Act.put, List.setIfInBounds_toArray, List.set_cons_zero, List.set_cons_succ]
    refine regTwo 1 4 (by kernel_rfl) ?_ ?_
    · have hK := hHeld.2.2.out
      refine stepCall 1 (some 10) (f := 7) (args := ?_) rfl rfl (by rfl) ?_ ?_
      rotate_left 1
      · (go_simp; try with_reducible rfl)
      clear hHeld
      refine (M1.out _).mono ?_
      rintro e wx1 ⟨rfl, hbx⟩
      refine ⟨_, rfl, MKS.out _ ⟨hK.1.call hbx, hK.2.trans (hbx.mono hK.2.size)⟩, fun hHeld => ?_⟩
      clear hbx hK
      simp only [Act.put, List.setIfInBounds_toArray, List.set_cons_zero, List.set_cons_succ]
      refine regTwo 3 4 (by kernel_rfl) ?_ ?_
      · have hK := hHeld.2.2.out
        refine stepCall 3 (some 12) (f := 9) (args := ?_) rfl rfl (by rfl) ?_ ?_
        rotate_left 1
        · (go_simp; try with_reducible rfl)
        clear hHeld
        refine (M2.out _).mono ?_
        rintro e wx3 ⟨rfl, hbx⟩
        refine ⟨_, rfl, MKS.out _ ⟨hK.1.call hbx, hK.2.trans (hbx.mono hK.2.size)⟩, fun hHeld => ?_⟩
        clear hbx hK
        simp only [Act.put, List.setIfInBounds_toArray, List.set_cons_zero, List.set_cons_succ]
        have hK := hHeld.2.2.out
        have nz4_0 : w.heap.size ≠ wx3.heap.size := Nat.ne_of_lt hK.1.lt
        have lz4 : w.heap.size ≤ wx3.heap.size := hK.2.size
        refine regDo 4 (some 4) (v := ?_) (w' := ?_) rfl rfl (by kernel_rfl) (by rfl) ?_ ?_ (fun hHeld => ?_)
        rotate_left 2
        · (go_simp; refine ⟨?_, ?_⟩ <;> with_reducible rfl)
        · exact MKS.out _ ⟨hK.1.alloc _, hK.2.alloc hK.2.size _⟩
        clear hK
        simp only [Act.put, List.setIfInBounds_toArray, List.set_cons_zero, List.set_cons_succ]
        have own4 : Box (wx3.alloc (.cells #[.int .u64 0, .int .u64 0] 24)) wx3.heap.size 0 := Box.new0At rfl
        refine regTake 5 (some 3) (v := ?_) rfl rfl (by kernel_rfl) (by kernel_rfl) (by kernel_rfl) (fun _ _ _ h => h) (by rfl) hHeld ?_ ?_
        rotate_left 1
        · (intro w hSw; (try dsimp only at hSw); go_simp; try with_reducible rfl)
        simp only [Act.put, List.setIfInBounds_toArray, List.set_cons_zero, List.set_cons_succ]
        have hK := hHeld.2.2.out
        refine regStore 6 (w' := ?_) rfl rfl (by kernel_rfl) (by rfl) ?_ ?_ (fun hHeld => ?_)
        rotate_left 1
        · (go_simp; try with_reducible rfl)
        · exact MKS.out _ ⟨hK.1.swap _ nz4_0, Below.swap _ hK.2 lz4⟩
        clear hK
        have own4 : Box (wx3.alloc (.cells #[.int .u64 (hi U : Nat), .int .u64 (lo U : Nat)] 24)) wx3.heap.size U := Box.newAt rfl
        refine wpAnyH_done (by kernel_rfl) ?_ _
        have hK := hHeld.2.2.out
        clear hHeld
        go_wp2_with fail
        go_meet
        exact ⟨rfl, _, rfl, hK.1, own4, Lib.hid hK.2⟩
      · have hK := hHeld.2.2.out
        have nz4_0 : w.heap.size ≠ wx1.heap.size := Nat.ne_of_lt hK.1.lt
        have lz4 : w.heap.size ≤ wx1.heap.size := hK.2.size
        refine stepDo 4 (some 4) (v := ?_) (w' := ?_) rfl rfl (by rfl) ?_ ?_ (fun hHeld => ?_)
        rotate_left 2
        · (go_simp; refine ⟨?_, ?_⟩ <;> with_reducible rfl)
        · exact MKS.out _ ⟨hK.1.alloc _, hK.2.alloc hK.2.size _⟩
        clear hK
        simp only [Act.put, List.setIfInBounds_toArray, List.set_cons_zero, List.set_cons_succ]
        have own4 : Box (wx1.alloc (.cells #[.int .u64 0, .int .u64 0] 24)) wx1.heap.size 0 := Box.new0At rfl
        have hK := hHeld.2.2.out
        refine regCall 3 (some 12) (f := 9) (args := ?_) rfl rfl (by kernel_rfl) (by rfl) ?_ ?_
        rotate_left 1
        · (go_simp; try with_reducible rfl)
        clear hHeld
        refine (M2.out _).mono ?_
        rintro e wx3 ⟨rfl, hbx⟩
        have own4 := own4.call hbx
        refine ⟨_, rfl, MKS.out _ ⟨hK.1.call hbx, hK.2.trans (hbx.mono hK.2.size)⟩, fun hHeld => ?_⟩
        clear hbx hK
        simp only [Act.put, List.setIfInBounds_toArray, List.set_cons_zero, List.set_cons_succ]
        refine regTake 5 (some 3) (v := ?_) rfl rfl (by kernel_rfl) (by kernel_rfl) (by kernel_rfl) (fun _ _ _ h => h) (by rfl) hHeld ?_ ?_
        rotate_left 1
        · (intro w hSw; (try dsimp only at hSw); go_simp; try with_reducible rfl)
        simp only [Act.put, List.setIfInBounds_toArray, List.set_cons_zero, List.set_cons_succ]
        have hK := hHeld.2.2.out
        have x0 := own4.c0; have x1 := own4.c1; have x2 := own4.f0; have x3 := own4.f1
        refine regStore 6 (w' := ?_) rfl rfl (by kernel_rfl) (by rfl) ?_ ?_ (fun hHeld => ?_)
        rotate_left 1
        · (go_simp; try with_reducible rfl)
        · exact MKS.out _ ⟨(hK.1.other (p := ⟨wx1.heap.size, 0, none⟩) nz4_0 _).other (p := ⟨wx1.heap.size, 1, none⟩) nz4_0 _, (hK.2.setCell (p := ⟨wx1.heap.size, 0, none⟩) lz4 _).setCell (p := ⟨wx1.heap.size, 1, none⟩) lz4 _⟩
        clear x0 x1 x2 x3 hK
        have own4 := own4.set U
        refine wpAnyH_done (by kernel_rfl) ?_ _
        have hK := hHeld.2.2.out
        clear hHeld
        go_wp2_with fail
        go_meet
        exact ⟨rfl, _, rfl, hK.1, own4, Lib.hid hK.2⟩
    · have hK := hHeld.2.2.out
      have nz4_0 : w.heap.size ≠ W0.drew.heap.size := Nat.ne_of_lt hK.1.lt
      have lz4 : w.heap.size ≤ W0.drew.heap.size := hK.2.size
      refine stepDo 4 (some 4) (v := ?_) (w' := ?_) rfl rfl (by rfl) ?_ ?_ (fun hHeld => ?_)
      rotate_left 2
      · (go_simp; refine ⟨?_, ?_⟩ <;> with_reducible rfl)
      · exact MKS.out _ ⟨hK.1.alloc _, hK.2.alloc hK.2.size _⟩
      clear hK
      simp only [Act.put, List.setIfInBounds_toArray, List.set_cons_zero, List.set_cons_succ]
      have own4 : Box (W0.drew.alloc (.cells #[.int .u64 0, .int .u64 0] 24)) W0.heap.size 0 := Box.new0At rfl
      have hK := hHeld.2.2.out
      refine regCall 1 (some 10) (f := 7) (args := ?_) rfl rfl (by kernel_rfl) (by rfl) ?_ ?_
      rotate_left 1
      · (go_simp; try with_reducible rfl)
      clear hHeld
      refine (M1.out _).mono ?_
      rintro e wx1 ⟨rfl, hbx⟩
      have own4 := own4.call hbx
      refine ⟨_, rfl, MKS.out _ ⟨hK.1.call hbx, hK.2.trans (hbx.mono hK.2.size)⟩, fun hHeld => ?_⟩
      clear hbx hK
      simp only [Act.put, List.setIfInBounds_toArray, List.set_cons_zero, List.set_cons_succ]
      have hK := hHeld.2.2.out
      refine regCall 3 (some 12) (f := 9) (args := ?_) rfl rfl (by kernel_rfl) (by rfl) ?_ ?_
      rotate_left 1
      · (go_simp; try with_reducible rfl)
      clear hHeld
      refine (M2.out _).mono ?_
      rintro e wx3 ⟨rfl, hbx⟩
      have own4 := own4.call hbx
      refine ⟨_, rfl, MKS.out _ ⟨hK.1.call hbx, hK.2.trans (hbx.mono hK.2.size)⟩, fun hHeld => ?_⟩
      clear hbx hK
      simp only [Act.put, List.setIfInBounds_toArray, List.set_cons_zero, List.set_cons_succ]
      refine regTake 5 (some 3) (v := ?_) rfl rfl (by kernel_rfl) (by kernel_rfl) (by kernel_rfl) (fun _ _ _ h => h) (by rfl) hHeld ?_ ?_
      rotate_left 1
      · (intro w hSw; (try dsimp only at hSw); go_simp; try with_reducible rfl)
      simp only [Act.put, List.setIfInBounds_toArray, List.set_cons_zero, List.set_cons_succ]
      have hK := hHeld.2.2.out
      have x0 := own4.c0; have x1 := own4.c1; have x2 := own4.f0; have x3 := own4.f1
      refine regStore 6 (w' := ?_) rfl rfl (by kernel_rfl) (by rfl) ?_ ?_ (fun hHeld => ?_)
      rotate_left 1
      · (go_simp; try with_reducible rfl)
      · exact MKS.out _ ⟨(hK.1.other (p := ⟨W0.heap.size, 0, none⟩) nz4_0 _).other (p := ⟨W0.heap.size, 1, none⟩) nz4_0 _, (hK.2.setCell (p := ⟨W0.heap.size, 0, none⟩) lz4 _).setCell (p := ⟨W0.heap.size, 1, none⟩) lz4 _⟩
      clear x0 x1 x2 x3 hK
      have own4 := own4.set U
      refine wpAnyH_done (by kernel_rfl) ?_ _
      have hK := hHeld.2.2.out
      clear hHeld
      go_wp2_with fail
      go_meet
      exact ⟨rfl, _, rfl, hK.1, own4, Lib.hid hK.2⟩
  case rest =>
    obtain ⟨rfl, g, rfl, bA, bU, HW⟩ := hcut
    go_wp2_with fail
    refine (M3.out _).mono ?_
    rintro e w2 ⟨rfl, hb2⟩
    have bA2 := bA.call hb2
    have bU2 := bU.call hb2
    have hw2 : Below w.heap.size w w2 := HW.out.trans (hb2.mono HW.out.size)
    have HW2 := Lib.hid hw2
    clear hb2 hw2 bA bU HW
    go_wp2_with fail
    refine (M4.out _).mono ?_
    rintro e w3 ⟨rfl, hb3⟩
    have bA3 := ((bA2.alloc (.cells #[.int .u64 (hi N : Nat), .int .u64 (lo N : Nat)] 24)).call hb3).alloc (.cells #[.int .u64 (hi G : Nat), .int .u64 (lo G : Nat)] 24)
    have bU3 := ((bU2.alloc (.cells #[.int .u64 (hi N : Nat), .int .u64 (lo N : Nat)] 24)).call hb3).alloc (.cells #[.int .u64 (hi G : Nat), .int .u64 (lo G : Nat)] 24)
    have bN3 : Box (w3.alloc (.cells #[.int .u64 (hi G : Nat), .int .u64 (lo G : Nat)] 24)) w2.heap.size N := ((Box.new _ _ _).call hb3).alloc _
    have bG3 : Box (w3.alloc (.cells #[.int .u64 (hi G : Nat), .int .u64 (lo G : Nat)] 24)) w3.heap.size G := Box.new _ _ _
    have hw3 : Below w.heap.size w w3 := (HW2.out.alloc HW2.out.size _).trans (hb3.mono (by have := HW2.out.size; simp; omega))
    have hW := hw3.alloc hw3.size (.cells #[.int .u64 (hi G : Nat), .int .u64 (lo G : Nat)] 24)
    clear hb3 hw3 bA2 bU2 HW2
    go_upto_region 4 with fail
    obtain ⟨W3, hW3⟩ : ∃ W3, w3.alloc (.cells #[.int .u64 (hi G : Nat), .int .u64 (lo G : Nat)] 24) = W3 := ⟨_, rfl⟩
    rw [hW3] at bA3 bU3 bN3 bG3 hW ⊢
    clear hW3
    go_cut [47] (fun s wx => s = .bool false ∧ Box wx w.heap.size a ∧ Box wx g U ∧ Box wx w2.heap.size N ∧ Hid (Below w.heap.size w wx))
    case first =>
      cases much with
      | false =>
        have M7' := Lib.hid (M7.out rfl)
        have mkS : ∀ w', (Box w' w.heap.size a ∧ Box w' g U ∧ Box w' w2.heap.size N ∧ Box w' w3.heap.size G ∧ Below w.heap.size w w') → (fun w' => w'.cell? ⟨w.heap.size, 0, none⟩ = some (.int .u64 (hi a : Nat)) ∧ w'.cell? ⟨w.heap.size, 1, none⟩ = some (.int .u64 (lo a : Nat)) ∧ w'.cell? ⟨w3.heap.size, 0, none⟩ = some (.int .u64 (hi G : Nat)) ∧ w'.cell? ⟨w3.heap.size, 1, none⟩ = some (.int .u64 (lo G : Nat)) ∧ Hid (Box w' w.heap.size a ∧ Box w' g U ∧ Box w' w2.heap.size N ∧ Box w' w3.heap.size G ∧ Below w.heap.size w w')) w' := fun w' h => ⟨h.1.c0, h.1.c1, h.2.2.2.1.c0, h.2.2.2.1.c1, Lib.hid h⟩
        have MKS := Lib.hid mkS; clear mkS
        refine wp_region_held_drew (S := (fun w' => w'.cell? ⟨w.heap.size, 0, none⟩ = some (.int .u64 (hi a : Nat)) ∧ w'.cell? ⟨w.heap.size, 1, none⟩ = some (.int .u64 (lo a : Nat)) ∧ w'.cell? ⟨w3.heap.size, 0, none⟩ = some (.int .u64 (hi G : Nat)) ∧ w'.cell? ⟨w3.heap.size, 1, none⟩ = some (.int .u64 (lo G : Nat)) ∧ Hid (Box w' w.heap.size a ∧ Box w' g U ∧ Box w' w2.heap.size N ∧ Box w' w3.heap.size G ∧ Below w.heap.size w w'))) (by kernel_rfl) (MKS.out _ ⟨bA3.drew, bU3.drew, bN3.drew, bG3.drew, hW.drew⟩) (fun hHeld => ?_)
        clear bA3 bU3 bN3 bG3 hW
        refine regTake 0 (some 26) (v := ?_) rfl rfl (by kernel_rfl) (by kernel_rfl) (by kernel_rfl) (fun _ _ _ h => h) (by rfl) hHeld ?_ ?_
        rotate_left 1
        · (intro w hSw; (try dsimp only at hSw); go_simp; try with_reducible rfl)
        simp only [Act.put, List.setIfInBounds_toArray, List.set_cons_zero, List.set_cons_succ]
        refine regTake 1 (some 27) (v := ?_) rfl rfl (by kernel_rfl) (by kernel_rfl) (by kernel_rfl) (fun _ _ _ h => h) (by rfl) hHeld ?_ ?_
        rotate_left 1
        · (intro w hSw; (try dsimp only at hSw); go_simp; try with_reducible rfl)
        simp only [Act.put, List.setIfInBounds_toArray, List.set_cons_zero, List.set_cons_succ]
        refine regTake 2 (some 28) (v := ?_) rfl rfl (by kernel_rfl) (by kernel_rfl) (by kernel_rfl) (fun _ _ _ h => h) (by rfl) hHeld ?_ ?_
        rotate_left 1
        · (intro w hSw; (try dsimp only at hSw); go_simp; try with_reducible rfl)
        simp only [Act.put, List.setIfInBounds_toArray, List.set_cons_zero, List.set_cons_succ]
        refine regTake 3 (some 29) (v := ?_) rfl rfl (by kernel_rfl) (by kernel_rfl) (by kernel_rfl) (fun _ _ _ h => h) (by rfl) hHeld ?_ ?_
        rotate_left 1
        · (intro w hSw; (try dsimp only at hSw); go_simp; try with_reducible rfl)
        simp only [Act.put, List.setIfInBounds_toArray, List.set_cons_zero, List.set_cons_succ]
        refine regTake 4 (some 30) (v := ?_) rfl rfl (by kernel_rfl) (by kernel_rfl) (by kernel_rfl) (fun _ _ _ h => h) (by rfl) hHeld ?_ ?_
        rotate_left 1
        · (intro w hSw; (try dsimp only at hSw); go_simp; try with_reducible rfl)
        simp only [Act.put, List.setIfInBounds_toArray, List.set_cons_zero, List.set_cons_succ]
        have hK := hHeld.2.2.2.2.out
        refine regCall 5 (some 31) (f := 16) (args := ?_) rfl rfl (by kernel_rfl) (by rfl) ?_ ?_
        rotate_left 1
        · (go_simp; try with_reducible rfl)
        clear hHeld
        refine (M5.out _).mono ?_
        rintro e wx5 ⟨rfl, hbx⟩
        refine ⟨_, rfl, MKS.out _ ⟨hK.1.call hbx, hK.2.1.call hbx, hK.2.2.1.call hbx, hK.2.2.2.1.call hbx, hK.2.2.2.2.trans (hbx.mono hK.2.2.2.2.size)⟩, fun hHeld => ?_⟩
        clear hbx hK
        simp only [Act.put, List.setIfInBounds_toArray, List.set_cons_zero, List.set_cons_succ]
        have hK := hHeld.2.2.2.2.out
        refine regCall 6 (some 32) (f := 15) (args := ?_) rfl rfl (by kernel_rfl) (by rfl) ?_ ?_
        rotate_left 1
        · (go_simp; try with_reducible rfl)
        clear hHeld
        refine (M6.out _).mono ?_
        rintro e wx6 ⟨rfl, hbx⟩
        refine ⟨_, rfl, MKS.out _ ⟨hK.1.call hbx, hK.2.1.call hbx, hK.2.2.1.call hbx, hK.2.2.2.1.call hbx, hK.2.2.2.2.trans (hbx.mono hK.2.2.2.2.size)⟩, fun hHeld => ?_⟩
        clear hbx hK
        simp only [Act.put, List.setIfInBounds_toArray, List.set_cons_zero, List.set_cons_succ]
        refine regTake 7 (some 33) (v := ?_) rfl rfl (by kernel_rfl) (by kernel_rfl) (by kernel_rfl) (fun _ _ _ h => h) (by rfl) hHeld ?_ ?_
        rotate_left 1
        · (intro w hSw; (try dsimp only at hSw); go_simp; try with_reducible rfl)
        simp only [Act.put, List.setIfInBounds_toArray, List.set_cons_zero, List.set_cons_succ]
        refine regTake 8 (some 34) (v := ?_) rfl rfl (by kernel_rfl) (by kernel_rfl) (by kernel_rfl) (fun _ _ _ h => h) (by rfl) hHeld ?_ ?_
        rotate_left 1
        · (intro w hSw; (try dsimp only at hSw); go_simp; try with_reducible rfl)
        simp only [Act.put, List.setIfInBounds_toArray, List.set_cons_zero, List.set_cons_succ]
        refine regTake 9 (some 35) (v := ?_) rfl rfl (by kernel_rfl) (by kernel_rfl) (by kernel_rfl) (fun _ _ _ h => h) (by rfl) hHeld ?_ ?_
        rotate_left 1
        · (intro w hSw; (try dsimp only at hSw); go_simp; try with_reducible rfl)
        simp only [Act.put, List.setIfInBounds_toArray, List.set_cons_zero, List.set_cons_succ]
        refine regTake 10 (some 36) (v := ?_) rfl rfl (by kernel_rfl) (by kernel_rfl) (by kernel_rfl) (fun _ _ _ h => h) (by rfl) hHeld ?_ ?_
        rotate_left 1
        · (intro w hSw; (try dsimp only at hSw); go_simp; try with_reducible rfl)
        simp only [Act.put, List.setIfInBounds_toArray, List.set_cons_zero, List.set_cons_succ]
        refine regTake 11 (some 37) (v := ?_) rfl rfl (by kernel_rfl) (by kernel_rfl) (by kernel_rfl) (fun _ _ _ h => h) (by rfl) hHeld ?_ ?_
        rotate_left 1
        · (intro w hSw; (try dsimp only at hSw); go_simp; try with_reducible rfl)
        simp only [Act.put, List.setIfInBounds_toArray, List.set_cons_zero, List.set_cons_succ]
        refine regTake 12 (some 38) (v := ?_) rfl rfl (by kernel_rfl) (by kernel_rfl) (by kernel_rfl) (fun _ _ _ h => h) (by rfl) hHeld ?_ ?_
        rotate_left 1
        · (intro w hSw; (try dsimp only at hSw); go_simp; try with_reducible rfl)
        simp only [Act.put, List.setIfInBounds_toArray, List.set_cons_zero, List.set_cons_succ]
        refine regTake 13 (some 39) (v := ?_) rfl rfl (by kernel_rfl) (by kernel_rfl) (by kernel_rfl) (fun _ _ _ h => h) (by rfl) hHeld ?_ ?_
        rotate_left 1
        · (intro w hSw; (try dsimp only at hSw); go_simp; try with_reducible rfl)
        simp only [Act.put, List.setIfInBounds_toArray, List.set_cons_zero, List.set_cons_succ]
        have hK := hHeld.2.2.2.2.out
        refine regCall 14 (some 40) (f := 15) (args := ?_) rfl rfl (by kernel_rfl) (by rfl) ?_ ?_
        rotate_left 1
        · (go_simp; try with_reducible rfl)
        clear hHeld
        refine (M7'.out _).mono ?_
        rintro e wx14 ⟨rfl, hbx⟩
        refine ⟨_, rfl, MKS.out _ ⟨hK.1.call hbx, hK.2.1.call hbx, hK.2.2.1.call hbx, hK.2.2.2.1.call hbx, hK.2.2.2.2.trans (hbx.mono hK.2.2.2.2.size)⟩, fun hHeld => ?_⟩
        clear hbx hK
        simp only [Act.put, List.setIfInBounds_toArray, List.set_cons_zero, List.set_cons_succ]
        refine regTake 15 (some 41) (v := ?_) rfl rfl (by kernel_rfl) (by kernel_rfl) (by kernel_rfl) (fun _ _ _ h => h) (by rfl) hHeld ?_ ?_
        rotate_left 1
        · (intro w hSw; (try dsimp only at hSw); go_simp; try with_reducible rfl)
        simp only [Act.put, List.setIfInBounds_toArray, List.set_cons_zero, List.set_cons_succ]
        refine regTake 16 (some 42) (v := ?_) rfl rfl (by kernel_rfl) (by kernel_rfl) (by kernel_rfl) (fun _ _ _ h => h) (by rfl) hHeld ?_ ?_
        rotate_left 1
        · (intro w hSw; (try dsimp only at hSw); go_simp; try with_reducible rfl)
        simp only [Act.put, List.setIfInBounds_toArray, List.set_cons_zero, List.set_cons_succ]
        refine regTake 17 (some 43) (v := ?_) rfl rfl (by kernel_rfl) (by kernel_rfl) (by kernel_rfl) (fun _ _ _ h => h) (by rfl) hHeld ?_ ?_
        rotate_left 1
        · (intro w hSw; (try dsimp only at hSw); go_simp; try with_reducible rfl)
        simp only [Act.put, List.setIfInBounds_toArray, List.set_cons_zero, List.set_cons_succ]
        refine regTake 18 (some 44) (v := ?_) rfl rfl (by kernel_rfl) (by kernel_rfl) (by kernel_rfl) (fun _ _ _ h => h) (by rfl) hHeld ?_ ?_
        rotate_left 1
        · (intro w hSw; (try dsimp only at hSw); go_simp; try with_reducible rfl)
        simp only [Act.put, List.setIfInBounds_toArray, List.set_cons_zero, List.set_cons_succ]
        have hK := hHeld.2.2.2.2.out
        refine regCall 19 (some 45) (f := 6) (args := ?_) rfl rfl (by kernel_rfl) (by rfl) ?_ ?_
        rotate_left 1
        · (go_simp; try with_reducible rfl)
        clear hHeld
        refine (alive3 _).mono ?_
        rintro e wx19 ⟨rfl, hbx⟩
        refine ⟨_, rfl, MKS.out _ ⟨hK.1.call hbx, hK.2.1.call hbx, hK.2.2.1.call hbx, hK.2.2.2.1.call hbx, hK.2.2.2.2.trans (hbx.mono hK.2.2.2.2.size)⟩, fun hHeld => ?_⟩
        clear hbx hK
        simp only [Act.put, List.setIfInBounds_toArray, List.set_cons_zero, List.set_cons_succ]
        refine regTake 20 (some 46) (v := ?_) rfl rfl (by kernel_rfl) (by kernel_rfl) (by kernel_rfl) (fun _ _ _ h => h) (by rfl) hHeld ?_ ?_
        rotate_left 1
        · (intro w hSw; (try dsimp only at hSw); go_simp; try with_reducible rfl)
        simp only [Act.put, List.setIfInBounds_toArray, List.set_cons_zero, List.set_cons_succ]
        refine regTake 21 (some 47) (v := ?_) rfl rfl (by kernel_rfl) (by kernel_rfl) (by kernel_rfl) (fun _ _ _ h => h) (by rfl) hHeld ?_ ?_
        rotate_left 1
        · (intro w hSw; (try dsimp only at hSw); go_simp; try with_reducible rfl)
        simp only [Act.put, List.setIfInBounds_toArray, List.set_cons_zero, List.set_cons_succ]
        refine wpAnyH_done (by kernel_rfl) ?_ _
        have hK := hHeld.2.2.2.2.out
        clear hHeld
        go_wp2_with fail
        go_meet
        exact ⟨rfl, hK.1, hK.2.1, hK.2.2.1, Lib.hid hK.2.2.2.2⟩
      | true =>
        have mkS : ∀ w', (Box w' w.heap.size a ∧ Box w' g U ∧ Box w' w2.heap.size N ∧ Box w' w3.heap.size G ∧ Below w.heap.size w w') → (fun w' => w'.cell? ⟨w.heap.size, 0, none⟩ = some (.int .u64 (hi a : Nat)) ∧ w'.cell? ⟨w.heap.size, 1, none⟩ = some (.int .u64 (lo a : Nat)) ∧ w'.cell? ⟨w3.heap.size, 0, none⟩ = some (.int .u64 (hi G : Nat)) ∧ w'.cell? ⟨w3.heap.size, 1, none⟩ = some (.int .u64 (lo G : Nat)) ∧ Hid (Box w' w.heap.size a ∧ Box w' g U ∧ Box w' w2.heap.size N ∧ Box w' w3.heap.size G ∧ Below w.heap.size w w')) w' := fun w' h => ⟨h.1.c0, h.1.c1, h.2.2.2.1.c0, h.2.2.2.1.c1, Lib.hid h⟩
        have MKS := Lib.hid mkS; clear mkS
        refine wp_region_held_drew (S := (fun w' => w'.cell? ⟨w.heap.size, 0, none⟩ = some (.int .u64 (hi a : Nat)) ∧ w'.cell? ⟨w.heap.size, 1, none⟩ = some (.int .u64 (lo a : Nat)) ∧ w'.cell? ⟨w3.heap.size, 0, none⟩ = some (.int .u64 (hi G : Nat)) ∧ w'.cell? ⟨w3.heap.size, 1, none⟩ = some (.int .u64 (lo G : Nat)) ∧ Hid (Box w' w.heap.size a ∧ Box w' g U ∧ Box w' w2.heap.size N ∧ Box w' w3.heap.size G ∧ Below w.heap.size w w'))) (by kernel_rfl) (MKS.out _ ⟨bA3.drew, bU3.drew, bN3.drew, bG3.drew, hW.drew⟩) (fun hHeld => ?_)
        clear bA3 bU3 bN3 bG3 hW
        refine regTake 0 (some 26) (v := ?_) rfl rfl (by kernel_rfl) (by kernel_rfl) (by kernel_rfl) (fun _ _ _ h => h) (by rfl) hHeld ?_ ?_
        rotate_left 1
        · (intro w hSw; (try dsimp only at hSw); go_simp; try with_reducible rfl)
        simp only [Act.put, List.setIfInBounds_toArray, List.set_cons_zero, List.set_cons_succ]
        refine regTake 1 (some 27) (v := ?_) rfl rfl (by kernel_rfl) (by kernel_rfl) (by kernel_rfl) (fun _ _ _ h => h) (by rfl) hHeld ?_ ?_
        rotate_left 1
        · (intro w hSw; (try dsimp only at hSw); go_simp; try with_reducible rfl)
        simp only [Act.put, List.setIfInBounds_toArray, List.set_cons_zero, List.set_cons_succ]
        refine regTake 2 (some 28) (v := ?_) rfl rfl (by kernel_rfl) (by kernel_rfl) (by kernel_rfl) (fun _ _ _ h => h) (by rfl) hHeld ?_ ?_
        rotate_left 1
        · (intro w hSw; (try dsimp only at hSw); go_simp; try with_reducible rfl)
        simp only [Act.put, List.setIfInBounds_toArray, List.set_cons_zero, List.set_cons_succ]
        refine regTake 3 (some 29) (v := ?_) rfl rfl (by kernel_rfl) (by kernel_rfl) (by kernel_rfl) (fun _ _ _ h => h) (by rfl) hHeld ?_ ?_
        rotate_left 1
        · (intro w hSw; (try dsimp only at hSw); go_simp; try with_reducible rfl)
        simp only [Act.put, List.setIfInBounds_toArray, List.set_cons_zero, List.set_cons_succ]
        refine regTake 4 (some 30) (v := ?_) rfl rfl (by kernel_rfl) (by kernel_rfl) (by kernel_rfl) (fun _ _ _ h => h) (by rfl) hHeld ?_ ?_
        rotate_left 1
        · (intro w hSw; (try dsimp only at hSw); go_simp; try with_reducible rfl)
        simp only [Act.put, List.setIfInBounds_toArray, List.set_cons_zero, List.set_cons_succ]
        have hK := hHeld.2.2.2.2.out
        refine regCall 5 (some 31) (f := 16) (args := ?_) rfl rfl (by kernel_rfl) (by rfl) ?_ ?_
        rotate_left 1
        · (go_simp; try with_reducible rfl)
        clear hHeld
        refine (M5.out _).mono ?_
        rintro e wx5 ⟨rfl, hbx⟩
        refine ⟨_, rfl, MKS.out _ ⟨hK.1.call hbx, hK.2.1.call hbx, hK.2.2.1.call hbx, hK.2.2.2.1.call hbx, hK.2.2.2.2.trans (hbx.mono hK.2.2.2.2.size)⟩, fun hHeld => ?_⟩
        clear hbx hK
        simp only [Act.put, List.setIfInBounds_toArray, List.set_cons_zero, List.set_cons_succ]
        have hK := hHeld.2.2.2.2.out
        refine regCall 6 (some 32) (f := 15) (args := ?_) rfl rfl (by kernel_rfl) (by rfl) ?_ ?_
        rotate_left 1
        · (go_simp; try with_reducible rfl)
        clear hHeld
        refine (M6.out _).mono ?_
        rintro e wx6 ⟨rfl, hbx⟩
        refine ⟨_, rfl, MKS.out _ ⟨hK.1.call hbx, hK.2.1.call hbx, hK.2.2.1.call hbx, hK.2.2.2.1.call hbx, hK.2.2.2.2.trans (hbx.mono hK.2.2.2.2.size)⟩, fun hHeld => ?_⟩
        clear hbx hK
        simp only [Act.put, List.setIfInBounds_toArray, List.set_cons_zero, List.set_cons_succ]
        refine regTake 7 (some 33) (v := ?_) rfl rfl (by kernel_rfl) (by kernel_rfl) (by kernel_rfl) (fun _ _ _ h => h) (by rfl) hHeld ?_ ?_
        rotate_left 1
        · (intro w hSw; (try dsimp only at hSw); go_simp; try with_reducible rfl)
        simp only [Act.put, List.setIfInBounds_toArray, List.set_cons_zero, List.set_cons_succ]
        refine regTake 8 (some 34) (v := ?_) rfl rfl (by kernel_rfl) (by kernel_rfl) (by kernel_rfl) (fun _ _ _ h => h) (by rfl) hHeld ?_ ?_
        rotate_left 1
        · (intro w hSw; (try dsimp only at hSw); go_simp; try with_reducible rfl)
        simp only [Act.put, List.setIfInBounds_toArray, List.set_cons_zero, List.set_cons_succ]
        refine regTake 9 (some 35) (v := ?_) rfl rfl (by kernel_rfl) (by kernel_rfl) (by kernel_rfl) (fun _ _ _ h => h) (by rfl) hHeld ?_ ?_
        rotate_left 1
        · (intro w hSw; (try dsimp only at hSw); go_simp; try with_reducible rfl)
        simp only [Act.put, List.setIfInBounds_toArray, List.set_cons_zero, List.set_cons_succ]
        refine regTake 10 (some 36) (v := ?_) rfl rfl (by kernel_rfl) (by kernel_rfl) (by kernel_rfl) (fun _ _ _ h => h) (by rfl) hHeld ?_ ?_
        rotate_left 1
        · (intro w hSw; (try dsimp only at hSw); go_simp; try with_reducible rfl)
        simp only [Act.put, List.setIfInBounds_toArray, List.set_cons_zero, List.set_cons_succ]
        refine regTake 11 (some 37) (v := ?_) rfl rfl (by kernel_rfl) (by kernel_rfl) (by kernel_rfl) (fun _ _ _ h => h) (by rfl) hHeld ?_ ?_
        rotate_left 1
        · (intro w hSw; (try dsimp only at hSw); go_simp; try with_reducible rfl)
        simp only [Act.put, List.setIfInBounds_toArray, List.set_cons_zero, List.set_cons_succ]
        refine regSkip 12 (some 38) rfl rfl (by kernel_rfl) (by kernel_rfl) (by kernel_rfl) (fun _ _ _ h => h) (by rfl) hHeld ?_
        simp only [Act.put, List.setIfInBounds_toArray, List.set_cons_zero, List.set_cons_succ]
        refine regSkip 13 (some 39) rfl rfl (by kernel_rfl) (by kernel_rfl) (by kernel_rfl) (fun _ _ _ h => h) (by rfl) hHeld ?_
        simp only [Act.put, List.setIfInBounds_toArray, List.set_cons_zero, List.set_cons_succ]
        refine regSkip 14 (some 40) rfl rfl (by kernel_rfl) (by kernel_rfl) (by kernel_rfl) (fun _ _ _ h => h) (by rfl) hHeld ?_
        simp only [Act.put, List.setIfInBounds_toArray, List.set_cons_zero, List.set_cons_succ]
        refine regSkip 15 (some 41) rfl rfl (by kernel_rfl) (by kernel_rfl) (by kernel_rfl) (fun _ _ _ h => h) (by rfl) hHeld ?_
        simp only [Act.put, List.setIfInBounds_toArray, List.set_cons_zero, List.set_cons_succ]
        refine regTake 16 (some 42) (v := ?_) rfl rfl (by kernel_rfl) (by kernel_rfl) (by kernel_rfl) (fun _ _ _ h => h) (by rfl) hHeld ?_ ?_
        rotate_left 1
        · (intro w hSw; (try dsimp only at hSw); go_simp; try with_reducible rfl)
        simp only [Act.put, List.setIfInBounds_toArray, List.set_cons_zero, List.set_cons_succ]
        refine regTake 17 (some 43) (v := ?_) rfl rfl (by kernel_rfl) (by kernel_rfl) (by kernel_rfl) (fun _ _ _ h => h) (by rfl) hHeld ?_ ?_
        rotate_left 1
        · (intro w hSw; (try dsimp only at hSw); go_simp; try with_reducible rfl)
        simp only [Act.put, List.setIfInBounds_toArray, List.set_cons_zero, List.set_cons_succ]
        refine regTake 18 (some 44) (v := ?_) rfl rfl (by kernel_rfl) (by kernel_rfl) (by kernel_rfl) (fun _ _ _ h => h) (by rfl) hHeld ?_ ?_
        rotate_left 1
        · (intro w hSw; (try dsimp only at hSw); go_simp; try with_reducible rfl)
        simp only [Act.put, List.setIfInBounds_toArray, List.set_cons_zero, List.set_cons_succ]
        have hK := hHeld.2.2.2.2.out
        refine regCall 19 (some 45) (f := 6) (args := ?_) rfl rfl (by kernel_rfl) (by rfl) ?_ ?_
        rotate_left 1
        · (go_simp; try with_reducible rfl)
        clear hHeld
        refine (alive3 _).mono ?_
        rintro e wx19 ⟨rfl, hbx⟩
        refine ⟨_, rfl, MKS.out _ ⟨hK.1.call hbx, hK.2.1.call hbx, hK.2.2.1.call hbx, hK.2.2.2.1.call hbx, hK.2.2.2.2.trans (hbx.mono hK.2.2.2.2.size)⟩, fun hHeld => ?_⟩
        clear hbx hK
        simp only [Act.put, List.setIfInBounds_toArray, List.set_cons_zero, List.set_cons_succ]
        refine regTake 20 (some 46) (v := ?_) rfl rfl (by kernel_rfl) (by kernel_rfl) (by kernel_rfl) (fun _ _ _ h => h) (by rfl) hHeld ?_ ?_
        rotate_left 1
        · (intro w hSw; (try dsimp only at hSw); go_simp; try with_reducible rfl)
        simp only [Act.put, List.setIfInBounds_toArray, List.set_cons_zero, List.set_cons_succ]
        refine regTake 21 (some 47) (v := ?_) rfl rfl (by kernel_rfl) (by kernel_rfl) (by kernel_rfl) (fun _ _ _ h => h) (by rfl) hHeld ?_ ?_
        rotate_left 1
        · (intro w hSw; (try dsimp only at hSw); go_simp; try with_reducible rfl)
        simp only [Act.put, List.setIfInBounds_toArray, List.set_cons_zero, List.set_cons_succ]
        refine wpAnyH_done (by kernel_rfl) ?_ _
        have hK := hHeld.2.2.2.2.out
        clear hHeld
        go_wp2_with fail
        go_meet
        exact ⟨rfl, hK.1, hK.2.1, hK.2.2.1, Lib.hid hK.2.2.2.2⟩
    case rest =>
      obtain ⟨rfl, bA4, bU4, bN4, HW4⟩ := hcut
      clear bA3 bU3 bN3 bG3 hW
      have a0 := bA4.c0; have a1 := bA4.c1
      go_wp2_with fail
      refine (M8.out _).mono ?_
      rintro e w5 ⟨rfl, hb5⟩
      have bA5 := bA4.call hb5
      have bU5 := bU4.call hb5
      have bN5 := bN4.call hb5
      have hW5 : Below w.heap.size w w5 := HW4.out.trans (hb5.mono HW4.out.size)
      clear hb5 bA4 bU4 bN4 HW4 a0 a1
      cases q with
      | true =>
        obtain ⟨u0, u1, hP⟩ := M9.out rfl
        rw [hP] at M5
        clear hP
        have ve : .agg #[.int .u64 (hi U : Nat), .int .u64 (lo U : Nat)] = Value.agg #[.int .u64 0, .int .u64 (r : Nat)] := by rw [u0, u1]; rfl
        go_upto_region 7 with fail
        have mkS : ∀ w', (Box w' w.heap.size a ∧ Box w' g U ∧ Box w' w2.heap.size N ∧ Below w.heap.size w w') → (fun w' => w'.cell? ⟨w.heap.size, 0, none⟩ = some (.int .u64 (hi a : Nat)) ∧ w'.cell? ⟨w.heap.size, 1, none⟩ = some (.int .u64 (lo a : Nat)) ∧ w'.cell? ⟨g, 0, none⟩ = some (.int .u64 (hi U : Nat)) ∧ w'.cell? ⟨g, 1, none⟩ = some (.int .u64 (lo U : Nat)) ∧ w'.cell? ⟨w2.heap.size, 0, none⟩ = some (.int .u64 (hi N : Nat)) ∧ w'.cell? ⟨w2.heap.size, 1, none⟩ = some (.int .u64 (lo N : Nat)) ∧ Hid (Box w' w.heap.size a ∧ Box w' g U ∧ Box w' w2.heap.size N ∧ Below w.heap.size w w')) w' := fun w' h => ⟨h.1.c0, h.1.c1, h.2.1.c0, h.2.1.c1, h.2.2.1.c0, h.2.2.1.c1, Lib.hid h⟩
        have MKS := Lib.hid mkS; clear mkS
        refine wp_region_held_drew (S := (fun w' => w'.cell? ⟨w.heap.size, 0, none⟩ = some (.int .u64 (hi a : Nat)) ∧ w'.cell? ⟨w.heap.size, 1, none⟩ = some (.int .u64 (lo a : Nat)) ∧ w'.cell? ⟨g, 0, none⟩ = some (.int .u64 (hi U : Nat)) ∧ w'.cell? ⟨g, 1, none⟩ = some (.int .u64 (lo U : Nat)) ∧ w'.cell? ⟨w2.heap.size, 0, none⟩ = some (.int .u64 (hi N : Nat)) ∧ w'.cell? ⟨w2.heap.size, 1, none⟩ = some (.int .u64 (lo N : Nat)) ∧ Hid (Box w' w.heap.size a ∧ Box w' g U ∧ Box w' w2.heap.size N ∧ Below w.heap.size w w'))) (by kernel_rfl) (MKS.out _ ⟨bA5.drew, bU5.drew, bN5.drew, hW5.drew⟩) (fun hHeld => ?_)
        clear bA5 bU5 bN5 hW5
        refine regTake 0 (some 50) (v := ?_) rfl rfl (by kernel_rfl) (by kernel_rfl) (by kernel_rfl) (fun _ _ _ h => h) (by rfl) hHeld ?_ ?_
        rotate_left 1
        · (intro w hSw; (try dsimp only at hSw); go_simp; try with_reducible rfl)
        simp only [Act.put, List.setIfInBounds_toArray, List.set_cons_zero, List.set_cons_succ]
        refine regTake 1 (some 51) (v := ?_) rfl rfl (by kernel_rfl) (by kernel_rfl) (by kernel_rfl) (fun _ _ _ h => h) (by rfl) hHeld ?_ ?_
        rotate_left 1
        · (intro w hSw; (try dsimp only at hSw); go_simp; try with_reducible rfl)
        simp only [Act.put, List.setIfInBounds_toArray, List.set_cons_zero, List.set_cons_succ]
        refine regTake 2 (some 52) (v := ?_) rfl rfl (by kernel_rfl) (by kernel_rfl) (by kernel_rfl) (fun _ _ _ h => h) (by rfl) hHeld ?_ ?_
        rotate_left 1
        · (intro w hSw; (try dsimp only at hSw); go_simp; try with_reducible rfl)
        simp only [Act.put, List.setIfInBounds_toArray, List.set_cons_zero, List.set_cons_succ]
        refine regTake 3 (some 53) (v := ?_) rfl rfl (by kernel_rfl) (by kernel_rfl) (by kernel_rfl) (fun _ _ _ h => h) (by rfl) hHeld ?_ ?_
        rotate_left 1
        · (intro w hSw; (try dsimp only at hSw); go_simp; try with_reducible rfl)
        simp only [Act.put, List.setIfInBounds_toArray, List.set_cons_zero, List.set_cons_succ]
        refine regTake 4 (some 54) (v := ?_) rfl rfl (by kernel_rfl) (by kernel_rfl) (by kernel_rfl) (fun _ _ _ h => h) (by rfl) hHeld ?_ ?_
        rotate_left 1
        · (intro w hSw; (try dsimp only at hSw); go_simp; try with_reducible rfl)
        simp only [Act.put, List.setIfInBounds_toArray, List.set_cons_zero, List.set_cons_succ]
        refine regTake 5 (some 55) (v := ?_) rfl rfl (by kernel_rfl) (by kernel_rfl) (by kernel_rfl) (fun _ _ _ h => h) (by rfl) hHeld ?_ ?_
        rotate_left 1
        · (intro w hSw; (try dsimp only at hSw); go_simp; try with_reducible rfl)
        simp only [Act.put, List.setIfInBounds_toArray, List.set_cons_zero, List.set_cons_succ]
        refine regTake 6 (some 56) (v := ?_) rfl rfl (by kernel_rfl) (by kernel_rfl) (by kernel_rfl) (fun _ _ _ h => h) (by rfl) hHeld ?_ ?_
        rotate_left 1
        · (intro w hSw; (try dsimp only at hSw); go_simp; try with_reducible rfl)
        simp only [Act.put, List.setIfInBounds_toArray, List.set_cons_zero, List.set_cons_succ]
        refine regTake 8 (some 58) (v := ?_) rfl rfl (by kernel_rfl) (by kernel_rfl) (by kernel_rfl) (fun _ _ _ h => h) (by rfl) hHeld ?_ ?_
        rotate_left 1
        · (intro w hSw; (try dsimp only at hSw); go_simp; try with_reducible rfl)
        simp only [Act.put, List.setIfInBounds_toArray, List.set_cons_zero, List.set_cons_succ]
        have hK := hHeld.2.2.2.2.2.2.out
        refine regCall 7 (some 57) (f := 16) (args := ?_) rfl rfl (by kernel_rfl) (by rfl) ?_ ?_
        rotate_left 1
        · (go_simp; try with_reducible rfl)
        clear hHeld
        refine (M5.out _).mono ?_
        rintro e wx7 ⟨rfl, hbx⟩
        refine ⟨_, rfl, MKS.out _ ⟨hK.1.call hbx, hK.2.1.call hbx, hK.2.2.1.call hbx, hK.2.2.2.trans (hbx.mono hK.2.2.2.size)⟩, fun hHeld => ?_⟩
        clear hbx hK
        simp only [Act.put, List.setIfInBounds_toArray, List.set_cons_zero, List.set_cons_succ]
        refine regTake 9 (some 59) (v := ?_) rfl rfl (by kernel_rfl) (by kernel_rfl) (by kernel_rfl) (fun _ _ _ h => h) (by rfl) hHeld ?_ ?_
        rotate_left 1
        · (intro w hSw; (try dsimp only at hSw); go_simp; try with_reducible rfl)
        simp only [Act.put, List.setIfInBounds_toArray, List.set_cons_zero, List.set_cons_succ]
        refine regTake 10 (some 60) (v := ?_) rfl rfl (by kernel_rfl) (by kernel_rfl) (by kernel_rfl) (fun _ _ _ h => h) (by rfl) hHeld ?_ ?_
        rotate_left 1
        · (intro w hSw; (try dsimp only at hSw); go_simp; try with_reducible rfl)
        simp only [Act.put, List.setIfInBounds_toArray, List.set_cons_zero, List.set_cons_succ]
        refine regTake 11 (some 2) (v := ?_) rfl rfl (by kernel_rfl) (by kernel_rfl) (by kernel_rfl) (fun _ _ _ h => h) (by rfl) hHeld ?_ ?_
        rotate_left 1
        · (intro w hSw; (try dsimp only at hSw); go_simp; try with_reducible rfl)
        simp only [Act.put, List.setIfInBounds_toArray, List.set_cons_zero, List.set_cons_succ]
        refine wpAnyH_done (by kernel_rfl) ?_ _
        have hK := hHeld.2.2.2.2.2.2.out
        clear hHeld
        go_wp2_with fail
        go_ret
        exact ⟨rfl, hK.2.2.2⟩
      | false =>
        obtain ⟨rfl, hP⟩ := M0.out rfl
        have he : ∀ W, (Op.equalIn 10000 24 (.agg #[.int .u64 (hi P : Nat), .int .u64 (lo P : Nat)]) (.agg #[.int .u64 (hi a : Nat), .int .u64 (lo a : Nat)])).run Try.prog W = .ok false W := fun W => by rw [eqW, decide_eq_false hP]
        clear hP
        go_upto_region 8 with fail
        have mkS : ∀ w', (Box w' w.heap.size a ∧ Box w' g U ∧ Box w' w2.heap.size U ∧ Below w.heap.size w w') → (fun w' => w'.cell? ⟨w.heap.size, 0, none⟩ = some (.int .u64 (hi a : Nat)) ∧ w'.cell? ⟨w.heap.size, 1, none⟩ = some (.int .u64 (lo a : Nat)) ∧ w'.cell? ⟨g, 0, none⟩ = some (.int .u64 (hi U : Nat)) ∧ w'.cell? ⟨g, 1, none⟩ = some (.int .u64 (lo U : Nat)) ∧ w'.cell? ⟨w2.heap.size, 0, none⟩ = some (.int .u64 (hi U : Nat)) ∧ w'.cell? ⟨w2.heap.size, 1, none⟩ = some (.int .u64 (lo U : Nat)) ∧ Hid (Box w' w.heap.size a ∧ Box w' g U ∧ Box w' w2.heap.size U ∧ Below w.heap.size w w')) w' := fun w' h => ⟨h.1.c0, h.1.c1, h.2.1.c0, h.2.1.c1, h.2.2.1.c0, h.2.2.1.c1, Lib.hid h⟩
        have MKS := Lib.hid mkS; clear mkS
        refine wp_region_held_drew (S := (fun w' => w'.cell? ⟨w.heap.size, 0, none⟩ = some (.int .u64 (hi a : Nat)) ∧ w'.cell? ⟨w.heap.size, 1, none⟩ = some (.int .u64 (lo a : Nat)) ∧ w'.cell? ⟨g, 0, none⟩ = some (.int .u64 (hi U : Nat)) ∧ w'.cell? ⟨g, 1, none⟩ = some (.int .u64 (lo U : Nat)) ∧ w'.cell? ⟨w2.heap.size, 0, none⟩ = some (.int .u64 (hi U : Nat)) ∧ w'.cell? ⟨w2.heap.size, 1, none⟩ = some (.int .u64 (lo U : Nat)) ∧ Hid (Box w' w.heap.size a ∧ Box w' g U ∧ Box w' w2.heap.size U ∧ Below w.heap.size w w'))) (by kernel_rfl) (MKS.out _ ⟨bA5.drew, bU5.drew, bN5.drew, hW5.drew⟩) (fun hHeld => ?_)
        clear bA5 bU5 bN5 hW5
        refine regTake 0 (some 61) (v := ?_) rfl rfl (by kernel_rfl) (by kernel_rfl) (by kernel_rfl) (fun _ _ _ h => h) (by rfl) hHeld ?_ ?_
        rotate_left 1
        · (intro w hSw; (try dsimp only at hSw); go_simp; try with_reducible rfl)
        simp only [Act.put, List.setIfInBounds_toArray, List.set_cons_zero, List.set_cons_succ]
        refine regTake 1 (some 62) (v := ?_) rfl rfl (by kernel_rfl) (by kernel_rfl) (by kernel_rfl) (fun _ _ _ h => h) (by rfl) hHeld ?_ ?_
        rotate_left 1
        · (intro w hSw; (try dsimp only at hSw); go_simp; try with_reducible rfl)
        simp only [Act.put, List.setIfInBounds_toArray, List.set_cons_zero, List.set_cons_succ]
        refine regTake 2 (some 63) (v := ?_) rfl rfl (by kernel_rfl) (by kernel_rfl) (by kernel_rfl) (fun _ _ _ h => h) (by rfl) hHeld ?_ ?_
        rotate_left 1
        · (intro w hSw; (try dsimp only at hSw); go_simp; try with_reducible rfl)
        simp only [Act.put, List.setIfInBounds_toArray, List.set_cons_zero, List.set_cons_succ]
        refine regTake 3 (some 64) (v := ?_) rfl rfl (by kernel_rfl) (by kernel_rfl) (by kernel_rfl) (fun _ _ _ h => h) (by rfl) hHeld ?_ ?_
        rotate_left 1
        · (intro w hSw; (try dsimp only at hSw); go_simp; try with_reducible rfl)
        simp only [Act.put, List.setIfInBounds_toArray, List.set_cons_zero, List.set_cons_succ]
        refine regTake 4 (some 65) (v := ?_) rfl rfl (by kernel_rfl) (by kernel_rfl) (by kernel_rfl) (fun _ _ _ h => h) (by rfl) hHeld ?_ ?_
        rotate_left 1
        · (intro w hSw; (try dsimp only at hSw); go_simp; try with_reducible rfl)
        simp only [Act.put, List.setIfInBounds_toArray, List.set_cons_zero, List.set_cons_succ]
        refine regTake 5 (some 66) (v := ?_) rfl rfl (by kernel_rfl) (by kernel_rfl) (by kernel_rfl) (fun _ _ _ h => h) (by rfl) hHeld ?_ ?_
        rotate_left 1
        · (intro w hSw; (try dsimp only at hSw); go_simp; try with_reducible rfl)
        simp only [Act.put, List.setIfInBounds_toArray, List.set_cons_zero, List.set_cons_succ]
        refine regTake 7 (some 68) (v := ?_) rfl rfl (by kernel_rfl) (by kernel_rfl) (by kernel_rfl) (fun _ _ _ h => h) (by rfl) hHeld ?_ ?_
        rotate_left 1
        · (intro w hSw; (try dsimp only at hSw); go_simp; try with_reducible rfl)
        simp only [Act.put, List.setIfInBounds_toArray, List.set_cons_zero, List.set_cons_succ]
        have hK := hHeld.2.2.2.2.2.2.out
        refine regCall 6 (some 67) (f := 16) (args := ?_) rfl rfl (by kernel_rfl) (by rfl) ?_ ?_
        rotate_left 1
        · (go_simp; try with_reducible rfl)
        clear hHeld
        refine (M5.out _).mono ?_
        rintro e wx6 ⟨rfl, hbx⟩
        refine ⟨_, rfl, MKS.out _ ⟨hK.1.call hbx, hK.2.1.call hbx, hK.2.2.1.call hbx, hK.2.2.2.trans (hbx.mono hK.2.2.2.size)⟩, fun hHeld => ?_⟩
        clear hbx hK
        simp only [Act.put, List.setIfInBounds_toArray, List.set_cons_zero, List.set_cons_succ]
        refine regTake 8 (some 69) (v := ?_) rfl rfl (by kernel_rfl) (by kernel_rfl) (by kernel_rfl) (fun _ _ _ h => h) (by rfl) hHeld ?_ ?_
        rotate_left 1
        · (intro w hSw; (try dsimp only at hSw); go_simp; try with_reducible rfl)
        simp only [Act.put, List.setIfInBounds_toArray, List.set_cons_zero, List.set_cons_succ]
        refine regTake 9 (some 70) (v := ?_) rfl rfl (by kernel_rfl) (by kernel_rfl) (by kernel_rfl) (fun _ _ _ h => h) (by rfl) hHeld ?_ ?_
        rotate_left 1
        · (intro w hSw; (try dsimp only at hSw); go_simp; try with_reducible rfl)
        simp only [Act.put, List.setIfInBounds_toArray, List.set_cons_zero, List.set_cons_succ]
        refine regTake 10 (some 2) (v := ?_) rfl rfl (by kernel_rfl) (by kernel_rfl) (by kernel_rfl) (fun _ _ _ h => h) (by rfl) hHeld ?_ ?_
        rotate_left 1
        · (intro w hSw; (try dsimp only at hSw); go_simp; try with_reducible rfl)
        simp only [Act.put, List.setIfInBounds_toArray, List.set_cons_zero, List.set_cons_succ]
        refine wpAnyH_done (by kernel_rfl) ?_ _
        have hK := hHeld.2.2.2.2.2.2.out
        clear hHeld
        go_wp2_with fail
        go_ret
        exact ⟨rfl, hK.2.2.2⟩

theorem fits_walk (a : Nat) (ha : a < M128) (w : World) :
    Calls Try.prog 4 #[.agg #[.int .u64 (hi a : Nat), .int .u64 (lo a : Nat)]] w fun e w' => e = .returned (.bool true) ∧ Below w.heap.size w w' := by
  obtain ⟨r, hr⟩ := IsRoot.is a
  have hf := hr.fit ha
  have hN : r + 1 < M128 := by unfold B64 at hf; unfold M128; omega
  refine fits_core a r (upOf a r) (r + 1) (mulW (r + 1) (r + 1)) (r * r) (decide (r * r = a)) (mulO (r + 1) (r + 1)) w (root_num a r ha hr) (up_num a r ha hr) (add_one r hf) (times_num _ _ hN hN) (mul_sq r hf) ?_ ?_ (square_num a r ha hr) ?_ ?_
  · intro w
    have h := less_num a (r * r) ha (sq_fit hf) w
    rw [show ltW a (r * r) = false from decide_eq_false (Nat.not_lt.2 hr.le)] at h
    exact h
  · intro hm w
    have hlt : (r + 1) * (r + 1) < M128 := by unfold mulO at hm; unfold M128; simpa using hm
    have h := less_yes a ((r + 1) * (r + 1)) ha hlt hr.lt w
    rw [mulW_fit _ _ hlt]
    exact h
  · intro h
    have h := of_decide_eq_true h
    unfold upOf
    rw [if_pos h]
    exact ⟨hi_low r hf, lo_low r hf, h⟩
  · intro h
    have h := of_decide_eq_false h
    unfold upOf
    rw [if_neg h]
    exact ⟨rfl, h⟩
end Go.Proofs.Ythhdmpijgfdagaa
