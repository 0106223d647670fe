/- The law RootSquares, walked: it answers true at every word and every two wide numbers, and nothing that was in memory before is changed. -/
import Derived.Test.YthhdmpijgfdagaaAlive3
import Derived.Test.YthhdmpijgfdagaaReg2
namespace Go.Proofs.Ythhdmpijgfdagaa
open Go.RowKit

/-- What the two roots of a number are. -/
structure RootsOf (a r U : Nat) : Prop where
  root : ∀ w, Calls Try.prog 7 #[.agg #[.int .u64 (hi a : Nat), .int .u64 (lo a : Nat)]] w fun e w' => e = .returned (.int .u64 (r : Nat)) ∧ Below w.heap.size w w'
  up : ∀ w, Calls Try.prog 9 #[.agg #[.int .u64 (hi a : Nat), .int .u64 (lo a : Nat)]] w fun e w' => e = .returned (.agg #[.int .u64 (hi U : Nat), .int .u64 (lo U : Nat)]) ∧ Below w.heap.size w w'

set_option maxHeartbeats 2000000 in
theorem squares_core (x a b P L Y : Nat) (q o : Bool) (w : World)
    (m1 : ∀ w, Calls Try.prog 16 #[.int .u64 (x : Nat), .int .u64 (x : Nat)] w fun e w' => e = .returned (.agg #[.int .u64 (hi P : Nat), .int .u64 (lo P : Nat)]) ∧ Below w.heap.size w w')
    (m2 : ∀ w, Calls Try.prog 7 #[.agg #[.int .u64 (hi P : Nat), .int .u64 (lo P : Nat)]] w fun e w' => e = .returned (.int .u64 (x : Nat)) ∧ Below w.heap.size w w')
    (m3 : ∀ w, Calls Try.prog 9 #[.agg #[.int .u64 (hi P : Nat), .int .u64 (lo P : Nat)]] w fun e w' => e = .returned (.agg #[.int .u64 0, .int .u64 (x : Nat)]) ∧ Below w.heap.size w w')
    (m4 : ∀ w, Calls Try.prog 11 #[.agg #[.int .u64 (hi P : Nat), .int .u64 (lo P : Nat)]] w fun e w' => e = .returned (.bool true) ∧ Below w.heap.size w w')
    (m5 : 2 ≤ x → ∀ w, Calls Try.prog 17 #[.agg #[.int .u64 (hi P : Nat), .int .u64 (lo P : Nat)], .agg #[.int .u64 0, .int .u64 1]] w fun e w' => e = .returned (.tuple #[.agg #[.int .u64 (hi L : Nat), .int .u64 (lo L : Nat)], .bool o]) ∧ Below w.heap.size w w')
    (m6 : 2 ≤ x → ∀ w, Calls Try.prog 7 #[.agg #[.int .u64 (hi L : Nat), .int .u64 (lo L : Nat)]] w fun e w' => e = .returned (.int .u64 (Y : Nat)) ∧ Below w.heap.size w w')
    (m7 : 2 ≤ x → ∀ w, Calls Try.prog 9 #[.agg #[.int .u64 (hi L : Nat), .int .u64 (lo L : Nat)]] w fun e w' => e = .returned (.agg #[.int .u64 0, .int .u64 (x : Nat)]) ∧ Below w.heap.size w w')
    (m8 : 2 ≤ x → ∀ w, Calls Try.prog 11 #[.agg #[.int .u64 (hi L : Nat), .int .u64 (lo L : Nat)]] w fun e w' => e = .returned (.bool false) ∧ Below w.heap.size w w')
    (hY : 2 ≤ x → IntKind.u64.wrap ((x : Int) - 1) = ((Y : Nat) : Int))
    (m9 : ∀ w, Calls Try.prog 15 #[.agg #[.int .u64 (hi b : Nat), .int .u64 (lo b : Nat)], .agg #[.int .u64 (hi a : Nat), .int .u64 (lo a : Nat)]] w fun e w' => e = .returned (.bool q) ∧ Below w.heap.size w w')
    (hAB : Bool.rec ((∃ rA rB UA UB : Nat, rA ≤ rB ∧ UA ≤ UB ∧ UB < M128 ∧ RootsOf a rA UA ∧ RootsOf b rB UB)) ((∃ rA rB UA UB : Nat, rA ≤ rB ∧ UA ≤ UB ∧ UB < M128 ∧ RootsOf b rA UA ∧ RootsOf a rB UB)) q) :
    Calls Try.prog 5 #[.int .u64 (x : Nat), .agg #[.int .u64 (hi a : Nat), .int .u64 (lo a : Nat)], .agg #[.int .u64 (hi b : Nat), .int .u64 (lo b : Nat)]] w fun e w' => e = .returned (.bool true) ∧ Below w.heap.size w w' := by
  have M1 := Lib.hid m1; have M2 := Lib.hid m2; have M3 := Lib.hid m3; have M4 := Lib.hid m4; have M5 := Lib.hid m5; have M6 := Lib.hid m6; have M7 := Lib.hid m7; have M8 := Lib.hid m8; have M9 := Lib.hid m9
  clear m1 m2 m3 m4 m5 m6 m7 m8 m9
  have HY := Lib.hid hY; have HAB := Lib.hid hAB; clear hY hAB
  go_enter Try.func5, Try.ntmps5
  go_wp2_with fail
  refine (M1.out _).mono ?_
  rintro e w1 ⟨rfl, hb1⟩
  have bA : Box w1 w.heap.size a := ((Box.new _ _ _).alloc _).call hb1
  have bB : Box w1 (w.heap.size + 1) b := (Box.newAt (by simp)).call hb1
  have hw1 : Below w.heap.size w w1 := (((Below.refl _ _).alloc (Nat.le_refl _) _).alloc (by simp) _).trans (hb1.mono (by simp; omega))
  have HW1 := Lib.hid hw1
  clear hb1 hw1
  go_wp2_with fail
  refine (M2.out _).mono ?_
  rintro e w2 ⟨rfl, hb2⟩
  have bA2 := (bA.alloc (.cells #[.int .u64 (hi P : Nat), .int .u64 (lo P : Nat)] 24)).call hb2
  have bB2 := (bB.alloc (.cells #[.int .u64 (hi P : Nat), .int .u64 (lo P : Nat)] 24)).call hb2
  have bP2 : Box w2 w1.heap.size P := (Box.new _ _ _).call hb2
  have hw2 : Below w.heap.size w w2 := (HW1.out.alloc HW1.out.size _).trans (hb2.mono (by have := HW1.out.size; simp; omega))
  have HW2 := Lib.hid hw2
  clear hb2 hw2 bA bB HW1
  have p0 := bP2.c0; have p1 := bP2.c1
  go_wp2_with fail
  clear p0 p1
  refine (M3.out _).mono ?_
  rintro e w3 ⟨rfl, hb3⟩
  have bA3 := bA2.call hb3
  have bB3 := bB2.call hb3
  have bP3 := bP2.call hb3
  have hw3 : Below w.heap.size w w3 := HW2.out.trans (hb3.mono HW2.out.size)
  have HW3 := Lib.hid hw3
  clear hb3 hw3 HW2 bA2 bB2 bP2
  have p0 := bP3.c0; have p1 := bP3.c1
  go_wp2_with fail
  clear p0 p1
  refine (M4.out _).mono ?_
  rintro e w4 ⟨rfl, hb4⟩
  have bA4 := bA3.call hb4
  have bB4 := bB3.call hb4
  have bP4 := bP3.call hb4
  have hw4 : Below w.heap.size w w4 := HW3.out.trans (hb4.mono HW3.out.size)
  have HW4 := Lib.hid hw4
  clear hb4 hw4 HW3 bA3 bB3 bP3
  go_wp2_with fail
  refine (alive3 _).mono ?_
  rintro e w5 ⟨rfl, hb5⟩
  have bA5 := bA4.call hb5
  have bB5 := bB4.call hb5
  have bP5 := bP4.call hb5
  have hw5 : Below w.heap.size w w5 := HW4.out.trans (hb5.mono HW4.out.size)
  have HW5 := Lib.hid hw5
  clear hb5 hw5 HW4 bA4 bB4 bP4
  go_upto_if 34 with fail
  go_cut [] (fun wx => Box wx w.heap.size a ∧ Box wx (w.heap.size + 1) b ∧ Hid (Below w.heap.size w wx))
  case first =>
    by_cases h2 : 2 ≤ x
    · have N5 := Lib.hid (M5.out h2); have N6 := Lib.hid (M6.out h2); have N7 := Lib.hid (M7.out h2); have N8 := Lib.hid (M8.out h2)
      have hy := HY.out h2
      have p0 := bP5.c0; have p1 := bP5.c1
      have d2 : decide ((2 : Int) ≤ (x : Int)) = true := by simp; omega
      go_wp2_with fail
      refine (N5.out _).mono ?_
      rintro e w6 ⟨rfl, hb6⟩
      have bA6 := bA5.call hb6
      have bB6 := bB5.call hb6
      have hw6 : Below w.heap.size w w6 := HW5.out.trans (hb6.mono HW5.out.size)
      have HW6 := Lib.hid hw6
      clear hb6 hw6 p0 p1 bA5 bB5 bP5 HW5
      go_wp2_with fail
      refine (N6.out _).mono ?_
      rintro e w7 ⟨rfl, hb7⟩
      have bA7 := (bA6.alloc (.cells #[.int .u64 (hi L : Nat), .int .u64 (lo L : Nat)] 24)).call hb7
      have bB7 := (bB6.alloc (.cells #[.int .u64 (hi L : Nat), .int .u64 (lo L : Nat)] 24)).call hb7
      have bL7 : Box w7 w6.heap.size L := (Box.new _ _ _).call hb7
      have hw7 : Below w.heap.size w w7 := (HW6.out.alloc HW6.out.size _).trans (hb7.mono (by have := HW6.out.size; simp; omega))
      have HW7 := Lib.hid hw7
      clear hb7 hw7 bA6 bB6 HW6
      have p0 := bL7.c0; have p1 := bL7.c1
      go_wp2_with fail
      clear p0 p1
      refine (N7.out _).mono ?_
      rintro e w8 ⟨rfl, hb8⟩
      have bA8 := bA7.call hb8
      have bB8 := bB7.call hb8
      have bL8 := bL7.call hb8
      have hw8 : Below w.heap.size w w8 := HW7.out.trans (hb8.mono HW7.out.size)
      have HW8 := Lib.hid hw8
      clear hb8 hw8 HW7 bA7 bB7 bL7
      have p0 := bL8.c0; have p1 := bL8.c1
      go_wp2_with fail
      clear p0 p1
      refine (N8.out _).mono ?_
      rintro e w9 ⟨rfl, hb9⟩
      have bA9 := bA8.call hb9
      have bB9 := bB8.call hb9
      have bL9 := bL8.call hb9
      have hw9 : Below w.heap.size w w9 := HW8.out.trans (hb9.mono HW8.out.size)
      have HW9 := Lib.hid hw9
      clear hb9 hw9 HW8 bA8 bB8 bL8
      go_wp2_with fail
      go_meet
      exact ⟨bA9, bB9, HW9⟩
    · have d2 : decide ((2 : Int) ≤ (x : Int)) = false := by simp; omega
      go_wp2_with fail
      go_meet
      exact ⟨bA5, bB5, HW5⟩
  case rest =>
    obtain ⟨bA6, bB6, HW6⟩ := hcut
    clear bA5 bB5 bP5 HW5
    have a0 := bA6.c0; have a1 := bA6.c1; have b0 := bB6.c0; have b1 := bB6.c1
    go_wp2_with fail
    refine (M9.out _).mono ?_
    rintro e w7 ⟨rfl, hb7⟩
    have bA7 := bA6.call hb7
    have bB7 := bB6.call hb7
    have hw7 : Below w.heap.size w w7 := HW6.out.trans (hb7.mono HW6.out.size)
    have HW7 := Lib.hid hw7
    clear hb7 hw7 HW6 bA6 bB6 a0 a1 b0 b1
    go_upto_if 59 with fail
    go_cut [] (fun wx => ∃ A B, Box wx w.heap.size A ∧ Box wx (w.heap.size + 1) B ∧ (∃ rA rB UA UB : Nat, rA ≤ rB ∧ UA ≤ UB ∧ UB < M128 ∧ RootsOf A rA UA ∧ RootsOf B rB UB) ∧ Hid (Below w.heap.size w wx))
    case first =>
      have a0 := bA7.c0; have a1 := bA7.c1; have b0 := bB7.c0; have b1 := bB7.c1
      have f0 := bA7.f0; have f1 := bA7.f1; have g0 := bB7.f0; have g1 := bB7.f1
      cases q with
      | true =>
        go_wp2_with fail
        go_meet
        exact ⟨b, a, ((bA7.set b).other (by simp) _).other (by simp) _, ((bB7.other (by simp) _).other (by simp) _).set a, HAB.out, Lib.hid ((((HW7.out.setCell (by simp) _).setCell (by simp) _).setCell (by simp) _).setCell (by simp) _)⟩
      | false =>
        go_wp2_with fail
        go_meet
        exact ⟨a, b, bA7, bB7, HAB.out, HW7⟩
    case rest =>
      obtain ⟨A, B, bA8, bB8, ⟨rA, rB, UA, UB, hr, hU, hB, hA', hB'⟩, HW8⟩ := hcut
      clear bA7 bB7 HW7 HAB
      have hL := less_num UB UA hB (Nat.lt_of_le_of_lt hU hB)
      rw [show ltW UB UA = false from decide_eq_false (Nat.not_lt.2 hU)] at hL
      have HL := Lib.hid hL; have RA := Lib.hid hA'.root; have VA := Lib.hid hA'.up; have RB := Lib.hid hB'.root; have VB := Lib.hid hB'.up
      clear hL hA' hB' hU hB
      have hW8 := HW8.out
      go_upto_region 10 with fail
      have mkS : ∀ w', (Box w' w.heap.size A ∧ Box w' (w.heap.size + 1) B ∧ Below w.heap.size w w') → (fun w' => w'.cell? ⟨w.heap.size, 0, none⟩ = some (.int .u64 (hi A : Nat)) ∧ w'.cell? ⟨w.heap.size, 1, none⟩ = some (.int .u64 (lo A : Nat)) ∧ w'.cell? ⟨(w.heap.size + 1), 0, none⟩ = some (.int .u64 (hi B : Nat)) ∧ w'.cell? ⟨(w.heap.size + 1), 1, none⟩ = some (.int .u64 (lo B : Nat)) ∧ Hid (Box w' w.heap.size A ∧ Box w' (w.heap.size + 1) B ∧ Below w.heap.size w w')) w' := fun w' h => ⟨h.1.c0, h.1.c1, h.2.1.c0, h.2.1.c1, Lib.hid h⟩
      have MKS := Lib.hid mkS; clear mkS
      refine wp_region_held_drew (S := (fun w' => w'.cell? ⟨w.heap.size, 0, none⟩ = some (.int .u64 (hi A : Nat)) ∧ w'.cell? ⟨w.heap.size, 1, none⟩ = some (.int .u64 (lo A : Nat)) ∧ w'.cell? ⟨(w.heap.size + 1), 0, none⟩ = some (.int .u64 (hi B : Nat)) ∧ w'.cell? ⟨(w.heap.size + 1), 1, none⟩ = some (.int .u64 (lo B : Nat)) ∧ Hid (Box w' w.heap.size A ∧ Box w' (w.heap.size + 1) B ∧ Below w.heap.size w w'))) (by kernel_rfl) (MKS.out _ ⟨bA8.drew, bB8.drew, hW8.drew⟩) (fun hHeld => ?_)
      clear bA8 bB8 hW8 HW8
      refine regTake 0 (some 62) (v := ?_) rfl rfl (by kernel_rfl) (by kernel_rfl) (by kernel_rfl) (fun _ _ _ h => h) (by rfl) hHeld ?_ ?_
      rotate_left 1
      · (intro w hSw; (try dsimp only at hSw); go_simp; try with_reducible rfl)
      simp only [Act.put, List.setIfInBounds_toArray, List.set_cons_zero, List.set_cons_succ]
      refine regTake 2 (some 64) (v := ?_) rfl rfl (by kernel_rfl) (by kernel_rfl) (by kernel_rfl) (fun _ _ _ h => h) (by rfl) hHeld ?_ ?_
      rotate_left 1
      · (intro w hSw; (try dsimp only at hSw); go_simp; try with_reducible rfl)
      simp only [Act.put, List.setIfInBounds_toArray, List.set_cons_zero, List.set_cons_succ]
      have hK := hHeld.2.2.2.2.out
      refine regCall 1 (some 63) (f := 7) (args := ?_) rfl rfl (by kernel_rfl) (by rfl) ?_ ?_
      rotate_left 1
      · (go_simp; try with_reducible rfl)
      clear hHeld
      refine (RA.out _).mono ?_
      rintro e wx1 ⟨rfl, hbx⟩
      refine ⟨_, rfl, MKS.out _ ⟨hK.1.call hbx, hK.2.1.call hbx, hK.2.2.trans (hbx.mono hK.2.2.size)⟩, fun hHeld => ?_⟩
      clear hbx hK
      simp only [Act.put, List.setIfInBounds_toArray, List.set_cons_zero, List.set_cons_succ]
      have hK := hHeld.2.2.2.2.out
      refine regCall 3 (some 65) (f := 7) (args := ?_) rfl rfl (by kernel_rfl) (by rfl) ?_ ?_
      rotate_left 1
      · (go_simp; try with_reducible rfl)
      clear hHeld
      refine (RB.out _).mono ?_
      rintro e wx3 ⟨rfl, hbx⟩
      refine ⟨_, rfl, MKS.out _ ⟨hK.1.call hbx, hK.2.1.call hbx, hK.2.2.trans (hbx.mono hK.2.2.size)⟩, fun hHeld => ?_⟩
      clear hbx hK
      simp only [Act.put, List.setIfInBounds_toArray, List.set_cons_zero, List.set_cons_succ]
      refine regTake 4 (some 66) (v := ?_) rfl rfl (by kernel_rfl) (by kernel_rfl) (by kernel_rfl) (fun _ _ _ h => h) (by rfl) hHeld ?_ ?_
      rotate_left 1
      · (intro w hSw; (try dsimp only at hSw); go_simp; try with_reducible rfl)
      simp only [Act.put, List.setIfInBounds_toArray, List.set_cons_zero, List.set_cons_succ]
      refine regTake 5 (some 67) (v := ?_) rfl rfl (by kernel_rfl) (by kernel_rfl) (by kernel_rfl) (fun _ _ _ h => h) (by rfl) hHeld ?_ ?_
      rotate_left 1
      · (intro w hSw; (try dsimp only at hSw); go_simp; try with_reducible rfl)
      simp only [Act.put, List.setIfInBounds_toArray, List.set_cons_zero, List.set_cons_succ]
      refine regTake 6 (some 68) (v := ?_) rfl rfl (by kernel_rfl) (by kernel_rfl) (by kernel_rfl) (fun _ _ _ h => h) (by rfl) hHeld ?_ ?_
      rotate_left 1
      · (intro w hSw; (try dsimp only at hSw); go_simp; try with_reducible rfl)
      simp only [Act.put, List.setIfInBounds_toArray, List.set_cons_zero, List.set_cons_succ]
      refine regTake 8 (some 70) (v := ?_) rfl rfl (by kernel_rfl) (by kernel_rfl) (by kernel_rfl) (fun _ _ _ h => h) (by rfl) hHeld ?_ ?_
      rotate_left 1
      · (intro w hSw; (try dsimp only at hSw); go_simp; try with_reducible rfl)
      simp only [Act.put, List.setIfInBounds_toArray, List.set_cons_zero, List.set_cons_succ]
      have hK := hHeld.2.2.2.2.out
      refine regCall 7 (some 69) (f := 9) (args := ?_) rfl rfl (by kernel_rfl) (by rfl) ?_ ?_
      rotate_left 1
      · (go_simp; try with_reducible rfl)
      clear hHeld
      refine (VB.out _).mono ?_
      rintro e wx7 ⟨rfl, hbx⟩
      refine ⟨_, rfl, MKS.out _ ⟨hK.1.call hbx, hK.2.1.call hbx, hK.2.2.trans (hbx.mono hK.2.2.size)⟩, fun hHeld => ?_⟩
      clear hbx hK
      simp only [Act.put, List.setIfInBounds_toArray, List.set_cons_zero, List.set_cons_succ]
      have hK := hHeld.2.2.2.2.out
      refine regCall 9 (some 71) (f := 9) (args := ?_) rfl rfl (by kernel_rfl) (by rfl) ?_ ?_
      rotate_left 1
      · (go_simp; try with_reducible rfl)
      clear hHeld
      refine (VA.out _).mono ?_
      rintro e wx9 ⟨rfl, hbx⟩
      refine ⟨_, rfl, MKS.out _ ⟨hK.1.call hbx, hK.2.1.call hbx, hK.2.2.trans (hbx.mono hK.2.2.size)⟩, fun hHeld => ?_⟩
      clear hbx hK
      simp only [Act.put, List.setIfInBounds_toArray, List.set_cons_zero, List.set_cons_succ]
      have hK := hHeld.2.2.2.2.out
      refine regCall 10 (some 72) (f := 15) (args := ?_) rfl rfl (by kernel_rfl) (by rfl) ?_ ?_
      rotate_left 1
      · (go_simp; try with_reducible rfl)
      clear hHeld
      refine (HL.out _).mono ?_
      rintro e wx10 ⟨rfl, hbx⟩
      refine ⟨_, rfl, MKS.out _ ⟨hK.1.call hbx, hK.2.1.call hbx, hK.2.2.trans (hbx.mono hK.2.2.size)⟩, fun hHeld => ?_⟩
      clear hbx hK
      simp only [Act.put, List.setIfInBounds_toArray, List.set_cons_zero, List.set_cons_succ]
      refine regTake 11 (some 73) (v := ?_) rfl rfl (by kernel_rfl) (by kernel_rfl) (by kernel_rfl) (fun _ _ _ h => h) (by rfl) hHeld ?_ ?_
      rotate_left 1
      · (intro w hSw; (try dsimp only at hSw); go_simp; try with_reducible rfl)
      simp only [Act.put, List.setIfInBounds_toArray, List.set_cons_zero, List.set_cons_succ]
      refine regTake 12 (some 74) (v := ?_) rfl rfl (by kernel_rfl) (by kernel_rfl) (by kernel_rfl) (fun _ _ _ h => h) (by rfl) hHeld ?_ ?_
      rotate_left 1
      · (intro w hSw; (try dsimp only at hSw); go_simp; try with_reducible rfl)
      simp only [Act.put, List.setIfInBounds_toArray, List.set_cons_zero, List.set_cons_succ]
      refine regTake 13 (some 6) (v := ?_) rfl rfl (by kernel_rfl) (by kernel_rfl) (by kernel_rfl) (fun _ _ _ h => h) (by rfl) hHeld ?_ ?_
      rotate_left 1
      · (intro w hSw; (try dsimp only at hSw); go_simp; try with_reducible rfl)
      simp only [Act.put, List.setIfInBounds_toArray, List.set_cons_zero, List.set_cons_succ]
      refine wpAnyH_done (by kernel_rfl) ?_ _
      have hK := hHeld.2.2.2.2.out
      clear hHeld
      go_wp2_with fail
      go_ret
      exact ⟨rfl, hK.2.2⟩

theorem roots_of (a r : Nat) (ha : a < M128) (hr : IsRoot a r) : RootsOf a r (upOf a r) := ⟨root_num a r ha hr, up_num a r ha hr⟩
theorem up_low (a r x : Nat) (ha : a < M128) (hr : IsRoot a r) (hx : x < B64) (h : upOf a r = x) (w : World) :
    Calls Try.prog 9 #[.agg #[.int .u64 (hi a : Nat), .int .u64 (lo a : Nat)]] w fun e w' => e = .returned (.agg #[.int .u64 0, .int .u64 (x : Nat)]) ∧ Below w.heap.size w w' := by
  have h1 := up_num a r ha hr w
  rw [h, hi_low x hx, lo_low x hx] at h1
  exact h1
theorem pred_root (x : Nat) (h : 2 ≤ x) : IsRoot (x * x - 1) (x - 1) ∧ upOf (x * x - 1) (x - 1) = x := by
  obtain ⟨y, rfl⟩ : ∃ y, x = y + 1 := ⟨x - 1, by omega⟩
  have e : (y + 1) * (y + 1) = y * y + 2 * y + 1 := by rw [Nat.mul_add, Nat.add_mul]; omega
  rw [Nat.add_sub_cancel, e]
  refine ⟨⟨by omega, by rw [e]; omega⟩, ?_⟩
  unfold upOf
  rw [if_neg (by omega)]
theorem order_of (a b : Nat) (ha : a < M128) (hb : b < M128) (h : a ≤ b) : ∃ rA rB UA UB : Nat, rA ≤ rB ∧ UA ≤ UB ∧ UB < M128 ∧ RootsOf a rA UA ∧ RootsOf b rB UB := by
  obtain ⟨r, hr⟩ := IsRoot.is a
  obtain ⟨s, hs⟩ := IsRoot.is b
  exact ⟨r, s, _, _, hr.mono hs h, upOf_mono hr hs h, upOf_lt (hs.fit hb), roots_of a r ha hr, roots_of b s hb hs⟩

theorem squares_walk (x a b : Nat) (hx : x < B64) (ha : a < M128) (hb : b < M128) (w : World) :
    Calls Try.prog 5 #[.int .u64 (x : Nat), .agg #[.int .u64 (hi a : Nat), .int .u64 (lo a : Nat)], .agg #[.int .u64 (hi b : Nat), .int .u64 (lo b : Nat)]] w fun e w' => e = .returned (.bool true) ∧ Below w.heap.size w w' := by
  have hP := sq_fit hx
  have rP := IsRoot.of_sq x
  have hL : x * x - 1 < M128 := by omega
  refine squares_core x a b (x * x) (x * x - 1) (x - 1) (ltW b a) (ltW (x * x) 1) w (mul_sq x hx) (root_num _ x hP rP) (up_low _ x x hP rP hx (if_pos rfl)) ?_ ?_ (fun h => root_num _ _ hL (pred_root x h).1) (fun h => up_low _ _ x hL (pred_root x h).1 hx (pred_root x h).2) ?_ (fun h => pred_num x (by omega) hx) (less_num b a hb ha) ?_
  · intro w
    have h := square_num _ x hP rP w
    rw [decide_eq_true rfl] at h
    exact h
  · intro h w
    have h1 := sub_num (x * x) 1 hP (by decide) w
    rw [subW_fit _ _ (by have := Nat.mul_le_mul h h; omega) hP] at h1
    exact h1
  · intro h w
    have h1 := square_num _ _ hL (pred_root x h).1 w
    have ne : ¬ (x - 1) * (x - 1) = x * x - 1 := by
      have e := (pred_root x h).2
      intro c
      unfold upOf at e
      rw [if_pos c] at e
      omega
    rw [decide_eq_false ne] at h1
    exact h1
  · by_cases h : b < a
    · rw [show ltW b a = true from decide_eq_true h]
      exact order_of b a hb ha (Nat.le_of_lt h)
    · rw [show ltW b a = false from decide_eq_false h]
      exact order_of a b ha hb (Nat.le_of_not_lt h)
end Go.Proofs.Ythhdmpijgfdagaa
