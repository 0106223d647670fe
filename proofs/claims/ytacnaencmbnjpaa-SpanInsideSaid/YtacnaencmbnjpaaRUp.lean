/- datumref03.Up: as the numbers say; nothing that was in memory before is changed. -/
import Derived.Test.YtacnaencmbnjpaaRRoot
namespace Go.Proofs.Ytacnaencmbnjpaa
open Go.RowKit

theorem of_num (x : Nat) (hx : x < B64) (w : World) :
    Calls Try.prog 44 #[.int .u64 (x : Nat)] w fun e w' => e = .returned (.agg #[.int .u64 (hi x : Nat), .int .u64 (lo x : Nat)]) ∧ Below w.heap.size w w' := by
  have h := of_any x w
  rw [hi_low x hx, lo_low x hx]
  exact h
theorem of_one (w : World) :
    Calls Try.prog 44 #[.int .u64 1] w fun e w' => e = .returned (.agg #[.int .u64 0, .int .u64 1]) ∧ Below w.heap.size w w' := of_any 1 w

set_option maxHeartbeats 1000000 in
theorem rup_core (a r N U : Nat) (q o : Bool) (w : World)
    (m1 : ∀ w, Calls Try.prog 43 #[.agg #[.int .u64 (hi a : Nat), .int .u64 (lo a : Nat)]] w fun e w' => e = .returned (.int .u64 (r : Nat)) ∧ Below w.heap.size w w')
    (m2 : ∀ w, Calls Try.prog 44 #[.int .u64 (r : Nat)] w fun e w' => e = .returned (.agg #[.int .u64 (hi r : Nat), .int .u64 (lo r : Nat)]) ∧ Below w.heap.size w w')
    (m3 : ∀ w, Calls Try.prog 67 #[.agg #[.int .u64 (hi a : Nat), .int .u64 (lo a : Nat)]] w fun e w' => e = .returned (.bool q) ∧ Below w.heap.size w w')
    (m4 : ∀ w, Calls Try.prog 44 #[.int .u64 1] w fun e w' => e = .returned (.agg #[.int .u64 0, .int .u64 1]) ∧ Below w.heap.size w w')
    (m5 : ∀ w, Calls Try.prog 68 #[.agg #[.int .u64 (hi r : Nat), .int .u64 (lo r : Nat)], .agg #[.int .u64 0, .int .u64 1]] w fun e w' => e = .returned (.tuple #[.agg #[.int .u64 (hi N : Nat), .int .u64 (lo N : Nat)], .bool o]) ∧ Below w.heap.size w w')
    (hU : U = if q = true then r else N) :
    Calls Try.prog 45 #[.agg #[.int .u64 (hi a : Nat), .int .u64 (lo a : Nat)]] w fun e w' => e = .returned (.agg #[.int .u64 (hi U : Nat), .int .u64 (lo U : Nat)]) ∧ Below w.heap.size w w' := by
  have M1 := Lib.hid m1; have M2 := Lib.hid m2; have M3 := Lib.hid m3; have M4 := Lib.hid m4; have M5 := Lib.hid m5; have HU := Lib.hid hU
  clear m1 m2 m3 m4 m5 hU
  go_enter Try.func45, Try.ntmps45
  go_wp2_with fail
  refine (M1.out _).mono ?_
  rintro e w1 ⟨rfl, hb1⟩
  have bA1 : Box w1 w.heap.size a := ((Box.new _ _ _).alloc _).call hb1
  have bR1 : Box w1 (w.heap.size + 1) 0 := (Box.new0At (by simp)).call hb1
  have hw1 : Below w.heap.size w w1 := (((Below.refl _ _).alloc (Nat.le_refl _) _).alloc (by simp) _).trans (hb1.mono (by simp; omega))
  have HW1 := Lib.hid hw1
  clear hb1 hw1
  go_wp2_with fail
  refine (M2.out _).mono ?_
  rintro e w2 ⟨rfl, hb2⟩
  have bA2 := (bA1.call hb2).alloc (.cells #[.int .u64 (hi r : Nat), .int .u64 (lo r : Nat)] 55)
  have bR2 := (bR1.call hb2).alloc (.cells #[.int .u64 (hi r : Nat), .int .u64 (lo r : Nat)] 55)
  have hw2 := HW1.out.trans (hb2.mono HW1.out.size)
  have HW2 := Lib.hid (hw2.alloc hw2.size (.cells #[.int .u64 (hi r : Nat), .int .u64 (lo r : Nat)] 55))
  have a0 := (bA1.call hb2).c0; have a1 := (bA1.call hb2).c1; have z2 := (bA1.call hb2).lt; have zr := (bR1.call hb2).lt
  clear hb2 hw2 bA1 bR1 HW1
  go_wp2_with fail
  refine (M3.out _).mono ?_
  rintro e w3 ⟨rfl, hb3⟩
  have bR3 := bR2.call hb3
  have bX3 : Box w3 w2.heap.size r := (Box.new _ _ _).call hb3
  have HW3 := Lib.hid (HW2.out.trans (hb3.mono HW2.out.size))
  have n0 : w2.heap.size ≠ (w.heap.size + 1) := Ne.symm (Nat.ne_of_lt zr)
  clear hb3 bA2 bR2 HW2 a0 a1
  cases q with
  | true =>
    obtain rfl : U = r := by have := HU.out; simpa using this
    have r0 := bR3.c0; have r1 := bR3.c1; have f0 := bR3.f0; have f1 := bR3.f1
    have x0 := bX3.c0; have x1 := bX3.c1
    go_wp2_with fail
    have u4 := bR3.set U
    have v0 := u4.c0; have v1 := u4.c1
    refine bodyPost_ret (v := .agg #[.int .u64 (hi U : Nat), .int .u64 (lo U : Nat)]) (by simp [results, Try.results45, go_sem, v0, v1]) rfl ⟨rfl, ?_⟩
    exact (HW3.out.setCell (by simp) _).setCell (by simp) _
  | false =>
    obtain rfl : U = N := by have := HU.out; simpa using this
    clear HU
    have hW3 := HW3.out
    go_upto_region 4 with fail
    go_cut [4] (fun s4 wx => ∃ g : Nat, s4 = .pointer (some ⟨g, 0, none⟩) ∧ Box wx (w.heap.size + 1) 0 ∧ Box wx g U ∧ g ≠ (w.heap.size + 1) ∧ Hid (Below w.heap.size w wx))
    case first =>
      have mkS : ∀ w', (Box w' (w.heap.size + 1) 0 ∧ Box w' w2.heap.size r ∧ Below w.heap.size w w') → (fun w' => w'.cell? ⟨w2.heap.size, 0, none⟩ = some (.int .u64 (hi r : Nat)) ∧ w'.cell? ⟨w2.heap.size, 1, none⟩ = some (.int .u64 (lo r : Nat)) ∧ Hid (Box w' (w.heap.size + 1) 0 ∧ Box w' w2.heap.size r ∧ Below w.heap.size w w')) w' := fun w' h => ⟨h.2.1.c0, h.2.1.c1, Lib.hid h⟩
      have MKS := Lib.hid mkS; clear mkS
      refine wp_region_held_drew (S := (fun w' => w'.cell? ⟨w2.heap.size, 0, none⟩ = some (.int .u64 (hi r : Nat)) ∧ w'.cell? ⟨w2.heap.size, 1, none⟩ = some (.int .u64 (lo r : Nat)) ∧ Hid (Box w' (w.heap.size + 1) 0 ∧ Box w' w2.heap.size r ∧ Below w.heap.size w w'))) (by kernel_rfl) (MKS.out _ ⟨bR3.drew, bX3.drew, hW3.drew⟩) (fun hHeld => ?_)
      clear bR3 bX3 hW3 HW3
      refine regTake 0 (some 13) (v := ?_) rfl rfl (by kernel_rfl) (by kernel_rfl) (by kernel_rfl) (fun _ _ _ h => h) (by rfl) hHeld ?_ ?_
      rotate_left 1
      · (intro w hSw; (try dsimp only at hSw); go_simp; try with_reducible rfl)
      simp only [Act.put, List.setIfInBounds_toArray, List.set_cons_zero, List.set_cons_succ]
      refine regTwo 1 6 (by kernel_rfl) ?_ ?_
      · have hK := hHeld.2.2.out
        refine stepCall 1 (some 14) (f := 44) (args := ?_) rfl rfl (by rfl) ?_ ?_
        rotate_left 1
        · (go_simp; try with_reducible rfl)
        clear hHeld
        refine (M4.out _).mono ?_
        rintro e wx1 ⟨rfl, hbx⟩
        refine ⟨_, rfl, MKS.out _ ⟨hK.1.call hbx, hK.2.1.call hbx, hK.2.2.trans (hbx.mono hK.2.2.size)⟩, fun hHeld => ?_⟩
        clear hbx hK
        simp only [Act.put, List.setIfInBounds_toArray, List.set_cons_zero, List.set_cons_succ]
        refine regTwo 2 6 (by kernel_rfl) ?_ ?_
        · have hK := hHeld.2.2.out
          refine stepCall 2 (some 15) (f := 68) (args := ?_) rfl rfl (by rfl) ?_ ?_
          rotate_left 1
          · (go_simp; try with_reducible rfl)
          clear hHeld
          refine (M5.out _).mono ?_
          rintro e wx2 ⟨rfl, hbx⟩
          refine ⟨_, rfl, MKS.out _ ⟨hK.1.call hbx, hK.2.1.call hbx, hK.2.2.trans (hbx.mono hK.2.2.size)⟩, fun hHeld => ?_⟩
          clear hbx hK
          simp only [Act.put, List.setIfInBounds_toArray, List.set_cons_zero, List.set_cons_succ]
          refine regTake 3 (some 12) (v := ?_) rfl rfl (by kernel_rfl) (by kernel_rfl) (by kernel_rfl) (fun _ _ _ h => h) (by rfl) hHeld ?_ ?_
          rotate_left 1
          · (intro w hSw; (try dsimp only at hSw); go_simp; try with_reducible rfl)
          simp only [Act.put, List.setIfInBounds_toArray, List.set_cons_zero, List.set_cons_succ]
          refine regTake 4 (some 16) (v := ?_) rfl rfl (by kernel_rfl) (by kernel_rfl) (by kernel_rfl) (fun _ _ _ h => h) (by rfl) hHeld ?_ ?_
          rotate_left 1
          · (intro w hSw; (try dsimp only at hSw); go_simp; try with_reducible rfl)
          simp only [Act.put, List.setIfInBounds_toArray, List.set_cons_zero, List.set_cons_succ]
          refine regTake 5 (some 17) (v := ?_) rfl rfl (by kernel_rfl) (by kernel_rfl) (by kernel_rfl) (fun _ _ _ h => h) (by rfl) hHeld ?_ ?_
          rotate_left 1
          · (intro w hSw; (try dsimp only at hSw); go_simp; try with_reducible rfl)
          simp only [Act.put, List.setIfInBounds_toArray, List.set_cons_zero, List.set_cons_succ]
          have hK := hHeld.2.2.out
          have nz6_0 : (w.heap.size + 1) ≠ wx2.heap.size := Nat.ne_of_lt hK.1.lt
          have nz6_1 : w2.heap.size ≠ wx2.heap.size := Nat.ne_of_lt hK.2.1.lt
          have lz6 : w.heap.size ≤ wx2.heap.size := hK.2.2.size
          refine regDo 6 (some 4) (v := ?_) (w' := ?_) rfl rfl (by kernel_rfl) (by rfl) ?_ ?_ (fun hHeld => ?_)
          rotate_left 2
          · (go_simp; refine ⟨?_, ?_⟩ <;> with_reducible rfl)
          · exact MKS.out _ ⟨hK.1.alloc _, hK.2.1.alloc _, hK.2.2.alloc hK.2.2.size _⟩
          clear hK
          simp only [Act.put, List.setIfInBounds_toArray, List.set_cons_zero, List.set_cons_succ]
          have own6 : Box (wx2.alloc (.cells #[.int .u64 0, .int .u64 0] 55)) wx2.heap.size 0 := Box.new0At rfl
          have hK := hHeld.2.2.out
          refine regStore 7 (w' := ?_) rfl rfl (by kernel_rfl) (by rfl) ?_ ?_ (fun hHeld => ?_)
          rotate_left 1
          · (go_simp; try with_reducible rfl)
          · exact MKS.out _ ⟨hK.1.swap _ nz6_0, hK.2.1.swap _ nz6_1, Below.swap _ hK.2.2 lz6⟩
          clear hK
          have own6 : Box (wx2.alloc (.cells #[.int .u64 (hi U : Nat), .int .u64 (lo U : Nat)] 55)) wx2.heap.size U := Box.newAt rfl
          refine regTake 8 (some 5) (v := ?_) rfl rfl (by kernel_rfl) (by kernel_rfl) (by kernel_rfl) (fun _ _ _ h => h) (by rfl) hHeld ?_ ?_
          rotate_left 1
          · (intro w hSw; (try dsimp only at hSw); go_simp; try with_reducible rfl)
          simp only [Act.put, List.setIfInBounds_toArray, List.set_cons_zero, List.set_cons_succ]
          refine wpAnyH_done (by kernel_rfl) ?_ _
          have hK := hHeld.2.2.out
          clear hHeld
          go_wp2_with fail
          go_meet
          exact ⟨_, rfl, hK.1, own6, Ne.symm nz6_0, Lib.hid hK.2.2⟩
        · have hK := hHeld.2.2.out
          have nz6_0 : (w.heap.size + 1) ≠ wx1.heap.size := Nat.ne_of_lt hK.1.lt
          have nz6_1 : w2.heap.size ≠ wx1.heap.size := Nat.ne_of_lt hK.2.1.lt
          have lz6 : w.heap.size ≤ wx1.heap.size := hK.2.2.size
          refine stepDo 6 (some 4) (v := ?_) (w' := ?_) rfl rfl (by rfl) ?_ ?_ (fun hHeld => ?_)
          rotate_left 2
          · (go_simp; refine ⟨?_, ?_⟩ <;> with_reducible rfl)
          · exact MKS.out _ ⟨hK.1.alloc _, hK.2.1.alloc _, hK.2.2.alloc hK.2.2.size _⟩
          clear hK
          simp only [Act.put, List.setIfInBounds_toArray, List.set_cons_zero, List.set_cons_succ]
          have own6 : Box (wx1.alloc (.cells #[.int .u64 0, .int .u64 0] 55)) wx1.heap.size 0 := Box.new0At rfl
          have hK := hHeld.2.2.out
          refine regCall 2 (some 15) (f := 68) (args := ?_) rfl rfl (by kernel_rfl) (by rfl) ?_ ?_
          rotate_left 1
          · (go_simp; try with_reducible rfl)
          clear hHeld
          refine (M5.out _).mono ?_
          rintro e wx2 ⟨rfl, hbx⟩
          have own6 := own6.call hbx
          refine ⟨_, rfl, MKS.out _ ⟨hK.1.call hbx, hK.2.1.call hbx, hK.2.2.trans (hbx.mono hK.2.2.size)⟩, fun hHeld => ?_⟩
          clear hbx hK
          simp only [Act.put, List.setIfInBounds_toArray, List.set_cons_zero, List.set_cons_succ]
          refine regTake 3 (some 12) (v := ?_) rfl rfl (by kernel_rfl) (by kernel_rfl) (by kernel_rfl) (fun _ _ _ h => h) (by rfl) hHeld ?_ ?_
          rotate_left 1
          · (intro w hSw; (try dsimp only at hSw); go_simp; try with_reducible rfl)
          simp only [Act.put, List.setIfInBounds_toArray, List.set_cons_zero, List.set_cons_succ]
          refine regTake 4 (some 16) (v := ?_) rfl rfl (by kernel_rfl) (by kernel_rfl) (by kernel_rfl) (fun _ _ _ h => h) (by rfl) hHeld ?_ ?_
          rotate_left 1
          · (intro w hSw; (try dsimp only at hSw); go_simp; try with_reducible rfl)
          simp only [Act.put, List.setIfInBounds_toArray, List.set_cons_zero, List.set_cons_succ]
          refine regTake 5 (some 17) (v := ?_) rfl rfl (by kernel_rfl) (by kernel_rfl) (by kernel_rfl) (fun _ _ _ h => h) (by rfl) hHeld ?_ ?_
          rotate_left 1
          · (intro w hSw; (try dsimp only at hSw); go_simp; try with_reducible rfl)
          simp only [Act.put, List.setIfInBounds_toArray, List.set_cons_zero, List.set_cons_succ]
          have hK := hHeld.2.2.out
          have x0 := own6.c0; have x1 := own6.c1; have x2 := own6.f0; have x3 := own6.f1
          refine regStore 7 (w' := ?_) rfl rfl (by kernel_rfl) (by rfl) ?_ ?_ (fun hHeld => ?_)
          rotate_left 1
          · (go_simp; try with_reducible rfl)
          · exact MKS.out _ ⟨(hK.1.other (p := ⟨wx1.heap.size, 0, none⟩) nz6_0 _).other (p := ⟨wx1.heap.size, 1, none⟩) nz6_0 _, (hK.2.1.other (p := ⟨wx1.heap.size, 0, none⟩) nz6_1 _).other (p := ⟨wx1.heap.size, 1, none⟩) nz6_1 _, (hK.2.2.setCell (p := ⟨wx1.heap.size, 0, none⟩) lz6 _).setCell (p := ⟨wx1.heap.size, 1, none⟩) lz6 _⟩
          clear x0 x1 x2 x3 hK
          have own6 := own6.set U
          refine regTake 8 (some 5) (v := ?_) rfl rfl (by kernel_rfl) (by kernel_rfl) (by kernel_rfl) (fun _ _ _ h => h) (by rfl) hHeld ?_ ?_
          rotate_left 1
          · (intro w hSw; (try dsimp only at hSw); go_simp; try with_reducible rfl)
          simp only [Act.put, List.setIfInBounds_toArray, List.set_cons_zero, List.set_cons_succ]
          refine wpAnyH_done (by kernel_rfl) ?_ _
          have hK := hHeld.2.2.out
          clear hHeld
          go_wp2_with fail
          go_meet
          exact ⟨_, rfl, hK.1, own6, Ne.symm nz6_0, Lib.hid hK.2.2⟩
      · have hK := hHeld.2.2.out
        have nz6_0 : (w.heap.size + 1) ≠ w3.drew.heap.size := Nat.ne_of_lt hK.1.lt
        have nz6_1 : w2.heap.size ≠ w3.drew.heap.size := Nat.ne_of_lt hK.2.1.lt
        have lz6 : w.heap.size ≤ w3.drew.heap.size := hK.2.2.size
        refine stepDo 6 (some 4) (v := ?_) (w' := ?_) rfl rfl (by rfl) ?_ ?_ (fun hHeld => ?_)
        rotate_left 2
        · (go_simp; refine ⟨?_, ?_⟩ <;> with_reducible rfl)
        · exact MKS.out _ ⟨hK.1.alloc _, hK.2.1.alloc _, hK.2.2.alloc hK.2.2.size _⟩
        clear hK
        simp only [Act.put, List.setIfInBounds_toArray, List.set_cons_zero, List.set_cons_succ]
        have own6 : Box (w3.drew.alloc (.cells #[.int .u64 0, .int .u64 0] 55)) w3.heap.size 0 := Box.new0At rfl
        have hK := hHeld.2.2.out
        refine regCall 1 (some 14) (f := 44) (args := ?_) rfl rfl (by kernel_rfl) (by rfl) ?_ ?_
        rotate_left 1
        · (go_simp; try with_reducible rfl)
        clear hHeld
        refine (M4.out _).mono ?_
        rintro e wx1 ⟨rfl, hbx⟩
        have own6 := own6.call hbx
        refine ⟨_, rfl, MKS.out _ ⟨hK.1.call hbx, hK.2.1.call hbx, hK.2.2.trans (hbx.mono hK.2.2.size)⟩, fun hHeld => ?_⟩
        clear hbx hK
        simp only [Act.put, List.setIfInBounds_toArray, List.set_cons_zero, List.set_cons_succ]
        have hK := hHeld.2.2.out
        refine regCall 2 (some 15) (f := 68) (args := ?_) rfl rfl (by kernel_rfl) (by rfl) ?_ ?_
        rotate_left 1
        · (go_simp; try with_reducible rfl)
        clear hHeld
        refine (M5.out _).mono ?_
        rintro e wx2 ⟨rfl, hbx⟩
        have own6 := own6.call hbx
        refine ⟨_, rfl, MKS.out _ ⟨hK.1.call hbx, hK.2.1.call hbx, hK.2.2.trans (hbx.mono hK.2.2.size)⟩, fun hHeld => ?_⟩
        clear hbx hK
        simp only [Act.put, List.setIfInBounds_toArray, List.set_cons_zero, List.set_cons_succ]
        refine regTake 3 (some 12) (v := ?_) rfl rfl (by kernel_rfl) (by kernel_rfl) (by kernel_rfl) (fun _ _ _ h => h) (by rfl) hHeld ?_ ?_
        rotate_left 1
        · (intro w hSw; (try dsimp only at hSw); go_simp; try with_reducible rfl)
        simp only [Act.put, List.setIfInBounds_toArray, List.set_cons_zero, List.set_cons_succ]
        refine regTake 4 (some 16) (v := ?_) rfl rfl (by kernel_rfl) (by kernel_rfl) (by kernel_rfl) (fun _ _ _ h => h) (by rfl) hHeld ?_ ?_
        rotate_left 1
        · (intro w hSw; (try dsimp only at hSw); go_simp; try with_reducible rfl)
        simp only [Act.put, List.setIfInBounds_toArray, List.set_cons_zero, List.set_cons_succ]
        refine regTake 5 (some 17) (v := ?_) rfl rfl (by kernel_rfl) (by kernel_rfl) (by kernel_rfl) (fun _ _ _ h => h) (by rfl) hHeld ?_ ?_
        rotate_left 1
        · (intro w hSw; (try dsimp only at hSw); go_simp; try with_reducible rfl)
        simp only [Act.put, List.setIfInBounds_toArray, List.set_cons_zero, List.set_cons_succ]
        have hK := hHeld.2.2.out
        have x0 := own6.c0; have x1 := own6.c1; have x2 := own6.f0; have x3 := own6.f1
        refine regStore 7 (w' := ?_) rfl rfl (by kernel_rfl) (by rfl) ?_ ?_ (fun hHeld => ?_)
        rotate_left 1
        · (go_simp; try with_reducible rfl)
        · exact MKS.out _ ⟨(hK.1.other (p := ⟨w3.heap.size, 0, none⟩) nz6_0 _).other (p := ⟨w3.heap.size, 1, none⟩) nz6_0 _, (hK.2.1.other (p := ⟨w3.heap.size, 0, none⟩) nz6_1 _).other (p := ⟨w3.heap.size, 1, none⟩) nz6_1 _, (hK.2.2.setCell (p := ⟨w3.heap.size, 0, none⟩) lz6 _).setCell (p := ⟨w3.heap.size, 1, none⟩) lz6 _⟩
        clear x0 x1 x2 x3 hK
        have own6 := own6.set U
        refine regTake 8 (some 5) (v := ?_) rfl rfl (by kernel_rfl) (by kernel_rfl) (by kernel_rfl) (fun _ _ _ h => h) (by rfl) hHeld ?_ ?_
        rotate_left 1
        · (intro w hSw; (try dsimp only at hSw); go_simp; try with_reducible rfl)
        simp only [Act.put, List.setIfInBounds_toArray, List.set_cons_zero, List.set_cons_succ]
        refine wpAnyH_done (by kernel_rfl) ?_ _
        have hK := hHeld.2.2.out
        clear hHeld
        go_wp2_with fail
        go_meet
        exact ⟨_, rfl, hK.1, own6, Ne.symm nz6_0, Lib.hid hK.2.2⟩
    case rest =>
      obtain ⟨g, rfl, bR, bG, ng, HW⟩ := hcut
      clear bR3 bX3 hW3 HW3
      have r0 := bR.c0; have r1 := bR.c1; have f0 := bR.f0; have f1 := bR.f1
      have x0 := bG.c0; have x1 := bG.c1
      go_wp2_with fail
      have u4 := bR.set U
      have v0 := u4.c0; have v1 := u4.c1
      refine bodyPost_ret (v := .agg #[.int .u64 (hi U : Nat), .int .u64 (lo U : Nat)]) (by simp [results, Try.results45, go_sem, v0, v1]) rfl ⟨rfl, ?_⟩
      exact (HW.out.setCell (by simp) _).setCell (by simp) _
theorem rup_num (a r : Nat) (ha : a < M128) (hr : IsRoot a r) (w : World) :
    Calls Try.prog 45 #[.agg #[.int .u64 (hi a : Nat), .int .u64 (lo a : Nat)]] w fun e w' => e = .returned (.agg #[.int .u64 (hi (upOf a r) : Nat), .int .u64 (lo (upOf a r) : Nat)]) ∧ Below w.heap.size w w' := by
  have hf := hr.fit ha
  refine rup_core a r (r + 1) _ _ false w (rroot_num a r ha hr) (of_num r hf) (rsquare_num a r ha hr) of_one ?_ (by simp [upOf])
  intro w
  have h := radd_one r hf w
  rw [hi_low r hf, lo_low r hf]
  exact h
end Go.Proofs.Ytacnaencmbnjpaa
