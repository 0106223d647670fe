/- WideTimes: products of two words and of two wide numbers are as the document says. For every two wide numbers the law answers true. -/
import Derived.Test.YtnmidnoemfdnfaaAlive1
import Derived.Test.YtnmidnoemfdnfaaWTimes
import Derived.Test.YtnmidnoemfdnfaaRTimes
import Derived.Test.YtnmidnoemfdnfaaReg2
namespace Go.Proofs.Ytnmidnoemfdnfaa
open Go.RowKit

theorem of_any (x : Int) (w : World) :
    Calls Try.prog 17 #[.int .u64 x] w fun e w' => e = .returned (.agg #[.int .u64 0, .int .u64 x]) ∧ w.alloc (.cells #[.int .u64 0, .int .u64 x] 24) = w' := by
  go_enter Try.func17, Try.ntmps17
  go_wp2
  exact bodyPost_ret (v := .agg #[.int .u64 0, .int .u64 x]) (by simp [results, Try.results17, go_sem]) rfl ⟨rfl, rfl⟩

set_option maxHeartbeats 8000000 in
theorem wtimes_core (ah al bh bl ph pl mh ml : Nat) (o o3 : Bool) (w : World)
    (m1 : ∀ w, Calls Try.prog 15 #[.agg #[.int .u64 (ah : Nat), .int .u64 (al : Nat)], .agg #[.int .u64 (bh : Nat), .int .u64 (bl : Nat)]] w fun e w' => e = .returned (.tuple #[.agg #[.int .u64 (ph : Nat), .int .u64 (pl : Nat)], .bool o]) ∧ Below w.heap.size w w')
    (m2 : ∀ w, Calls Try.prog 16 #[.agg #[.int .u64 (ah : Nat), .int .u64 (al : Nat)], .agg #[.int .u64 (bh : Nat), .int .u64 (bl : Nat)]] w fun e w' => e = .returned (.tuple #[.agg #[.int .u64 (ph : Nat), .int .u64 (pl : Nat)], .bool o]) ∧ Below w.heap.size w w')
    (m3 : ∀ w, Calls Try.prog 16 #[.agg #[.int .u64 0, .int .u64 (al : Nat)], .agg #[.int .u64 0, .int .u64 (bl : Nat)]] w fun e w' => e = .returned (.tuple #[.agg #[.int .u64 (mh : Nat), .int .u64 (ml : Nat)], .bool o3]) ∧ Below w.heap.size w w')
    (m4 : ∀ w, Calls Try.prog 18 #[.int .u64 (al : Nat), .int .u64 (bl : Nat)] w fun e w' => e = .returned (.agg #[.int .u64 (mh : Nat), .int .u64 (ml : Nat)]) ∧ Below w.heap.size w w') :
    Calls Try.prog 4 #[.agg #[.int .u64 (ah : Nat), .int .u64 (al : Nat)], .agg #[.int .u64 (bh : Nat), .int .u64 (bl : Nat)]] w fun e w' => e = .returned (.bool true) ∧ Below w.heap.size w w' := by
  have M1 := Lib.hid m1; clear m1
  have M2 := Lib.hid m2; clear m2
  have M3 := Lib.hid m3; clear m3
  have M4 := Lib.hid m4; clear m4
  go_enter Try.func4, Try.ntmps4
  go_wp2_with fail
  refine (M1.out _).mono ?_
  rintro e w1 ⟨rfl, hb1⟩
  have A1 := keep2 (b := w.heap.size) (x := .int .u64 ah) (y := .int .u64 al) hb1 (by first | omega | (simp; done) | (simp; omega)) (by simp [go_sem, *])
  have B1 := keep2 (b := w.heap.size + 1) (x := .int .u64 bh) (y := .int .u64 bl) hb1 (by first | omega | (simp; done) | (simp; omega)) (by simp [go_sem, *])
  have L1 : Below w.heap.size w w1 := (((Below.refl _ _).alloc (Nat.le_refl _) _).alloc (by simp) _).trans (hb1.mono (by first | omega | (simp; omega)))
  clear hb1
  go_wp2_with fail
  refine (M2.out _).mono ?_
  rintro e w2 ⟨rfl, hb2⟩
  have A2 := keep2 (b := w.heap.size) (x := .int .u64 ah) (y := .int .u64 al) hb2 (by first | omega | (simp; done) | (simp; omega)) (by simp [go_sem, *])
  have B2 := keep2 (b := w.heap.size + 1) (x := .int .u64 bh) (y := .int .u64 bl) hb2 (by first | omega | (simp; done) | (simp; omega)) (by simp [go_sem, *])
  have PP2 := keep2 (b := w1.heap.size) (x := .int .u64 ph) (y := .int .u64 pl) hb2 (by first | omega | (simp; done) | (simp; omega)) (by simp [go_sem, *])
  have L2 : Below w.heap.size w w2 := (L1.alloc (by omega) _).trans (hb2.mono (by first | omega | (simp; omega)))
  clear hb2 L1 A1 B1
  go_wp2_with fail
  go_cut [9] (fun s9 wx => ∃ z : Nat, s9 = .pointer (some ⟨z, 0, none⟩) ∧ (z < wx.heap.size ∧ wx.cell? ⟨z, 0, none⟩ = some (.int .u64 mh) ∧ wx.cell? ⟨z, 1, none⟩ = some (.int .u64 ml)) ∧ (w.heap.size < wx.heap.size ∧ wx.cell? ⟨w.heap.size, 0, none⟩ = some (.int .u64 ah) ∧ wx.cell? ⟨w.heap.size, 1, none⟩ = some (.int .u64 al)) ∧ (w.heap.size + 1 < wx.heap.size ∧ wx.cell? ⟨w.heap.size + 1, 0, none⟩ = some (.int .u64 bh) ∧ wx.cell? ⟨w.heap.size + 1, 1, none⟩ = some (.int .u64 bl)) ∧ (w1.heap.size < wx.heap.size ∧ wx.cell? ⟨w1.heap.size, 0, none⟩ = some (.int .u64 ph) ∧ wx.cell? ⟨w1.heap.size, 1, none⟩ = some (.int .u64 pl)) ∧ (w2.heap.size < wx.heap.size ∧ wx.cell? ⟨w2.heap.size, 0, none⟩ = some (.int .u64 ph) ∧ wx.cell? ⟨w2.heap.size, 1, none⟩ = some (.int .u64 pl)) ∧ Hid (Below w.heap.size w wx))
  case first =>
    refine wp_region_held_drew (S := (fun w' => (w.heap.size < w'.heap.size ∧ w'.cell? ⟨w.heap.size, 0, none⟩ = some (.int .u64 ah) ∧ w'.cell? ⟨w.heap.size, 1, none⟩ = some (.int .u64 al)) ∧ (w.heap.size + 1 < w'.heap.size ∧ w'.cell? ⟨w.heap.size + 1, 0, none⟩ = some (.int .u64 bh) ∧ w'.cell? ⟨w.heap.size + 1, 1, none⟩ = some (.int .u64 bl)) ∧ (w1.heap.size < w'.heap.size ∧ w'.cell? ⟨w1.heap.size, 0, none⟩ = some (.int .u64 ph) ∧ w'.cell? ⟨w1.heap.size, 1, none⟩ = some (.int .u64 pl)) ∧ (w2.heap.size < w'.heap.size ∧ w'.cell? ⟨w2.heap.size, 0, none⟩ = some (.int .u64 ph) ∧ w'.cell? ⟨w2.heap.size, 1, none⟩ = some (.int .u64 pl)) ∧ Hid (Below w.heap.size w w'))) (by kernel_rfl) ⟨by simp [go_sem, *], by simp [go_sem, *], by simp [go_sem, *], by simp [go_sem], Lib.hid (L2.alloc (by omega) _).drew⟩ (fun hHeld => ?_)
    have s0 := A2.1; have s1 := B2.1; have s2 := PP2.1
    clear A2 B2 PP2 L2
    refine regTake 0 (some 24) (v := ?_) rfl rfl (by kernel_rfl) (by kernel_rfl) (by kernel_rfl) (fun _ _ _ h => h) (by rfl) hHeld ?_ ?_
    rotate_left 1
    · (intro w hSw; (try dsimp only at hSw); go_simp; try with_reducible rfl)
    simp only [Act.put, List.setIfInBounds_toArray, List.set_cons_zero, List.set_cons_succ]
    refine regTake 1 (some 25) (v := ?_) rfl rfl (by kernel_rfl) (by kernel_rfl) (by kernel_rfl) (fun _ _ _ h => h) (by rfl) hHeld ?_ ?_
    rotate_left 1
    · (intro w hSw; (try dsimp only at hSw); go_simp; try with_reducible rfl)
    simp only [Act.put, List.setIfInBounds_toArray, List.set_cons_zero, List.set_cons_succ]
    refine regTake 3 (some 27) (v := ?_) rfl rfl (by kernel_rfl) (by kernel_rfl) (by kernel_rfl) (fun _ _ _ h => h) (by rfl) hHeld ?_ ?_
    rotate_left 1
    · (intro w hSw; (try dsimp only at hSw); go_simp; try with_reducible rfl)
    simp only [Act.put, List.setIfInBounds_toArray, List.set_cons_zero, List.set_cons_succ]
    refine regTake 4 (some 28) (v := ?_) rfl rfl (by kernel_rfl) (by kernel_rfl) (by kernel_rfl) (fun _ _ _ h => h) (by rfl) hHeld ?_ ?_
    rotate_left 1
    · (intro w hSw; (try dsimp only at hSw); go_simp; try with_reducible rfl)
    simp only [Act.put, List.setIfInBounds_toArray, List.set_cons_zero, List.set_cons_succ]
    refine regTwo 2 10 (by kernel_rfl) ?_ ?_
    · refine stepCall 2 (some 26) (f := 17) (args := ?_) rfl rfl (by rfl) ?_ ?_
      rotate_left 1
      · (go_simp; try with_reducible rfl)
      refine (of_any _ _).mono ?_
      rintro e wx2 ⟨rfl, rfl⟩
      refine ⟨_, rfl, ⟨keep2 (Below.alloc (Below.refl _ _) (Nat.le_refl _) _) hHeld.1.1 hHeld.1.2, keep2 (Below.alloc (Below.refl _ _) (Nat.le_refl _) _) hHeld.2.1.1 hHeld.2.1.2, keep2 (Below.alloc (Below.refl _ _) (Nat.le_refl _) _) hHeld.2.2.1.1 hHeld.2.2.1.2, keep2 (Below.alloc (Below.refl _ _) (Nat.le_refl _) _) hHeld.2.2.2.1.1 hHeld.2.2.2.1.2, Lib.hid (hHeld.2.2.2.2.out.trans ((Below.alloc (Below.refl _ _) (Nat.le_refl _) _).mono (Nat.le_of_lt hHeld.1.1)))⟩, fun hHeld => ?_⟩
      simp only [Act.put, List.setIfInBounds_toArray, List.set_cons_zero, List.set_cons_succ]
      refine regTwo 5 10 (by kernel_rfl) ?_ ?_
      · refine stepCall 5 (some 29) (f := 17) (args := ?_) rfl rfl (by rfl) ?_ ?_
        rotate_left 1
        · (go_simp; try with_reducible rfl)
        refine (of_any _ _).mono ?_
        rintro e wx5 ⟨rfl, rfl⟩
        refine ⟨_, rfl, ⟨keep2 (Below.alloc (Below.refl _ _) (Nat.le_refl _) _) hHeld.1.1 hHeld.1.2, keep2 (Below.alloc (Below.refl _ _) (Nat.le_refl _) _) hHeld.2.1.1 hHeld.2.1.2, keep2 (Below.alloc (Below.refl _ _) (Nat.le_refl _) _) hHeld.2.2.1.1 hHeld.2.2.1.2, keep2 (Below.alloc (Below.refl _ _) (Nat.le_refl _) _) hHeld.2.2.2.1.1 hHeld.2.2.2.1.2, Lib.hid (hHeld.2.2.2.2.out.trans ((Below.alloc (Below.refl _ _) (Nat.le_refl _) _).mono (Nat.le_of_lt hHeld.1.1)))⟩, fun hHeld => ?_⟩
        simp only [Act.put, List.setIfInBounds_toArray, List.set_cons_zero, List.set_cons_succ]
        refine regTwo 6 10 (by kernel_rfl) ?_ ?_
        · refine stepCall 6 (some 30) (f := 16) (args := ?_) rfl rfl (by rfl) ?_ ?_
          rotate_left 1
          · (go_simp; try with_reducible rfl)
          refine (M3.out _).mono ?_
          rintro e wx6 ⟨rfl, hbx⟩
          refine ⟨_, rfl, ⟨keep2 hbx hHeld.1.1 hHeld.1.2, keep2 hbx hHeld.2.1.1 hHeld.2.1.2, keep2 hbx hHeld.2.2.1.1 hHeld.2.2.1.2, keep2 hbx hHeld.2.2.2.1.1 hHeld.2.2.2.1.2, Lib.hid (hHeld.2.2.2.2.out.trans (hbx.mono (Nat.le_of_lt hHeld.1.1)))⟩, fun hHeld => ?_⟩
          simp only [Act.put, List.setIfInBounds_toArray, List.set_cons_zero, List.set_cons_succ]
          refine regTake 7 (some 23) (v := ?_) rfl rfl (by kernel_rfl) (by kernel_rfl) (by kernel_rfl) (fun _ _ _ h => h) (by rfl) hHeld ?_ ?_
          rotate_left 1
          · (intro w hSw; (try dsimp only at hSw); go_simp; try with_reducible rfl)
          simp only [Act.put, List.setIfInBounds_toArray, List.set_cons_zero, List.set_cons_succ]
          refine regTake 8 (some 31) (v := ?_) rfl rfl (by kernel_rfl) (by kernel_rfl) (by kernel_rfl) (fun _ _ _ h => h) (by rfl) hHeld ?_ ?_
          rotate_left 1
          · (intro w hSw; (try dsimp only at hSw); go_simp; try with_reducible rfl)
          simp only [Act.put, List.setIfInBounds_toArray, List.set_cons_zero, List.set_cons_succ]
          refine regTake 9 (some 32) (v := ?_) rfl rfl (by kernel_rfl) (by kernel_rfl) (by kernel_rfl) (fun _ _ _ h => h) (by rfl) hHeld ?_ ?_
          rotate_left 1
          · (intro w hSw; (try dsimp only at hSw); go_simp; try with_reducible rfl)
          simp only [Act.put, List.setIfInBounds_toArray, List.set_cons_zero, List.set_cons_succ]
          have hS6 := hHeld
          refine regDo 10 (some 9) (v := ?_) (w' := ?_) rfl rfl (by kernel_rfl) (by rfl) ?_ ?_ (fun hHeld => ?_)
          rotate_left 2
          · (go_simp; refine ⟨?_, ?_⟩ <;> with_reducible rfl)
          · exact ⟨keep2 (Below.alloc (Below.refl _ _) (Nat.le_refl _) _) hHeld.1.1 hHeld.1.2, keep2 (Below.alloc (Below.refl _ _) (Nat.le_refl _) _) hHeld.2.1.1 hHeld.2.1.2, keep2 (Below.alloc (Below.refl _ _) (Nat.le_refl _) _) hHeld.2.2.1.1 hHeld.2.2.1.2, keep2 (Below.alloc (Below.refl _ _) (Nat.le_refl _) _) hHeld.2.2.2.1.1 hHeld.2.2.2.1.2, Lib.hid (hHeld.2.2.2.2.out.trans ((Below.alloc (Below.refl _ _) (Nat.le_refl _) _).mono (Nat.le_of_lt hHeld.1.1)))⟩
          simp only [Act.put, List.setIfInBounds_toArray, List.set_cons_zero, List.set_cons_succ]
          refine regStore 11 (w' := ?_) rfl rfl (by kernel_rfl) (by rfl) ?_ ?_ (fun hHeld => ?_)
          rotate_left 1
          · (go_simp; try with_reducible rfl)
          · exact ⟨keep2 (Below.alloc (Below.refl _ _) (Nat.le_refl _) _) hS6.1.1 hS6.1.2, keep2 (Below.alloc (Below.refl _ _) (Nat.le_refl _) _) hS6.2.1.1 hS6.2.1.2, keep2 (Below.alloc (Below.refl _ _) (Nat.le_refl _) _) hS6.2.2.1.1 hS6.2.2.1.2, keep2 (Below.alloc (Below.refl _ _) (Nat.le_refl _) _) hS6.2.2.2.1.1 hS6.2.2.2.1.2, Lib.hid (hS6.2.2.2.2.out.trans ((Below.alloc (Below.refl _ _) (Nat.le_refl _) _).mono (Nat.le_of_lt hS6.1.1)))⟩
          refine regTake 12 (some 10) (v := ?_) rfl rfl (by kernel_rfl) (by kernel_rfl) (by kernel_rfl) (fun _ _ _ h => h) (by rfl) hHeld ?_ ?_
          rotate_left 1
          · (intro w hSw; (try dsimp only at hSw); go_simp; try with_reducible rfl)
          simp only [Act.put, List.setIfInBounds_toArray, List.set_cons_zero, List.set_cons_succ]
          refine wpAnyH_done (by kernel_rfl) ?_ _
          go_wp2_with fail
          go_meet
          exact ⟨_, rfl, by simp [go_sem], hHeld⟩
        · refine stepDo 10 (some 9) (v := ?_) (w' := ?_) rfl rfl (by rfl) ?_ ?_ (fun hHeld => ?_)
          rotate_left 2
          · (go_simp; refine ⟨?_, ?_⟩ <;> with_reducible rfl)
          · exact ⟨keep2 (Below.alloc (Below.refl _ _) (Nat.le_refl _) _) hHeld.1.1 hHeld.1.2, keep2 (Below.alloc (Below.refl _ _) (Nat.le_refl _) _) hHeld.2.1.1 hHeld.2.1.2, keep2 (Below.alloc (Below.refl _ _) (Nat.le_refl _) _) hHeld.2.2.1.1 hHeld.2.2.1.2, keep2 (Below.alloc (Below.refl _ _) (Nat.le_refl _) _) hHeld.2.2.2.1.1 hHeld.2.2.2.1.2, Lib.hid (hHeld.2.2.2.2.out.trans ((Below.alloc (Below.refl _ _) (Nat.le_refl _) _).mono (Nat.le_of_lt hHeld.1.1)))⟩
          simp only [Act.put, List.setIfInBounds_toArray, List.set_cons_zero, List.set_cons_succ]
          refine regCall 6 (some 30) (f := 16) (args := ?_) rfl rfl (by kernel_rfl) (by rfl) ?_ ?_
          rotate_left 1
          · (go_simp; try with_reducible rfl)
          refine (M3.out _).mono ?_
          rintro e wx6 ⟨rfl, hbx⟩
          have zz := keepZ (z := w2.heap.size + 1 + 1 + 1) (x := .int .u64 0) (y := .int .u64 0) hbx (by simp) (by simp [go_sem])
          refine ⟨_, rfl, ⟨keep2 hbx hHeld.1.1 hHeld.1.2, keep2 hbx hHeld.2.1.1 hHeld.2.1.2, keep2 hbx hHeld.2.2.1.1 hHeld.2.2.1.2, keep2 hbx hHeld.2.2.2.1.1 hHeld.2.2.2.1.2, Lib.hid (hHeld.2.2.2.2.out.trans (hbx.mono (Nat.le_of_lt hHeld.1.1)))⟩, fun hHeld => ?_⟩
          simp only [Act.put, List.setIfInBounds_toArray, List.set_cons_zero, List.set_cons_succ]
          refine regTake 7 (some 23) (v := ?_) rfl rfl (by kernel_rfl) (by kernel_rfl) (by kernel_rfl) (fun _ _ _ h => h) (by rfl) hHeld ?_ ?_
          rotate_left 1
          · (intro w hSw; (try dsimp only at hSw); go_simp; try with_reducible rfl)
          simp only [Act.put, List.setIfInBounds_toArray, List.set_cons_zero, List.set_cons_succ]
          refine regTake 8 (some 31) (v := ?_) rfl rfl (by kernel_rfl) (by kernel_rfl) (by kernel_rfl) (fun _ _ _ h => h) (by rfl) hHeld ?_ ?_
          rotate_left 1
          · (intro w hSw; (try dsimp only at hSw); go_simp; try with_reducible rfl)
          simp only [Act.put, List.setIfInBounds_toArray, List.set_cons_zero, List.set_cons_succ]
          refine regTake 9 (some 32) (v := ?_) rfl rfl (by kernel_rfl) (by kernel_rfl) (by kernel_rfl) (fun _ _ _ h => h) (by rfl) hHeld ?_ ?_
          rotate_left 1
          · (intro w hSw; (try dsimp only at hSw); go_simp; try with_reducible rfl)
          simp only [Act.put, List.setIfInBounds_toArray, List.set_cons_zero, List.set_cons_succ]
          refine regStore 11 (w' := ?_) rfl rfl (by kernel_rfl) (by rfl) ?_ ?_ (fun hHeld => ?_)
          rotate_left 1
          · (go_simp; try with_reducible rfl)
          · exact ⟨keepSet (by omega) (keepSet (by omega) hHeld.1), keepSet (by omega) (keepSet (by omega) hHeld.2.1), keepSet (by omega) (keepSet (by omega) hHeld.2.2.1), keepSet (by omega) (keepSet (by omega) hHeld.2.2.2.1), Lib.hid ((hHeld.2.2.2.2.out.setCell (by simp; omega) _).setCell (by simp; omega) _)⟩
          refine regTake 12 (some 10) (v := ?_) rfl rfl (by kernel_rfl) (by kernel_rfl) (by kernel_rfl) (fun _ _ _ h => h) (by rfl) hHeld ?_ ?_
          rotate_left 1
          · (intro w hSw; (try dsimp only at hSw); go_simp; try with_reducible rfl)
          simp only [Act.put, List.setIfInBounds_toArray, List.set_cons_zero, List.set_cons_succ]
          refine wpAnyH_done (by kernel_rfl) ?_ _
          go_wp2_with fail
          go_meet
          exact ⟨_, rfl, ⟨by simp [World.setCell]; exact zz.1, by simp [go_sem, *], by simp [go_sem, *]⟩, hHeld⟩
      · refine stepDo 10 (some 9) (v := ?_) (w' := ?_) rfl rfl (by rfl) ?_ ?_ (fun hHeld => ?_)
        rotate_left 2
        · (go_simp; refine ⟨?_, ?_⟩ <;> with_reducible rfl)
        · exact ⟨keep2 (Below.alloc (Below.refl _ _) (Nat.le_refl _) _) hHeld.1.1 hHeld.1.2, keep2 (Below.alloc (Below.refl _ _) (Nat.le_refl _) _) hHeld.2.1.1 hHeld.2.1.2, keep2 (Below.alloc (Below.refl _ _) (Nat.le_refl _) _) hHeld.2.2.1.1 hHeld.2.2.1.2, keep2 (Below.alloc (Below.refl _ _) (Nat.le_refl _) _) hHeld.2.2.2.1.1 hHeld.2.2.2.1.2, Lib.hid (hHeld.2.2.2.2.out.trans ((Below.alloc (Below.refl _ _) (Nat.le_refl _) _).mono (Nat.le_of_lt hHeld.1.1)))⟩
        simp only [Act.put, List.setIfInBounds_toArray, List.set_cons_zero, List.set_cons_succ]
        refine regCall 5 (some 29) (f := 17) (args := ?_) rfl rfl (by kernel_rfl) (by rfl) ?_ ?_
        rotate_left 1
        · (go_simp; try with_reducible rfl)
        refine (of_any _ _).mono ?_
        rintro e wx5 ⟨rfl, rfl⟩
        refine ⟨_, rfl, ⟨keep2 (Below.alloc (Below.refl _ _) (Nat.le_refl _) _) hHeld.1.1 hHeld.1.2, keep2 (Below.alloc (Below.refl _ _) (Nat.le_refl _) _) hHeld.2.1.1 hHeld.2.1.2, keep2 (Below.alloc (Below.refl _ _) (Nat.le_refl _) _) hHeld.2.2.1.1 hHeld.2.2.1.2, keep2 (Below.alloc (Below.refl _ _) (Nat.le_refl _) _) hHeld.2.2.2.1.1 hHeld.2.2.2.1.2, Lib.hid (hHeld.2.2.2.2.out.trans ((Below.alloc (Below.refl _ _) (Nat.le_refl _) _).mono (Nat.le_of_lt hHeld.1.1)))⟩, fun hHeld => ?_⟩
        simp only [Act.put, List.setIfInBounds_toArray, List.set_cons_zero, List.set_cons_succ]
        refine regCall 6 (some 30) (f := 16) (args := ?_) rfl rfl (by kernel_rfl) (by rfl) ?_ ?_
        rotate_left 1
        · (go_simp; try with_reducible rfl)
        refine (M3.out _).mono ?_
        rintro e wx6 ⟨rfl, hbx⟩
        have zz := keepZ (z := w2.heap.size + 1 + 1) (x := .int .u64 0) (y := .int .u64 0) hbx (by simp) (by simp [go_sem])
        refine ⟨_, rfl, ⟨keep2 hbx hHeld.1.1 hHeld.1.2, keep2 hbx hHeld.2.1.1 hHeld.2.1.2, keep2 hbx hHeld.2.2.1.1 hHeld.2.2.1.2, keep2 hbx hHeld.2.2.2.1.1 hHeld.2.2.2.1.2, Lib.hid (hHeld.2.2.2.2.out.trans (hbx.mono (Nat.le_of_lt hHeld.1.1)))⟩, fun hHeld => ?_⟩
        simp only [Act.put, List.setIfInBounds_toArray, List.set_cons_zero, List.set_cons_succ]
        refine regTake 7 (some 23) (v := ?_) rfl rfl (by kernel_rfl) (by kernel_rfl) (by kernel_rfl) (fun _ _ _ h => h) (by rfl) hHeld ?_ ?_
        rotate_left 1
        · (intro w hSw; (try dsimp only at hSw); go_simp; try with_reducible rfl)
        simp only [Act.put, List.setIfInBounds_toArray, List.set_cons_zero, List.set_cons_succ]
        refine regTake 8 (some 31) (v := ?_) rfl rfl (by kernel_rfl) (by kernel_rfl) (by kernel_rfl) (fun _ _ _ h => h) (by rfl) hHeld ?_ ?_
        rotate_left 1
        · (intro w hSw; (try dsimp only at hSw); go_simp; try with_reducible rfl)
        simp only [Act.put, List.setIfInBounds_toArray, List.set_cons_zero, List.set_cons_succ]
        refine regTake 9 (some 32) (v := ?_) rfl rfl (by kernel_rfl) (by kernel_rfl) (by kernel_rfl) (fun _ _ _ h => h) (by rfl) hHeld ?_ ?_
        rotate_left 1
        · (intro w hSw; (try dsimp only at hSw); go_simp; try with_reducible rfl)
        simp only [Act.put, List.setIfInBounds_toArray, List.set_cons_zero, List.set_cons_succ]
        refine regStore 11 (w' := ?_) rfl rfl (by kernel_rfl) (by rfl) ?_ ?_ (fun hHeld => ?_)
        rotate_left 1
        · (go_simp; try with_reducible rfl)
        · exact ⟨keepSet (by omega) (keepSet (by omega) hHeld.1), keepSet (by omega) (keepSet (by omega) hHeld.2.1), keepSet (by omega) (keepSet (by omega) hHeld.2.2.1), keepSet (by omega) (keepSet (by omega) hHeld.2.2.2.1), Lib.hid ((hHeld.2.2.2.2.out.setCell (by simp; omega) _).setCell (by simp; omega) _)⟩
        refine regTake 12 (some 10) (v := ?_) rfl rfl (by kernel_rfl) (by kernel_rfl) (by kernel_rfl) (fun _ _ _ h => h) (by rfl) hHeld ?_ ?_
        rotate_left 1
        · (intro w hSw; (try dsimp only at hSw); go_simp; try with_reducible rfl)
        simp only [Act.put, List.setIfInBounds_toArray, List.set_cons_zero, List.set_cons_succ]
        refine wpAnyH_done (by kernel_rfl) ?_ _
        go_wp2_with fail
        go_meet
        exact ⟨_, rfl, ⟨by simp [World.setCell]; exact zz.1, by simp [go_sem, *], by simp [go_sem, *]⟩, hHeld⟩
    · refine stepDo 10 (some 9) (v := ?_) (w' := ?_) rfl rfl (by rfl) ?_ ?_ (fun hHeld => ?_)
      rotate_left 2
      · (go_simp; refine ⟨?_, ?_⟩ <;> with_reducible rfl)
      · exact ⟨keep2 (Below.alloc (Below.refl _ _) (Nat.le_refl _) _) hHeld.1.1 hHeld.1.2, keep2 (Below.alloc (Below.refl _ _) (Nat.le_refl _) _) hHeld.2.1.1 hHeld.2.1.2, keep2 (Below.alloc (Below.refl _ _) (Nat.le_refl _) _) hHeld.2.2.1.1 hHeld.2.2.1.2, keep2 (Below.alloc (Below.refl _ _) (Nat.le_refl _) _) hHeld.2.2.2.1.1 hHeld.2.2.2.1.2, Lib.hid (hHeld.2.2.2.2.out.trans ((Below.alloc (Below.refl _ _) (Nat.le_refl _) _).mono (Nat.le_of_lt hHeld.1.1)))⟩
      simp only [Act.put, List.setIfInBounds_toArray, List.set_cons_zero, List.set_cons_succ]
      refine regCall 2 (some 26) (f := 17) (args := ?_) rfl rfl (by kernel_rfl) (by rfl) ?_ ?_
      rotate_left 1
      · (go_simp; try with_reducible rfl)
      refine (of_any _ _).mono ?_
      rintro e wx2 ⟨rfl, rfl⟩
      refine ⟨_, rfl, ⟨keep2 (Below.alloc (Below.refl _ _) (Nat.le_refl _) _) hHeld.1.1 hHeld.1.2, keep2 (Below.alloc (Below.refl _ _) (Nat.le_refl _) _) hHeld.2.1.1 hHeld.2.1.2, keep2 (Below.alloc (Below.refl _ _) (Nat.le_refl _) _) hHeld.2.2.1.1 hHeld.2.2.1.2, keep2 (Below.alloc (Below.refl _ _) (Nat.le_refl _) _) hHeld.2.2.2.1.1 hHeld.2.2.2.1.2, Lib.hid (hHeld.2.2.2.2.out.trans ((Below.alloc (Below.refl _ _) (Nat.le_refl _) _).mono (Nat.le_of_lt hHeld.1.1)))⟩, fun hHeld => ?_⟩
      simp only [Act.put, List.setIfInBounds_toArray, List.set_cons_zero, List.set_cons_succ]
      refine regCall 5 (some 29) (f := 17) (args := ?_) rfl rfl (by kernel_rfl) (by rfl) ?_ ?_
      rotate_left 1
      · (go_simp; try with_reducible rfl)
      refine (of_any _ _).mono ?_
      rintro e wx5 ⟨rfl, rfl⟩
      refine ⟨_, rfl, ⟨keep2 (Below.alloc (Below.refl _ _) (Nat.le_refl _) _) hHeld.1.1 hHeld.1.2, keep2 (Below.alloc (Below.refl _ _) (Nat.le_refl _) _) hHeld.2.1.1 hHeld.2.1.2, keep2 (Below.alloc (Below.refl _ _) (Nat.le_refl _) _) hHeld.2.2.1.1 hHeld.2.2.1.2, keep2 (Below.alloc (Below.refl _ _) (Nat.le_refl _) _) hHeld.2.2.2.1.1 hHeld.2.2.2.1.2, Lib.hid (hHeld.2.2.2.2.out.trans ((Below.alloc (Below.refl _ _) (Nat.le_refl _) _).mono (Nat.le_of_lt hHeld.1.1)))⟩, fun hHeld => ?_⟩
      simp only [Act.put, List.setIfInBounds_toArray, List.set_cons_zero, List.set_cons_succ]
      refine regCall 6 (some 30) (f := 16) (args := ?_) rfl rfl (by kernel_rfl) (by rfl) ?_ ?_
      rotate_left 1
      · (go_simp; try with_reducible rfl)
      refine (M3.out _).mono ?_
      rintro e wx6 ⟨rfl, hbx⟩
      have zz := keepZ (z := w2.heap.size + 1) (x := .int .u64 0) (y := .int .u64 0) hbx (by simp) (by simp [go_sem])
      refine ⟨_, rfl, ⟨keep2 hbx hHeld.1.1 hHeld.1.2, keep2 hbx hHeld.2.1.1 hHeld.2.1.2, keep2 hbx hHeld.2.2.1.1 hHeld.2.2.1.2, keep2 hbx hHeld.2.2.2.1.1 hHeld.2.2.2.1.2, Lib.hid (hHeld.2.2.2.2.out.trans (hbx.mono (Nat.le_of_lt hHeld.1.1)))⟩, fun hHeld => ?_⟩
      simp only [Act.put, List.setIfInBounds_toArray, List.set_cons_zero, List.set_cons_succ]
      refine regTake 7 (some 23) (v := ?_) rfl rfl (by kernel_rfl) (by kernel_rfl) (by kernel_rfl) (fun _ _ _ h => h) (by rfl) hHeld ?_ ?_
      rotate_left 1
      · (intro w hSw; (try dsimp only at hSw); go_simp; try with_reducible rfl)
      simp only [Act.put, List.setIfInBounds_toArray, List.set_cons_zero, List.set_cons_succ]
      refine regTake 8 (some 31) (v := ?_) rfl rfl (by kernel_rfl) (by kernel_rfl) (by kernel_rfl) (fun _ _ _ h => h) (by rfl) hHeld ?_ ?_
      rotate_left 1
      · (intro w hSw; (try dsimp only at hSw); go_simp; try with_reducible rfl)
      simp only [Act.put, List.setIfInBounds_toArray, List.set_cons_zero, List.set_cons_succ]
      refine regTake 9 (some 32) (v := ?_) rfl rfl (by kernel_rfl) (by kernel_rfl) (by kernel_rfl) (fun _ _ _ h => h) (by rfl) hHeld ?_ ?_
      rotate_left 1
      · (intro w hSw; (try dsimp only at hSw); go_simp; try with_reducible rfl)
      simp only [Act.put, List.setIfInBounds_toArray, List.set_cons_zero, List.set_cons_succ]
      refine regStore 11 (w' := ?_) rfl rfl (by kernel_rfl) (by rfl) ?_ ?_ (fun hHeld => ?_)
      rotate_left 1
      · (go_simp; try with_reducible rfl)
      · exact ⟨keepSet (by omega) (keepSet (by omega) hHeld.1), keepSet (by omega) (keepSet (by omega) hHeld.2.1), keepSet (by omega) (keepSet (by omega) hHeld.2.2.1), keepSet (by omega) (keepSet (by omega) hHeld.2.2.2.1), Lib.hid ((hHeld.2.2.2.2.out.setCell (by simp; omega) _).setCell (by simp; omega) _)⟩
      refine regTake 12 (some 10) (v := ?_) rfl rfl (by kernel_rfl) (by kernel_rfl) (by kernel_rfl) (fun _ _ _ h => h) (by rfl) hHeld ?_ ?_
      rotate_left 1
      · (intro w hSw; (try dsimp only at hSw); go_simp; try with_reducible rfl)
      simp only [Act.put, List.setIfInBounds_toArray, List.set_cons_zero, List.set_cons_succ]
      refine wpAnyH_done (by kernel_rfl) ?_ _
      go_wp2_with fail
      go_meet
      exact ⟨_, rfl, ⟨by simp [World.setCell]; exact zz.1, by simp [go_sem, *], by simp [go_sem, *]⟩, hHeld⟩
  case rest =>
    obtain ⟨z, rfl, Z, hC⟩ := hcut
    have HC := Lib.hid hC; clear hC A2 B2 PP2 L2
    go_wp2_with fail
    refine wp_region_held_drew (S := (fun w' => (w.heap.size < w'.heap.size ∧ w'.cell? ⟨w.heap.size, 0, none⟩ = some (.int .u64 ah) ∧ w'.cell? ⟨w.heap.size, 1, none⟩ = some (.int .u64 al)) ∧ (w.heap.size + 1 < w'.heap.size ∧ w'.cell? ⟨w.heap.size + 1, 0, none⟩ = some (.int .u64 bh) ∧ w'.cell? ⟨w.heap.size + 1, 1, none⟩ = some (.int .u64 bl)) ∧ (w1.heap.size < w'.heap.size ∧ w'.cell? ⟨w1.heap.size, 0, none⟩ = some (.int .u64 ph) ∧ w'.cell? ⟨w1.heap.size, 1, none⟩ = some (.int .u64 pl)) ∧ (w2.heap.size < w'.heap.size ∧ w'.cell? ⟨w2.heap.size, 0, none⟩ = some (.int .u64 ph) ∧ w'.cell? ⟨w2.heap.size, 1, none⟩ = some (.int .u64 pl)) ∧ (z < w'.heap.size ∧ w'.cell? ⟨z, 0, none⟩ = some (.int .u64 mh) ∧ w'.cell? ⟨z, 1, none⟩ = some (.int .u64 ml)) ∧ Hid (Below w.heap.size w w'))) (by kernel_rfl) ⟨HC.out.1, HC.out.2.1, HC.out.2.2.1, HC.out.2.2.2.1, Z, Lib.hid HC.out.2.2.2.2.out.drew⟩ (fun hHeld => ?_)
    clear Z HC
    refine regCall 0 (some 33) (f := 12) (args := ?_) rfl rfl (by kernel_rfl) (by rfl) ?_ ?_
    rotate_left 1
    · (go_simp; try with_reducible rfl)
    refine (alive_any _).mono ?_
    rintro e wx0 ⟨rfl, hbx⟩
    refine ⟨_, rfl, ⟨keep2 hbx hHeld.1.1 hHeld.1.2, keep2 hbx hHeld.2.1.1 hHeld.2.1.2, keep2 hbx hHeld.2.2.1.1 hHeld.2.2.1.2, keep2 hbx hHeld.2.2.2.1.1 hHeld.2.2.2.1.2, keep2 hbx hHeld.2.2.2.2.1.1 hHeld.2.2.2.2.1.2, Lib.hid (hHeld.2.2.2.2.2.out.trans (hbx.mono (Nat.le_of_lt hHeld.1.1)))⟩, fun hHeld => ?_⟩
    simp only [Act.put, List.setIfInBounds_toArray, List.set_cons_zero, List.set_cons_succ]
    refine regTake 1 (some 34) (v := ?_) rfl rfl (by kernel_rfl) (by kernel_rfl) (by kernel_rfl) (fun _ _ _ h => h) (by rfl) hHeld ?_ ?_
    rotate_left 1
    · (intro w hSw; (try dsimp only at hSw); go_simp; try with_reducible rfl)
    simp only [Act.put, List.setIfInBounds_toArray, List.set_cons_zero, List.set_cons_succ]
    refine regTake 2 (some 35) (v := ?_) rfl rfl (by kernel_rfl) (by kernel_rfl) (by kernel_rfl) (fun _ _ _ h => h) (by rfl) hHeld ?_ ?_
    rotate_left 1
    · (intro w hSw; (try dsimp only at hSw); go_simp; try with_reducible rfl)
    simp only [Act.put, List.setIfInBounds_toArray, List.set_cons_zero, List.set_cons_succ]
    refine regTake 3 (some 36) (v := ?_) rfl rfl (by kernel_rfl) (by kernel_rfl) (by kernel_rfl) (fun _ _ _ h => h) (by rfl) hHeld ?_ ?_
    rotate_left 1
    · (intro w hSw; (try dsimp only at hSw); go_simp; try with_reducible rfl)
    simp only [Act.put, List.setIfInBounds_toArray, List.set_cons_zero, List.set_cons_succ]
    refine regTake 4 (some 37) (v := ?_) rfl rfl (by kernel_rfl) (by kernel_rfl) (by kernel_rfl) (fun _ _ _ h => h) (by rfl) hHeld ?_ ?_
    rotate_left 1
    · (intro w hSw; (try dsimp only at hSw); go_simp; try with_reducible rfl)
    simp only [Act.put, List.setIfInBounds_toArray, List.set_cons_zero, List.set_cons_succ]
    refine regTake 5 (some 38) (v := ?_) rfl rfl (by kernel_rfl) (by kernel_rfl) (by kernel_rfl) (fun _ _ _ h => h) (by rfl) hHeld ?_ ?_
    rotate_left 1
    · (intro w hSw; (try dsimp only at hSw); go_simp; try with_reducible rfl)
    simp only [Act.put, List.setIfInBounds_toArray, List.set_cons_zero, List.set_cons_succ]
    refine regTake 6 (some 39) (v := ?_) rfl rfl (by kernel_rfl) (by kernel_rfl) (by kernel_rfl) (fun _ _ _ h => h) (by rfl) hHeld ?_ ?_
    rotate_left 1
    · (intro w hSw; (try dsimp only at hSw); go_simp; try with_reducible rfl)
    simp only [Act.put, List.setIfInBounds_toArray, List.set_cons_zero, List.set_cons_succ]
    refine regTake 7 (some 40) (v := ?_) rfl rfl (by kernel_rfl) (by kernel_rfl) (by kernel_rfl) (fun _ _ _ h => h) (by rfl) hHeld ?_ ?_
    rotate_left 1
    · (intro w hSw; (try dsimp only at hSw); go_simp; try with_reducible rfl)
    simp only [Act.put, List.setIfInBounds_toArray, List.set_cons_zero, List.set_cons_succ]
    refine regTake 8 (some 41) (v := ?_) rfl rfl (by kernel_rfl) (by kernel_rfl) (by kernel_rfl) (fun _ _ _ h => h) (by rfl) hHeld ?_ ?_
    rotate_left 1
    · (intro w hSw; (try dsimp only at hSw); go_simp; try with_reducible rfl)
    simp only [Act.put, List.setIfInBounds_toArray, List.set_cons_zero, List.set_cons_succ]
    refine regTake 9 (some 42) (v := ?_) rfl rfl (by kernel_rfl) (by kernel_rfl) (by kernel_rfl) (fun _ _ _ h => h) (by rfl) hHeld ?_ ?_
    rotate_left 1
    · (intro w hSw; (try dsimp only at hSw); go_simp; try with_reducible rfl)
    simp only [Act.put, List.setIfInBounds_toArray, List.set_cons_zero, List.set_cons_succ]
    refine regTake 10 (some 43) (v := ?_) rfl rfl (by kernel_rfl) (by kernel_rfl) (by kernel_rfl) (fun _ _ _ h => h) (by rfl) hHeld ?_ ?_
    rotate_left 1
    · (intro w hSw; (try dsimp only at hSw); go_simp; try with_reducible rfl)
    simp only [Act.put, List.setIfInBounds_toArray, List.set_cons_zero, List.set_cons_succ]
    refine regTake 11 (some 44) (v := ?_) rfl rfl (by kernel_rfl) (by kernel_rfl) (by kernel_rfl) (fun _ _ _ h => h) (by rfl) hHeld ?_ ?_
    rotate_left 1
    · (intro w hSw; (try dsimp only at hSw); go_simp; try with_reducible rfl)
    simp only [Act.put, List.setIfInBounds_toArray, List.set_cons_zero, List.set_cons_succ]
    refine regTake 12 (some 45) (v := ?_) rfl rfl (by kernel_rfl) (by kernel_rfl) (by kernel_rfl) (fun _ _ _ h => h) (by rfl) hHeld ?_ ?_
    rotate_left 1
    · (intro w hSw; (try dsimp only at hSw); go_simp; try with_reducible rfl)
    simp only [Act.put, List.setIfInBounds_toArray, List.set_cons_zero, List.set_cons_succ]
    refine regTake 13 (some 46) (v := ?_) rfl rfl (by kernel_rfl) (by kernel_rfl) (by kernel_rfl) (fun _ _ _ h => h) (by rfl) hHeld ?_ ?_
    rotate_left 1
    · (intro w hSw; (try dsimp only at hSw); go_simp; try with_reducible rfl)
    simp only [Act.put, List.setIfInBounds_toArray, List.set_cons_zero, List.set_cons_succ]
    refine regTake 14 (some 47) (v := ?_) rfl rfl (by kernel_rfl) (by kernel_rfl) (by kernel_rfl) (fun _ _ _ h => h) (by rfl) hHeld ?_ ?_
    rotate_left 1
    · (intro w hSw; (try dsimp only at hSw); go_simp; try with_reducible rfl)
    simp only [Act.put, List.setIfInBounds_toArray, List.set_cons_zero, List.set_cons_succ]
    refine regTake 15 (some 48) (v := ?_) rfl rfl (by kernel_rfl) (by kernel_rfl) (by kernel_rfl) (fun _ _ _ h => h) (by rfl) hHeld ?_ ?_
    rotate_left 1
    · (intro w hSw; (try dsimp only at hSw); go_simp; try with_reducible rfl)
    simp only [Act.put, List.setIfInBounds_toArray, List.set_cons_zero, List.set_cons_succ]
    refine regTake 17 (some 50) (v := ?_) rfl rfl (by kernel_rfl) (by kernel_rfl) (by kernel_rfl) (fun _ _ _ h => h) (by rfl) hHeld ?_ ?_
    rotate_left 1
    · (intro w hSw; (try dsimp only at hSw); go_simp; try with_reducible rfl)
    simp only [Act.put, List.setIfInBounds_toArray, List.set_cons_zero, List.set_cons_succ]
    refine regCall 16 (some 49) (f := 18) (args := ?_) rfl rfl (by kernel_rfl) (by rfl) ?_ ?_
    rotate_left 1
    · (go_simp; try with_reducible rfl)
    refine (M4.out _).mono ?_
    rintro e wx16 ⟨rfl, hbx⟩
    refine ⟨_, rfl, ⟨keep2 hbx hHeld.1.1 hHeld.1.2, keep2 hbx hHeld.2.1.1 hHeld.2.1.2, keep2 hbx hHeld.2.2.1.1 hHeld.2.2.1.2, keep2 hbx hHeld.2.2.2.1.1 hHeld.2.2.2.1.2, keep2 hbx hHeld.2.2.2.2.1.1 hHeld.2.2.2.2.1.2, Lib.hid (hHeld.2.2.2.2.2.out.trans (hbx.mono (Nat.le_of_lt hHeld.1.1)))⟩, fun hHeld => ?_⟩
    simp only [Act.put, List.setIfInBounds_toArray, List.set_cons_zero, List.set_cons_succ]
    refine regTake 18 (some 51) (v := ?_) rfl rfl (by kernel_rfl) (by kernel_rfl) (by kernel_rfl) (fun _ _ _ h => h) (by rfl) hHeld ?_ ?_
    rotate_left 1
    · (intro w hSw; (try dsimp only at hSw); go_simp; try with_reducible rfl)
    simp only [Act.put, List.setIfInBounds_toArray, List.set_cons_zero, List.set_cons_succ]
    refine regTake 19 (some 52) (v := ?_) rfl rfl (by kernel_rfl) (by kernel_rfl) (by kernel_rfl) (fun _ _ _ h => h) (by rfl) hHeld ?_ ?_
    rotate_left 1
    · (intro w hSw; (try dsimp only at hSw); go_simp; try with_reducible rfl)
    simp only [Act.put, List.setIfInBounds_toArray, List.set_cons_zero, List.set_cons_succ]
    refine regTake 20 (some 4) (v := ?_) rfl rfl (by kernel_rfl) (by kernel_rfl) (by kernel_rfl) (fun _ _ _ h => h) (by rfl) hHeld ?_ ?_
    rotate_left 1
    · (intro w hSw; (try dsimp only at hSw); go_simp; try with_reducible rfl)
    simp only [Act.put, List.setIfInBounds_toArray, List.set_cons_zero, List.set_cons_succ]
    refine wpAnyH_done (by kernel_rfl) ?_ _
    go_wp2_with fail
    go_ret
    exact ⟨rfl, hHeld.2.2.2.2.2.out⟩

theorem wtimes_walk (a b : Nat) (ha : a < M128) (hb : b < M128) (w : World) :
    Calls Try.prog 4 #[.agg #[.int .u64 (hi a : Nat), .int .u64 (lo a : Nat)], .agg #[.int .u64 (hi b : Nat), .int .u64 (lo b : Nat)]] w fun e w' => e = .returned (.bool true) ∧ Below w.heap.size w w' := by
  have la := lo_lt a; have lb := lo_lt b
  have la' : lo a < M128 := by unfold B64 at la; unfold M128; omega
  have lb' : lo b < M128 := by unfold B64 at lb; unfold M128; omega
  have ea : hi (lo a) = 0 := by unfold B64 at la; unfold hi; omega
  have eb : hi (lo b) = 0 := by unfold B64 at lb; unfold hi; omega
  have fa : lo (lo a) = lo a := by unfold lo; omega
  have fb : lo (lo b) = lo b := by unfold lo; omega
  have em : mulW (lo a) (lo b) = lo a * lo b := by
    have := mul_bound (lo a) (lo b) la lb
    unfold mulW; rw [Nat.mod_eq_of_lt]; omega
  refine wtimes_core (hi a) (lo a) (hi b) (lo b) _ _ _ _ _ (mulO (lo a) (lo b)) w (times_num a b ha hb) (rtimes_any a b ha hb) ?_ (fun w => (mul_any (lo a) (lo b) la lb w).mono fun e w' ⟨h1, h2⟩ => ⟨h1, h2 ▸ (Below.refl _ _).alloc (Nat.le_refl _) _⟩)
  intro w
  have h := rtimes_any (lo a) (lo b) la' lb' w
  rw [ea, eb, fa, fb, em] at h
  exact h
end Go.Proofs.Ytnmidnoemfdnfaa
