/- The law DivideGcds, walked: it answers true at every two wide numbers, and nothing that was in memory before is changed. -/
import Derived.Test.YtjebdahdpjfinaaGcd
import Derived.Test.YtjebdahdpjfinaaRGcd
import Derived.Test.YtjebdahdpjfinaaAlive2
namespace Go.Proofs.Ytjebdahdpjfinaa
open Go.RowKit

set_option maxRecDepth 100000 in
set_option maxHeartbeats 4000000 in
theorem dgcds_core (a b G X Y : Nat) (n : Int) (w : World)
    (m1 : ∀ w, Calls Try.prog 10 #[.agg #[.int .u64 (hi a : Nat), .int .u64 (lo a : Nat)], .agg #[.int .u64 (hi b : Nat), .int .u64 (lo b : Nat)]] w fun e w' => e = .returned (.agg #[.int .u64 (hi G : Nat), .int .u64 (lo G : Nat)]) ∧ Below w.heap.size w w')
    (m2 : ∀ w, Calls Try.prog 11 #[.agg #[.int .u64 (hi a : Nat), .int .u64 (lo a : Nat)], .agg #[.int .u64 (hi b : Nat), .int .u64 (lo b : Nat)]] w fun e w' => e = .returned (.tuple #[.agg #[.int .u64 (hi X : Nat), .int .u64 (lo X : Nat)], .agg #[.int .u64 (hi Y : Nat), .int .u64 (lo Y : Nat)], .int .i64 n]) ∧ Below w.heap.size w w')
    (m3 : ∀ w, Calls Try.prog 12 #[.agg #[.int .u64 (hi a : Nat), .int .u64 (lo a : Nat)], .agg #[.int .u64 (hi b : Nat), .int .u64 (lo b : Nat)]] w fun e w' => e = .returned (.agg #[.int .u64 (hi G : Nat), .int .u64 (lo G : Nat)]) ∧ Below w.heap.size w w')
    (m4 : b ≠ 0 → ∀ w, Calls Try.prog 13 #[.agg #[.int .u64 (hi a : Nat), .int .u64 (lo a : Nat)], .agg #[.int .u64 (hi b : Nat), .int .u64 (lo b : Nat)]] w fun e w' => e = .returned (.tuple #[.agg #[.int .u64 (hi X : Nat), .int .u64 (lo X : Nat)], .agg #[.int .u64 (hi Y : Nat), .int .u64 (lo Y : Nat)]]) ∧ Below w.heap.size w w')
    (h0 : b = 0 → X = 0 ∧ Y = 0 ∧ n = 4) (h1 : b ≠ 0 → n = 0) :
    Calls Try.prog 4 #[.agg #[.int .u64 (hi a : Nat), .int .u64 (lo a : Nat)], .agg #[.int .u64 (hi b : Nat), .int .u64 (lo b : Nat)]] w fun e w' => e = .returned (.bool true) ∧ Below w.heap.size w w' := by
  have M1 := Lib.hid m1; have M2 := Lib.hid m2; have M3 := Lib.hid m3; have M4 := Lib.hid m4; have H0 := Lib.hid h0; have H1 := Lib.hid h1
  clear m1 m2 m3 m4 h0 h1
  go_enter Try.func4, Try.ntmps4
  go_wp2_with fail
  refine (M1.out _).mono ?_
  rintro e w1 ⟨rfl, hb1⟩
  have bA : Box w1 (w.heap.size) a := ((Box.new w a 24).alloc _).call hb1
  have bB : Box w1 (w.heap.size + 1) b := (Box.newAt (by simp)).call hb1
  have zA := bA.lt; have zB := bB.lt
  have a0 := bA.c0; have a1 := bA.c1; have b0 := bB.c0; have b1 := bB.c1
  have hw1 : Below w.heap.size w w1 := (((Below.refl _ _).alloc (Nat.le_refl _) _).alloc (by simp) _).trans (hb1.mono (by simp; omega))
  have HW1 := Lib.hid hw1
  have s1 := hw1.size
  clear hb1 hw1
  go_wp2_with fail
  refine (M2.out _).mono ?_
  rintro e w2 ⟨rfl, hb2⟩
  have cA := ((((bA.alloc (.cells #[.int .u64 (hi G : Nat), .int .u64 (lo G : Nat)] 24)).call hb2).alloc (.cells #[.int .u64 (hi X : Nat), .int .u64 (lo X : Nat)] 24)).alloc (.cells #[.int .u64 (hi Y : Nat), .int .u64 (lo Y : Nat)] 24))
  have cB := ((((bB.alloc (.cells #[.int .u64 (hi G : Nat), .int .u64 (lo G : Nat)] 24)).call hb2).alloc (.cells #[.int .u64 (hi X : Nat), .int .u64 (lo X : Nat)] 24)).alloc (.cells #[.int .u64 (hi Y : Nat), .int .u64 (lo Y : Nat)] 24))
  have cG : Box ((w2.alloc (.cells #[.int .u64 (hi X : Nat), .int .u64 (lo X : Nat)] 24)).alloc (.cells #[.int .u64 (hi Y : Nat), .int .u64 (lo Y : Nat)] 24)) w1.heap.size G := ((((Box.new _ _ _).call hb2).alloc _).alloc _)
  have cX : Box ((w2.alloc (.cells #[.int .u64 (hi X : Nat), .int .u64 (lo X : Nat)] 24)).alloc (.cells #[.int .u64 (hi Y : Nat), .int .u64 (lo Y : Nat)] 24)) w2.heap.size X := (Box.new _ _ _).alloc _
  have cY : Box ((w2.alloc (.cells #[.int .u64 (hi X : Nat), .int .u64 (lo X : Nat)] 24)).alloc (.cells #[.int .u64 (hi Y : Nat), .int .u64 (lo Y : Nat)] 24)) (w2.heap.size + 1) Y := Box.newAt (by simp)
  have hw2 : Below w.heap.size w ((w2.alloc (.cells #[.int .u64 (hi X : Nat), .int .u64 (lo X : Nat)] 24)).alloc (.cells #[.int .u64 (hi Y : Nat), .int .u64 (lo Y : Nat)] 24)) := (((HW1.out.alloc s1 _).trans (hb2.mono (by simp; omega))).alloc (by have := hb2.size; simp at this; omega) _).alloc (by have := hb2.size; simp at this; simp; omega) _
  have HW2 := Lib.hid hw2
  clear hb2 hw2 bA bB a0 a1 b0 b1 HW1
  go_upto_region 3 with fail
  refine wp_region_held_drew (S := (fun w' => (w.heap.size < w'.heap.size ∧ w'.cell? ⟨w.heap.size, 0, none⟩ = some (.int .u64 (hi a : Nat)) ∧ w'.cell? ⟨w.heap.size, 1, none⟩ = some (.int .u64 (lo a : Nat))) ∧ (w.heap.size + 1 < w'.heap.size ∧ w'.cell? ⟨w.heap.size + 1, 0, none⟩ = some (.int .u64 (hi b : Nat)) ∧ w'.cell? ⟨w.heap.size + 1, 1, none⟩ = some (.int .u64 (lo b : Nat))) ∧ (w1.heap.size < w'.heap.size ∧ w'.cell? ⟨w1.heap.size, 0, none⟩ = some (.int .u64 (hi G : Nat)) ∧ w'.cell? ⟨w1.heap.size, 1, none⟩ = some (.int .u64 (lo G : Nat))) ∧ (w2.heap.size < w'.heap.size ∧ w'.cell? ⟨w2.heap.size, 0, none⟩ = some (.int .u64 (hi X : Nat)) ∧ w'.cell? ⟨w2.heap.size, 1, none⟩ = some (.int .u64 (lo X : Nat))) ∧ ((w2.heap.size + 1) < w'.heap.size ∧ w'.cell? ⟨(w2.heap.size + 1), 0, none⟩ = some (.int .u64 (hi Y : Nat)) ∧ w'.cell? ⟨(w2.heap.size + 1), 1, none⟩ = some (.int .u64 (lo Y : Nat))) ∧ Hid (Below w.heap.size w w'))) (by kernel_rfl) ⟨⟨cA.lt, cA.c0, cA.c1⟩, ⟨cB.lt, cB.c0, cB.c1⟩, ⟨cG.lt, cG.c0, cG.c1⟩, ⟨cX.lt, cX.c0, cX.c1⟩, ⟨cY.lt, cY.c0, cY.c1⟩, Lib.hid HW2.out.drew⟩ (fun hHeld => ?_)
  clear cA cB cG cX cY HW2
  refine regTake 0 (some 21) (v := ?_) rfl rfl (by kernel_rfl) (by kernel_rfl) (by kernel_rfl) (fun _ _ _ h => h) (by rfl) hHeld ?_ ?_
  rotate_left 1
  · (intro w hSw; (try dsimp only at hSw); go_simp; try with_reducible rfl)
  simp only [Act.put, List.setIfInBounds_toArray, List.set_cons_zero, List.set_cons_succ]
  refine regTake 1 (some 22) (v := ?_) rfl rfl (by kernel_rfl) (by kernel_rfl) (by kernel_rfl) (fun _ _ _ h => h) (by rfl) hHeld ?_ ?_
  rotate_left 1
  · (intro w hSw; (try dsimp only at hSw); go_simp; try with_reducible rfl)
  simp only [Act.put, List.setIfInBounds_toArray, List.set_cons_zero, List.set_cons_succ]
  refine regTake 2 (some 23) (v := ?_) rfl rfl (by kernel_rfl) (by kernel_rfl) (by kernel_rfl) (fun _ _ _ h => h) (by rfl) hHeld ?_ ?_
  rotate_left 1
  · (intro w hSw; (try dsimp only at hSw); go_simp; try with_reducible rfl)
  simp only [Act.put, List.setIfInBounds_toArray, List.set_cons_zero, List.set_cons_succ]
  refine regCall 3 (some 24) (f := 12) (args := ?_) rfl rfl (by kernel_rfl) (by rfl) ?_ ?_
  rotate_left 1
  · (go_simp; try with_reducible rfl)
  refine (M3.out _).mono ?_
  rintro e wx3 ⟨rfl, hbx⟩
  refine ⟨_, rfl, ⟨keep2 hbx hHeld.1.1 hHeld.1.2, keep2 hbx hHeld.2.1.1 hHeld.2.1.2, keep2 hbx hHeld.2.2.1.1 hHeld.2.2.1.2, keep2 hbx hHeld.2.2.2.1.1 hHeld.2.2.2.1.2, keep2 hbx hHeld.2.2.2.2.1.1 hHeld.2.2.2.2.1.2, Lib.hid (hHeld.2.2.2.2.2.out.trans (hbx.mono hHeld.2.2.2.2.2.out.size))⟩, fun hHeld => ?_⟩
  simp only [Act.put, List.setIfInBounds_toArray, List.set_cons_zero, List.set_cons_succ]
  refine regTake 4 (some 25) (v := ?_) rfl rfl (by kernel_rfl) (by kernel_rfl) (by kernel_rfl) (fun _ _ _ h => h) (by rfl) hHeld ?_ ?_
  rotate_left 1
  · (intro w hSw; (try dsimp only at hSw); go_simp; try with_reducible rfl)
  simp only [Act.put, List.setIfInBounds_toArray, List.set_cons_zero, List.set_cons_succ]
  refine regTake 5 (some 26) (v := ?_) rfl rfl (by kernel_rfl) (by kernel_rfl) (by kernel_rfl) (fun _ _ _ h => h) (by rfl) hHeld ?_ ?_
  rotate_left 1
  · (intro w hSw; (try dsimp only at hSw); go_simp; try with_reducible rfl)
  simp only [Act.put, List.setIfInBounds_toArray, List.set_cons_zero, List.set_cons_succ]
  refine regCall 6 (some 27) (f := 8) (args := ?_) rfl rfl (by kernel_rfl) (by rfl) ?_ ?_
  rotate_left 1
  · (go_simp; try with_reducible rfl)
  refine (alive2 _).mono ?_
  rintro e wx6 ⟨rfl, hbx⟩
  refine ⟨_, rfl, ⟨keep2 hbx hHeld.1.1 hHeld.1.2, keep2 hbx hHeld.2.1.1 hHeld.2.1.2, keep2 hbx hHeld.2.2.1.1 hHeld.2.2.1.2, keep2 hbx hHeld.2.2.2.1.1 hHeld.2.2.2.1.2, keep2 hbx hHeld.2.2.2.2.1.1 hHeld.2.2.2.2.1.2, Lib.hid (hHeld.2.2.2.2.2.out.trans (hbx.mono hHeld.2.2.2.2.2.out.size))⟩, fun hHeld => ?_⟩
  simp only [Act.put, List.setIfInBounds_toArray, List.set_cons_zero, List.set_cons_succ]
  refine regTake 7 (some 28) (v := ?_) rfl rfl (by kernel_rfl) (by kernel_rfl) (by kernel_rfl) (fun _ _ _ h => h) (by rfl) hHeld ?_ ?_
  rotate_left 1
  · (intro w hSw; (try dsimp only at hSw); go_simp; try with_reducible rfl)
  simp only [Act.put, List.setIfInBounds_toArray, List.set_cons_zero, List.set_cons_succ]
  refine regTake 8 (some 29) (v := ?_) rfl rfl (by kernel_rfl) (by kernel_rfl) (by kernel_rfl) (fun _ _ _ h => h) (by rfl) hHeld ?_ ?_
  rotate_left 1
  · (intro w hSw; (try dsimp only at hSw); go_simp; try with_reducible rfl)
  simp only [Act.put, List.setIfInBounds_toArray, List.set_cons_zero, List.set_cons_succ]
  refine wpAnyH_done (by kernel_rfl) ?_ _
  obtain ⟨⟨z2, c20, c21⟩, ⟨z3, c30, c31⟩, _, ⟨z6, c60, c61⟩, ⟨z7, c70, c71⟩, HW⟩ := hHeld
  obtain ⟨wy, rfl⟩ : ∃ wy, wy = wx6 := ⟨_, rfl⟩
  by_cases g : b = 0
  · obtain ⟨hX, hY, rfl⟩ := H0.out g
    have gh : ((hi b : Int) == 0) = true := by rw [g]; rfl
    have gl : ((lo b : Int) == 0) = true := by rw [g]; rfl
    have xh : ((hi X : Int) == 0) = true := by rw [hX]; rfl
    have xl : ((lo X : Int) == 0) = true := by rw [hX]; rfl
    have yh : ((hi Y : Int) == 0) = true := by rw [hY]; rfl
    have yl : ((lo Y : Int) == 0) = true := by rw [hY]; rfl
    clear hX hY g
    go_wp2_with fail
    go_ret
    exact ⟨rfl, HW.out⟩
  · obtain rfl := H1.out g
    have N4 := Lib.hid (M4.out g)
    clear H0 H1 M1 M2 M3 M4
    go_upto_region 5 with fail
    go_cut [32] (fun s wx => s = .bool false ∧ wy = wx)
    case first =>
      rcases box_ne2 b g with h | ⟨h, h'⟩
      all_goals (go_wp2_with (fail); go_meet; exact ⟨rfl, rfl⟩)
    case rest =>
      obtain ⟨rfl, rfl⟩ := hcut
      go_wp2_with fail
      refine (N4.out _).mono ?_
      rintro e w4 ⟨rfl, hb4⟩
      obtain ⟨y6, d60, d61⟩ := keep2 hb4 z6 ⟨c60, c61⟩
      obtain ⟨y7, d70, d71⟩ := keep2 hb4 z7 ⟨c70, c71⟩
      have HW4 := Lib.hid (HW.out.trans (hb4.mono HW.out.size))
      clear hb4 c20 c21 c30 c31 c60 c61 c70 c71 z2 z3 z6 z7 HW
      go_wp2_with fail
      go_ret
      exact ⟨rfl, (HW4.out.alloc HW4.out.size _).alloc (by have := HW4.out.size; simp; omega) _⟩

theorem dgcds_walk (a b : Nat) (ha : a < M128) (hb : b < M128) (w : World) :
    Calls Try.prog 4 #[.agg #[.int .u64 (hi a : Nat), .int .u64 (lo a : Nat)], .agg #[.int .u64 (hi b : Nat), .int .u64 (lo b : Nat)]] w fun e w' => e = .returned (.bool true) ∧ Below w.heap.size w w' := by
  by_cases h : b = 0
  · subst h
    exact dgcds_core a 0 (Nat.gcd a 0) 0 0 4 w (gcd_num a 0 ha hb) (lowest_zero a) (rgcd_any a 0 ha hb) (fun h => absurd rfl h) (fun _ => ⟨rfl, rfl, rfl⟩) (fun h => absurd rfl h)
  · exact dgcds_core a b _ _ _ 0 w (gcd_num a b ha hb) (lowest_num a b ha hb h) (rgcd_any a b ha hb) (fun h => rlowest_any a b ha hb h) (fun e => absurd e h) (fun _ => rfl)
end Go.Proofs.Ytjebdahdpjfinaa
