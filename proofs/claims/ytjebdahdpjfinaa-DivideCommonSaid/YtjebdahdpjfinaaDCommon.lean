/- The law DivideCommon, walked: it answers true at every three numbers, and nothing that was in memory before is changed. -/
import Derived.Test.YtjebdahdpjfinaaGcd
import Derived.Test.YtjebdahdpjfinaaAlive2
namespace Go.Proofs.Ytjebdahdpjfinaa
open Go.RowKit

theorem hi_low (x : Nat) (h : x < B64) : hi x = 0 := by unfold hi; unfold B64 at h; exact Nat.div_eq_of_lt h
theorem lo_low (x : Nat) (h : x < B64) : lo x = x := by unfold lo; unfold B64 at h; exact Nat.mod_eq_of_lt h

set_option maxRecDepth 100000 in
set_option maxHeartbeats 4000000 in
theorem dcommon_core (a b k A B K X Y G D P Q : Nat) (w : World)
    (eA : (a : Int) / 8589934592 = (A : Nat)) (eB : (b : Int) / 8589934592 = (B : Nat)) (eK : (k : Int) % 4294967296 + 1 = (K : Nat)) (hk : k < 18446744073709551616)
    (m1 : ∀ w, Calls Try.prog 17 #[.int .u64 (A : Nat), .int .u64 (K : Nat)] w fun e w' => e = .returned (.agg #[.int .u64 (hi X : Nat), .int .u64 (lo X : Nat)]) ∧ w.alloc (.cells #[.int .u64 (hi X : Nat), .int .u64 (lo X : Nat)] 24) = w')
    (m2 : ∀ w, Calls Try.prog 17 #[.int .u64 (B : Nat), .int .u64 (K : Nat)] w fun e w' => e = .returned (.agg #[.int .u64 (hi Y : Nat), .int .u64 (lo Y : Nat)]) ∧ w.alloc (.cells #[.int .u64 (hi Y : Nat), .int .u64 (lo Y : Nat)] 24) = w')
    (m3 : ∀ w, Calls Try.prog 10 #[.agg #[.int .u64 (hi X : Nat), .int .u64 (lo X : Nat)], .agg #[.int .u64 (hi Y : Nat), .int .u64 (lo Y : Nat)]] w fun e w' => e = .returned (.agg #[.int .u64 (hi G : Nat), .int .u64 (lo G : Nat)]) ∧ Below w.heap.size w w')
    (m4 : ∀ w, Calls Try.prog 10 #[.agg #[.int .u64 0, .int .u64 (A : Nat)], .agg #[.int .u64 0, .int .u64 (B : Nat)]] w fun e w' => e = .returned (.agg #[.int .u64 (hi D : Nat), .int .u64 (lo D : Nat)]) ∧ Below w.heap.size w w')
    (m5 : ∀ w, Calls Try.prog 14 #[.agg #[.int .u64 (hi D : Nat), .int .u64 (lo D : Nat)], .agg #[.int .u64 0, .int .u64 (K : Nat)]] w fun e w' => e = .returned (.tuple #[.agg #[.int .u64 (hi G : Nat), .int .u64 (lo G : Nat)], .bool false]) ∧ Below w.heap.size w w')
    (m6 : ∀ w, Calls Try.prog 10 #[.agg #[.int .u64 (hi Y : Nat), .int .u64 (lo Y : Nat)], .agg #[.int .u64 (hi X : Nat), .int .u64 (lo X : Nat)]] w fun e w' => e = .returned (.agg #[.int .u64 (hi G : Nat), .int .u64 (lo G : Nat)]) ∧ Below w.heap.size w w')
    (h0 : G = 0 → A = 0 ∧ B = 0)
    (m7 : G ≠ 0 → ∀ w, Calls Try.prog 7 #[.agg #[.int .u64 (hi X : Nat), .int .u64 (lo X : Nat)], .agg #[.int .u64 (hi G : Nat), .int .u64 (lo G : Nat)]] w fun e w' => e = .returned (.tuple #[.agg #[.int .u64 (hi P : Nat), .int .u64 (lo P : Nat)], .agg #[.int .u64 0, .int .u64 0], .int .i64 0]) ∧ Below w.heap.size w w')
    (m8 : G ≠ 0 → ∀ w, Calls Try.prog 7 #[.agg #[.int .u64 (hi Y : Nat), .int .u64 (lo Y : Nat)], .agg #[.int .u64 (hi G : Nat), .int .u64 (lo G : Nat)]] w fun e w' => e = .returned (.tuple #[.agg #[.int .u64 (hi Q : Nat), .int .u64 (lo Q : Nat)], .agg #[.int .u64 0, .int .u64 0], .int .i64 0]) ∧ Below w.heap.size w w')
    (m9 : G ≠ 0 → ∀ w, Calls Try.prog 10 #[.agg #[.int .u64 (hi P : Nat), .int .u64 (lo P : Nat)], .agg #[.int .u64 (hi Q : Nat), .int .u64 (lo Q : Nat)]] w fun e w' => e = .returned (.agg #[.int .u64 0, .int .u64 (1 : Nat)]) ∧ Below w.heap.size w w') :
    Calls Try.prog 6 #[.int .u64 a, .int .u64 b, .int .u64 k] w fun e w' => e = .returned (.bool true) ∧ Below w.heap.size w w' := by
  have M1 := Lib.hid m1; have M2 := Lib.hid m2; have M3 := Lib.hid m3; have M4 := Lib.hid m4; have M5 := Lib.hid m5; have M6 := Lib.hid m6; have M7 := Lib.hid m7; have M8 := Lib.hid m8; have M9 := Lib.hid m9
  have H0 := Lib.hid h0
  clear h0 m1 m2 m3 m4 m5 m6 m7 m8 m9
  go_enter Try.func6, Try.ntmps6
  go_wp2_with fail
  refine (M1.out _).mono ?_
  rintro e w' ⟨rfl, rfl⟩
  go_wp2_with fail
  refine (M2.out _).mono ?_
  rintro e w' ⟨rfl, rfl⟩
  go_wp2_with fail
  refine (M3.out _).mono ?_
  rintro e w1 ⟨rfl, hb1⟩
  have b7 : Box w1 (w.heap.size + 1 + 1) X := ((Box.newAt (by simp)).alloc _).call hb1
  have b8 : Box w1 (w.heap.size + 1 + 1 + 1) Y := (Box.newAt (by simp)).call hb1
  have hw1 : Below w.heap.size w w1 := (((((Below.refl _ _).alloc (Nat.le_refl _) _).alloc (by simp) _).alloc (by simp; omega) _).alloc (by simp; omega) _).trans (hb1.mono (by simp; omega))
  have HW1 := Lib.hid hw1
  clear hb1 hw1
  go_wp2_with fail
  refine (M4.out _).mono ?_
  rintro e w2 ⟨rfl, hb2⟩
  have b72 := (b7.alloc (.cells #[.int .u64 (hi G : Nat), .int .u64 (lo G : Nat)] 24)).call hb2
  have b82 := (b8.alloc (.cells #[.int .u64 (hi G : Nat), .int .u64 (lo G : Nat)] 24)).call hb2
  have b92 : Box w2 w1.heap.size G := (Box.new _ _ _).call hb2
  have hw2 : Below w.heap.size w w2 := (HW1.out.alloc HW1.out.size _).trans (hb2.mono (by have := HW1.out.size; simp; omega))
  have HW2 := Lib.hid hw2
  clear hb2 hw2 b7 b8 HW1
  go_wp2_with fail
  refine (M5.out _).mono ?_
  rintro e w3 ⟨rfl, hb3⟩
  have b73 := (b72.call hb3).alloc (.cells #[.int .u64 (hi G : Nat), .int .u64 (lo G : Nat)] 24)
  have b83 := (b82.call hb3).alloc (.cells #[.int .u64 (hi G : Nat), .int .u64 (lo G : Nat)] 24)
  have b93 := (b92.call hb3).alloc (.cells #[.int .u64 (hi G : Nat), .int .u64 (lo G : Nat)] 24)
  have b103 : Box (w3.alloc (.cells #[.int .u64 (hi G : Nat), .int .u64 (lo G : Nat)] 24)) w3.heap.size G := Box.new _ _ _
  have hw3 : Below w.heap.size w (w3.alloc (.cells #[.int .u64 (hi G : Nat), .int .u64 (lo G : Nat)] 24)) := (HW2.out.trans (hb3.mono HW2.out.size)).alloc (Nat.le_trans HW2.out.size hb3.size) _
  have HW3 := Lib.hid hw3
  clear hb3 hw3 b72 b82 b92 HW2
  go_upto_region 5 with fail
  refine wp_region_held_drew (S := (fun w' => ((w.heap.size + 1 + 1) < w'.heap.size ∧ w'.cell? ⟨(w.heap.size + 1 + 1), 0, none⟩ = some (.int .u64 (hi X : Nat)) ∧ w'.cell? ⟨(w.heap.size + 1 + 1), 1, none⟩ = some (.int .u64 (lo X : Nat))) ∧ ((w.heap.size + 1 + 1 + 1) < w'.heap.size ∧ w'.cell? ⟨(w.heap.size + 1 + 1 + 1), 0, none⟩ = some (.int .u64 (hi Y : Nat)) ∧ w'.cell? ⟨(w.heap.size + 1 + 1 + 1), 1, none⟩ = some (.int .u64 (lo Y : Nat))) ∧ (w1.heap.size < w'.heap.size ∧ w'.cell? ⟨w1.heap.size, 0, none⟩ = some (.int .u64 (hi G : Nat)) ∧ w'.cell? ⟨w1.heap.size, 1, none⟩ = some (.int .u64 (lo G : Nat))) ∧ (w3.heap.size < w'.heap.size ∧ w'.cell? ⟨w3.heap.size, 0, none⟩ = some (.int .u64 (hi G : Nat)) ∧ w'.cell? ⟨w3.heap.size, 1, none⟩ = some (.int .u64 (lo G : Nat))) ∧ Hid (Below w.heap.size w w'))) (by kernel_rfl) ⟨⟨b73.lt, b73.c0, b73.c1⟩, ⟨b83.lt, b83.c0, b83.c1⟩, ⟨b93.lt, b93.c0, b93.c1⟩, ⟨b103.lt, b103.c0, b103.c1⟩, Lib.hid HW3.out.drew⟩ (fun hHeld => ?_)
  clear b73 b83 b93 b103 HW3
  refine regTake 0 (some 46) (v := ?_) rfl rfl (by kernel_rfl) (by kernel_rfl) (by kernel_rfl) (fun _ _ _ h => h) (by rfl) hHeld ?_ ?_
  rotate_left 1
  · (intro w hSw; (try dsimp only at hSw); go_simp; try with_reducible rfl)
  simp only [Act.put, List.setIfInBounds_toArray, List.set_cons_zero, List.set_cons_succ]
  refine regTake 1 (some 47) (v := ?_) rfl rfl (by kernel_rfl) (by kernel_rfl) (by kernel_rfl) (fun _ _ _ h => h) (by rfl) hHeld ?_ ?_
  rotate_left 1
  · (intro w hSw; (try dsimp only at hSw); go_simp; try with_reducible rfl)
  simp only [Act.put, List.setIfInBounds_toArray, List.set_cons_zero, List.set_cons_succ]
  refine regTake 2 (some 48) (v := ?_) rfl rfl (by kernel_rfl) (by kernel_rfl) (by kernel_rfl) (fun _ _ _ h => h) (by rfl) hHeld ?_ ?_
  rotate_left 1
  · (intro w hSw; (try dsimp only at hSw); go_simp; try with_reducible rfl)
  simp only [Act.put, List.setIfInBounds_toArray, List.set_cons_zero, List.set_cons_succ]
  refine regTake 3 (some 49) (v := ?_) rfl rfl (by kernel_rfl) (by kernel_rfl) (by kernel_rfl) (fun _ _ _ h => h) (by rfl) hHeld ?_ ?_
  rotate_left 1
  · (intro w hSw; (try dsimp only at hSw); go_simp; try with_reducible rfl)
  simp only [Act.put, List.setIfInBounds_toArray, List.set_cons_zero, List.set_cons_succ]
  refine regTake 4 (some 50) (v := ?_) rfl rfl (by kernel_rfl) (by kernel_rfl) (by kernel_rfl) (fun _ _ _ h => h) (by rfl) hHeld ?_ ?_
  rotate_left 1
  · (intro w hSw; (try dsimp only at hSw); go_simp; try with_reducible rfl)
  simp only [Act.put, List.setIfInBounds_toArray, List.set_cons_zero, List.set_cons_succ]
  refine regTake 5 (some 51) (v := ?_) rfl rfl (by kernel_rfl) (by kernel_rfl) (by kernel_rfl) (fun _ _ _ h => h) (by rfl) hHeld ?_ ?_
  rotate_left 1
  · (intro w hSw; (try dsimp only at hSw); go_simp; try with_reducible rfl)
  simp only [Act.put, List.setIfInBounds_toArray, List.set_cons_zero, List.set_cons_succ]
  refine regTake 6 (some 52) (v := ?_) rfl rfl (by kernel_rfl) (by kernel_rfl) (by kernel_rfl) (fun _ _ _ h => h) (by rfl) hHeld ?_ ?_
  rotate_left 1
  · (intro w hSw; (try dsimp only at hSw); go_simp; try with_reducible rfl)
  simp only [Act.put, List.setIfInBounds_toArray, List.set_cons_zero, List.set_cons_succ]
  refine regCall 7 (some 53) (f := 10) (args := ?_) rfl rfl (by kernel_rfl) (by rfl) ?_ ?_
  rotate_left 1
  · (go_simp; try with_reducible rfl)
  refine (M6.out _).mono ?_
  rintro e wx7 ⟨rfl, hbx⟩
  refine ⟨_, rfl, ⟨keep2 hbx hHeld.1.1 hHeld.1.2, keep2 hbx hHeld.2.1.1 hHeld.2.1.2, keep2 hbx hHeld.2.2.1.1 hHeld.2.2.1.2, keep2 hbx hHeld.2.2.2.1.1 hHeld.2.2.2.1.2, Lib.hid (hHeld.2.2.2.2.out.trans (hbx.mono hHeld.2.2.2.2.out.size))⟩, fun hHeld => ?_⟩
  simp only [Act.put, List.setIfInBounds_toArray, List.set_cons_zero, List.set_cons_succ]
  refine regTake 8 (some 54) (v := ?_) rfl rfl (by kernel_rfl) (by kernel_rfl) (by kernel_rfl) (fun _ _ _ h => h) (by rfl) hHeld ?_ ?_
  rotate_left 1
  · (intro w hSw; (try dsimp only at hSw); go_simp; try with_reducible rfl)
  simp only [Act.put, List.setIfInBounds_toArray, List.set_cons_zero, List.set_cons_succ]
  refine regTake 9 (some 55) (v := ?_) rfl rfl (by kernel_rfl) (by kernel_rfl) (by kernel_rfl) (fun _ _ _ h => h) (by rfl) hHeld ?_ ?_
  rotate_left 1
  · (intro w hSw; (try dsimp only at hSw); go_simp; try with_reducible rfl)
  simp only [Act.put, List.setIfInBounds_toArray, List.set_cons_zero, List.set_cons_succ]
  refine regTake 10 (some 56) (v := ?_) rfl rfl (by kernel_rfl) (by kernel_rfl) (by kernel_rfl) (fun _ _ _ h => h) (by rfl) hHeld ?_ ?_
  rotate_left 1
  · (intro w hSw; (try dsimp only at hSw); go_simp; try with_reducible rfl)
  simp only [Act.put, List.setIfInBounds_toArray, List.set_cons_zero, List.set_cons_succ]
  refine regCall 11 (some 57) (f := 8) (args := ?_) rfl rfl (by kernel_rfl) (by rfl) ?_ ?_
  rotate_left 1
  · (go_simp; try with_reducible rfl)
  refine (alive2 _).mono ?_
  rintro e wx11 ⟨rfl, hbx⟩
  refine ⟨_, rfl, ⟨keep2 hbx hHeld.1.1 hHeld.1.2, keep2 hbx hHeld.2.1.1 hHeld.2.1.2, keep2 hbx hHeld.2.2.1.1 hHeld.2.2.1.2, keep2 hbx hHeld.2.2.2.1.1 hHeld.2.2.2.1.2, Lib.hid (hHeld.2.2.2.2.out.trans (hbx.mono hHeld.2.2.2.2.out.size))⟩, fun hHeld => ?_⟩
  simp only [Act.put, List.setIfInBounds_toArray, List.set_cons_zero, List.set_cons_succ]
  refine regTake 12 (some 58) (v := ?_) rfl rfl (by kernel_rfl) (by kernel_rfl) (by kernel_rfl) (fun _ _ _ h => h) (by rfl) hHeld ?_ ?_
  rotate_left 1
  · (intro w hSw; (try dsimp only at hSw); go_simp; try with_reducible rfl)
  simp only [Act.put, List.setIfInBounds_toArray, List.set_cons_zero, List.set_cons_succ]
  refine regTake 13 (some 59) (v := ?_) rfl rfl (by kernel_rfl) (by kernel_rfl) (by kernel_rfl) (fun _ _ _ h => h) (by rfl) hHeld ?_ ?_
  rotate_left 1
  · (intro w hSw; (try dsimp only at hSw); go_simp; try with_reducible rfl)
  simp only [Act.put, List.setIfInBounds_toArray, List.set_cons_zero, List.set_cons_succ]
  refine wpAnyH_done (by kernel_rfl) ?_ _
  obtain ⟨⟨z7, c70, c71⟩, ⟨z8, c80, c81⟩, ⟨z9, c90, c91⟩, ⟨z10, c100, c101⟩, HW⟩ := hHeld
  obtain ⟨wy, rfl⟩ : ∃ wy, wy = wx11 := ⟨_, rfl⟩
  by_cases g : G = 0
  · obtain ⟨hA, hB⟩ := H0.out g
    have gh : ((hi G : Int) == 0) = true := by rw [g]; rfl
    have gl : ((lo G : Int) == 0) = true := by rw [g]; rfl
    have qA : ((A : Int) == 0) = true := by rw [hA]; rfl
    have qB : ((B : Int) == 0) = true := by rw [hB]; rfl
    clear hA hB g
    go_wp2_with fail
    go_ret
    exact ⟨rfl, HW.out⟩
  · go_upto_region 7 with fail
    go_cut [62] (fun s wx => s = .bool false ∧ wy = wx)
    case first =>
      rcases box_ne2 G g with h | ⟨h, h'⟩
      all_goals (go_wp2_with (fail); go_meet; exact ⟨rfl, rfl⟩)
    case rest =>
      obtain ⟨rfl, rfl⟩ := hcut
      have N7 := Lib.hid (M7.out g); have N8 := Lib.hid (M8.out g); have N9 := Lib.hid (M9.out g)
      clear M1 M2 M3 M4 M5 M6 M7 M8 M9
      go_wp2_with fail
      refine (N7.out _).mono ?_
      rintro e w4 ⟨rfl, hb4⟩
      obtain ⟨y8, d80, d81⟩ := keep2 hb4 z8 ⟨c80, c81⟩
      obtain ⟨y9, d90, d91⟩ := keep2 hb4 z9 ⟨c90, c91⟩
      have HW4 := Lib.hid (HW.out.trans (hb4.mono HW.out.size))
      have s4 := hb4.size
      clear hb4 c70 c71 c80 c81 c90 c91 c100 c101 z7 z8 z9 z10 HW
      have y8' : w.heap.size + 1 + 1 < w4.heap.size := by omega
      go_wp2_with fail
      refine (N8.out _).mono ?_
      rintro e w5 ⟨rfl, hb5⟩
      have bP : Box w5 w4.heap.size P := ((Box.new _ _ _).alloc _).call hb5
      have bR : Box w5 (w4.heap.size + 1) 0 := (Box.new0At (by simp)).call hb5
      have zP := bP.lt; have zR := bR.lt
      have p0 := bP.c0; have p1 := bP.c1
      have r0 : w5.cell? ⟨w4.heap.size + 1, 0, none⟩ = some (.int .u64 0) := bR.c0
      have r1 : w5.cell? ⟨w4.heap.size + 1, 1, none⟩ = some (.int .u64 0) := bR.c1
      have HW5 := Lib.hid (((HW4.out.alloc HW4.out.size _).alloc (by have := HW4.out.size; simp; omega) _).trans (hb5.mono (by have := HW4.out.size; simp; omega)))
      clear hb5 d80 d81 d90 d91 y8 y9 y8' HW4 bP bR
      have q1 : w4.heap.size < w5.heap.size + 1 := by omega
      have q2 : w4.heap.size + 1 < w5.heap.size + 1 := by omega
      go_wp2_with fail
      refine (N9.out _).mono ?_
      rintro e w6 ⟨rfl, hb6⟩
      clear p0 p1 r0 r1
      go_wp2_with fail
      go_ret
      exact ⟨rfl, (((HW5.out.alloc HW5.out.size _).alloc (by have := HW5.out.size; simp; omega) _).alloc (by have := HW5.out.size; simp; omega) _).trans (hb6.mono (by have := HW5.out.size; simp; omega))⟩

theorem gcd_low (x y : Nat) (hx : x < B64) (hy : y < B64) (w : World) :
    Calls Try.prog 10 #[.agg #[.int .u64 0, .int .u64 (x : Nat)], .agg #[.int .u64 0, .int .u64 (y : Nat)]] w fun e w' => e = .returned (.agg #[.int .u64 (hi (Nat.gcd x y) : Nat), .int .u64 (lo (Nat.gcd x y) : Nat)]) ∧ Below w.heap.size w w' := by
  have h := gcd_num x y (Nat.lt_trans hx (by decide)) (Nat.lt_trans hy (by decide)) w
  rw [hi_low x hx, lo_low x hx, hi_low y hy, lo_low y hy] at h
  exact h
theorem div_exact (x g : Nat) (hx : x < M128) (hg : g < M128) (h0 : g ≠ 0) (hd : g ∣ x) (w : World) :
    Calls Try.prog 7 #[.agg #[.int .u64 (hi x : Nat), .int .u64 (lo x : Nat)], .agg #[.int .u64 (hi g : Nat), .int .u64 (lo g : Nat)]] w fun e w' => e = .returned (.tuple #[.agg #[.int .u64 (hi (x / g) : Nat), .int .u64 (lo (x / g) : Nat)], .agg #[.int .u64 0, .int .u64 0], .int .i64 0]) ∧ Below w.heap.size w w' := by
  have h := div_num x g hx hg h0 w
  rw [Nat.mod_eq_zero_of_dvd hd] at h
  exact h

theorem dcommon_walk (a b k : Nat) (ha : a < B64) (hb : b < B64) (hk : k < B64) (w : World) :
    Calls Try.prog 6 #[.int .u64 a, .int .u64 b, .int .u64 k] w fun e w' => e = .returned (.bool true) ∧ Below w.heap.size w w' := by
  unfold B64 at ha hb hk
  obtain ⟨A, hA⟩ : ∃ A, a / 8589934592 = A := ⟨_, rfl⟩
  obtain ⟨B, hB⟩ : ∃ B, b / 8589934592 = B := ⟨_, rfl⟩
  obtain ⟨K, hK⟩ : ∃ K, k % 4294967296 + 1 = K := ⟨_, rfl⟩
  have lA : A ≤ 2147483647 := by omega
  have lB : B ≤ 2147483647 := by omega
  have lK : K ≤ 4294967296 := by omega
  have K0 : 0 < K := by omega
  have xA := Nat.mul_le_mul lA lK
  have xB := Nat.mul_le_mul lB lK
  have sA : A < B64 := by unfold B64; omega
  have sB : B < B64 := by unfold B64; omega
  have sK : K < B64 := by unfold B64; omega
  have sX : A * K < M128 := by unfold M128; omega
  have sY : B * K < M128 := by unfold M128; omega
  have eG : Nat.gcd (A * K) (B * K) = Nat.gcd A B * K := Nat.gcd_mul_right A K B
  have sG := gcd_lt (A * K) (B * K) sX sY
  have sD := gcd_lt A B (Nat.lt_trans sA (by decide)) (Nat.lt_trans sB (by decide))
  refine dcommon_core a b k A B K (A * K) (B * K) (Nat.gcd (A * K) (B * K)) (Nat.gcd A B) (A * K / Nat.gcd (A * K) (B * K)) (B * K / Nat.gcd (A * K) (B * K)) w (by omega) (by omega) (by omega) hk
    (mul_any A K sA sK) (mul_any B K sB sK) (gcd_num _ _ sX sY) (gcd_low A B sA sB) ?_ ?_ ?_ ?_ ?_ ?_
  · intro w
    have h := times_fit (Nat.gcd A B) K sD (Nat.lt_trans sK (by decide)) (by rw [← eG]; exact sG) w
    rw [hi_low K sK, lo_low K sK, ← eG] at h
    exact h
  · intro w
    have h := gcd_num (B * K) (A * K) sY sX w
    rw [Nat.gcd_comm (B * K)] at h
    exact h
  · intro h
    rw [eG] at h
    have h1 : Nat.gcd A B = 0 := by
      rcases Nat.mul_eq_zero.1 h with h | h
      · exact h
      · omega
    exact ⟨Nat.eq_zero_of_gcd_eq_zero_left h1, Nat.eq_zero_of_gcd_eq_zero_right h1⟩
  · exact fun h => div_exact _ _ sX sG h (Nat.gcd_dvd_left _ _)
  · exact fun h => div_exact _ _ sY sG h (Nat.gcd_dvd_right _ _)
  · intro h w
    have e : Nat.gcd (A * K / Nat.gcd (A * K) (B * K)) (B * K / Nat.gcd (A * K) (B * K)) = 1 := by
      rw [Nat.gcd_div (Nat.gcd_dvd_left _ _) (Nat.gcd_dvd_right _ _), Nat.div_self (Nat.pos_of_ne_zero h)]
    have h2 := gcd_num (A * K / Nat.gcd (A * K) (B * K)) (B * K / Nat.gcd (A * K) (B * K)) (Nat.lt_of_le_of_lt (Nat.div_le_self _ _) sX) (Nat.lt_of_le_of_lt (Nat.div_le_self _ _) sY) w
    rw [e] at h2
    exact h2
end Go.Proofs.Ytjebdahdpjfinaa
