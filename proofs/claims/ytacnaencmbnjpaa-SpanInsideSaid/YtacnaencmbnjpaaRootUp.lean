/- root.Up: the least number whose square is not less than a; nothing that was in memory before is changed. -/
import Derived.Test.YtacnaencmbnjpaaRoot
namespace Go.Proofs.Ytacnaencmbnjpaa
open Go.RowKit

theorem mul_sq (x : Nat) (hx : x < B64) (w : World) :
    Calls Try.prog 54 #[.int .u64 (x : Nat), .int .u64 (x : Nat)] w fun e w' => e = .returned (.agg #[.int .u64 (hi (x * x) : Nat), .int .u64 (lo (x * x) : Nat)]) ∧ Below w.heap.size w w' := by
  refine (mul_any x x hx hx w).mono ?_
  rintro e w' ⟨h1, rfl⟩
  exact ⟨h1, (Below.refl _ _).alloc (Nat.le_refl _) _⟩
/-- Two wide numbers that are not the same. -/
theorem box_ne (p a : Nat) (h : p ≠ a) : (((hi p : Int) == (hi a : Int)) = false) ∨ (((hi p : Int) == (hi a : Int)) = true ∧ ((lo p : Int) == (lo a : Int)) = false) := by
  rw [beqN, beqN]
  by_cases c : hi p = hi a
  · exact .inr ⟨decide_eq_true c, decide_eq_false fun d => h (hi_lo_ext _ _ c d)⟩
  · exact .inl (decide_eq_false c)
theorem eqW (p a : Nat) (w : World) : (Op.equalIn 10000 55 (.agg #[.int .u64 (hi p : Nat), .int .u64 (lo p : Nat)]) (.agg #[.int .u64 (hi a : Nat), .int .u64 (lo a : Nat)])).run Try.prog w = .ok (decide (p = a)) w := by
  by_cases h : p = a
  · subst h
    rw [decide_eq_true rfl]
    go_simp
  · rw [decide_eq_false h]
    rcases box_ne p a h with c | ⟨c, d⟩
    all_goals go_simp

theorem add_one (r : Nat) (hf : r < B64) (w : World) :
    Calls Try.prog 59 #[.agg #[.int .u64 0, .int .u64 (r : Nat)], .agg #[.int .u64 0, .int .u64 1]] w fun e w' => e = .returned (.tuple #[.agg #[.int .u64 (hi (r + 1) : Nat), .int .u64 (lo (r + 1) : Nat)], .bool false]) ∧ Below w.heap.size w w' := by
  have h := add_fit r 1 (by unfold B64 at hf; unfold M128; omega) w
  rw [hi_low r hf, lo_low r hf] at h
  exact h
theorem up_core (a r P U : Nat) (q o : Bool) (w : World)
    (m1 : ∀ w, Calls Try.prog 41 #[.agg #[.int .u64 (hi a : Nat), .int .u64 (lo a : Nat)]] w fun e w' => e = .returned (.int .u64 (r : Nat)) ∧ Below w.heap.size w w')
    (m2 : ∀ w, Calls Try.prog 54 #[.int .u64 (r : Nat), .int .u64 (r : Nat)] w fun e w' => e = .returned (.agg #[.int .u64 (hi P : Nat), .int .u64 (lo P : Nat)]) ∧ Below w.heap.size w w')
    (m3 : ∀ w, Calls Try.prog 59 #[.agg #[.int .u64 0, .int .u64 (r : Nat)], .agg #[.int .u64 0, .int .u64 1]] w fun e w' => e = .returned (.tuple #[.agg #[.int .u64 (hi (r + 1) : Nat), .int .u64 (lo (r + 1) : Nat)], .bool o]) ∧ Below w.heap.size w w')
    (he : ∀ W, (Op.equalIn 10000 55 (.agg #[.int .u64 (hi P : Nat), .int .u64 (lo P : Nat)]) (.agg #[.int .u64 (hi a : Nat), .int .u64 (lo a : Nat)])).run Try.prog W = .ok q W) (hU : if q = true then hi U = 0 ∧ lo U = r else U = r + 1) :
    Calls Try.prog 42 #[.agg #[.int .u64 (hi a : Nat), .int .u64 (lo a : Nat)]] w fun e w' => e = .returned (.agg #[.int .u64 (hi U : Nat), .int .u64 (lo U : Nat)]) ∧ Below w.heap.size w w' := by
  have M1 := Lib.hid m1; have M2 := Lib.hid m2; have M3 := Lib.hid m3; have HE := Lib.hid he; have HU := Lib.hid hU
  clear m1 m2 m3 he hU
  go_enter Try.func42, Try.ntmps42
  go_wp2_with fail
  refine (M1.out _).mono ?_
  rintro e w1 ⟨rfl, hb1⟩
  have bA : Box w1 w.heap.size a := ((Box.new _ _ _).alloc _).call hb1
  have bR : Box w1 (w.heap.size + 1) 0 := (Box.new0At (by simp)).call hb1
  have hw1 : Below w.heap.size w w1 := (((Below.refl _ _).alloc (Nat.le_refl _) _).alloc (by simp) _).trans (hb1.mono (by simp; omega))
  have HW1 := Lib.hid hw1
  clear hb1 hw1
  go_upto_region 2 with fail
  go_cut [12] (fun s wx => s = .bool q ∧ Box wx (w.heap.size + 1) 0 ∧ Hid (Below w.heap.size w wx))
  case first =>
    refine wp_region_held_drew (S := (fun w' => (w.heap.size < w'.heap.size ∧ w'.cell? ⟨w.heap.size, 0, none⟩ = some (.int .u64 (hi a : Nat)) ∧ w'.cell? ⟨w.heap.size, 1, none⟩ = some (.int .u64 (lo a : Nat))) ∧ Hid (Below w.heap.size w w') ∧ Box w' (w.heap.size + 1) 0)) (by kernel_rfl) ⟨⟨bA.lt, bA.c0, bA.c1⟩, Lib.hid HW1.out.drew, bR.drew⟩ (fun hHeld => ?_)
    clear bA HW1 bR
    have he := HE.out
    refine regTake 0 (some 8) (v := ?_) rfl rfl (by kernel_rfl) (by kernel_rfl) (by kernel_rfl) (fun _ _ _ h => h) (by rfl) hHeld ?_ ?_
    rotate_left 1
    · (intro w hSw; (try dsimp only at hSw); go_simp; try with_reducible rfl)
    simp only [Act.put, List.setIfInBounds_toArray, List.set_cons_zero, List.set_cons_succ]
    refine regTake 1 (some 9) (v := ?_) rfl rfl (by kernel_rfl) (by kernel_rfl) (by kernel_rfl) (fun _ _ _ h => h) (by rfl) hHeld ?_ ?_
    rotate_left 1
    · (intro w hSw; (try dsimp only at hSw); go_simp; try with_reducible rfl)
    simp only [Act.put, List.setIfInBounds_toArray, List.set_cons_zero, List.set_cons_succ]
    refine regTake 3 (some 11) (v := ?_) rfl rfl (by kernel_rfl) (by kernel_rfl) (by kernel_rfl) (fun _ _ _ h => h) (by rfl) hHeld ?_ ?_
    rotate_left 1
    · (intro w hSw; (try dsimp only at hSw); go_simp; try with_reducible rfl)
    simp only [Act.put, List.setIfInBounds_toArray, List.set_cons_zero, List.set_cons_succ]
    refine regCall 2 (some 10) (f := 54) (args := ?_) rfl rfl (by kernel_rfl) (by rfl) ?_ ?_
    rotate_left 1
    · (go_simp; try with_reducible rfl)
    refine (M2.out _).mono ?_
    rintro e wx2 ⟨rfl, hbx⟩
    refine ⟨_, rfl, ⟨keep2 hbx hHeld.1.1 hHeld.1.2, Lib.hid (hHeld.2.1.out.trans (hbx.mono hHeld.2.1.out.size)), hHeld.2.2.call hbx⟩, fun hHeld => ?_⟩
    simp only [Act.put, List.setIfInBounds_toArray, List.set_cons_zero, List.set_cons_succ]
    refine regTake 4 (some 12) (v := ?_) rfl rfl (by kernel_rfl) (by kernel_rfl) (by kernel_rfl) (fun _ _ _ h => h) (by rfl) hHeld ?_ ?_
    rotate_left 1
    · (intro w hSw; (try dsimp only at hSw); go_simp; try with_reducible rfl)
    simp only [Act.put, List.setIfInBounds_toArray, List.set_cons_zero, List.set_cons_succ]
    refine wpAnyH_done (by kernel_rfl) ?_ _
    obtain ⟨_, HW, hB⟩ := hHeld
    go_wp2_with fail
    go_meet
    exact ⟨rfl, hB, HW⟩
  case rest =>
    obtain ⟨rfl, bR, HW⟩ := hcut
    have r0 : wc.cell? ⟨w.heap.size + 1, 0, none⟩ = some (.int .u64 0) := bR.c0
    have r1 : wc.cell? ⟨w.heap.size + 1, 1, none⟩ = some (.int .u64 0) := bR.c1
    have f0 := bR.f0; have f1 := bR.f1
    cases q with
    | true =>
      have u : hi U = 0 ∧ lo U = r := by have := HU.out; simpa using this
      clear HU bA HW1
      go_wp2_with fail
      have s := HW.out.size
      refine bodyPost_ret (v := .agg #[.int .u64 0, .int .u64 (r : Nat)]) (by simp [results, Try.results42, go_sem, *]) rfl ⟨by rw [u.1, u.2]; rfl, ?_⟩
      exact (HW.out.setCell (by simp) _).setCell (by simp) _
    | false =>
      obtain rfl : U = r + 1 := by have := HU.out; simpa using this
      clear HU bA HW1
      go_wp2_with fail
      refine (M3.out _).mono ?_
      rintro e w2 ⟨rfl, hb2⟩
      have bR2 := bR.call hb2
      have hw2 : Below w.heap.size w w2 := HW.out.trans (hb2.mono HW.out.size)
      have s2 := hw2.size
      have HW2 := Lib.hid hw2
      clear r0 r1 f0 f1 hb2 hw2
      have r0 : w2.cell? ⟨w.heap.size + 1, 0, none⟩ = some (.int .u64 0) := bR2.c0
      have r1 : w2.cell? ⟨w.heap.size + 1, 1, none⟩ = some (.int .u64 0) := bR2.c1
      have f0 := bR2.f0; have f1 := bR2.f1
      have z := bR2.lt
      have n1 : w2.heap.size ≠ w.heap.size + 1 := by omega
      go_wp2_with fail
      refine bodyPost_ret (v := .agg #[.int .u64 (hi (r + 1) : Nat), .int .u64 (lo (r + 1) : Nat)]) (by simp [results, Try.results42, go_sem, *]) rfl ⟨rfl, ?_⟩
      repeat first | exact HW2.out | refine Below.drew ?_ | refine Below.alloc ?_ (by first | omega | (simp; omega)) _ | refine Below.setCell ?_ (by first | (simp; done) | omega | (simp; omega)) _
theorem up_num (a r : Nat) (ha : a < M128) (hr : IsRoot a r) (w : World) :
    Calls Try.prog 42 #[.agg #[.int .u64 (hi a : Nat), .int .u64 (lo a : Nat)]] w fun e w' => e = .returned (.agg #[.int .u64 (hi (upOf a r) : Nat), .int .u64 (lo (upOf a r) : Nat)]) ∧ Below w.heap.size w w' := by
  have hf := hr.fit ha
  refine up_core a r _ _ _ _ w (root_num a r ha hr) (mul_sq r hf) (add_one r hf) (eqW _ _) ?_
  unfold upOf
  by_cases h : r * r = a
  · simp [h, hi_low r hf, lo_low r hf]
  · simp [h]
end Go.Proofs.Ytacnaencmbnjpaa
