/- root.Root answers the greatest number whose square is not more than a; nothing that was in memory before is changed. -/
import Derived.Test.YtacnaencmbnjpaaBoxes
import Derived.Test.YtacnaencmbnjpaaRootN
import Derived.WalkMore
namespace Go.Proofs.Ytacnaencmbnjpaa
open Go.RowKit

/-- The closure: whether a number's square is beyond a. -/
theorem beyond_core (a x P ba : Nat) (q : Bool) (w : World) (hc : Holds w ba a)
    (m1 : ∀ w, Calls Try.prog 54 #[.int .u64 (x : Nat), .int .u64 (x : Nat)] w fun e w' => e = .returned (.agg #[.int .u64 (hi P : Nat), .int .u64 (lo P : Nat)]) ∧ w.alloc (.cells #[.int .u64 (hi P : Nat), .int .u64 (lo P : Nat)] 55) = w')
    (m2 : ∀ w, Calls Try.prog 64 #[.agg #[.int .u64 (hi a : Nat), .int .u64 (lo a : Nat)], .agg #[.int .u64 (hi P : Nat), .int .u64 (lo P : Nat)]] w fun e w' => e = .returned (.bool q) ∧ Below w.heap.size w w') :
    Calls Try.prog 63 #[.int .u64 (x : Nat), .pointer (some ⟨ba, 0, none⟩)] w fun e w' => e = .returned (.bool q) ∧ Below w.heap.size w w' := by
  have M1 := Lib.hid m1; have M2 := Lib.hid m2
  clear m1 m2
  have z := lt_of_cell hc.1
  go_enter Try.func63, Try.ntmps63
  go_upto_region 1 with fail
  refine wp_region_held_drew (S := (fun w' => (ba < w'.heap.size ∧ w'.cell? ⟨ba, 0, none⟩ = some (.int .u64 (hi a : Nat)) ∧ w'.cell? ⟨ba, 1, none⟩ = some (.int .u64 (lo a : Nat))) ∧ Hid (Below w.heap.size w w'))) (by kernel_rfl) ⟨⟨z, hc.1, hc.2⟩, Lib.hid (Below.refl _ _).drew⟩ (fun hHeld => ?_)
  refine regTake 0 (some 4) (v := ?_) rfl rfl (by kernel_rfl) (by kernel_rfl) (by kernel_rfl) (fun _ _ _ h => h) (by rfl) hHeld ?_ ?_
  rotate_left 1
  · (intro w hSw; (try dsimp only at hSw); go_simp; try with_reducible rfl)
  simp only [Act.put, List.setIfInBounds_toArray, List.set_cons_zero, List.set_cons_succ]
  refine regTake 1 (some 5) (v := ?_) rfl rfl (by kernel_rfl) (by kernel_rfl) (by kernel_rfl) (fun _ _ _ h => h) (by rfl) hHeld ?_ ?_
  rotate_left 1
  · (intro w hSw; (try dsimp only at hSw); go_simp; try with_reducible rfl)
  simp only [Act.put, List.setIfInBounds_toArray, List.set_cons_zero, List.set_cons_succ]
  refine regTake 2 (some 6) (v := ?_) rfl rfl (by kernel_rfl) (by kernel_rfl) (by kernel_rfl) (fun _ _ _ h => h) (by rfl) hHeld ?_ ?_
  rotate_left 1
  · (intro w hSw; (try dsimp only at hSw); go_simp; try with_reducible rfl)
  simp only [Act.put, List.setIfInBounds_toArray, List.set_cons_zero, List.set_cons_succ]
  refine regCall 3 (some 7) (f := 54) (args := ?_) rfl rfl (by kernel_rfl) (by rfl) ?_ ?_
  rotate_left 1
  · (go_simp; try with_reducible rfl)
  refine (M1.out _).mono ?_
  rintro e wx3 ⟨rfl, rfl⟩
  refine ⟨_, rfl, ⟨keep2 ((Below.refl _ _).alloc (Nat.le_refl _) _) hHeld.1.1 hHeld.1.2, Lib.hid (hHeld.2.out.alloc hHeld.2.out.size _)⟩, fun hHeld => ?_⟩
  simp only [Act.put, List.setIfInBounds_toArray, List.set_cons_zero, List.set_cons_succ]
  refine regCall 4 (some 8) (f := 64) (args := ?_) rfl rfl (by kernel_rfl) (by rfl) ?_ ?_
  rotate_left 1
  · (go_simp; try with_reducible rfl)
  refine (M2.out _).mono ?_
  rintro e wx4 ⟨rfl, hbx⟩
  refine ⟨_, rfl, ⟨keep2 hbx hHeld.1.1 hHeld.1.2, Lib.hid (hHeld.2.out.trans (hbx.mono hHeld.2.out.size))⟩, fun hHeld => ?_⟩
  simp only [Act.put, List.setIfInBounds_toArray, List.set_cons_zero, List.set_cons_succ]
  refine regTake 5 (some 3) (v := ?_) rfl rfl (by kernel_rfl) (by kernel_rfl) (by kernel_rfl) (fun _ _ _ h => h) (by rfl) hHeld ?_ ?_
  rotate_left 1
  · (intro w hSw; (try dsimp only at hSw); go_simp; try with_reducible rfl)
  simp only [Act.put, List.setIfInBounds_toArray, List.set_cons_zero, List.set_cons_succ]
  refine wpAnyH_done (by kernel_rfl) ?_ _
  obtain ⟨_, HW⟩ := hHeld
  go_wp2_with fail
  go_ret
  exact ⟨rfl, HW.out⟩
theorem beyond_any (a x ba : Nat) (ha : a < M128) (hx : x < B64) (w : World) (hc : Holds w ba a) :
    Calls Try.prog 63 #[.int .u64 (x : Nat), .pointer (some ⟨ba, 0, none⟩)] w fun e w' => e = .returned (.bool (ltW a (x * x))) ∧ Below w.heap.size w w' :=
  beyond_core a x _ ba _ w hc (mul_any x x hx hx) (less_num a _ ha (sq_fit hx))

theorem root_num (a r : Nat) (ha : a < M128) (hr : IsRoot a r) (w : World) :
    Calls Try.prog 41 #[.agg #[.int .u64 (hi a : Nat), .int .u64 (lo a : Nat)]] w fun e w' => e = .returned (.int .u64 (r : Nat)) ∧ Below w.heap.size w w' := by
  have hf := hr.fit ha
  have HR := Lib.hid hr; clear hr
  go_enter Try.func41, Try.ntmps41
  go_wp2_with fail
  refine wp_scope_straight ?_
  go_wp2_with fail
  refine wp_label ?_
  go_wp2_with fail
  go_loopw [4, 5] (fun l u wr => ∃ x y : Nat, l = .int .u64 (x : Nat) ∧ u = .int .u64 (y : Nat) ∧ x ≤ r ∧ r ≤ y ∧ y < B64 ∧ Hid (Holds wr w.heap.size a) ∧ Hid (Below w.heap.size w wr)) (fun l u _ => (intOf u - intOf l).toNat)
  case atStart => exact ⟨0, 18446744073709551615, rfl, rfl, Nat.zero_le _, by unfold B64 at hf; omega, by decide, Lib.hid (Box.new _ _ _).holds, Lib.hid ((Below.refl _ _).alloc (Nat.le_refl _) _)⟩
  case round =>
    obtain ⟨x, y, rfl, rfl, h1, h2, h3, C, BR⟩ := hrel
    by_cases heq : x = y
    · subst heq
      obtain rfl : r = x := by omega
      go_wp2_with fail
      rw [Exit.noGoto_ret]
      go_ret
      exact ⟨rfl, BR.out⟩
    · obtain ⟨e1, e2, e3, e5⟩ := mid_nums x y (by omega) h3
      have hm1 : x < y - (y - x) / 2 := by omega
      have hm2 : y - (y - x) / 2 ≤ y := by omega
      obtain ⟨d, hd⟩ : ∃ d, y - x = d := ⟨_, rfl⟩
      rw [hd] at e1 e2 e3 e5 hm1 hm2
      clear hd
      obtain ⟨g, hg⟩ : ∃ g, d / 2 = g := ⟨_, rfl⟩
      rw [hg] at e2 e3 e5 hm1 hm2
      clear hg
      obtain ⟨m, hm⟩ : ∃ m, y - g = m := ⟨_, rfl⟩
      rw [hm] at e3 hm1 hm2
      clear hm
      have hB := beyond_any a m w.heap.size ha (by omega) wr C.out
      have neq : ((x : Int) == (y : Int)) = false := by rw [beqN]; simp [heq]
      by_cases hq : a < m * m
      · have hrm := HR.out.beyond hq
        rw [show ltW a (m * m) = true from decide_eq_true hq] at hB
        have HBY := Lib.hid hB; clear hB hq
        have e4 : IntKind.u64.wrap ((m : Int) - 1) = ((m - 1 : Nat) : Int) := pred_num m (by omega) (by omega)
        go_wp2_with fail
        refine HBY.out.mono ?_
        rintro e w1 ⟨rfl, hb1⟩
        go_wp2_with fail
        go_roundw
        case rel => exact ⟨x, m - 1, rfl, rfl, h1, by omega, by omega, Lib.hid ⟨(hb1.cell (p := ⟨w.heap.size, 0, none⟩) (lt_of_cell C.out.1)).trans C.out.1, (hb1.cell (p := ⟨w.heap.size, 1, none⟩) (lt_of_cell C.out.1)).trans C.out.2⟩, Lib.hid (BR.out.trans (hb1.mono BR.out.size))⟩
        case measure => simp [intOf]; omega
      · have hrm := HR.out.not_beyond (Nat.le_of_not_lt hq)
        rw [show ltW a (m * m) = false from decide_eq_false hq] at hB
        have HBY := Lib.hid hB; clear hB hq
        go_wp2_with fail
        refine HBY.out.mono ?_
        rintro e w1 ⟨rfl, hb1⟩
        go_wp2_with fail
        go_roundw
        case rel => exact ⟨m, y, rfl, rfl, hrm, h2, h3, Lib.hid ⟨(hb1.cell (p := ⟨w.heap.size, 0, none⟩) (lt_of_cell C.out.1)).trans C.out.1, (hb1.cell (p := ⟨w.heap.size, 1, none⟩) (lt_of_cell C.out.1)).trans C.out.2⟩, Lib.hid (BR.out.trans (hb1.mono BR.out.size))⟩
        case measure => simp [intOf]; omega
end Go.Proofs.Ytacnaencmbnjpaa
