/- root.Up: the least number whose square is not less than a; nothing that was in memory before is changed. -/
import Derived.Test.YtacnaencmbnjpaaNum3
import Derived.Test.YtacnaencmbnjpaaBase
import Derived.Test.YtacnaencmbnjpaaBoxes
import Derived.WalkMore
/- Plain numbers: the greatest number whose square is not more than a number, found between two ends. No Go in sight. -/
namespace Go.Proofs.Ytacnaencmbnjpaa

/-- r is the greatest number whose square is not more than a. -/
structure IsRoot (a r : Nat) : Prop where
  le : r * r ≤ a
  lt : a < (r + 1) * (r + 1)
theorem sq_lt {x y : Nat} (h : x < y) : x * x < y * y := Nat.lt_of_le_of_lt (Nat.mul_le_mul_left x (Nat.le_of_lt h)) (Nat.mul_lt_mul_of_pos_right h (by omega))
theorem sq_le {x y : Nat} (h : x ≤ y) : x * x ≤ y * y := Nat.mul_le_mul h h
theorem lt_of_sq {x y : Nat} (h : x * x < y * y) : x < y := by
  rcases Nat.lt_or_ge x y with c | c
  · exact c
  · have := sq_le c; omega
theorem le_of_sq {x y : Nat} (h : x * x ≤ y * y) : x ≤ y := by
  rcases Nat.lt_or_ge y x with c | c
  · have := sq_lt c; omega
  · exact c
theorem IsRoot.is (a : Nat) : ∃ r, IsRoot a r := by
  induction a with
  | zero => exact ⟨0, by omega, by omega⟩
  | succ a ih =>
    obtain ⟨r, h1, h2⟩ := ih
    rcases Nat.lt_or_ge (a + 1) ((r + 1) * (r + 1)) with c | c
    · exact ⟨r, by omega, c⟩
    · have := sq_lt (show r + 1 < r + 1 + 1 by omega)
      exact ⟨r + 1, c, by omega⟩
theorem IsRoot.not_beyond {a r m : Nat} (h : IsRoot a r) (hm : m * m ≤ a) : m ≤ r := by
  have := h.lt
  have := lt_of_sq (show m * m < (r + 1) * (r + 1) by omega)
  omega
theorem IsRoot.beyond {a r m : Nat} (h : IsRoot a r) (hm : a < m * m) : r < m := by
  have := h.le
  exact lt_of_sq (show r * r < m * m by omega)
theorem IsRoot.same {a r s : Nat} (h : IsRoot a r) (k : IsRoot a s) : r = s :=
  Nat.le_antisymm (k.not_beyond h.le) (h.not_beyond k.le)
theorem IsRoot.fit {a r : Nat} (h : IsRoot a r) (ha : a < M128) : r < B64 := by
  have e : M128 = B64 * B64 := by decide
  rw [e] at ha
  exact h.beyond ha
theorem IsRoot.of_sq (x : Nat) : IsRoot (x * x) x := ⟨Nat.le_refl _, sq_lt (by omega)⟩
theorem IsRoot.mono {a b r s : Nat} (h : IsRoot a r) (k : IsRoot b s) (hab : a ≤ b) : r ≤ s := k.not_beyond (Nat.le_trans h.le hab)
theorem sq_fit {x : Nat} (h : x < B64) : x * x < M128 := by
  have e : M128 = B64 * B64 := by decide
  rw [e]; exact sq_lt h
/-- The upper one: the least number whose square is not less. -/
def upOf (a r : Nat) : Nat := if r * r = a then r else r + 1
theorem upOf_le {a r : Nat} (h : r < B64) : upOf a r ≤ B64 := by unfold upOf; split <;> omega
theorem upOf_lt {a r : Nat} (h : r < B64) : upOf a r < M128 := by have := upOf_le (a := a) h; unfold B64 at this; unfold M128; omega
theorem upOf_mono {a b r s : Nat} (h : IsRoot a r) (k : IsRoot b s) (hab : a ≤ b) : upOf a r ≤ upOf b s := by
  have m := h.mono k hab
  unfold upOf
  split <;> split
  · exact m
  · omega
  · rename_i c d
    rcases Nat.lt_or_ge r s with e | e
    · omega
    · obtain rfl : r = s := by omega
      have := h.le; omega
  · omega
/-- The middle of two ends, the upper one of two. -/
theorem mid_nums (l u : Nat) (h : l ≤ u) (hu : u < B64) :
    IntKind.u64.wrap ((u : Int) - (l : Int)) = ((u - l : Nat) : Int) ∧ ((u - l : Nat) : Int).tdiv 2 = (((u - l) / 2 : Nat) : Int) ∧ IntKind.u64.wrap ((u : Int) - (((u - l) / 2 : Nat) : Int)) = ((u - (u - l) / 2 : Nat) : Int) ∧ IntKind.u64.wrap (((u - l) / 2 : Nat) : Int) = (((u - l) / 2 : Nat) : Int) := by
  unfold B64 at hu
  refine ⟨?_, ?_, ?_, ?_⟩
  · rw [IntKind.wrap_u64]; omega
  · rw [Int.tdiv_eq_ediv_of_nonneg (by omega)]; omega
  · rw [IntKind.wrap_u64]; omega
  · rw [IntKind.wrap_u64]; omega
theorem pred_num (m : Nat) (h0 : 0 < m) (h : m < B64) : IntKind.u64.wrap ((m : Int) - 1) = ((m - 1 : Nat) : Int) := by
  unfold B64 at h; rw [IntKind.wrap_u64]; omega
end Go.Proofs.Ytacnaencmbnjpaa

/- root.Root answers the greatest number whose square is not more than a; nothing that was in memory before is changed. -/
namespace Go.Proofs.Ytacnaencmbnjpaa
open Go.RowKit

/-- The closure: whether a number's square is beyond a. -/
theorem beyond_core (a x P ba : Nat) (q : Bool) (w : World) (hc : Holds w ba a)
    (m1 : ∀ w, Calls Try.prog 54 #[.int .u64 (x : Nat), .int .u64 (x : Nat)] w fun e w' => e = .returned (.agg #[.int .u64 (hi P : Nat), .int .u64 (lo P : Nat)]) ∧ w.alloc (.cells #[.int .u64 (hi P : Nat), .int .u64 (lo P : Nat)] 55) = w')
    (m2 : ∀ w, Calls Try.prog 64 #[.agg #[.int .u64 (hi a : Nat), .int .u64 (lo a : Nat)], .agg #[.int .u64 (hi P : Nat), .int .u64 (lo P : Nat)]] w fun e w' => e = .returned (.bool q) ∧ Below w.heap.size w w') :
    Calls Try.prog 63 #[.int .u64 (x : Nat), .pointer (some ⟨ba, 0, none⟩)] w fun e w' => e = .returned (.bool q) ∧ Below w.heap.size w w' := by
  have M1 := Lib.hid m1; have M2 := Lib.hid m2
  clear m1 m2
  have z := lt_of_cell hc.1
  go_enter Try.func63, Try.ntmps63
  go_upto_region 1 with fail
  refine wp_region_held_drew (S := (fun w' => (ba < w'.heap.size ∧ w'.cell? ⟨ba, 0, none⟩ = some (.int .u64 (hi a : Nat)) ∧ w'.cell? ⟨ba, 1, none⟩ = some (.int .u64 (lo a : Nat))) ∧ Hid (Below w.heap.size w w'))) (by kernel_rfl) ⟨⟨z, hc.1, hc.2⟩, Lib.hid (Below.refl _ _).drew⟩ (fun hHeld => ?_)
  refine regTake 0 (some 4) (v := ?_) rfl rfl (by kernel_rfl) (by kernel_rfl) (by kernel_rfl) (fun _ _ _ h => h) (by rfl) hHeld ?_ ?_
  rotate_left 1
  · (intro w hSw; (try dsimp only at hSw); go_simp; try with_reducible rfl)
  simp only [Act.put, List.setIfInBounds_toArray, List.set_cons_zero, List.set_cons_succ]
  refine regTake 1 (some 5) (v := ?_) rfl rfl (by kernel_rfl) (by kernel_rfl) (by kernel_rfl) (fun _ _ _ h => h) (by rfl) hHeld ?_ ?_
  rotate_left 1
  · (intro w hSw; (try dsimp only at hSw); go_simp; try with_reducible rfl)
  simp only [Act.put, List.setIfInBounds_toArray, List.set_cons_zero, List.set_cons_succ]
  refine regTake 2 (some 6) (v := ?_) rfl rfl (by kernel_rfl) (by kernel_rfl) (by kernel_rfl) (fun _ _ _ h => h) (by rfl) hHeld ?_ ?_
  rotate_left 1
  · (intro w hSw; (try dsimp only at hSw); go_simp; try with_reducible rfl)
  simp only [Act.put, List.setIfInBounds_toArray, List.set_cons_zero, List.set_cons_succ]
  refine regCall 3 (some 7) (f := 54) (args := ?_) rfl rfl (by kernel_rfl) (by rfl) ?_ ?_
  rotate_left 1
  · (go_simp; try with_reducible rfl)
  refine (M1.out _).mono ?_
  rintro e wx3 ⟨rfl, rfl⟩
  refine ⟨_, rfl, ⟨keep2 ((Below.refl _ _).alloc (Nat.le_refl _) _) hHeld.1.1 hHeld.1.2, Lib.hid (hHeld.2.out.alloc hHeld.2.out.size _)⟩, fun hHeld => ?_⟩
  simp only [Act.put, List.setIfInBounds_toArray, List.set_cons_zero, List.set_cons_succ]
  refine regCall 4 (some 8) (f := 64) (args := ?_) rfl rfl (by kernel_rfl) (by rfl) ?_ ?_
  rotate_left 1
  · (go_simp; try with_reducible rfl)
  refine (M2.out _).mono ?_
  rintro e wx4 ⟨rfl, hbx⟩
  refine ⟨_, rfl, ⟨keep2 hbx hHeld.1.1 hHeld.1.2, Lib.hid (hHeld.2.out.trans (hbx.mono hHeld.2.out.size))⟩, fun hHeld => ?_⟩
  simp only [Act.put, List.setIfInBounds_toArray, List.set_cons_zero, List.set_cons_succ]
  refine regTake 5 (some 3) (v := ?_) rfl rfl (by kernel_rfl) (by kernel_rfl) (by kernel_rfl) (fun _ _ _ h => h) (by rfl) hHeld ?_ ?_
  rotate_left 1
  · (intro w hSw; (try dsimp only at hSw); go_simp; try with_reducible rfl)
  simp only [Act.put, List.setIfInBounds_toArray, List.set_cons_zero, List.set_cons_succ]
  refine wpAnyH_done (by kernel_rfl) ?_ _
  obtain ⟨_, HW⟩ := hHeld
  go_wp2_with fail
  go_ret
  exact ⟨rfl, HW.out⟩
theorem beyond_any (a x ba : Nat) (ha : a < M128) (hx : x < B64) (w : World) (hc : Holds w ba a) :
    Calls Try.prog 63 #[.int .u64 (x : Nat), .pointer (some ⟨ba, 0, none⟩)] w fun e w' => e = .returned (.bool (ltW a (x * x))) ∧ Below w.heap.size w w' :=
  beyond_core a x _ ba _ w hc (mul_any x x hx hx) (less_num a _ ha (sq_fit hx))

theorem root_num (a r : Nat) (ha : a < M128) (hr : IsRoot a r) (w : World) :
    Calls Try.prog 41 #[.agg #[.int .u64 (hi a : Nat), .int .u64 (lo a : Nat)]] w fun e w' => e = .returned (.int .u64 (r : Nat)) ∧ Below w.heap.size w w' := by
  have hf := hr.fit ha
  have HR := Lib.hid hr; clear hr
  go_enter Try.func41, Try.ntmps41
  go_wp2_with fail
  refine wp_scope_straight ?_
  go_wp2_with fail
  refine wp_label ?_
  go_wp2_with fail
  go_loopw [4, 5] (fun l u wr => ∃ x y : Nat, l = .int .u64 (x : Nat) ∧ u = .int .u64 (y : Nat) ∧ x ≤ r ∧ r ≤ y ∧ y < B64 ∧ Hid (Holds wr w.heap.size a) ∧ Hid (Below w.heap.size w wr)) (fun l u _ => (intOf u - intOf l).toNat)
  case atStart => exact ⟨0, 18446744073709551615, rfl, rfl, Nat.zero_le _, by unfold B64 at hf; omega, by decide, Lib.hid (Box.new _ _ _).holds, Lib.hid ((Below.refl _ _).alloc (Nat.le_refl _) _)⟩
  case round =>
    obtain ⟨x, y, rfl, rfl, h1, h2, h3, C, BR⟩ := hrel
    by_cases heq : x = y
    · subst heq
      obtain rfl : r = x := by omega
      go_wp2_with fail
      rw [Exit.noGoto_ret]
      go_ret
      exact ⟨rfl, BR.out⟩
    · obtain ⟨e1, e2, e3, e5⟩ := mid_nums x y (by omega) h3
      have hm1 : x < y - (y - x) / 2 := by omega
      have hm2 : y - (y - x) / 2 ≤ y := by omega
      obtain ⟨d, hd⟩ : ∃ d, y - x = d := ⟨_, rfl⟩
      rw [hd] at e1 e2 e3 e5 hm1 hm2
      clear hd
      obtain ⟨g, hg⟩ : ∃ g, d / 2 = g := ⟨_, rfl⟩
      rw [hg] at e2 e3 e5 hm1 hm2
      clear hg
      obtain ⟨m, hm⟩ : ∃ m, y - g = m := ⟨_, rfl⟩
      rw [hm] at e3 hm1 hm2
      clear hm
      have hB := beyond_any a m w.heap.size ha (by omega) wr C.out
      have neq : ((x : Int) == (y : Int)) = false := by rw [beqN]; simp [heq]
      by_cases hq : a < m * m
      · have hrm := HR.out.beyond hq
        rw [show ltW a (m * m) = true from decide_eq_true hq] at hB
        have HBY := Lib.hid hB; clear hB hq
        have e4 : IntKind.u64.wrap ((m : Int) - 1) = ((m - 1 : Nat) : Int) := pred_num m (by omega) (by omega)
        go_wp2_with fail
        refine HBY.out.mono ?_
        rintro e w1 ⟨rfl, hb1⟩
        go_wp2_with fail
        go_roundw
        case rel => exact ⟨x, m - 1, rfl, rfl, h1, by omega, by omega, Lib.hid ⟨(hb1.cell (p := ⟨w.heap.size, 0, none⟩) (lt_of_cell C.out.1)).trans C.out.1, (hb1.cell (p := ⟨w.heap.size, 1, none⟩) (lt_of_cell C.out.1)).trans C.out.2⟩, Lib.hid (BR.out.trans (hb1.mono BR.out.size))⟩
        case measure => simp [intOf]; omega
      · have hrm := HR.out.not_beyond (Nat.le_of_not_lt hq)
        rw [show ltW a (m * m) = false from decide_eq_false hq] at hB
        have HBY := Lib.hid hB; clear hB hq
        go_wp2_with fail
        refine HBY.out.mono ?_
        rintro e w1 ⟨rfl, hb1⟩
        go_wp2_with fail
        go_roundw
        case rel => exact ⟨m, y, rfl, rfl, hrm, h2, h3, Lib.hid ⟨(hb1.cell (p := ⟨w.heap.size, 0, none⟩) (lt_of_cell C.out.1)).trans C.out.1, (hb1.cell (p := ⟨w.heap.size, 1, none⟩) (lt_of_cell C.out.1)).trans C.out.2⟩, Lib.hid (BR.out.trans (hb1.mono BR.out.size))⟩
        case measure => simp [intOf]; omega
end Go.Proofs.Ytacnaencmbnjpaa

/- root.Up: the least number whose square is not less than a; nothing that was in memory before is changed. -/
namespace Go.Proofs.Ytacnaencmbnjpaa
open Go.RowKit

theorem mul_sq (x : Nat) (hx : x < B64) (w : World) :
    Calls Try.prog 54 #[.int .u64 (x : Nat), .int .u64 (x : Nat)] w fun e w' => e = .returned (.agg #[.int .u64 (hi (x * x) : Nat), .int .u64 (lo (x * x) : Nat)]) ∧ Below w.heap.size w w' := by
  refine (mul_any x x hx hx w).mono ?_
  rintro e w' ⟨h1, rfl⟩
  exact ⟨h1, (Below.refl _ _).alloc (Nat.le_refl _) _⟩
/-- Two wide numbers that are not the same. -/
theorem box_ne (p a : Nat) (h : p ≠ a) : (((hi p : Int) == (hi a : Int)) = false) ∨ (((hi p : Int) == (hi a : Int)) = true ∧ ((lo p : Int) == (lo a : Int)) = false) := by
  rw [beqN, beqN]
  by_cases c : hi p = hi a
  · exact .inr ⟨decide_eq_true c, decide_eq_false fun d => h (hi_lo_ext _ _ c d)⟩
  · exact .inl (decide_eq_false c)
theorem eqW (p a : Nat) (w : World) : (Op.equalIn 10000 55 (.agg #[.int .u64 (hi p : Nat), .int .u64 (lo p : Nat)]) (.agg #[.int .u64 (hi a : Nat), .int .u64 (lo a : Nat)])).run Try.prog w = .ok (decide (p = a)) w := by
  by_cases h : p = a
  · subst h
    rw [decide_eq_true rfl]
    go_simp
  · rw [decide_eq_false h]
    rcases box_ne p a h with c | ⟨c, d⟩
    all_goals go_simp

theorem add_one (r : Nat) (hf : r < B64) (w : World) :
    Calls Try.prog 59 #[.agg #[.int .u64 0, .int .u64 (r : Nat)], .agg #[.int .u64 0, .int .u64 1]] w fun e w' => e = .returned (.tuple #[.agg #[.int .u64 (hi (r + 1) : Nat), .int .u64 (lo (r + 1) : Nat)], .bool false]) ∧ Below w.heap.size w w' := by
  have h := add_fit r 1 (by unfold B64 at hf; unfold M128; omega) w
  rw [hi_low r hf, lo_low r hf] at h
  exact h
theorem up_core (a r P U : Nat) (q o : Bool) (w : World)
    (m1 : ∀ w, Calls Try.prog 41 #[.agg #[.int .u64 (hi a : Nat), .int .u64 (lo a : Nat)]] w fun e w' => e = .returned (.int .u64 (r : Nat)) ∧ Below w.heap.size w w')
    (m2 : ∀ w, Calls Try.prog 54 #[.int .u64 (r : Nat), .int .u64 (r : Nat)] w fun e w' => e = .returned (.agg #[.int .u64 (hi P : Nat), .int .u64 (lo P : Nat)]) ∧ Below w.heap.size w w')
    (m3 : ∀ w, Calls Try.prog 59 #[.agg #[.int .u64 0, .int .u64 (r : Nat)], .agg #[.int .u64 0, .int .u64 1]] w fun e w' => e = .returned (.tuple #[.agg #[.int .u64 (hi (r + 1) : Nat), .int .u64 (lo (r + 1) : Nat)], .bool o]) ∧ Below w.heap.size w w')
    (he : ∀ W, (Op.equalIn 10000 55 (.agg #[.int .u64 (hi P : Nat), .int .u64 (lo P : Nat)]) (.agg #[.int .u64 (hi a : Nat), .int .u64 (lo a : Nat)])).run Try.prog W = .ok q W) (hU : if q = true then hi U = 0 ∧ lo U = r else U = r + 1) :
    Calls Try.prog 42 #[.agg #[.int .u64 (hi a : Nat), .int .u64 (lo a : Nat)]] w fun e w' => e = .returned (.agg #[.int .u64 (hi U : Nat), .int .u64 (lo U : Nat)]) ∧ Below w.heap.size w w' := by
  have M1 := Lib.hid m1; have M2 := Lib.hid m2; have M3 := Lib.hid m3; have HE := Lib.hid he; have HU := Lib.hid hU
  clear m1 m2 m3 he hU
  go_enter Try.func42, Try.ntmps42
  go_wp2_with fail
  refine (M1.out _).mono ?_
  rintro e w1 ⟨rfl, hb1⟩
  have bA : Box w1 w.heap.size a := ((Box.new _ _ _).alloc _).call hb1
  have bR : Box w1 (w.heap.size + 1) 0 := (Box.new0At (by simp)).call hb1
  have hw1 : Below w.heap.size w w1 := (((Below.refl _ _).alloc (Nat.le_refl _) _).alloc (by simp) _).trans (hb1.mono (by simp; omega))
  have HW1 := Lib.hid hw1
  clear hb1 hw1
  go_upto_region 2 with fail
  go_cut [12] (fun s wx => s = .bool q ∧ Box wx (w.heap.size + 1) 0 ∧ Hid (Below w.heap.size w wx))
  case first =>
    refine wp_region_held_drew (S := (fun w' => (w.heap.size < w'.heap.size ∧ w'.cell? ⟨w.heap.size, 0, none⟩ = some (.int .u64 (hi a : Nat)) ∧ w'.cell? ⟨w.heap.size, 1, none⟩ = some (.int .u64 (lo a : Nat))) ∧ Hid (Below w.heap.size w w') ∧ Box w' (w.heap.size + 1) 0)) (by kernel_rfl) ⟨⟨bA.lt, bA.c0, bA.c1⟩, Lib.hid HW1.out.drew, bR.drew⟩ (fun hHeld => ?_)
    clear bA HW1 bR
    have he := HE.out
    refine regTake 0 (some 8) (v := ?_) rfl rfl (by kernel_rfl) (by kernel_rfl) (by kernel_rfl) (fun _ _ _ h => h) (by rfl) hHeld ?_ ?_
    rotate_left 1
    · (intro w hSw; (try dsimp only at hSw); go_simp; try with_reducible rfl)
    simp only [Act.put, List.setIfInBounds_toArray, List.set_cons_zero, List.set_cons_succ]
    refine regTake 1 (some 9) (v := ?_) rfl rfl (by kernel_rfl) (by kernel_rfl) (by kernel_rfl) (fun _ _ _ h => h) (by rfl) hHeld ?_ ?_
    rotate_left 1
    · (intro w hSw; (try dsimp only at hSw); go_simp; try with_reducible rfl)
    simp only [Act.put, List.setIfInBounds_toArray, List.set_cons_zero, List.set_cons_succ]
    refine regTake 3 (some 11) (v := ?_) rfl rfl (by kernel_rfl) (by kernel_rfl) (by kernel_rfl) (fun _ _ _ h => h) (by rfl) hHeld ?_ ?_
    rotate_left 1
    · (intro w hSw; (try dsimp only at hSw); go_simp; try with_reducible rfl)
    simp only [Act.put, List.setIfInBounds_toArray, List.set_cons_zero, List.set_cons_succ]
    refine regCall 2 (some 10) (f := 54) (args := ?_) rfl rfl (by kernel_rfl) (by rfl) ?_ ?_
    rotate_left 1
    · (go_simp; try with_reducible rfl)
    refine (M2.out _).mono ?_
    rintro e wx2 ⟨rfl, hbx⟩
    refine ⟨_, rfl, ⟨keep2 hbx hHeld.1.1 hHeld.1.2, Lib.hid (hHeld.2.1.out.trans (hbx.mono hHeld.2.1.out.size)), hHeld.2.2.call hbx⟩, fun hHeld => ?_⟩
    simp only [Act.put, List.setIfInBounds_toArray, List.set_cons_zero, List.set_cons_succ]
    refine regTake 4 (some 12) (v := ?_) rfl rfl (by kernel_rfl) (by kernel_rfl) (by kernel_rfl) (fun _ _ _ h => h) (by rfl) hHeld ?_ ?_
    rotate_left 1
    · (intro w hSw; (try dsimp only at hSw); go_simp; try with_reducible rfl)
    simp only [Act.put, List.setIfInBounds_toArray, List.set_cons_zero, List.set_cons_succ]
    refine wpAnyH_done (by kernel_rfl) ?_ _
    obtain ⟨_, HW, hB⟩ := hHeld
    go_wp2_with fail
    go_meet
    exact ⟨rfl, hB, HW⟩
  case rest =>
    obtain ⟨rfl, bR, HW⟩ := hcut
    have r0 : wc.cell? ⟨w.heap.size + 1, 0, none⟩ = some (.int .u64 0) := bR.c0
    have r1 : wc.cell? ⟨w.heap.size + 1, 1, none⟩ = some (.int .u64 0) := bR.c1
    have f0 := bR.f0; have f1 := bR.f1
    cases q with
    | true =>
      have u : hi U = 0 ∧ lo U = r := by have := HU.out; simpa using this
      clear HU bA HW1
      go_wp2_with fail
      have s := HW.out.size
      refine bodyPost_ret (v := .agg #[.int .u64 0, .int .u64 (r : Nat)]) (by simp [results, Try.results42, go_sem, *]) rfl ⟨by rw [u.1, u.2]; rfl, ?_⟩
      exact (HW.out.setCell (by simp) _).setCell (by simp) _
    | false =>
      obtain rfl : U = r + 1 := by have := HU.out; simpa using this
      clear HU bA HW1
      go_wp2_with fail
      refine (M3.out _).mono ?_
      rintro e w2 ⟨rfl, hb2⟩
      have bR2 := bR.call hb2
      have hw2 : Below w.heap.size w w2 := HW.out.trans (hb2.mono HW.out.size)
      have s2 := hw2.size
      have HW2 := Lib.hid hw2
      clear r0 r1 f0 f1 hb2 hw2
      have r0 : w2.cell? ⟨w.heap.size + 1, 0, none⟩ = some (.int .u64 0) := bR2.c0
      have r1 : w2.cell? ⟨w.heap.size + 1, 1, none⟩ = some (.int .u64 0) := bR2.c1
      have f0 := bR2.f0; have f1 := bR2.f1
      have z := bR2.lt
      have n1 : w2.heap.size ≠ w.heap.size + 1 := by omega
      go_wp2_with fail
      refine bodyPost_ret (v := .agg #[.int .u64 (hi (r + 1) : Nat), .int .u64 (lo (r + 1) : Nat)]) (by simp [results, Try.results42, go_sem, *]) rfl ⟨rfl, ?_⟩
      repeat first | exact HW2.out | refine Below.drew ?_ | refine Below.alloc ?_ (by first | omega | (simp; omega)) _ | refine Below.setCell ?_ (by first | (simp; done) | omega | (simp; omega)) _
theorem up_num (a r : Nat) (ha : a < M128) (hr : IsRoot a r) (w : World) :
    Calls Try.prog 42 #[.agg #[.int .u64 (hi a : Nat), .int .u64 (lo a : Nat)]] w fun e w' => e = .returned (.agg #[.int .u64 (hi (upOf a r) : Nat), .int .u64 (lo (upOf a r) : Nat)]) ∧ Below w.heap.size w w' := by
  have hf := hr.fit ha
  refine up_core a r _ _ _ _ w (root_num a r ha hr) (mul_sq r hf) (add_one r hf) (eqW _ _) ?_
  unfold upOf
  by_cases h : r * r = a
  · simp [h, hi_low r hf, lo_low r hf]
  · simp [h]
end Go.Proofs.Ytacnaencmbnjpaa
