/- span.Right, span.Has, the reference's, and what the corners' methods answer. -/
import Derived.Test.YtacnaencmbnjpaaSpanN
import Derived.Test.YtacnaencmbnjpaaFixAdd
import Derived.Test.YtacnaencmbnjpaaFixMul
import Derived.Test.YtacnaencmbnjpaaFixMd
import Derived.Test.YtacnaencmbnjpaaBlk
namespace Go.Proofs.Ytacnaencmbnjpaa
open Go.RowKit

theorem right_any (a b : Int) (w : World) :
    Calls Try.prog 11 #[.agg #[.int .i64 a, .int .i64 b]] w fun en w' => en = .returned (.bool (decide (a ≤ b))) ∧ Below w.heap.size w w' := by
  go_enter Try.func11, Try.ntmps11
  go_wp2_with fail
  go_ret
  exact ⟨rfl, (Below.refl _ _).alloc (Nat.le_refl _) _⟩
theorem rright_any (a b : Int) (w : World) :
    Calls Try.prog 12 #[.agg #[.int .i64 a, .int .i64 b]] w fun en w' => en = .returned (.bool (decide (a ≤ b))) ∧ Below w.heap.size w w' := by
  go_enter Try.func12, Try.ntmps12
  go_wp2_with fail
  go_ret
  exact ⟨rfl, (Below.refl _ _).alloc (Nat.le_refl _) _⟩
theorem has_any (a b x : Int) (w : World) :
    Calls Try.prog 13 #[.agg #[.int .i64 a, .int .i64 b], .int .i64 x] w fun en w' => en = .returned (.bool (decide (a ≤ x ∧ x ≤ b))) ∧ Below w.heap.size w w' := by
  obtain ⟨p, hp⟩ : ∃ p, decide (a ≤ x ∧ x ≤ b) = p := ⟨_, rfl⟩
  rw [hp]
  by_cases h : a ≤ x
  · have h2 : decide (x ≤ b) = p := by rw [← hp]; exact decide_eq_decide.2 ⟨fun k => ⟨h, k⟩, fun k => k.2⟩
    clear hp
    go_enter Try.func13, Try.ntmps13
    go_wp2_with fail
    go_ret
    exact ⟨rfl, (Below.refl _ _).alloc (Nat.le_refl _) _⟩
  · have h2 : p = false := by rw [← hp]; exact decide_eq_false (fun k => h k.1)
    subst h2
    clear hp
    go_enter Try.func13, Try.ntmps13
    go_wp2_with fail
    go_ret
    exact ⟨rfl, (Below.refl _ _).alloc (Nat.le_refl _) _⟩
theorem rhas_any (a b x : Int) (w : World) :
    Calls Try.prog 14 #[.agg #[.int .i64 a, .int .i64 b], .int .i64 x] w fun en w' => en = .returned (.bool (decide (a ≤ x ∧ x ≤ b))) ∧ Below w.heap.size w w' := by
  obtain ⟨p, hp⟩ : ∃ p, decide (a ≤ x ∧ x ≤ b) = p := ⟨_, rfl⟩
  rw [hp]
  by_cases h : a ≤ x
  · have h2 : decide (x ≤ b) = p := by rw [← hp]; exact decide_eq_decide.2 ⟨fun k => ⟨h, k⟩, fun k => k.2⟩
    clear hp
    go_enter Try.func14, Try.ntmps14
    go_wp2_with fail
    go_ret
    exact ⟨rfl, (Below.refl _ _).alloc (Nat.le_refl _) _⟩
  · have h2 : p = false := by rw [← hp]; exact decide_eq_false (fun k => h k.1)
    subst h2
    clear hp
    go_enter Try.func14, Try.ntmps14
    go_wp2_with fail
    go_ret
    exact ⟨rfl, (Below.refl _ _).alloc (Nat.le_refl _) _⟩
theorem csum_core (a b x y : Int) (w : World)
    (m1 : ∀ w, Calls Try.prog 26 #[.int .i64 a, .int .i64 b] w fun en w' => en = .returned (.tuple #[.int .i64 x, .int .i64 y]) ∧ Below w.heap.size w w') :
    Calls Try.prog 33 #[.agg #[.int .i64 a, .int .i64 b]] w fun en w' => en = .returned (.tuple #[.int .i64 x, .int .i64 y]) ∧ Below w.heap.size w w' := by
  have M1 := Lib.hid m1
  clear m1
  go_enter Try.func33, Try.ntmps33
  go_wp2_with fail
  refine (M1.out _).mono ?_
  rintro e w1 ⟨rfl, hb⟩
  have kc : Blk w1 w.heap.size #[.int .i64 a, .int .i64 b] := (Blk.new _ _ _).call hb
  have kw : Below w.heap.size w w1 := ((Below.refl w.heap.size w).alloc (Nat.le_refl _) _).trans (hb.mono (by simp))
  have Bc := Lib.hid kc
  have HW1 := Lib.hid kw
  clear hb kw kc
  go_wp2_with fail
  go_ret2
  exact ⟨rfl, HW1.out⟩
theorem csum_any (a b : Int) (ha : IsInt a) (hb : IsInt b) (w : World) :
    Calls Try.prog 33 #[.agg #[.int .i64 a, .int .i64 b]] w fun en w' => en = .returned (.tuple #[.int .i64 (ans (a + b)), .int .i64 (err (a + b))]) ∧ Below w.heap.size w w' := by
  exact csum_core a b _ _ w (fadd_any a b ha hb)
theorem crest_core (a b x y : Int) (w : World)
    (m1 : ∀ w, Calls Try.prog 27 #[.int .i64 a, .int .i64 b] w fun en w' => en = .returned (.tuple #[.int .i64 x, .int .i64 y]) ∧ Below w.heap.size w w') :
    Calls Try.prog 34 #[.agg #[.int .i64 a, .int .i64 b]] w fun en w' => en = .returned (.tuple #[.int .i64 x, .int .i64 y]) ∧ Below w.heap.size w w' := by
  have M1 := Lib.hid m1
  clear m1
  go_enter Try.func34, Try.ntmps34
  go_wp2_with fail
  refine (M1.out _).mono ?_
  rintro e w1 ⟨rfl, hb⟩
  have kc : Blk w1 w.heap.size #[.int .i64 a, .int .i64 b] := (Blk.new _ _ _).call hb
  have kw : Below w.heap.size w w1 := ((Below.refl w.heap.size w).alloc (Nat.le_refl _) _).trans (hb.mono (by simp))
  have Bc := Lib.hid kc
  have HW1 := Lib.hid kw
  clear hb kw kc
  go_wp2_with fail
  go_ret2
  exact ⟨rfl, HW1.out⟩
theorem crest_any (a b : Int) (ha : IsInt a) (hb : IsInt b) (w : World) :
    Calls Try.prog 34 #[.agg #[.int .i64 a, .int .i64 b]] w fun en w' => en = .returned (.tuple #[.int .i64 (ans (a - b)), .int .i64 (err (a - b))]) ∧ Below w.heap.size w w' := by
  exact crest_core a b _ _ w (fsub_any a b ha hb)
theorem cproduct_core (a b x y : Int) (w : World)
    (m1 : ∀ w, Calls Try.prog 28 #[.int .i64 a, .int .i64 b] w fun en w' => en = .returned (.tuple #[.int .i64 x, .int .i64 y]) ∧ Below w.heap.size w w') :
    Calls Try.prog 38 #[.agg #[.int .i64 a, .int .i64 b]] w fun en w' => en = .returned (.tuple #[.int .i64 x, .int .i64 y]) ∧ Below w.heap.size w w' := by
  have M1 := Lib.hid m1
  clear m1
  go_enter Try.func38, Try.ntmps38
  go_wp2_with fail
  refine (M1.out _).mono ?_
  rintro e w1 ⟨rfl, hb⟩
  have kc : Blk w1 w.heap.size #[.int .i64 a, .int .i64 b] := (Blk.new _ _ _).call hb
  have kw : Below w.heap.size w w1 := ((Below.refl w.heap.size w).alloc (Nat.le_refl _) _).trans (hb.mono (by simp))
  have Bc := Lib.hid kc
  have HW1 := Lib.hid kw
  clear hb kw kc
  go_wp2_with fail
  go_ret2
  exact ⟨rfl, HW1.out⟩
theorem cproduct_any (a b : Int) (ha : IsInt a) (hb : IsInt b) (w : World) :
    Calls Try.prog 38 #[.agg #[.int .i64 a, .int .i64 b]] w fun en w' => en = .returned (.tuple #[.int .i64 (ans (a * b)), .int .i64 (err (a * b))]) ∧ Below w.heap.size w w' := by
  exact cproduct_core a b _ _ w (fmul_any a b ha hb)
theorem cdown_core (a b x y : Int) (w : World)
    (m1 : ∀ w, Calls Try.prog 29 #[.int .i64 a, .int .i64 1, .int .i64 b, .int .i64 0] w fun en w' => en = .returned (.tuple #[.int .i64 x, .int .i64 y]) ∧ Below w.heap.size w w') :
    Calls Try.prog 39 #[.agg #[.int .i64 a, .int .i64 b]] w fun en w' => en = .returned (.tuple #[.int .i64 x, .int .i64 y]) ∧ Below w.heap.size w w' := by
  have M1 := Lib.hid m1
  clear m1
  go_enter Try.func39, Try.ntmps39
  go_wp2_with fail
  refine (M1.out _).mono ?_
  rintro e w1 ⟨rfl, hb⟩
  have kc : Blk w1 w.heap.size #[.int .i64 a, .int .i64 b] := (Blk.new _ _ _).call hb
  have kw : Below w.heap.size w w1 := ((Below.refl w.heap.size w).alloc (Nat.le_refl _) _).trans (hb.mono (by simp))
  have Bc := Lib.hid kc
  have HW1 := Lib.hid kw
  clear hb kw kc
  go_wp2_with fail
  go_ret2
  exact ⟨rfl, HW1.out⟩
theorem cdown_any (a b : Int) (ha : IsInt a) (hb : IsInt b) (h0 : b ≠ 0) (w : World) :
    Calls Try.prog 39 #[.agg #[.int .i64 a, .int .i64 b]] w fun en w' => en = .returned (.tuple #[.int .i64 (ans (dn a b)), .int .i64 (err (dn a b))]) ∧ Below w.heap.size w w' := by
  exact cdown_core a b _ _ w (muldiv_any 0 (by decide) a 1 b ha (by decide) hb h0)
theorem cup_core (a b x y : Int) (w : World)
    (m1 : ∀ w, Calls Try.prog 29 #[.int .i64 a, .int .i64 1, .int .i64 b, .int .i64 1] w fun en w' => en = .returned (.tuple #[.int .i64 x, .int .i64 y]) ∧ Below w.heap.size w w') :
    Calls Try.prog 40 #[.agg #[.int .i64 a, .int .i64 b]] w fun en w' => en = .returned (.tuple #[.int .i64 x, .int .i64 y]) ∧ Below w.heap.size w w' := by
  have M1 := Lib.hid m1
  clear m1
  go_enter Try.func40, Try.ntmps40
  go_wp2_with fail
  refine (M1.out _).mono ?_
  rintro e w1 ⟨rfl, hb⟩
  have kc : Blk w1 w.heap.size #[.int .i64 a, .int .i64 b] := (Blk.new _ _ _).call hb
  have kw : Below w.heap.size w w1 := ((Below.refl w.heap.size w).alloc (Nat.le_refl _) _).trans (hb.mono (by simp))
  have Bc := Lib.hid kc
  have HW1 := Lib.hid kw
  clear hb kw kc
  go_wp2_with fail
  go_ret2
  exact ⟨rfl, HW1.out⟩
theorem cup_any (a b : Int) (ha : IsInt a) (hb : IsInt b) (h0 : b ≠ 0) (w : World) :
    Calls Try.prog 40 #[.agg #[.int .i64 a, .int .i64 b]] w fun en w' => en = .returned (.tuple #[.int .i64 (ans (up' a b)), .int .i64 (err (up' a b))]) ∧ Below w.heap.size w w' := by
  exact cup_core a b _ _ w (muldiv_any 1 (by decide) a 1 b ha (by decide) hb h0)
end Go.Proofs.Ytacnaencmbnjpaa
