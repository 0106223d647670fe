/- The law FixDivides, walked: it answers true at every four ints, and nothing that was in memory before is changed. -/
import Derived.Test.YtafpfplhpgaokaaFixRef3
import Derived.Test.YtafpfplhpgaokaaAlive4
namespace Go.Proofs.Ytafpfplhpgaokaa
open Go.RowKit

set_option maxRecDepth 100000 in
theorem fdiv_lo (a b c m : Int) (w : World)
    (h : m < 0)
    (m1 : ∀ w, Calls Try.prog 15 #[.int .i64 a, .int .i64 b, .int .i64 c, .int .i64 m] w fun en w' => en = .returned (.tuple #[.int .i64 0, .int .i64 1]) ∧ Below w.heap.size w w') :
    Calls Try.prog 4 #[.int .i64 a, .int .i64 b, .int .i64 c, .int .i64 m] w fun en w' => en = .returned (.bool true) ∧ Below w.heap.size w w' := by
  have M1 := Lib.hid m1
  clear m1
  go_enter Try.func4, Try.ntmps4
  go_wp2_with fail
  refine (M1.out _).mono ?_
  rintro e w1 ⟨rfl, hb⟩
  have kw : Below w.heap.size w w1 := (Below.refl w.heap.size w).trans (hb.mono (Nat.le_refl _))
  have HW1 := Lib.hid kw
  clear hb kw
  go_wp2_with fail
  refine (alive4 _).mono ?_
  rintro e w2 ⟨rfl, hb⟩
  have kw : Below w.heap.size w w2 := HW1.out.trans (hb.mono HW1.out.size)
  clear HW1
  have HW2 := Lib.hid kw
  clear hb kw
  go_wp2_with fail
  go_ret
  exact ⟨rfl, HW2.out⟩
set_option maxRecDepth 100000 in
theorem fdiv_hi (a b c m : Int) (w : World)
    (h : 2 < m) (h1 : ¬ m < 0)
    (m1 : ∀ w, Calls Try.prog 15 #[.int .i64 a, .int .i64 b, .int .i64 c, .int .i64 m] w fun en w' => en = .returned (.tuple #[.int .i64 0, .int .i64 1]) ∧ Below w.heap.size w w') :
    Calls Try.prog 4 #[.int .i64 a, .int .i64 b, .int .i64 c, .int .i64 m] w fun en w' => en = .returned (.bool true) ∧ Below w.heap.size w w' := by
  have M1 := Lib.hid m1
  clear m1
  go_enter Try.func4, Try.ntmps4
  go_wp2_with fail
  refine (M1.out _).mono ?_
  rintro e w1 ⟨rfl, hb⟩
  have kw : Below w.heap.size w w1 := (Below.refl w.heap.size w).trans (hb.mono (Nat.le_refl _))
  have HW1 := Lib.hid kw
  clear hb kw
  go_wp2_with fail
  refine (alive4 _).mono ?_
  rintro e w2 ⟨rfl, hb⟩
  have kw : Below w.heap.size w w2 := HW1.out.trans (hb.mono HW1.out.size)
  clear HW1
  have HW2 := Lib.hid kw
  clear hb kw
  go_wp2_with fail
  go_ret
  exact ⟨rfl, HW2.out⟩
set_option maxRecDepth 100000 in
theorem fdiv_zero (a b m : Int) (w : World)
    (h : ¬ m < 0) (h1 : ¬ 2 < m)
    (m1 : ∀ w, Calls Try.prog 15 #[.int .i64 a, .int .i64 b, .int .i64 0, .int .i64 m] w fun en w' => en = .returned (.tuple #[.int .i64 0, .int .i64 4]) ∧ Below w.heap.size w w') :
    Calls Try.prog 4 #[.int .i64 a, .int .i64 b, .int .i64 0, .int .i64 m] w fun en w' => en = .returned (.bool true) ∧ Below w.heap.size w w' := by
  have M1 := Lib.hid m1
  clear m1
  go_enter Try.func4, Try.ntmps4
  go_wp2_with fail
  refine (M1.out _).mono ?_
  rintro e w1 ⟨rfl, hb⟩
  have kw : Below w.heap.size w w1 := (Below.refl w.heap.size w).trans (hb.mono (Nat.le_refl _))
  have HW1 := Lib.hid kw
  clear hb kw
  go_wp2_with fail
  refine (alive4 _).mono ?_
  rintro e w2 ⟨rfl, hb⟩
  have kw : Below w.heap.size w w2 := HW1.out.trans (hb.mono HW1.out.size)
  clear HW1
  have HW2 := Lib.hid kw
  clear hb kw
  go_wp2_with fail
  go_ret
  exact ⟨rfl, HW2.out⟩
set_option maxRecDepth 100000 in
theorem fdiv_some (a b c m x e : Int) (w : World)
    (h : ¬ m < 0) (h1 : ¬ 2 < m) (h2 : (c == 0) = false)
    (m1 : ∀ w, Calls Try.prog 15 #[.int .i64 a, .int .i64 b, .int .i64 c, .int .i64 m] w fun en w' => en = .returned (.tuple #[.int .i64 x, .int .i64 e]) ∧ Below w.heap.size w w')
    (m2 : ∀ w, Calls Try.prog 16 #[.int .i64 a, .int .i64 b, .int .i64 c, .int .i64 m] w fun en w' => en = .returned (.tuple #[.int .i64 x, .int .i64 e]) ∧ Below w.heap.size w w') :
    Calls Try.prog 4 #[.int .i64 a, .int .i64 b, .int .i64 c, .int .i64 m] w fun en w' => en = .returned (.bool true) ∧ Below w.heap.size w w' := by
  have M1 := Lib.hid m1; have M2 := Lib.hid m2
  clear m1 m2
  go_enter Try.func4, Try.ntmps4
  go_wp2_with fail
  refine (M1.out _).mono ?_
  rintro e w1 ⟨rfl, hb⟩
  have kw : Below w.heap.size w w1 := (Below.refl w.heap.size w).trans (hb.mono (Nat.le_refl _))
  have HW1 := Lib.hid kw
  clear hb kw
  go_wp2_with fail
  refine (M2.out _).mono ?_
  rintro e w2 ⟨rfl, hb⟩
  have kw : Below w.heap.size w w2 := HW1.out.trans (hb.mono HW1.out.size)
  clear HW1
  have HW2 := Lib.hid kw
  clear hb kw
  go_wp2_with fail
  refine (alive4 _).mono ?_
  rintro e w3 ⟨rfl, hb⟩
  have kw : Below w.heap.size w w3 := HW2.out.trans (hb.mono HW2.out.size)
  clear HW2
  have HW3 := Lib.hid kw
  clear hb kw
  go_wp2_with fail
  go_ret
  exact ⟨rfl, HW3.out⟩
theorem fdivides_walk (a b c m : Int) (ha : IsInt a) (hb : IsInt b) (hc : IsInt c) (_hm : IsInt m) (w : World) :
    Calls Try.prog 4 #[.int .i64 a, .int .i64 b, .int .i64 c, .int .i64 m] w fun en w' => en = .returned (.bool true) ∧ Below w.heap.size w w' := by
  by_cases h1 : m < 0
  · exact fdiv_lo a b c m w h1 (muldiv_nomode m a b c (.inl h1))
  by_cases h2 : 2 < m
  · exact fdiv_hi a b c m w h2 h1 (muldiv_nomode m a b c (.inr h2))
  obtain ⟨k, rfl⟩ := Int.eq_ofNat_of_zero_le (by omega : 0 ≤ m)
  by_cases h3 : c = 0
  · subst h3
    exact fdiv_zero a b _ w h1 h2 (muldiv_zero k (by omega) a b ha hb)
  · exact fdiv_some a b c _ _ _ w h1 h2 (by simp; exact h3) (muldiv_any k (by omega) a b c ha hb hc h3) (refmd_any k (by omega) a b c ha hb hc h3)
end Go.Proofs.Ytafpfplhpgaokaa
