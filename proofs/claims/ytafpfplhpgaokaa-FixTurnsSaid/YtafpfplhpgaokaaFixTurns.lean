/- The law FixTurns, walked: it answers true at every three ints, and nothing that was in memory before is changed. -/
import Derived.Test.YtafpfplhpgaokaaAlive4
namespace Go.Proofs.Ytafpfplhpgaokaa
open Go.RowKit

set_option maxRecDepth 100000 in
theorem fturns_least (b : Int) (c : Int) (w : World) :
    Calls Try.prog 6 #[.int .i64 (-9223372036854775808), .int .i64 b, .int .i64 c] w fun en w' => en = .returned (.bool true) ∧ Below w.heap.size w w' := by
  go_enter Try.func6, Try.ntmps6
  go_wp2_with fail
  refine (alive4 _).mono ?_
  rintro e w1 ⟨rfl, hb1⟩
  have HW1 := Lib.hid hb1
  clear hb1
  go_wp2_with fail
  go_ret
  exact ⟨rfl, HW1.out⟩
set_option maxRecDepth 100000 in
theorem fturns_zero (b : Int) (a : Int) (ha : a ≠ -9223372036854775808) (w : World) :
    Calls Try.prog 6 #[.int .i64 a, .int .i64 b, .int .i64 0] w fun en w' => en = .returned (.bool true) ∧ Below w.heap.size w w' := by
  have e1 : (a == -9223372036854775808) = false := by simp; exact ha
  clear ha
  go_enter Try.func6, Try.ntmps6
  go_wp2_with fail
  refine (alive4 _).mono ?_
  rintro e w1 ⟨rfl, hb1⟩
  have HW1 := Lib.hid hb1
  clear hb1
  go_wp2_with fail
  go_ret
  exact ⟨rfl, HW1.out⟩
set_option maxRecDepth 100000 in
theorem fturns_core (a b c D U e f A : Int) (w : World) (ha : (a == -9223372036854775808) = false) (hc : (c == 0) = false) (hA : IntKind.i64.wrap (-a) = A)
    (m1 : ∀ w, Calls Try.prog 15 #[.int .i64 a, .int .i64 b, .int .i64 c, .int .i64 0] w fun en w' => en = .returned (.tuple #[.int .i64 D, .int .i64 e]) ∧ Below w.heap.size w w')
    (m2 : ∀ w, Calls Try.prog 15 #[.int .i64 A, .int .i64 b, .int .i64 c, .int .i64 1] w fun en w' => en = .returned (.tuple #[.int .i64 U, .int .i64 f]) ∧ Below w.heap.size w w')
    (m3 : ∀ w, Calls Try.prog 15 #[.int .i64 b, .int .i64 a, .int .i64 c, .int .i64 0] w fun en w' => en = .returned (.tuple #[.int .i64 D, .int .i64 e]) ∧ Below w.heap.size w w')
    (m4 : ∀ w, Calls Try.prog 15 #[.int .i64 b, .int .i64 c, .int .i64 c, .int .i64 2] w fun en w' => en = .returned (.tuple #[.int .i64 b, .int .i64 0]) ∧ Below w.heap.size w w')
    (hC : (e = 0 ∧ f = 0 ∧ IntKind.i64.wrap (-U) = D) ∨ (e = 0 ∧ f = 5 ∧ D = (-9223372036854775808)) ∨ (e = 5 ∧ f = 0 ∧ U = (-9223372036854775808)) ∨ (e = 5 ∧ f = 5)) :
    Calls Try.prog 6 #[.int .i64 a, .int .i64 b, .int .i64 c] w fun en w' => en = .returned (.bool true) ∧ Below w.heap.size w w' := by
  have M1 := Lib.hid m1; have M2 := Lib.hid m2; have M3 := Lib.hid m3; have M4 := Lib.hid m4
  clear m1 m2 m3 m4
  have HC := Lib.hid hC
  clear hC
  go_enter Try.func6, Try.ntmps6
  go_wp2_with fail
  refine (M1.out _).mono ?_
  rintro e w1 ⟨rfl, hb1⟩
  have HW1 := Lib.hid hb1
  clear hb1
  go_wp2_with fail
  refine (M2.out _).mono ?_
  rintro e w2 ⟨rfl, hb2⟩
  have HW2 := Lib.hid (HW1.out.trans (hb2.mono HW1.out.size))
  clear hb2 HW1
  go_wp2_with fail
  refine (M3.out _).mono ?_
  rintro e w3 ⟨rfl, hb3⟩
  have HW3 := Lib.hid (HW2.out.trans (hb3.mono HW2.out.size))
  clear hb3 HW2
  go_wp2_with fail
  refine (M4.out _).mono ?_
  rintro e w4 ⟨rfl, hb4⟩
  have HW4 := Lib.hid (HW3.out.trans (hb4.mono HW3.out.size))
  clear hb4 HW3
  clear ha hc hA
  rcases HC.out with ⟨rfl, rfl, h1⟩ | ⟨rfl, rfl, h1⟩ | ⟨rfl, rfl, h1⟩ | ⟨rfl, rfl⟩
  · clear HC
    go_wp2_with fail
    refine (alive4 _).mono ?_
    rintro e w5 ⟨rfl, hb5⟩
    have HW5 := Lib.hid (HW4.out.trans (hb5.mono HW4.out.size))
    clear hb5 HW4
    go_wp2_with fail
    go_ret
    exact ⟨rfl, HW5.out⟩
  · subst h1
    clear HC
    go_wp2_with fail
    refine (alive4 _).mono ?_
    rintro e w5 ⟨rfl, hb5⟩
    have HW5 := Lib.hid (HW4.out.trans (hb5.mono HW4.out.size))
    clear hb5 HW4
    go_wp2_with fail
    go_ret
    exact ⟨rfl, HW5.out⟩
  · subst h1
    clear HC
    go_wp2_with fail
    refine (alive4 _).mono ?_
    rintro e w5 ⟨rfl, hb5⟩
    have HW5 := Lib.hid (HW4.out.trans (hb5.mono HW4.out.size))
    clear hb5 HW4
    go_wp2_with fail
    go_ret
    exact ⟨rfl, HW5.out⟩
  · clear HC
    go_wp2_with fail
    refine (alive4 _).mono ?_
    rintro e w5 ⟨rfl, hb5⟩
    have HW5 := Lib.hid (HW4.out.trans (hb5.mono HW4.out.size))
    clear hb5 HW4
    go_wp2_with fail
    go_ret
    exact ⟨rfl, HW5.out⟩

theorem fturns_walk (a b c : Int) (ha : IsInt a) (hb : IsInt b) (hc : IsInt c) (w : World) :
    Calls Try.prog 6 #[.int .i64 a, .int .i64 b, .int .i64 c] w fun en w' => en = .returned (.bool true) ∧ Below w.heap.size w w' := by
  by_cases h1 : a = (-9223372036854775808)
  · subst h1; exact fturns_least b c w
  by_cases h2 : c = 0
  · subst h2; exact fturns_zero b a h1 w
  have hn : IsInt (-a) := by unfold IsInt at *; omega
  have m2 := muldiv_any 1 (by decide) (-a) b c hn hb hc h2
  have m3 := muldiv_any 0 (by decide) b a c hb ha hc h2
  rw [md_neg] at m2
  rw [md_comm] at m3
  refine fturns_core a b c _ _ _ _ _ w (by simp; exact h1) (by simp; exact h2) (wrap_int hn) (muldiv_any 0 (by decide) a b c ha hb hc h2) m2 m3 (md_at 2 (by decide) b c c b hb hc hc h2 hb (md_same b h2)) ?_
  generalize md a b c 0 = q
  by_cases h3 : IsInt q
  · by_cases h4 : IsInt (-q)
    · left
      rw [ans_ok h3, ans_ok h4, err_ok h3, err_ok h4, Int.neg_neg]
      exact ⟨rfl, rfl, wrap_int h3⟩
    · right; left
      rw [ans_ok h3, err_ok h3, err_no h4]
      unfold IsInt at h3 h4
      exact ⟨rfl, rfl, by omega⟩
  · by_cases h4 : IsInt (-q)
    · right; right; left
      rw [ans_ok h4, err_ok h4, err_no h3]
      unfold IsInt at h3 h4
      exact ⟨rfl, rfl, by omega⟩
    · right; right; right
      rw [err_no h3, err_no h4]
      exact ⟨rfl, rfl⟩
end Go.Proofs.Ytafpfplhpgaokaa
