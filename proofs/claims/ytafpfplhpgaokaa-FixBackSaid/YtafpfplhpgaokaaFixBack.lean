/- The law FixBack, walked: it answers true at every two ints, and nothing that was in memory before is changed. -/
import Derived.Test.YtafpfplhpgaokaaAlive4
namespace Go.Proofs.Ytafpfplhpgaokaa
open Go.RowKit

set_option maxRecDepth 100000 in
theorem fback_core (a b S D e f : Int) (w : World)
    (m1 : ∀ w, Calls Try.prog 8 #[.int .i64 a, .int .i64 b] w fun en w' => en = .returned (.tuple #[.int .i64 S, .int .i64 e]) ∧ Below w.heap.size w w')
    (m2 : ∀ w, Calls Try.prog 9 #[.int .i64 a, .int .i64 b] w fun en w' => en = .returned (.tuple #[.int .i64 D, .int .i64 f]) ∧ Below w.heap.size w w')
    (hS : (e = 0 ∧ (∀ w, Calls Try.prog 9 #[.int .i64 S, .int .i64 b] w fun en w' => en = .returned (.tuple #[.int .i64 a, .int .i64 0]) ∧ Below w.heap.size w w') ∧ (0 ≤ b ↔ a ≤ S)) ∨ (e = 5 ∧ (a < 0 ↔ b < 0)))
    (hD : (f = 0 ∧ (∀ w, Calls Try.prog 8 #[.int .i64 D, .int .i64 b] w fun en w' => en = .returned (.tuple #[.int .i64 a, .int .i64 0]) ∧ Below w.heap.size w w') ∧ (b ≤ 0 ↔ a ≤ D)) ∨ (f = 5 ∧ ¬ (a < 0 ↔ b < 0))) :
    Calls Try.prog 7 #[.int .i64 a, .int .i64 b] w fun en w' => en = .returned (.bool true) ∧ Below w.heap.size w w' := by
  have M1 := Lib.hid m1; have M2 := Lib.hid m2; have XS := Lib.hid hS; have XD := Lib.hid hD
  clear m1 m2 hS hD
  go_enter Try.func7, Try.ntmps7
  go_wp2_with fail
  refine (M1.out _).mono ?_
  rintro e w1 ⟨rfl, hb1⟩
  have HW1 := Lib.hid hb1
  clear hb1
  go_wp2_with fail
  refine (M2.out _).mono ?_
  rintro e w2 ⟨rfl, hb2⟩
  have HW2 := Lib.hid (HW1.out.trans (hb2.mono HW1.out.size))
  clear hb2 HW1
  go_upto_if 26 with fail
  go_cut [] (fun wx => Hid (Below w.heap.size w wx))
  case first =>
    rcases XS.out with ⟨rfl, hc, hi⟩ | ⟨rfl, hi⟩
    · have HC := Lib.hid hc
      clear hc
      go_wp2_with fail
      refine (HC.out _).mono ?_
      rintro e w3 ⟨rfl, hb3⟩
      have HW3 := Lib.hid (HW2.out.trans (hb3.mono HW2.out.size))
      clear hb3 HW2
      by_cases h1 : 0 ≤ b
      · have h2 := hi.1 h1
        clear hi
        go_wp2_with fail
        go_meet
        exact HW3
      · have h2 : S < a := by have : ¬ (a ≤ S) := fun k => h1 (hi.2 k); omega
        have d1 : decide (0 ≤ b) = false := decide_eq_false h1
        have d2 : decide (a ≤ S) = false := decide_eq_false (by omega)
        clear hi h1 h2
        go_wp2_with fail
        go_meet
        exact HW3
    · by_cases h1 : a < 0
      · have h2 : b < 0 := hi.1 h1
        clear hi
        go_wp2_with fail
        go_meet
        exact HW2
      · have h2 : ¬ b < 0 := fun k => h1 (hi.2 k)
        clear hi
        go_wp2_with fail
        go_meet
        exact HW2
  case rest =>
    clear HW2 XS
    have HW2 := hcut
    clear hcut
    go_upto_if 58 with fail
    go_cut [] (fun wx => Hid (Below w.heap.size w wx))
    case first =>
      rcases XD.out with ⟨rfl, hc, hi⟩ | ⟨rfl, hi⟩
      · have HC := Lib.hid hc
        clear hc
        go_wp2_with fail
        refine (HC.out _).mono ?_
        rintro e w3 ⟨rfl, hb3⟩
        have HW3 := Lib.hid (HW2.out.trans (hb3.mono HW2.out.size))
        clear hb3 HW2
        by_cases h1 : b ≤ 0
        · have h2 := hi.1 h1
          clear hi
          go_wp2_with fail
          go_meet
          exact HW3
        · have h2 : D < a := by have : ¬ (a ≤ D) := fun k => h1 (hi.2 k); omega
          have d1 : decide (b ≤ 0) = false := decide_eq_false h1
          have d2 : decide (a ≤ D) = false := decide_eq_false (by omega)
          clear hi h1 h2
          go_wp2_with fail
          go_meet
          exact HW3
      · by_cases h1 : a < 0
        · have h2 : ¬ b < 0 := fun k => hi ⟨fun _ => k, fun _ => h1⟩
          clear hi
          go_wp2_with fail
          go_meet
          exact HW2
        · have h2 : b < 0 := by omega
          clear hi
          go_wp2_with fail
          go_meet
          exact HW2
    case rest =>
      clear HW2 XD
      have HW2 := hcut
      clear hcut
      go_wp2_with fail
      refine (alive4 _).mono ?_
      rintro e w3 ⟨rfl, hb3⟩
      have HW3 := Lib.hid (HW2.out.trans (hb3.mono HW2.out.size))
      clear hb3 HW2
      go_wp2_with fail
      go_ret
      exact ⟨rfl, HW3.out⟩

theorem fback_walk (a b : Int) (ha : IsInt a) (hb : IsInt b) (w : World) :
    Calls Try.prog 7 #[.int .i64 a, .int .i64 b] w fun en w' => en = .returned (.bool true) ∧ Below w.heap.size w w' := by
  refine fback_core a b _ _ _ _ w (fadd_any a b ha hb) (fsub_any a b ha hb) ?_ ?_
  · by_cases h : IsInt (a + b)
    · left
      rw [ans_ok h, err_ok h]
      refine ⟨rfl, fun w => ?_, by omega⟩
      have e : a + b - b = a := by omega
      have := fsub_any (a + b) b h hb w
      rw [e, ans_ok ha, err_ok ha] at this
      exact this
    · right
      rw [err_no h]
      unfold IsInt at *
      exact ⟨rfl, by omega⟩
  · by_cases h : IsInt (a - b)
    · left
      rw [ans_ok h, err_ok h]
      refine ⟨rfl, fun w => ?_, by omega⟩
      have e : a - b + b = a := by omega
      have := fadd_any (a - b) b h hb w
      rw [e, ans_ok ha, err_ok ha] at this
      exact this
    · right
      rw [err_no h]
      unfold IsInt at *
      exact ⟨rfl, by omega⟩
end Go.Proofs.Ytafpfplhpgaokaa
