/- The law FixRounds, walked: it answers true at every three ints, and nothing that was in memory before is changed. -/
import Derived.Test.YtafpfplhpgaokaaAlive4
namespace Go.Proofs.Ytafpfplhpgaokaa
open Go.RowKit

/-- Where all three are ints. -/
def Both (a b c D U N X Y h i : Int) : Prop :=
  (∀ w, Calls Try.prog 10 #[.int .i64 a, .int .i64 b] w fun en w' => en = .returned (.tuple #[.int .i64 X, .int .i64 h]) ∧ Below w.heap.size w w') ∧
  (∀ w, Calls Try.prog 10 #[.int .i64 D, .int .i64 c] w fun en w' => en = .returned (.tuple #[.int .i64 Y, .int .i64 i]) ∧ Below w.heap.size w w') ∧
  (U = D ∧ N = D ∧ (h = 0 → i = 0 → X = Y) ∨ U = D + 1 ∧ IntKind.i64.wrap (U - 1) = D ∧ (N = D ∨ N = U) ∧ (h = 0 → i = 0 → X ≠ Y))
set_option maxRecDepth 100000 in
set_option maxHeartbeats 1000000 in
theorem frounds_both (a b c D U N X Y h i : Int) (w : World)
    (m1 : ∀ w, Calls Try.prog 15 #[.int .i64 a, .int .i64 b, .int .i64 c, .int .i64 0] w fun en w' => en = .returned (.tuple #[.int .i64 D, .int .i64 0]) ∧ Below w.heap.size w w')
    (m2 : ∀ w, Calls Try.prog 15 #[.int .i64 a, .int .i64 b, .int .i64 c, .int .i64 1] w fun en w' => en = .returned (.tuple #[.int .i64 U, .int .i64 0]) ∧ Below w.heap.size w w')
    (m3 : ∀ w, Calls Try.prog 15 #[.int .i64 a, .int .i64 b, .int .i64 c, .int .i64 2] w fun en w' => en = .returned (.tuple #[.int .i64 N, .int .i64 0]) ∧ Below w.heap.size w w')
    (hB : Both a b c D U N X Y h i) :
    Calls Try.prog 5 #[.int .i64 a, .int .i64 b, .int .i64 c] w fun en w' => en = .returned (.bool true) ∧ Below w.heap.size w w' := by
  obtain ⟨m4, m5, hC⟩ := hB
  have M1 := Lib.hid m1; have M2 := Lib.hid m2; have M3 := Lib.hid m3; have M4 := Lib.hid m4; have M5 := Lib.hid m5
  clear m1 m2 m3 m4 m5
  have HC := Lib.hid hC
  clear hC
  go_enter Try.func5, Try.ntmps5
  go_wp2_with fail
  refine (M1.out _).mono ?_
  rintro e w1 ⟨rfl, hb1⟩
  have HW1 := Lib.hid hb1
  clear hb1
  go_wp2_with fail
  refine (M2.out _).mono ?_
  rintro e w2 ⟨rfl, hb2⟩
  have HW2 := Lib.hid (HW1.out.trans (hb2.mono HW1.out.size))
  clear hb2 HW1
  go_wp2_with fail
  refine (M3.out _).mono ?_
  rintro e w3 ⟨rfl, hb3⟩
  have HW3 := Lib.hid (HW2.out.trans (hb3.mono HW2.out.size))
  clear hb3 HW2
  go_wp2_with fail
  refine (alive4 _).mono ?_
  rintro e w4 ⟨rfl, hb4⟩
  have HW4 := Lib.hid (HW3.out.trans (hb4.mono HW3.out.size))
  clear hb4 HW3
  rcases HC.out with ⟨rfl, rfl, hx⟩ | ⟨hu, hw, hN, hx⟩
  · have HX := Lib.hid hx; clear hx
    go_wp2_with fail
    refine (M4.out _).mono ?_
    rintro e w5 ⟨rfl, hb5⟩
    have HW5 := Lib.hid (HW4.out.trans (hb5.mono HW4.out.size))
    clear hb5 HW4
    go_wp2_with fail
    refine (M5.out _).mono ?_
    rintro e w6 ⟨rfl, hb6⟩
    have HW6 := Lib.hid (HW5.out.trans (hb6.mono HW5.out.size))
    clear hb6 HW5
    have hx := HX.out
    by_cases h1 : h = 0
    · have h1' : (h != 0) = false := by simp [h1]
      by_cases h2 : i = 0
      · have h2' : (i != 0) = false := by simp [h2]
        have hx' := hx h1 h2
        clear h1 h2 hx HC
        subst hx'
        go_wp2_with fail
        go_ret
        exact ⟨rfl, HW6.out⟩
      · have h2' : (i != 0) = true := by simp [h2]
        clear h1 h2 hx HC
        go_wp2_with fail
        go_ret
        exact ⟨rfl, HW6.out⟩
    · have h1' : (h != 0) = true := by simp [h1]
      clear h1 hx HC
      go_wp2_with fail
      go_ret
      exact ⟨rfl, HW6.out⟩
  · have HX := Lib.hid hx; clear hx
    have l1 : D < U := by omega
    have l2 : (U == D) = false := by simp; omega
    have l3 : (D == U) = false := by simp; omega
    clear hu
    rcases hN with rfl | rfl
    · go_wp2_with fail
      refine (M4.out _).mono ?_
      rintro e w5 ⟨rfl, hb5⟩
      have HW5 := Lib.hid (HW4.out.trans (hb5.mono HW4.out.size))
      clear hb5 HW4
      go_wp2_with fail
      refine (M5.out _).mono ?_
      rintro e w6 ⟨rfl, hb6⟩
      have HW6 := Lib.hid (HW5.out.trans (hb6.mono HW5.out.size))
      clear hb6 HW5
      have hx := HX.out
      by_cases h1 : h = 0
      · have h1' : (h != 0) = false := by simp [h1]
        by_cases h2 : i = 0
        · have h2' : (i != 0) = false := by simp [h2]
          have hx' := hx h1 h2
          clear h1 h2 hx HC
          have l4 : (X == Y) = false := by simp; exact hx'
          clear hx'
          go_wp2_with fail
          go_ret
          exact ⟨rfl, HW6.out⟩
        · have h2' : (i != 0) = true := by simp [h2]
          clear h1 h2 hx HC
          go_wp2_with fail
          go_ret
          exact ⟨rfl, HW6.out⟩
      · have h1' : (h != 0) = true := by simp [h1]
        clear h1 hx HC
        go_wp2_with fail
        go_ret
        exact ⟨rfl, HW6.out⟩
    · go_wp2_with fail
      refine (M4.out _).mono ?_
      rintro e w5 ⟨rfl, hb5⟩
      have HW5 := Lib.hid (HW4.out.trans (hb5.mono HW4.out.size))
      clear hb5 HW4
      go_wp2_with fail
      refine (M5.out _).mono ?_
      rintro e w6 ⟨rfl, hb6⟩
      have HW6 := Lib.hid (HW5.out.trans (hb6.mono HW5.out.size))
      clear hb6 HW5
      have hx := HX.out
      by_cases h1 : h = 0
      · have h1' : (h != 0) = false := by simp [h1]
        by_cases h2 : i = 0
        · have h2' : (i != 0) = false := by simp [h2]
          have hx' := hx h1 h2
          clear h1 h2 hx HC
          have l4 : (X == Y) = false := by simp; exact hx'
          clear hx'
          go_wp2_with fail
          go_ret
          exact ⟨rfl, HW6.out⟩
        · have h2' : (i != 0) = true := by simp [h2]
          clear h1 h2 hx HC
          go_wp2_with fail
          go_ret
          exact ⟨rfl, HW6.out⟩
      · have h1' : (h != 0) = true := by simp [h1]
        clear h1 hx HC
        go_wp2_with fail
        go_ret
        exact ⟨rfl, HW6.out⟩
/-- Where one of the two is none. -/
def OneNot (D U N e f g : Int) : Prop := (e ≠ 0 ∧ f ≠ 0 ∧ g ≠ 0 ∧ D = 0 ∧ U = 0) ∨ (e = 0 ∧ f ≠ 0 ∧ U = 0 ∧ (g ≠ 0 ∨ g = 0 ∧ N = D)) ∨ (e ≠ 0 ∧ f = 0 ∧ D = 0 ∧ (g ≠ 0 ∨ g = 0 ∧ N = U))
set_option maxRecDepth 100000 in
set_option maxHeartbeats 1000000 in
theorem frounds_not (a b c D U N e f g : Int) (w : World)
    (m1 : ∀ w, Calls Try.prog 15 #[.int .i64 a, .int .i64 b, .int .i64 c, .int .i64 0] w fun en w' => en = .returned (.tuple #[.int .i64 D, .int .i64 e]) ∧ Below w.heap.size w w')
    (m2 : ∀ w, Calls Try.prog 15 #[.int .i64 a, .int .i64 b, .int .i64 c, .int .i64 1] w fun en w' => en = .returned (.tuple #[.int .i64 U, .int .i64 f]) ∧ Below w.heap.size w w')
    (m3 : ∀ w, Calls Try.prog 15 #[.int .i64 a, .int .i64 b, .int .i64 c, .int .i64 2] w fun en w' => en = .returned (.tuple #[.int .i64 N, .int .i64 g]) ∧ Below w.heap.size w w')
    (hN : OneNot D U N e f g) :
    Calls Try.prog 5 #[.int .i64 a, .int .i64 b, .int .i64 c] w fun en w' => en = .returned (.bool true) ∧ Below w.heap.size w w' := by
  have M1 := Lib.hid m1; have M2 := Lib.hid m2; have M3 := Lib.hid m3
  clear m1 m2 m3
  go_enter Try.func5, Try.ntmps5
  go_wp2_with fail
  refine (M1.out _).mono ?_
  rintro e w1 ⟨rfl, hb1⟩
  have HW1 := Lib.hid hb1
  clear hb1
  go_wp2_with fail
  refine (M2.out _).mono ?_
  rintro e w2 ⟨rfl, hb2⟩
  have HW2 := Lib.hid (HW1.out.trans (hb2.mono HW1.out.size))
  clear hb2 HW1
  go_wp2_with fail
  refine (M3.out _).mono ?_
  rintro e w3 ⟨rfl, hb3⟩
  have HW3 := Lib.hid (HW2.out.trans (hb3.mono HW2.out.size))
  clear hb3 HW2
  go_wp2_with fail
  refine (alive4 _).mono ?_
  rintro e w4 ⟨rfl, hb4⟩
  have HW4 := Lib.hid (HW3.out.trans (hb4.mono HW3.out.size))
  clear hb4 HW3
  rcases hN with ⟨h1, h2, h3, rfl, rfl⟩ | ⟨rfl, h2, rfl, h3⟩ | ⟨h1, rfl, rfl, h3⟩
  · have e1 : (e == 0) = false := by simp; exact h1
    have e2 : (e != 0) = true := by simp; exact h1
    have f1 : (f == 0) = false := by simp; exact h2
    have f2 : (f != 0) = true := by simp; exact h2
    have g1 : (g == 0) = false := by simp; exact h3
    have g2 : (g != 0) = true := by simp; exact h3
    clear h1 h2 h3
    go_wp2_with fail
    go_ret
    exact ⟨rfl, HW4.out⟩
  · have f1 : (f == 0) = false := by simp; exact h2
    have f2 : (f != 0) = true := by simp; exact h2
    clear h2
    rcases h3 with h3 | ⟨rfl, rfl⟩
    · have g1 : (g == 0) = false := by simp; exact h3
      have g2 : (g != 0) = true := by simp; exact h3
      clear h3
      go_wp2_with fail
      go_ret
      exact ⟨rfl, HW4.out⟩
    · go_wp2_with fail
      go_ret
      exact ⟨rfl, HW4.out⟩
  · have e1 : (e == 0) = false := by simp; exact h1
    have e2 : (e != 0) = true := by simp; exact h1
    clear h1
    rcases h3 with h3 | ⟨rfl, rfl⟩
    · have g1 : (g == 0) = false := by simp; exact h3
      have g2 : (g != 0) = true := by simp; exact h3
      clear h3
      go_wp2_with fail
      go_ret
      exact ⟨rfl, HW4.out⟩
    · go_wp2_with fail
      go_ret
      exact ⟨rfl, HW4.out⟩

theorem err_ne {z : Int} (h : ¬ IsInt z) : err z ≠ 0 := fun c => h (err_zero.1 c)
theorem frounds_walk (a b c : Int) (ha : IsInt a) (hb : IsInt b) (hc : IsInt c) (w : World) :
    Calls Try.prog 5 #[.int .i64 a, .int .i64 b, .int .i64 c] w fun en w' => en = .returned (.bool true) ∧ Below w.heap.size w w' := by
  by_cases h0 : c = 0
  · subst h0
    exact frounds_not a b 0 _ _ _ _ _ _ w (muldiv_zero 0 (by decide) a b ha hb) (muldiv_zero 1 (by decide) a b ha hb) (muldiv_zero 2 (by decide) a b ha hb) (.inl ⟨by decide, by decide, by decide, rfl, rfl⟩)
  have m1 := muldiv_any 0 (by decide) a b c ha hb hc h0
  have m2 := muldiv_any 1 (by decide) a b c ha hb hc h0
  have m3 := muldiv_any 2 (by decide) a b c ha hb hc h0
  have hex := md_exact a b c
  have hdu := md_down_up a b c
  have hnr := md_near a b h0
  generalize md a b c 0 = D at *
  generalize md a b c 1 = U at *
  generalize md a b c 2 = N at *
  by_cases h1 : IsInt D
  · by_cases h2 : IsInt U
    · have h3 : IsInt N := by rcases hnr with rfl | rfl <;> assumption
      rw [ans_ok h1, err_ok h1] at m1
      rw [ans_ok h2, err_ok h2] at m2
      rw [ans_ok h3, err_ok h3] at m3
      refine frounds_both a b c D U N _ _ _ _ w m1 m2 m3 ⟨fmul_any a b ha hb, fmul_any D c h1 hc, ?_⟩
      by_cases hR : mdR a b c = 0
      · left
        rw [if_pos hR] at hdu
        subst hdu
        refine ⟨rfl, by simpa using hnr, fun p q => ?_⟩
        rw [ans_ok (err_zero.1 p), ans_ok (err_zero.1 q)]
        exact hex.1 hR
      · right
        rw [if_neg hR] at hdu
        refine ⟨hdu, by rw [hdu]; have e : D + 1 - 1 = D := by omega
                        rw [e]; exact wrap_int h1, hnr, fun p q => ?_⟩
        rw [ans_ok (err_zero.1 p), ans_ok (err_zero.1 q)]
        exact fun k => hR (hex.2 k)
    · refine frounds_not a b c _ _ _ _ _ _ w m1 m2 m3 (.inr (.inl ⟨err_ok h1, err_ne h2, ans_no h2, ?_⟩))
      rcases hnr with rfl | rfl
      · exact .inr ⟨err_ok h1, rfl⟩
      · exact .inl (err_ne h2)
  · by_cases h2 : IsInt U
    · refine frounds_not a b c _ _ _ _ _ _ w m1 m2 m3 (.inr (.inr ⟨err_ne h1, err_ok h2, ans_no h1, ?_⟩))
      rcases hnr with rfl | rfl
      · exact .inl (err_ne h1)
      · exact .inr ⟨err_ok h2, rfl⟩
    · refine frounds_not a b c _ _ _ _ _ _ w m1 m2 m3 (.inl ⟨err_ne h1, err_ne h2, ?_, ans_no h1, ans_no h2⟩)
      rcases hnr with rfl | rfl
      · exact err_ne h1
      · exact err_ne h2
end Go.Proofs.Ytafpfplhpgaokaa
