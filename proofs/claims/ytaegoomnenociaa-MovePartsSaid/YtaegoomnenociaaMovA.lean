/- Moves as values; move.isSample, move.apart, the reference's Step; Right of both. -/
import Derived.Test.YtaegoomnenociaaMovN
import Derived.Test.YtaegoomnenociaaInts
import Derived.Test.YtaegoomnenociaaHas
namespace Go.Proofs.Ytaegoomnenociaa
open Go.RowKit

def movV (m : Mov) : Value := .agg #[.int .i64 m.n, .int .i64 m.last, .int .i64 m.sum]
theorem eqMov3 (a b c x y z : Int) (w : World) : (Op.equalIn 10000 23 (.agg #[.int .i64 a, .int .i64 b, .int .i64 c]) (.agg #[.int .i64 x, .int .i64 y, .int .i64 z])).run Try.prog w = .ok (decide (a = x ∧ b = y ∧ c = z)) w := by
  by_cases h1 : a = x
  · subst h1
    by_cases h2 : b = y
    · subst h2
      by_cases h3 : c = z
      · subst h3
        rw [decide_eq_true ⟨rfl, rfl, rfl⟩]
        have g1 : (a == a) = true := beq_self_eq_true a
        have g2 : (b == b) = true := beq_self_eq_true b
        have g3 : (c == c) = true := beq_self_eq_true c
        go_simp
      · rw [decide_eq_false (fun h => h3 h.2.2)]
        have g1 : (a == a) = true := beq_self_eq_true a
        have g2 : (b == b) = true := beq_self_eq_true b
        have g3 : (c == z) = false := beq_false_of_ne h3
        go_simp
    · rw [decide_eq_false (fun h => h2 h.2.1)]
      have g1 : (a == a) = true := beq_self_eq_true a
      have g2 : (b == y) = false := beq_false_of_ne h2
      go_simp
  · rw [decide_eq_false (fun h => h1 h.1)]
    have g1 : (a == x) = false := beq_false_of_ne h1
    go_simp
def goodI (x : Int) : Bool := decide (-1000000 ≤ x ∧ x ≤ 1000000)
set_option maxRecDepth 100000 in
theorem isSample12_any (x : Int) (w : World) :
    Calls Try.prog 16 #[.int .i64 x] w fun e w' => e = .returned (.bool (goodI x)) ∧ w = w' := by
  unfold goodI
  by_cases h1 : -1000000 ≤ x
  · by_cases h2 : x ≤ 1000000
    · rw [decide_eq_true ⟨h1, h2⟩]
      go_enter Try.func16, Try.ntmps16
      go_wp2
      go_ret
      exact ⟨rfl, rfl⟩
    · rw [decide_eq_false (fun h => h2 h.2)]
      go_enter Try.func16, Try.ntmps16
      go_wp2
      go_ret
      exact ⟨rfl, rfl⟩
  · rw [decide_eq_false (fun h => h1 h.1)]
    go_enter Try.func16, Try.ntmps16
    go_wp2
    go_ret
    exact ⟨rfl, rfl⟩
set_option maxRecDepth 100000 in
theorem rstep_any (a b : Int) (ha : -1000000 ≤ a ∧ a ≤ 1000000) (hb : -1000000 ≤ b ∧ b ≤ 1000000) (w : World) :
    Calls Try.prog 19 #[.int .i64 a, .int .i64 b] w fun e w' => e = .returned (.int .i64 (distI a b)) ∧ w = w' := by
  have h1 : wrap64 (a - b) = a - b := by unfold wrap64; omega
  have h2 : wrap64 (b - a) = b - a := by unfold wrap64; omega
  by_cases h : b < a
  · have e : distI a b = a - b := by unfold distI; omega
    rw [e]
    clear ha hb e
    go_enter Try.func19, Try.ntmps19
    go_wp2
    go_ret
    exact ⟨by first | rfl | (rw [h1]; rfl) | (rw [h2]; rfl), rfl⟩
  · have e : distI a b = b - a := by unfold distI; omega
    rw [e]
    clear ha hb e
    go_enter Try.func19, Try.ntmps19
    go_wp2
    go_ret
    exact ⟨by first | rfl | (rw [h1]; rfl) | (rw [h2]; rfl), rfl⟩
set_option maxRecDepth 100000 in
theorem apart12_any (a b : Int) (ha : -1000000 ≤ a ∧ a ≤ 1000000) (hb : -1000000 ≤ b ∧ b ≤ 1000000) (w : World) :
    Calls Try.prog 18 #[.agg #[.int .i64 a, .int .i64 b]] w fun e w' => e = .returned (.int .i64 (distI a b)) ∧ Below w.heap.size w w' := by
  have h1 : wrap64 (a - b) = a - b := by unfold wrap64; omega
  have h2 : wrap64 (b - a) = b - a := by unfold wrap64; omega
  have hB := (Below.refl w.heap.size w).alloc (Nat.le_refl _) (.cells #[.int .i64 a, .int .i64 b] 46)
  rcases Int.lt_trichotomy a b with c | c | c
  · have e : distI a b = b - a := by unfold distI; omega
    have g1 : a - b < b - a := by omega
    have g2 : ¬ b - a < a - b := by omega
    have g3 : ¬ b - a ≤ a - b := by omega
    have g4 : a - b ≤ b - a := by omega
    rw [e]
    clear ha hb e c
    go_enter Try.func18, Try.ntmps18
    go_wp2
    go_ret
    exact ⟨rfl, hB⟩
  · subst c
    have e : distI a a = 0 := by unfold distI; omega
    rw [e]
    clear ha hb e
    go_enter Try.func18, Try.ntmps18
    go_wp2
    go_ret
    exact ⟨rfl, hB⟩
  · have e : distI a b = a - b := by unfold distI; omega
    have g1 : b - a < a - b := by omega
    have g2 : ¬ a - b < b - a := by omega
    have g3 : ¬ a - b ≤ b - a := by omega
    have g4 : b - a ≤ a - b := by omega
    rw [e]
    clear ha hb e c
    go_enter Try.func18, Try.ntmps18
    go_wp2
    go_ret
    exact ⟨rfl, hB⟩
set_option linter.unusedSimpArgs false in
set_option maxHeartbeats 2000000 in
set_option maxRecDepth 100000 in
theorem right12_any (n z s : Int) (w : World) :
    Calls Try.prog 8 #[.agg #[.int .i64 n, .int .i64 z, .int .i64 s]] w fun e w' => e = .returned (.bool (movB ⟨n, z, s⟩)) ∧ Below w.heap.size w w' := by
  obtain ⟨X, hX⟩ : ∃ X, movB ⟨n, z, s⟩ = X := ⟨_, rfl⟩
  rw [hX]
  have hB := (Below.refl w.heap.size w).alloc (Nat.le_refl _) (.cells #[.int .i64 n, .int .i64 z, .int .i64 s] 23)
  have HX := Lib.hid hX
  clear hX
  by_cases h0 : n = 0
  · have heq := eqMov3 n z s 0 0 0
    have hv : X = decide (n = 0 ∧ z = 0 ∧ s = 0) := by
      rw [← HX.out]
      exact decide_eq_decide.2 (by unfold movOk; dsimp only; omega)
    rw [← hv] at heq
    have g0 : (n == 0) = true := beq_iff_eq.2 h0
    clear HX h0 hv
    go_enter Try.func8, Try.ntmps8
    go_wp2
    go_ret
    exact ⟨rfl, hB⟩
  · have g0 : (n == 0) = false := beq_false_of_ne h0
    by_cases h1 : 0 ≤ n
    · have p1 : ¬ n < 0 := by omega
      have p1b : 0 < n := by omega
      by_cases h2 : n ≤ 1000000000
      · have p2 : ¬ 1000000000 < n := by omega
        have hw1 : wrap64 (n - 1) = n - 1 := by unfold wrap64; omega
        have hw2 : wrap64 ((n - 1) * 2000000) = (n - 1) * 2000000 := by unfold wrap64; omega
        have hcall := isSample12_any z (w.alloc (.cells #[.int .i64 n, .int .i64 z, .int .i64 s] 23))
        by_cases h3 : -1000000 ≤ z ∧ z ≤ 1000000
        · rw [show goodI z = true from decide_eq_true h3] at hcall
          by_cases h4 : 0 ≤ s
          · by_cases h5 : s ≤ (n - 1) * 2000000
            · skip
              have hv : X = true := by rw [← HX.out]; exact decide_eq_true (by unfold movOk; dsimp only; omega)
              subst hv
              clear HX
              go_enter Try.func8, Try.ntmps8
              go_wp2_with fail
              refine hcall.mono ?_
              rintro e w2 ⟨rfl, rfl⟩
              go_wp2
              go_ret
              exact ⟨by first | rfl | (simp; omega), hB⟩
            · skip
              have hv : X = false := by rw [← HX.out]; exact decide_eq_false (by unfold movOk; dsimp only; omega)
              subst hv
              clear HX
              go_enter Try.func8, Try.ntmps8
              go_wp2_with fail
              refine hcall.mono ?_
              rintro e w2 ⟨rfl, rfl⟩
              go_wp2
              go_ret
              exact ⟨by first | rfl | (simp; omega), hB⟩
          · skip
            have hv : X = false := by rw [← HX.out]; exact decide_eq_false (by unfold movOk; dsimp only; omega)
            subst hv
            clear HX
            go_enter Try.func8, Try.ntmps8
            go_wp2_with fail
            refine hcall.mono ?_
            rintro e w2 ⟨rfl, rfl⟩
            go_wp2
            go_ret
            exact ⟨by first | rfl | (simp; omega), hB⟩
        · rw [show goodI z = false from decide_eq_false h3] at hcall
          have hv : X = false := by rw [← HX.out]; exact decide_eq_false (by unfold movOk; dsimp only; omega)
          subst hv
          clear HX
          go_enter Try.func8, Try.ntmps8
          go_wp2_with fail
          refine hcall.mono ?_
          rintro e w2 ⟨rfl, rfl⟩
          go_wp2
          go_ret
          exact ⟨by first | rfl | (simp; omega), hB⟩
      · have p2 : 1000000000 < n := by omega
        have hv : X = false := by rw [← HX.out]; exact decide_eq_false (by unfold movOk; dsimp only; omega)
        subst hv
        clear HX
        go_enter Try.func8, Try.ntmps8
        go_wp2
        go_ret
        exact ⟨by first | rfl | (simp; omega), hB⟩
    · have p1 : n < 0 := by omega
      have p1b : ¬ 0 < n := by omega
      have hv : X = false := by rw [← HX.out]; exact decide_eq_false (by unfold movOk; dsimp only; omega)
      subst hv
      clear HX
      go_enter Try.func8, Try.ntmps8
      go_wp2
      go_ret
      exact ⟨by first | rfl | (simp; omega), hB⟩
set_option linter.unusedSimpArgs false in
set_option maxHeartbeats 2000000 in
set_option maxRecDepth 100000 in
theorem rright12_any (n z s : Int) (w : World) :
    Calls Try.prog 9 #[.agg #[.int .i64 n, .int .i64 z, .int .i64 s]] w fun e w' => e = .returned (.bool (movB ⟨n, z, s⟩)) ∧ Below w.heap.size w w' := by
  obtain ⟨X, hX⟩ : ∃ X, movB ⟨n, z, s⟩ = X := ⟨_, rfl⟩
  rw [hX]
  have hB := (Below.refl w.heap.size w).alloc (Nat.le_refl _) (.cells #[.int .i64 n, .int .i64 z, .int .i64 s] 23)
  have HX := Lib.hid hX
  clear hX
  by_cases h0 : n = 0
  · subst h0
    by_cases h1 : z = 0
    · subst h1
      by_cases h2 : s = 0
      · skip
        subst h2
        have hv : X = true := by rw [← HX.out]; exact decide_eq_true (by unfold movOk; dsimp only; omega)
        subst hv
        clear HX
        go_enter Try.func9, Try.ntmps9
        go_wp2
        go_ret
        exact ⟨by first | rfl | (simp; omega), hB⟩
      · skip
        have g2 : (s == 0) = false := beq_false_of_ne h2
        have hv : X = false := by rw [← HX.out]; exact decide_eq_false (by unfold movOk; dsimp only; omega)
        subst hv
        clear HX
        go_enter Try.func9, Try.ntmps9
        go_wp2
        go_ret
        exact ⟨by first | rfl | (simp; omega), hB⟩
    · skip
      have g1 : (z == 0) = false := beq_false_of_ne h1
      have hv : X = false := by rw [← HX.out]; exact decide_eq_false (by unfold movOk; dsimp only; omega)
      subst hv
      clear HX
      go_enter Try.func9, Try.ntmps9
      go_wp2
      go_ret
      exact ⟨by first | rfl | (simp; omega), hB⟩
  · have g0 : (n == 0) = false := beq_false_of_ne h0
    by_cases h1 : 0 ≤ n
    · have p1 : ¬ n < 0 := by omega
      have p1b : 0 < n := by omega
      by_cases h2 : n ≤ 1000000000
      · have p2 : ¬ 1000000000 < n := by omega
        have hw1 : wrap64 (n - 1) = n - 1 := by unfold wrap64; omega
        have hw2 : wrap64 (2000000 * (n - 1)) = 2000000 * (n - 1) := by unfold wrap64; omega
        by_cases h3 : -1000000 ≤ z ∧ z ≤ 1000000
        · obtain ⟨h3a, h3b⟩ := h3
          by_cases h4 : 0 ≤ s
          · by_cases h5 : s ≤ 2000000 * (n - 1)
            · skip
              have hv : X = true := by rw [← HX.out]; exact decide_eq_true (by unfold movOk; dsimp only; omega)
              subst hv
              clear HX
              go_enter Try.func9, Try.ntmps9
              go_wp2
              go_ret
              exact ⟨by first | rfl | (simp; omega), hB⟩
            · skip
              have hv : X = false := by rw [← HX.out]; exact decide_eq_false (by unfold movOk; dsimp only; omega)
              subst hv
              clear HX
              go_enter Try.func9, Try.ntmps9
              go_wp2
              go_ret
              exact ⟨by first | rfl | (simp; omega), hB⟩
          · skip
            have hv : X = false := by rw [← HX.out]; exact decide_eq_false (by unfold movOk; dsimp only; omega)
            subst hv
            clear HX
            go_enter Try.func9, Try.ntmps9
            go_wp2
            go_ret
            exact ⟨by first | rfl | (simp; omega), hB⟩
        · by_cases h3a : -1000000 ≤ z
          · skip
            have h3b : ¬ z ≤ 1000000 := by omega
            have hv : X = false := by rw [← HX.out]; exact decide_eq_false (by unfold movOk; dsimp only; omega)
            subst hv
            clear HX
            go_enter Try.func9, Try.ntmps9
            go_wp2
            go_ret
            exact ⟨by first | rfl | (simp; omega), hB⟩
          · skip
            have hv : X = false := by rw [← HX.out]; exact decide_eq_false (by unfold movOk; dsimp only; omega)
            subst hv
            clear HX
            go_enter Try.func9, Try.ntmps9
            go_wp2
            go_ret
            exact ⟨by first | rfl | (simp; omega), hB⟩
      · have p2 : 1000000000 < n := by omega
        have hv : X = false := by rw [← HX.out]; exact decide_eq_false (by unfold movOk; dsimp only; omega)
        subst hv
        clear HX
        go_enter Try.func9, Try.ntmps9
        go_wp2
        go_ret
        exact ⟨by first | rfl | (simp; omega), hB⟩
    · have p1 : n < 0 := by omega
      have p1b : ¬ 0 < n := by omega
      have hv : X = false := by rw [← HX.out]; exact decide_eq_false (by unfold movOk; dsimp only; omega)
      subst hv
      clear HX
      go_enter Try.func9, Try.ntmps9
      go_wp2
      go_ret
      exact ⟨by first | rfl | (simp; omega), hB⟩
end Go.Proofs.Ytaegoomnenociaa
