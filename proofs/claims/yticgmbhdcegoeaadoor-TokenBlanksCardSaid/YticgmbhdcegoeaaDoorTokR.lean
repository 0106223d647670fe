/- token.Right and the reference's: which tokens may be. -/
import Derived.Test.YticgmbhdcegoeaaDoorTokM
namespace Go.Proofs.YticgmbhdcegoeaaDoor
open Go.RowKit

theorem tok_new (w : World) (k v p : Int) (t : List UInt8) : TokAt (w.alloc (.cells #[.int .i64 k, .string (bs t), .int .i64 v, .int .i64 p] 30)) w.heap.size 0 ⟨k, t, v, p⟩ :=
  have h := Has.new w [.int .i64 k, .string (bs t), .int .i64 v, .int .i64 p] 30
  ⟨h.cell 0, h.cell 1, h.cell 2, h.cell 3⟩
theorem box_drawn {w w2 : World} {cs : Array Value} {T : TypeId} (h2 : Below (w.alloc (.cells cs T)).drew.heap.size (w.alloc (.cells cs T)).drew w2) : Has w2 w.heap.size cs.toList T ∧ Below w.heap.size w w2 := by
  have h : Below (w.alloc (.cells cs T)).heap.size (w.alloc (.cells cs T)) w2 := ⟨h2.os, h2.tape, h2.output, h2.size, h2.block⟩
  exact ⟨(Has.new w cs.toList T).call h, ((Below.refl _ w).alloc (Nat.le_refl _) _).trans (h.mono (by simp))⟩
set_option maxHeartbeats 1000000 in
theorem right_w (t : List UInt8) (v p : Int) (w : World) (ht : t.length ≤ 100000) :
    Calls Tryd.prog 13 #[tokV 1 t v p] w fun e w' => e = .returned (.bool (rightB 1 t v)) ∧ Below w.heap.size w w' := by
  rw [right_word]
  obtain ⟨c0, c1, c2, c3⟩ := tok_new w 1 v p t
  have hs := bs_size t
  have hb := (Below.refl w.heap.size w).alloc (Nat.le_refl _) (.cells #[.int .i64 1, .string (bs t), .int .i64 v, .int .i64 p] 30)
  have hlet := letters_any t
  have hsl := spanLen_le isLetter t
  obtain ⟨n, hn⟩ : ∃ n, spanLen isLetter t = n := ⟨_, rfl⟩
  rw [hn] at hlet hsl ⊢
  clear hn
  unfold tokV
  by_cases h1 : v = 0
  · subst h1
    rw [decide_eq_true (rfl : (0 : Int) = 0)]
    by_cases h2 : 1 ≤ t.length
    · by_cases h3 : t.length ≤ 12
      · rw [decide_eq_true h2, decide_eq_true h3]
        have h2b : decide ((1 : Int) ≤ (t.length : Int)) = true := decide_eq_true (by omega)
        have h3b : decide ((t.length : Int) ≤ 12) = true := decide_eq_true (by omega)
        by_cases hq : n = t.length
        · have hqb : ((n : Int) == (t.length : Int)) = true := beq_iff_eq.2 (by omega)
          rw [decide_eq_true hq]
          clear hq
          go_enter Tryd.func13, Tryd.ntmps13
          go_wp2
          go_region_held3 (fun w' => w'.cell? ⟨w.heap.size, 1, none⟩ = some (.string (bs t)) ∧ w'.cell? ⟨w.heap.size, 2, none⟩ = some (.int .i64 0)) (simp [go_sem, *]) ((go_at_call 28; refine (hlet _).mono ?_; rintro e w2 ⟨rfl, h2⟩; obtain ⟨hH, hb2⟩ := box_drawn h2; have d1 := hH.cell 1; have d2 := hH.cell 2; simp only [List.getElem?_cons_succ, List.getElem?_cons_zero] at d1 d2))
          all_goals go_wp2
          all_goals go_ret
          all_goals exact ⟨by simp, hb2⟩
        · have hqb : ((n : Int) == (t.length : Int)) = false := beq_false_of_ne (by omega)
          rw [decide_eq_false hq]
          clear hq
          go_enter Tryd.func13, Tryd.ntmps13
          go_wp2
          go_region_held3 (fun w' => w'.cell? ⟨w.heap.size, 1, none⟩ = some (.string (bs t)) ∧ w'.cell? ⟨w.heap.size, 2, none⟩ = some (.int .i64 0)) (simp [go_sem, *]) ((go_at_call 28; refine (hlet _).mono ?_; rintro e w2 ⟨rfl, h2⟩; obtain ⟨hH, hb2⟩ := box_drawn h2; have d1 := hH.cell 1; have d2 := hH.cell 2; simp only [List.getElem?_cons_succ, List.getElem?_cons_zero] at d1 d2))
          all_goals go_wp2
          all_goals go_ret
          all_goals exact ⟨by simp, hb2⟩
      · rw [decide_eq_true h2, decide_eq_false h3]
        have h2b : decide ((1 : Int) ≤ (t.length : Int)) = true := decide_eq_true (by omega)
        have h3b : decide ((t.length : Int) ≤ 12) = false := decide_eq_false (by omega)
        have h3c : 12 < t.length := by omega
        clear h3
        go_enter Tryd.func13, Tryd.ntmps13
        go_wp2
        go_quiet (fail)
        go_wp2
        go_ret
        exact ⟨by simp, hb.trans ⟨rfl, rfl, rfl, Nat.le_refl _, fun _ _ => rfl⟩⟩
    · rw [decide_eq_false h2]
      have h2' : t.length < 1 := by omega
      have h2b : decide ((1 : Int) ≤ (t.length : Int)) = false := decide_eq_false (by omega)
      clear h2
      go_enter Tryd.func13, Tryd.ntmps13
      go_wp2
      go_quiet (fail)
      go_wp2
      go_ret
      exact ⟨by simp, hb.trans ⟨rfl, rfl, rfl, Nat.le_refl _, fun _ _ => rfl⟩⟩
  · rw [decide_eq_false h1]
    have h1b : (v == 0) = false := beq_false_of_ne h1
    clear h1
    go_enter Tryd.func13, Tryd.ntmps13
    go_wp2
    go_quiet (fail)
    go_wp2
    go_ret
    exact ⟨by simp, hb.trans ⟨rfl, rfl, rfl, Nat.le_refl _, fun _ _ => rfl⟩⟩

theorem right_n (t : List UInt8) (v p : Int) (w : World) :
    Calls Tryd.prog 13 #[tokV 2 t v p] w fun e w' => e = .returned (.bool (rightB 2 t v)) ∧ Below w.heap.size w w' := by
  rw [right_num]
  obtain ⟨c0, c1, c2, c3⟩ := tok_new w 2 v p t
  have hs := bs_size t
  have hq := bs_toList t
  have hb := (Below.refl w.heap.size w).alloc (Nat.le_refl _) (.cells #[.int .i64 2, .string (bs t), .int .i64 v, .int .i64 p] 30)
  unfold tokV
  by_cases h1 : t = []
  · subst h1
    rw [decide_eq_true (rfl : ([] : List UInt8) = [])]
    have hq1 : (([] : List UInt8) == []) = true := rfl
    by_cases h2 : -1000000000 ≤ v
    · rw [decide_eq_true h2]
      by_cases h3 : v ≤ 1000000000
      · rw [decide_eq_true h3]
        go_enter Tryd.func13, Tryd.ntmps13
        go_wp2
        go_ret
        exact ⟨by simp, hb⟩
      · rw [decide_eq_false h3]
        have h3b : decide (v ≤ 1000000000) = false := decide_eq_false h3
        have h3c : 1000000000 < v := by omega
        clear h3
        go_enter Tryd.func13, Tryd.ntmps13
        go_wp2
        go_ret
        exact ⟨by simp, hb⟩
    · rw [decide_eq_false h2]
      have h2b : decide (-1000000000 ≤ v) = false := decide_eq_false h2
      have h2c : v < -1000000000 := by omega
      clear h2
      go_enter Tryd.func13, Tryd.ntmps13
      go_wp2
      go_ret
      exact ⟨by simp, hb⟩
  · rw [decide_eq_false h1]
    have hq2 : (t == []) = false := by
      cases t with
      | nil => exact absurd rfl h1
      | cons a b => rfl
    have hq3 : t.isEmpty = false := by
      cases t with
      | nil => exact absurd rfl h1
      | cons a b => rfl
    clear h1
    go_enter Tryd.func13, Tryd.ntmps13
    go_wp2
    go_ret
    exact ⟨by simp, hb⟩
theorem right_m (k : Int) (hk : k = 3 ∨ k = 4 ∨ k = 5) (t : List UInt8) (v p : Int) (w : World) :
    Calls Tryd.prog 13 #[tokV k t v p] w fun e w' => e = .returned (.bool (rightB k t v)) ∧ Below w.heap.size w w' := by
  rw [right_mark k t v (by omega) (by omega), decide_eq_true (show 3 ≤ k by omega), decide_eq_true (show k ≤ 5 by omega)]
  rcases hk with rfl | rfl | rfl
  · obtain ⟨c0, c1, c2, c3⟩ := tok_new w 3 v p t
    have hs := bs_size t
    have hq := bs_toList t
    have hb := (Below.refl w.heap.size w).alloc (Nat.le_refl _) (.cells #[.int .i64 3, .string (bs t), .int .i64 v, .int .i64 p] 30)
    unfold tokV
    by_cases h1 : t = []
    · subst h1
      rw [decide_eq_true (rfl : ([] : List UInt8) = [])]
      have hq1 : (([] : List UInt8) == []) = true := rfl
      by_cases h2 : v = 0
      · subst h2
        rw [decide_eq_true (rfl : (0 : Int) = 0)]
        go_enter Tryd.func13, Tryd.ntmps13
        go_wp2
        go_ret
        exact ⟨by simp, hb⟩
      · rw [decide_eq_false h2]
        have h2b : (v == 0) = false := beq_false_of_ne h2
        clear h2
        go_enter Tryd.func13, Tryd.ntmps13
        go_wp2
        go_ret
        exact ⟨by simp, hb⟩
    · rw [decide_eq_false h1]
      have hq2 : (t == []) = false := by
        cases t with
        | nil => exact absurd rfl h1
        | cons a b => rfl
      have hq3 : t.isEmpty = false := by
        cases t with
        | nil => exact absurd rfl h1
        | cons a b => rfl
      clear h1
      go_enter Tryd.func13, Tryd.ntmps13
      go_wp2
      go_ret
      exact ⟨by simp, hb⟩
  · obtain ⟨c0, c1, c2, c3⟩ := tok_new w 4 v p t
    have hs := bs_size t
    have hq := bs_toList t
    have hb := (Below.refl w.heap.size w).alloc (Nat.le_refl _) (.cells #[.int .i64 4, .string (bs t), .int .i64 v, .int .i64 p] 30)
    unfold tokV
    by_cases h1 : t = []
    · subst h1
      rw [decide_eq_true (rfl : ([] : List UInt8) = [])]
      have hq1 : (([] : List UInt8) == []) = true := rfl
      by_cases h2 : v = 0
      · subst h2
        rw [decide_eq_true (rfl : (0 : Int) = 0)]
        go_enter Tryd.func13, Tryd.ntmps13
        go_wp2
        go_ret
        exact ⟨by simp, hb⟩
      · rw [decide_eq_false h2]
        have h2b : (v == 0) = false := beq_false_of_ne h2
        clear h2
        go_enter Tryd.func13, Tryd.ntmps13
        go_wp2
        go_ret
        exact ⟨by simp, hb⟩
    · rw [decide_eq_false h1]
      have hq2 : (t == []) = false := by
        cases t with
        | nil => exact absurd rfl h1
        | cons a b => rfl
      have hq3 : t.isEmpty = false := by
        cases t with
        | nil => exact absurd rfl h1
        | cons a b => rfl
      clear h1
      go_enter Tryd.func13, Tryd.ntmps13
      go_wp2
      go_ret
      exact ⟨by simp, hb⟩
  · obtain ⟨c0, c1, c2, c3⟩ := tok_new w 5 v p t
    have hs := bs_size t
    have hq := bs_toList t
    have hb := (Below.refl w.heap.size w).alloc (Nat.le_refl _) (.cells #[.int .i64 5, .string (bs t), .int .i64 v, .int .i64 p] 30)
    unfold tokV
    by_cases h1 : t = []
    · subst h1
      rw [decide_eq_true (rfl : ([] : List UInt8) = [])]
      have hq1 : (([] : List UInt8) == []) = true := rfl
      by_cases h2 : v = 0
      · subst h2
        rw [decide_eq_true (rfl : (0 : Int) = 0)]
        go_enter Tryd.func13, Tryd.ntmps13
        go_wp2
        go_ret
        exact ⟨by simp, hb⟩
      · rw [decide_eq_false h2]
        have h2b : (v == 0) = false := beq_false_of_ne h2
        clear h2
        go_enter Tryd.func13, Tryd.ntmps13
        go_wp2
        go_ret
        exact ⟨by simp, hb⟩
    · rw [decide_eq_false h1]
      have hq2 : (t == []) = false := by
        cases t with
        | nil => exact absurd rfl h1
        | cons a b => rfl
      have hq3 : t.isEmpty = false := by
        cases t with
        | nil => exact absurd rfl h1
        | cons a b => rfl
      clear h1
      go_enter Tryd.func13, Tryd.ntmps13
      go_wp2
      go_ret
      exact ⟨by simp, hb⟩
theorem right_x (k : Int) (h1 : k ≠ 1) (h2 : k ≠ 2) (h3 : k ≠ 3) (h4 : k ≠ 4) (h5 : k ≠ 5) (t : List UInt8) (v p : Int) (w : World) :
    Calls Tryd.prog 13 #[tokV k t v p] w fun e w' => e = .returned (.bool (rightB k t v)) ∧ Below w.heap.size w w' := by
  have e : rightB k t v = false := by
    rw [right_mark k t v h1 h2]
    by_cases c : 3 ≤ k
    · rw [decide_eq_false (show ¬ k ≤ 5 by omega)]; simp
    · rw [decide_eq_false c]; simp
  rw [e]
  clear e
  obtain ⟨c0, c1, c2, c3⟩ := tok_new w k v p t
  have hs := bs_size t
  have hq := bs_toList t
  have hb := (Below.refl w.heap.size w).alloc (Nat.le_refl _) (.cells #[.int .i64 k, .string (bs t), .int .i64 v, .int .i64 p] 30)
  unfold tokV
  have b1 : (k == 1) = false := beq_false_of_ne h1
  have b2 : (k == 2) = false := beq_false_of_ne h2
  have b3 : (k == 3) = false := beq_false_of_ne h3
  have b4 : (k == 4) = false := beq_false_of_ne h4
  have b5 : (k == 5) = false := beq_false_of_ne h5
  clear h1 h2 h3 h4 h5
  go_enter Tryd.func13, Tryd.ntmps13
  go_wp2
  go_ret
  exact ⟨rfl, hb⟩
theorem right_any (k : Int) (t : List UInt8) (v p : Int) (w : World) (ht : t.length ≤ 100000) :
    Calls Tryd.prog 13 #[tokV k t v p] w fun e w' => e = .returned (.bool (rightB k t v)) ∧ Below w.heap.size w w' := by
  by_cases h1 : k = 1
  · subst h1; exact right_w t v p w ht
  by_cases h2 : k = 2
  · subst h2; exact right_n t v p w
  by_cases h3 : k = 3 ∨ k = 4 ∨ k = 5
  · exact right_m k h3 t v p w
  · exact right_x k h1 h2 (by omega) (by omega) (by omega) t v p w
end Go.Proofs.YticgmbhdcegoeaaDoor
