/- Moves as numbers: which may be; the move and the steps behind samples. -/
import Derived.Test.YtfafkdbflmennaaInN
namespace Go.Proofs.Ytfafkdbflmennaa

/-- A move: how many, the last one, the sum of all steps. -/
structure Mov where
  n : Int
  last : Int
  sum : Int
def mov0 : Mov := ⟨0, 0, 0⟩
def movOk (m : Mov) : Prop := (m.n = 0 ∧ m.last = 0 ∧ m.sum = 0) ∨ ((1 ≤ m.n ∧ m.n ≤ 1000000000) ∧ (-1000000 ≤ m.last ∧ m.last ≤ 1000000) ∧ 0 ≤ m.sum ∧ m.sum ≤ (m.n - 1) * 2000000)
instance (m : Mov) : Decidable (movOk m) := by unfold movOk; infer_instance
def movB (m : Mov) : Bool := decide (movOk m)
def distI (a b : Int) : Int := max (a - b) (b - a)
theorem distI_comm (a b : Int) : distI a b = distI b a := by unfold distI; omega
theorem distI_nonneg (a b : Int) : 0 ≤ distI a b := by unfold distI; omega
theorem distI_le {a b : Int} (ha : -1000000 ≤ a ∧ a ≤ 1000000) (hb : -1000000 ≤ b ∧ b ≤ 1000000) : distI a b ≤ 2000000 := by unfold distI; omega
theorem distI_tri (a b c : Int) : distI a c ≤ distI a b + distI b c := by unfold distI; omega
def sumI : List Int → Int
  | [] => 0
  | x :: r => x + sumI r
theorem sumI_append : ∀ l m : List Int, sumI (l ++ m) = sumI l + sumI m
  | [], m => by simp [sumI]
  | x :: r, m => by simp only [List.cons_append, sumI, sumI_append r m]; omega
/-- The steps from a on. -/
def stepsF (a : Int) : List Int → List Int
  | [] => []
  | x :: r => distI a x :: stepsF x r
def lastF (a : Int) : List Int → Int
  | [] => a
  | x :: r => lastF x r
theorem lastF_append : ∀ (a : Int) (l m : List Int), lastF a (l ++ m) = lastF (lastF a l) m
  | _, [], _ => rfl
  | _, x :: r, m => lastF_append x r m
theorem lastF_snoc (a : Int) (l : List Int) (x : Int) : lastF a (l ++ [x]) = x := by rw [lastF_append]; rfl
theorem stepsF_append : ∀ (a : Int) (l m : List Int), stepsF a (l ++ m) = stepsF a l ++ stepsF (lastF a l) m
  | _, [], _ => rfl
  | a, x :: r, m => by simp only [List.cons_append, stepsF, lastF, stepsF_append x r m]
theorem stepsF_len : ∀ (a : Int) (l : List Int), (stepsF a l).length = l.length
  | _, [] => rfl
  | _, x :: r => by simp only [stepsF, List.length_cons, stepsF_len x r]
/-- The steps that a move's samples make: of none ahead there is no step to the first one. -/
def stepsM (m : Mov) (l : List Int) : List Int := if m.n = 0 then (stepsF m.last l).drop 1 else stepsF m.last l
def runM (m : Mov) (l : List Int) : Mov := ⟨m.n + (l.length : Int), lastF m.last l, m.sum + sumI (stepsM m l)⟩
theorem runM_nil (m : Mov) : runM m [] = m := by
  unfold runM stepsM
  split <;> simp [stepsF, lastF, sumI]
theorem stepsM_nil (m : Mov) : stepsM m [] = [] := by unfold stepsM; split <;> rfl
theorem stepsM_append (m : Mov) (h : 0 ≤ m.n) (l k : List Int) : stepsM m (l ++ k) = stepsM m l ++ stepsM (runM m l) k := by
  unfold stepsM
  rw [stepsF_append]
  by_cases h0 : m.n = 0
  · rw [if_pos h0, if_pos h0]
    cases l with
    | nil => simp [stepsF, runM, h0, lastF]
    | cons x r =>
      have : ¬ (runM m (x :: r)).n = 0 := by show ¬ m.n + ((r.length + 1 : Nat) : Int) = 0; omega
      rw [if_neg this]
      rfl
  · have : ¬ (runM m l).n = 0 := by show ¬ m.n + (l.length : Int) = 0; omega
    rw [if_neg h0, if_neg h0, if_neg this]
    rfl
theorem runM_append (m : Mov) (h : 0 ≤ m.n) (l k : List Int) : runM m (l ++ k) = runM (runM m l) k := by
  have e := stepsM_append m h l k
  unfold runM
  rw [e, List.length_append, lastF_append, sumI_append]
  have hr : runM m l = ⟨m.n + (l.length : Int), lastF m.last l, m.sum + sumI (stepsM m l)⟩ := rfl
  rw [hr]
  dsimp only
  congr 1 <;> omega
/-- One more sample. -/
def thereB (m : Mov) (k : Nat) : Bool := decide (0 < m.n) || decide (0 < k)
theorem stepsM_one (m : Mov) (x : Int) : stepsM m [x] = if m.n = 0 then [] else [distI m.last x] := by
  unfold stepsM; rfl
theorem stepsM_snoc (m : Mov) (h : 0 ≤ m.n) (l : List Int) (x : Int) : stepsM m (l ++ [x]) = stepsM m l ++ (if (runM m l).n = 0 then [] else [distI (runM m l).last x]) := by
  rw [stepsM_append m h, stepsM_one]
theorem runM_n (m : Mov) (l : List Int) : (runM m l).n = m.n + (l.length : Int) := rfl
theorem runM_last (m : Mov) (l : List Int) : (runM m l).last = lastF m.last l := rfl
theorem runM_sum (m : Mov) (l : List Int) : (runM m l).sum = m.sum + sumI (stepsM m l) := rfl
theorem stepsF_bounds : ∀ {a : Int} {l : List Int}, (-1000000 ≤ a ∧ a ≤ 1000000) → inB l = true → ∀ x ∈ stepsF a l, 0 ≤ x ∧ x ≤ 2000000
  | _, [], _, _, x, hx => by cases hx
  | a, y :: r, ha, hl, x, hx => by
    have hy := inB_of hl y (by simp)
    have hr : inB r = true := by
      unfold inB at hl ⊢
      rw [List.all_cons, Bool.and_eq_true] at hl
      exact hl.2
    rcases List.mem_cons.1 hx with rfl | hx
    · exact ⟨distI_nonneg _ _, distI_le ha hy⟩
    · exact stepsF_bounds hy hr x hx
theorem sumI_bounds : ∀ {l : List Int}, (∀ x ∈ l, 0 ≤ x ∧ x ≤ 2000000) → 0 ≤ sumI l ∧ sumI l ≤ (l.length : Int) * 2000000
  | [], _ => by simp [sumI]
  | x :: r, h => by
    have h1 := h x (by simp)
    have h2 := sumI_bounds (l := r) fun y hy => h y (by simp [hy])
    simp only [sumI, List.length_cons]
    omega
theorem movOk_last {m : Mov} (h : movOk m) : -1000000 ≤ m.last ∧ m.last ≤ 1000000 := by
  rcases h with ⟨_, h, _⟩ | ⟨_, h, _⟩ <;> omega
theorem movOk_n {m : Mov} (h : movOk m) : 0 ≤ m.n ∧ m.n ≤ 1000000000 := by
  rcases h with ⟨h, _⟩ | ⟨h, _⟩ <;> omega
theorem stepsM_bounds {m : Mov} {l : List Int} (hm : movOk m) (hl : inB l = true) : ∀ x ∈ stepsM m l, 0 ≤ x ∧ x ≤ 2000000 := by
  intro x hx
  have := stepsF_bounds (movOk_last hm) hl x
  unfold stepsM at hx
  split at hx
  · exact this (List.mem_of_mem_drop hx)
  · exact this hx
theorem stepsM_len (m : Mov) (l : List Int) : (stepsM m l).length = if m.n = 0 then l.length - 1 else l.length := by
  unfold stepsM
  split
  · rw [List.length_drop, stepsF_len]
  · rw [stepsF_len]
theorem lastF_in : ∀ {a : Int} {l : List Int}, (-1000000 ≤ a ∧ a ≤ 1000000) → inB l = true → -1000000 ≤ lastF a l ∧ lastF a l ≤ 1000000
  | _, [], ha, _ => ha
  | a, y :: r, _, hl => by
    have hy := inB_of hl y (by simp)
    have hr : inB r = true := by
      unfold inB at hl ⊢
      rw [List.all_cons, Bool.and_eq_true] at hl
      exact hl.2
    exact (show -1000000 ≤ lastF y r ∧ lastF y r ≤ 1000000 from lastF_in hy hr)
/-- What is run may be again. -/
theorem runM_ok {m : Mov} {l : List Int} (hm : movOk m) (hl : inB l = true) (hn : m.n + (l.length : Int) ≤ 1000000000) : movOk (runM m l) := by
  cases l with
  | nil => rw [runM_nil]; exact hm
  | cons x r =>
    have h1 := sumI_bounds (stepsM_bounds hm hl)
    have h2 := stepsM_len m (x :: r)
    have h3 := lastF_in (movOk_last hm) hl
    have hlen : (x :: r).length = r.length + 1 := rfl
    refine .inr ⟨?_, h3, ?_⟩
    · have := movOk_n hm
      rw [runM_n, hlen]
      omega
    · rw [runM_sum, runM_n]
      rcases hm with ⟨h, _, hs⟩ | ⟨h, _, hs⟩
      · rw [if_pos h] at h2
        omega
      · rw [if_neg (by omega)] at h2
        omega
theorem inB_append (l m : List Int) : inB (l ++ m) = (inB l && inB m) := by unfold inB; rw [List.all_append]
theorem inB_one (x : Int) : inB [x] = decide (-1000000 ≤ x ∧ x ≤ 1000000) := by unfold inB; simp
theorem inB_take {l : List Int} (h : inB l = true) (k : Nat) : inB (l.take k) = true := by
  unfold inB at *
  rw [List.all_eq_true] at *
  exact fun x hx => h x (List.mem_of_mem_take hx)
theorem inB_drop {l : List Int} (h : inB l = true) (k : Nat) : inB (l.drop k) = true := by
  unfold inB at *
  rw [List.all_eq_true] at *
  exact fun x hx => h x (List.mem_of_mem_drop hx)
theorem inB_rev (l : List Int) : inB l.reverse = inB l := by unfold inB; rw [List.all_reverse]

/-- What Run answers: the move, the steps, why. -/
def raE (m : Mov) (l : List Int) : Int := if movOk m then (if inB l = true then (if m.n + (l.length : Int) ≤ 1000000000 then 0 else 11) else 3) else 1
def raM (m : Mov) (l : List Int) : Mov := if raE m l = 0 then runM m l else mov0
def raL (m : Mov) (l : List Int) : List Int := if raE m l = 0 then stepsM m l else []
theorem raE_zero {m : Mov} {l : List Int} : raE m l = 0 ↔ movOk m ∧ inB l = true ∧ m.n + (l.length : Int) ≤ 1000000000 := by
  unfold raE
  by_cases h1 : movOk m
  · by_cases h2 : inB l = true
    · by_cases h3 : m.n + (l.length : Int) ≤ 1000000000
      · simp [h1, h2, h3]
      · simp [h1, h2, h3]
    · simp [h1, h2]
  · simp [h1]

/-! ### What the steps of samples by themselves are together -/
/-- The sum of all steps is at least how far the ends are apart. -/
theorem sum_ge_dist : ∀ (a : Int) (l : List Int), distI a (lastF a l) ≤ sumI (stepsF a l)
  | a, [] => by simp [stepsF, lastF, sumI, distI]
  | a, x :: r => by
    have h1 := sum_ge_dist x r
    have h2 := distI_tri a x (lastF x r)
    show distI a (lastF x r) ≤ distI a x + sumI (stepsF x r)
    omega
def riseF (a : Int) : List Int → Bool
  | [] => true
  | x :: r => decide (a ≤ x) && riseF x r
def fallF (a : Int) : List Int → Bool
  | [] => true
  | x :: r => decide (x ≤ a) && fallF x r
theorem riseF_le : ∀ {a : Int} {l : List Int}, riseF a l = true → a ≤ lastF a l
  | _, [], _ => Int.le_refl _
  | a, x :: r, h => by
    unfold riseF at h
    rw [Bool.and_eq_true, decide_eq_true_eq] at h
    have := riseF_le (a := x) (l := r) h.2
    show a ≤ lastF x r
    omega
theorem fallF_le : ∀ {a : Int} {l : List Int}, fallF a l = true → lastF a l ≤ a
  | _, [], _ => Int.le_refl _
  | a, x :: r, h => by
    unfold fallF at h
    rw [Bool.and_eq_true, decide_eq_true_eq] at h
    have := fallF_le (a := x) (l := r) h.2
    show lastF x r ≤ a
    omega
theorem rise_sum : ∀ {a : Int} {l : List Int}, riseF a l = true → sumI (stepsF a l) = lastF a l - a
  | _, [], _ => by simp [stepsF, lastF, sumI]
  | a, x :: r, h => by
    unfold riseF at h
    rw [Bool.and_eq_true, decide_eq_true_eq] at h
    have := rise_sum (a := x) (l := r) h.2
    show distI a x + sumI (stepsF x r) = lastF x r - a
    unfold distI
    omega
theorem fall_sum : ∀ {a : Int} {l : List Int}, fallF a l = true → sumI (stepsF a l) = a - lastF a l
  | _, [], _ => by simp [stepsF, lastF, sumI]
  | a, x :: r, h => by
    unfold fallF at h
    rw [Bool.and_eq_true, decide_eq_true_eq] at h
    have := fall_sum (a := x) (l := r) h.2
    show distI a x + sumI (stepsF x r) = a - lastF x r
    unfold distI
    omega
theorem sum_rise : ∀ {a : Int} {l : List Int}, sumI (stepsF a l) = lastF a l - a → riseF a l = true
  | _, [], _ => rfl
  | a, x :: r, h => by
    have h' : distI a x + sumI (stepsF x r) = lastF x r - a := h
    have h1 := sum_ge_dist x r
    have e : a ≤ x ∧ sumI (stepsF x r) = lastF x r - x := by unfold distI at h' h1; omega
    unfold riseF
    rw [Bool.and_eq_true, decide_eq_true_eq]
    exact ⟨e.1, sum_rise e.2⟩
theorem sum_fall : ∀ {a : Int} {l : List Int}, sumI (stepsF a l) = a - lastF a l → fallF a l = true
  | _, [], _ => rfl
  | a, x :: r, h => by
    have h' : distI a x + sumI (stepsF x r) = a - lastF x r := h
    have h1 := sum_ge_dist x r
    have e : x ≤ a ∧ sumI (stepsF x r) = x - lastF x r := by unfold distI at h' h1; omega
    unfold fallF
    rw [Bool.and_eq_true, decide_eq_true_eq]
    exact ⟨e.1, sum_fall e.2⟩
/-- All rise, or all fall, just if the sum is how far the ends are apart. -/
theorem ways_sum (a : Int) (l : List Int) : (riseF a l || fallF a l) = decide (sumI (stepsF a l) = distI a (lastF a l)) := by
  by_cases h : sumI (stepsF a l) = distI a (lastF a l)
  · rw [decide_eq_true h, Bool.or_eq_true]
    rcases Int.le_total a (lastF a l) with c | c
    · exact .inl (sum_rise (by unfold distI at h; omega))
    · exact .inr (sum_fall (by unfold distI at h; omega))
  · rw [decide_eq_false h, Bool.or_eq_false_iff]
    refine ⟨?_, ?_⟩
    · cases hr : riseF a l with
      | false => rfl
      | true => exact absurd (by rw [rise_sum hr]; have := riseF_le hr; unfold distI; omega) h
    · cases hr : fallF a l with
      | false => rfl
      | true => exact absurd (by rw [fall_sum hr]; have := fallF_le hr; unfold distI; omega) h
theorem sumI_rev (l : List Int) : sumI l.reverse = sumI l := by
  induction l with
  | nil => rfl
  | cons x r ih => rw [List.reverse_cons, sumI_append, ih]; simp only [sumI]; omega
/-- The steps of the other order. -/
theorem stepsF_rev : ∀ (a : Int) (l : List Int), stepsF (lastF a l) ((a :: l).reverse.drop 1) = (stepsF a l).reverse
  | _, [] => rfl
  | a, x :: r => by
    have ih := stepsF_rev x r
    have e : (a :: x :: r).reverse.drop 1 = (x :: r).reverse.drop 1 ++ [a] := by
      rw [List.reverse_cons (a := a)]
      rw [List.drop_append_of_le_length (by simp)]
    show stepsF (lastF x r) _ = (distI a x :: stepsF x r).reverse
    rw [e, stepsF_append, ih, List.reverse_cons (a := distI a x)]
    congr 1
    have hl : lastF (lastF x r) ((x :: r).reverse.drop 1) = x := by
      cases hr : r.reverse with
      | nil =>
        have : r = [] := by simpa using hr
        subst this
        rfl
      | cons y s =>
        have e2 : (x :: r).reverse.drop 1 = s ++ [x] := by rw [List.reverse_cons, hr]; rfl
        rw [e2, lastF_snoc]
    rw [hl]
    show [distI x a] = [distI a x]
    rw [distI_comm]
end Go.Proofs.Ytfafkdbflmennaa
