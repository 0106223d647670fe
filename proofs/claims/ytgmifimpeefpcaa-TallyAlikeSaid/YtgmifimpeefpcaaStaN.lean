/- stats' numbers: what is kept of samples, the spread, and what follows. -/
import Derived.RowKit
namespace Go.Proofs.Ytgmifimpeefpcaa

def ssum : List Int → Int
  | [] => 0
  | x :: l => x + ssum l
def qsum : List Int → Int
  | [] => 0
  | x :: l => x * x + qsum l
/-- The squares of how far x is from each. -/
def psum (x : Int) : List Int → Int
  | [] => 0
  | y :: l => (x - y) * (x - y) + psum x l
/-- The squares of the differences of each two. -/
def dsum : List Int → Int
  | [] => 0
  | x :: l => psum x l + dsum l
theorem psum_eq (x : Int) : ∀ l : List Int, psum x l = (l.length : Int) * (x * x) - 2 * x * ssum l + qsum l
  | [] => by simp [psum, ssum, qsum]
  | y :: l => by
    have ih := psum_eq x l
    simp only [psum, ssum, qsum, List.length_cons, Int.natCast_add, Int.natCast_one]
    grind
/-- N times the squares are the sum squared, and the squares of all differences. -/
theorem lagrange : ∀ l : List Int, (l.length : Int) * qsum l = ssum l * ssum l + dsum l
  | [] => by simp [qsum, ssum, dsum]
  | x :: l => by
    have ih := lagrange l
    have hp := psum_eq x l
    simp only [dsum, ssum, qsum, List.length_cons, Int.natCast_add, Int.natCast_one]
    rw [hp]
    grind
theorem sq_nonneg' (x : Int) : 0 ≤ x * x := by
  rcases Int.le_total 0 x with h | h
  · exact Int.mul_nonneg h h
  · have := Int.mul_nonneg (show 0 ≤ -x by omega) (show 0 ≤ -x by omega)
    rwa [Int.neg_mul_neg] at this
theorem psum_nonneg (x : Int) : ∀ l : List Int, 0 ≤ psum x l
  | [] => Int.le_refl _
  | y :: l => by
    have h1 := psum_nonneg x l
    have h2 := sq_nonneg' (x - y)
    simp only [psum]
    omega
theorem dsum_nonneg : ∀ l : List Int, 0 ≤ dsum l
  | [] => Int.le_refl _
  | x :: l => by
    have h1 := psum_nonneg x l
    have h2 := dsum_nonneg l
    simp only [dsum]
    omega
theorem qsum_nonneg : ∀ l : List Int, 0 ≤ qsum l
  | [] => Int.le_refl _
  | x :: l => by
    have h1 := qsum_nonneg l
    have h2 := sq_nonneg' x
    simp only [qsum]
    omega
theorem ssum_append : ∀ l m : List Int, ssum (l ++ m) = ssum l + ssum m
  | [], m => by simp [ssum]
  | x :: l, m => by
    have := ssum_append l m
    simp only [List.cons_append, ssum]
    omega
theorem qsum_append : ∀ l m : List Int, qsum (l ++ m) = qsum l + qsum m
  | [], m => by simp [qsum]
  | x :: l, m => by
    have := qsum_append l m
    simp only [List.cons_append, qsum]
    omega
theorem ssum_rev (l : List Int) : ssum l.reverse = ssum l := by
  induction l with
  | nil => rfl
  | cons x l ih => rw [List.reverse_cons, ssum_append, ih]; simp only [ssum]; omega
theorem qsum_rev (l : List Int) : qsum l.reverse = qsum l := by
  induction l with
  | nil => rfl
  | cons x l ih => rw [List.reverse_cons, qsum_append, ih]; simp only [qsum]; omega
/-- The least and the greatest. -/
def lmin : List Int → Int
  | [] => 0
  | [x] => x
  | x :: y :: l => min x (lmin (y :: l))
def lmax : List Int → Int
  | [] => 0
  | [x] => x
  | x :: y :: l => max x (lmax (y :: l))
theorem lmin_cons (x : Int) {l : List Int} (h : l ≠ []) : lmin (x :: l) = min x (lmin l) := by
  cases l with
  | nil => exact absurd rfl h
  | cons y l => rfl
theorem lmax_cons (x : Int) {l : List Int} (h : l ≠ []) : lmax (x :: l) = max x (lmax l) := by
  cases l with
  | nil => exact absurd rfl h
  | cons y l => rfl
theorem lmin_append : ∀ {l m : List Int}, l ≠ [] → m ≠ [] → lmin (l ++ m) = min (lmin l) (lmin m)
  | [], _, h, _ => absurd rfl h
  | [x], m, _, hm => by
    rw [List.singleton_append, lmin_cons x hm]
    rfl
  | x :: y :: l, m, _, hm => by
    have ih := lmin_append (l := y :: l) (m := m) (by simp) hm
    rw [List.cons_append, lmin_cons x (by simp), ih, lmin_cons x (by simp)]
    omega
theorem lmax_append : ∀ {l m : List Int}, l ≠ [] → m ≠ [] → lmax (l ++ m) = max (lmax l) (lmax m)
  | [], _, h, _ => absurd rfl h
  | [x], m, _, hm => by
    rw [List.singleton_append, lmax_cons x hm]
    rfl
  | x :: y :: l, m, _, hm => by
    have ih := lmax_append (l := y :: l) (m := m) (by simp) hm
    rw [List.cons_append, lmax_cons x (by simp), ih, lmax_cons x (by simp)]
    omega
theorem lmin_rev (l : List Int) : lmin l.reverse = lmin l := by
  induction l with
  | nil => rfl
  | cons x l ih =>
    by_cases h : l = []
    · subst h; rfl
    · rw [List.reverse_cons, lmin_append (by simpa using h) (by simp), ih, lmin_cons x h]
      show min (lmin l) x = _
      omega
theorem lmax_rev (l : List Int) : lmax l.reverse = lmax l := by
  induction l with
  | nil => rfl
  | cons x l ih =>
    by_cases h : l = []
    · subst h; rfl
    · rw [List.reverse_cons, lmax_append (by simpa using h) (by simp), ih, lmax_cons x h]
      show max (lmax l) x = _
      omega
theorem lmin_le : ∀ {l : List Int} {x : Int}, x ∈ l → lmin l ≤ x
  | [], _, h => by cases h
  | [y], x, h => by rw [List.mem_singleton.1 h]; exact Int.le_refl _
  | y :: z :: l, x, h => by
    rw [lmin_cons y (by simp)]
    rcases List.mem_cons.1 h with h | h
    · omega
    · have := lmin_le h
      omega
theorem le_lmax : ∀ {l : List Int} {x : Int}, x ∈ l → x ≤ lmax l
  | [], _, h => by cases h
  | [y], x, h => by rw [List.mem_singleton.1 h]; exact Int.le_refl _
  | y :: z :: l, x, h => by
    rw [lmax_cons y (by simp)]
    rcases List.mem_cons.1 h with h | h
    · omega
    · have := le_lmax h
      omega
theorem lmin_mem : ∀ {l : List Int}, l ≠ [] → lmin l ∈ l
  | [], h => absurd rfl h
  | [y], _ => by simp [lmin]
  | y :: z :: l, _ => by
    have ih := lmin_mem (l := z :: l) (by simp)
    rw [lmin_cons y (by simp)]
    rcases Int.le_total y (lmin (z :: l)) with c | c
    · rw [Int.min_eq_left c]; simp
    · rw [Int.min_eq_right c]; exact List.mem_cons_of_mem _ ih
theorem lmax_mem : ∀ {l : List Int}, l ≠ [] → lmax l ∈ l
  | [], h => absurd rfl h
  | [y], _ => by simp [lmax]
  | y :: z :: l, _ => by
    have ih := lmax_mem (l := z :: l) (by simp)
    rw [lmax_cons y (by simp)]
    rcases Int.le_total y (lmax (z :: l)) with c | c
    · rw [Int.max_eq_right c]; exact List.mem_cons_of_mem _ ih
    · rw [Int.max_eq_left c]; simp
/-- The sum is as many times the least as there are, at least, and the greatest, at most. -/
theorem sum_ge (a : Int) : ∀ {l : List Int}, (∀ x ∈ l, a ≤ x) → (l.length : Int) * a ≤ ssum l
  | [], _ => by simp [ssum]
  | x :: l, h => by
    have ih := sum_ge a (l := l) fun y hy => h y (List.mem_cons_of_mem _ hy)
    have hx := h x (by simp)
    simp only [ssum, List.length_cons, Int.natCast_add, Int.natCast_one]
    rw [Int.add_mul]
    omega
theorem sum_le (a : Int) : ∀ {l : List Int}, (∀ x ∈ l, x ≤ a) → ssum l ≤ (l.length : Int) * a
  | [], _ => by simp [ssum]
  | x :: l, h => by
    have ih := sum_le a (l := l) fun y hy => h y (List.mem_cons_of_mem _ hy)
    have hx := h x (by simp)
    simp only [ssum, List.length_cons, Int.natCast_add, Int.natCast_one]
    rw [Int.add_mul]
    omega
theorem sq_le {x b : Int} (h1 : -b ≤ x) (h2 : x ≤ b) : x * x ≤ b * b := by
  have h := Int.mul_nonneg (show 0 ≤ b - x by omega) (show 0 ≤ b + x by omega)
  grind
theorem qsum_le (b : Int) : ∀ {l : List Int}, (∀ x ∈ l, -b ≤ x ∧ x ≤ b) → qsum l ≤ (l.length : Int) * (b * b)
  | [], _ => by simp [qsum]
  | x :: l, h => by
    have ih := qsum_le b (l := l) fun y hy => h y (List.mem_cons_of_mem _ hy)
    have hx := h x (by simp)
    have hs := sq_le hx.1 hx.2
    simp only [qsum, List.length_cons, Int.natCast_add, Int.natCast_one]
    rw [Int.add_mul]
    omega
/-! ### Moved, and so often as great -/
theorem psum_add (b x : Int) : ∀ l : List Int, psum (x + b) (l.map (· + b)) = psum x l
  | [] => rfl
  | y :: l => by
    simp only [List.map_cons, psum]
    rw [psum_add b x l, show x + b - (y + b) = x - y by omega]
theorem dsum_add (b : Int) : ∀ l : List Int, dsum (l.map (· + b)) = dsum l
  | [] => rfl
  | x :: l => by
    simp only [List.map_cons, dsum]
    rw [dsum_add b l, psum_add]
theorem psum_mul (t x : Int) : ∀ l : List Int, psum (x * t) (l.map (· * t)) = t * t * psum x l
  | [] => by simp [psum]
  | y :: l => by
    simp only [List.map_cons, psum]
    rw [psum_mul t x l]
    grind
theorem dsum_mul (t : Int) : ∀ l : List Int, dsum (l.map (· * t)) = t * t * dsum l
  | [] => by simp [dsum]
  | x :: l => by
    simp only [List.map_cons, dsum]
    rw [dsum_mul t l, psum_mul, Int.mul_add]
theorem ssum_add (b : Int) : ∀ l : List Int, ssum (l.map (· + b)) = ssum l + b * (l.length : Int)
  | [] => by simp [ssum]
  | x :: l => by
    have := ssum_add b l
    simp only [List.map_cons, ssum, List.length_cons, Int.natCast_add, Int.natCast_one]
    rw [Int.mul_add]
    omega
theorem ssum_mul (t : Int) : ∀ l : List Int, ssum (l.map (· * t)) = ssum l * t
  | [] => by simp [ssum]
  | x :: l => by
    have := ssum_mul t l
    simp only [List.map_cons, ssum]
    rw [Int.add_mul]
    omega
theorem lmin_add (b : Int) : ∀ {l : List Int}, l ≠ [] → lmin (l.map (· + b)) = lmin l + b
  | [], h => absurd rfl h
  | [x], _ => rfl
  | x :: y :: l, _ => by
    have ih := lmin_add b (l := y :: l) (by simp)
    rw [List.map_cons, lmin_cons _ (by simp), ih, lmin_cons x (by simp)]
    omega
theorem lmax_add (b : Int) : ∀ {l : List Int}, l ≠ [] → lmax (l.map (· + b)) = lmax l + b
  | [], h => absurd rfl h
  | [x], _ => rfl
  | x :: y :: l, _ => by
    have ih := lmax_add b (l := y :: l) (by simp)
    rw [List.map_cons, lmax_cons _ (by simp), ih, lmax_cons x (by simp)]
    omega
/-! ### All the same -/
theorem sq_zero {x : Int} (h : x * x = 0) : x = 0 := by
  rcases Int.mul_eq_zero.1 h with h | h <;> exact h
theorem psum_zero (x : Int) : ∀ {l : List Int}, psum x l = 0 ↔ ∀ y ∈ l, y = x
  | [] => by simp [psum]
  | y :: l => by
    have h1 := psum_nonneg x l
    have h2 := sq_nonneg' (x - y)
    have ih := psum_zero x (l := l)
    constructor
    · intro h
      simp only [psum] at h
      have h3 : (x - y) * (x - y) = 0 := by omega
      have h4 : psum x l = 0 := by omega
      intro z hz
      rcases List.mem_cons.1 hz with rfl | hz
      · have := sq_zero h3
        omega
      · exact ih.1 h4 z hz
    · intro h
      simp only [psum]
      have h3 := h y (by simp)
      have h4 := ih.2 fun z hz => h z (List.mem_cons_of_mem _ hz)
      rw [h4, h3, Int.sub_self]
      rfl
theorem dsum_zero : ∀ {l : List Int}, dsum l = 0 ↔ ∀ i j : Nat, i < j → j < l.length → l.getD i 0 = l.getD j 0
  | [] => by simp [dsum]
  | x :: l => by
    have h1 := psum_nonneg x l
    have h2 := dsum_nonneg l
    have ih := dsum_zero (l := l)
    have hp := psum_zero x (l := l)
    constructor
    · intro h
      simp only [dsum] at h
      have h3 : psum x l = 0 := by omega
      have h4 : dsum l = 0 := by omega
      intro i j hij hj
      cases j with
      | zero => omega
      | succ j =>
        have hjl : j < l.length := by simpa using hj
        have hm : l.getD j 0 ∈ l := by
          rw [List.getD_eq_getElem?_getD, List.getElem?_eq_getElem hjl]
          exact List.getElem_mem _
        cases i with
        | zero => rw [List.getD_cons_zero, List.getD_cons_succ]; exact (hp.1 h3 _ hm).symm
        | succ i => rw [List.getD_cons_succ, List.getD_cons_succ]; exact ih.1 h4 i j (by omega) hjl
    · intro h
      simp only [dsum]
      have h3 : psum x l = 0 := hp.2 fun y hy => by
        obtain ⟨j, hj, rfl⟩ := List.getElem_of_mem hy
        have := h 0 (j + 1) (by omega) (by simpa using hj)
        rw [List.getD_cons_zero, List.getD_cons_succ, List.getD_eq_getElem?_getD, List.getElem?_eq_getElem hj] at this
        exact this.symm
      have h4 : dsum l = 0 := ih.2 fun i j hij hj => by
        have := h (i + 1) (j + 1) (by omega) (by simpa using hj)
        rw [List.getD_cons_succ, List.getD_cons_succ] at this
        exact this
      omega
end Go.Proofs.Ytgmifimpeefpcaa
