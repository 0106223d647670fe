/- collect's numbers: a group, which may be, one behind a sample, one behind any samples; the rows and what is there are what came. -/
import Derived.RowKit
namespace Go.Proofs.Ytnpgofkdfckioaa

/-- A group: a row's size, the ends, what is there. -/
structure Grp where
  size : Int
  low : Int
  high : Int
  xs : List Int
def grp0 : Grp := ⟨0, 0, 0, []⟩
def sizesB (s l h : Int) : Bool := decide (1 ≤ s ∧ s ≤ 10 ∧ -1000000 ≤ l ∧ h ≤ 1000000 ∧ l < h)
def fitsB (g : Grp) (x : Int) : Bool := decide (g.low ≤ x ∧ x ≤ g.high)
def grightB (g : Grp) : Bool := g.xs.all (fitsB g) && (sizesB g.size g.low g.high && decide ((g.xs.length : Int) < g.size))
/-- The samples that are there, once this one has come too; a row, if they make one. -/
def addG (g : Grp) (x : Int) : Grp := if ((g.xs.length : Int) + 1 = g.size) then { g with xs := [] } else { g with xs := g.xs ++ [x] }
def addR (g : Grp) (x : Int) : List Int := if ((g.xs.length : Int) + 1 = g.size) then g.xs ++ [x] else []
/-- Samples, one behind the other: the group then, the rows, how many were refused. -/
def feedN : Grp → List Int → Grp × List (List Int) × Nat
  | g, [] => (g, [], 0)
  | g, x :: l =>
    if fitsB g x = true then
      let r := feedN (addG g x) l
      if addR g x = [] then r else (r.1, addR g x :: r.2.1, r.2.2)
    else
      let r := feedN g l
      (r.1, r.2.1, r.2.2 + 1)
theorem addG_same (g : Grp) (x : Int) : (addG g x).size = g.size ∧ (addG g x).low = g.low ∧ (addG g x).high = g.high := by
  unfold addG
  split <;> exact ⟨rfl, rfl, rfl⟩
theorem fitsB_add (g : Grp) (x y : Int) : fitsB (addG g x) y = fitsB g y := by
  obtain ⟨_, h1, h2⟩ := addG_same g x
  unfold fitsB
  rw [h1, h2]
theorem addG_lt (g : Grp) (x : Int) (h : (g.xs.length : Int) < g.size) : ((addG g x).xs.length : Int) < (addG g x).size := by
  unfold addG
  split
  · show ((0 : Nat) : Int) < g.size
    omega
  · show (((g.xs ++ [x]).length : Nat) : Int) < g.size
    simp
    omega
theorem addR_len (g : Grp) (x : Int) (h : addR g x ≠ []) : ((addR g x).length : Int) = g.size := by
  unfold addR at h ⊢
  split
  · simp
    omega
  · rename_i c
    rw [if_neg c] at h
    exact absurd rfl h
theorem addR_some (g : Grp) (x : Int) : addR g x = [] ↔ ¬ ((g.xs.length : Int) + 1 = g.size) := by
  unfold addR
  split
  · rename_i h
    simp [h]
  · rename_i h
    simp [h]
theorem add_all (g : Grp) (x : Int) : addR g x ++ (addG g x).xs = g.xs ++ [x] := by
  unfold addR addG
  split <;> simp
theorem addG_right (g : Grp) (x : Int) (h : grightB g = true) (hx : fitsB g x = true) : grightB (addG g x) = true := by
  unfold grightB at h ⊢
  simp only [Bool.and_eq_true, decide_eq_true_eq] at h ⊢
  obtain ⟨h1, h2, h3⟩ := h
  obtain ⟨e1, e2, e3⟩ := addG_same g x
  refine ⟨?_, ?_, addG_lt g x h3⟩
  · rw [List.all_eq_true] at h1 ⊢
    intro y hy
    rw [fitsB_add]
    unfold addG at hy
    split at hy
    · cases hy
    · rcases List.mem_append.1 hy with hy | hy
      · exact h1 y hy
      · rw [List.mem_singleton.1 hy]
        exact hx
  · rw [e1, e2, e3]
    exact h2
theorem feedN_same : ∀ (l : List Int) (g : Grp), (feedN g l).1.size = g.size ∧ (feedN g l).1.low = g.low ∧ (feedN g l).1.high = g.high
  | [], _ => ⟨rfl, rfl, rfl⟩
  | x :: l, g => by
    unfold feedN
    have ih := feedN_same l (addG g x)
    obtain ⟨e1, e2, e3⟩ := addG_same g x
    rw [e1, e2, e3] at ih
    split
    · simp only
      split <;> exact ih
    · exact feedN_same l g
theorem feedN_right : ∀ (l : List Int) (g : Grp), grightB g = true → grightB (feedN g l).1 = true
  | [], _, h => h
  | x :: l, g, h => by
    unfold feedN
    split
    · rename_i hx
      have ih := feedN_right l (addG g x) (addG_right g x h hx)
      simp only
      split <;> exact ih
    · exact feedN_right l g h
theorem feedN_full : ∀ (l : List Int) (g : Grp), ∀ r ∈ (feedN g l).2.1, ((r.length : Nat) : Int) = g.size
  | [], _ => fun _ h => by cases h
  | x :: l, g => by
    have ih := feedN_full l (addG g x)
    rw [(addG_same g x).1] at ih
    unfold feedN
    split
    · simp only
      split
      · exact ih
      · rename_i hr
        intro r h
        rcases List.mem_cons.1 h with h | h
        · rw [h]
          exact addR_len g x hr
        · exact ih r h
    · exact feedN_full l g
theorem feedN_all : ∀ (l : List Int) (g : Grp), (feedN g l).2.1.flatten ++ (feedN g l).1.xs = g.xs ++ l.filter (fitsB g)
  | [], g => by simp [feedN]
  | x :: l, g => by
    have ih := feedN_all l (addG g x)
    have hf : l.filter (fitsB (addG g x)) = l.filter (fitsB g) := List.filter_congr fun y _ => fitsB_add g x y
    rw [hf] at ih
    have ha := add_all g x
    unfold feedN
    split
    · rename_i hx
      rw [List.filter_cons_of_pos hx, show g.xs ++ x :: l.filter (fitsB g) = (g.xs ++ [x]) ++ l.filter (fitsB g) by simp, ← ha]
      simp only
      split
      · rename_i hr
        rw [hr]
        exact ih
      · simp only [List.flatten_cons]
        rw [List.append_assoc, ih, ← List.append_assoc]
    · rename_i hx
      rw [List.filter_cons_of_neg hx]
      exact feedN_all l g
theorem feedN_count : ∀ (l : List Int) (g : Grp), (feedN g l).2.2 + (l.filter (fitsB g)).length = l.length
  | [], _ => rfl
  | x :: l, g => by
    have ih := feedN_count l (addG g x)
    have hf : l.filter (fitsB (addG g x)) = l.filter (fitsB g) := List.filter_congr fun y _ => fitsB_add g x y
    rw [hf] at ih
    unfold feedN
    split
    · rename_i hx
      rw [List.filter_cons_of_pos hx]
      simp only
      split <;> simp only [List.length_cons] <;> omega
    · rename_i hx
      rw [List.filter_cons_of_neg hx]
      have := feedN_count l g
      simp only [List.length_cons]
      omega
theorem feedN_yes {g : Grp} {x : Int} (l : List Int) (h : fitsB g x = true) (hr : addR g x = []) : feedN g (x :: l) = feedN (addG g x) l := by
  rw [feedN, if_pos h]
  simp only
  rw [if_pos hr]
theorem feedN_row {g : Grp} {x : Int} (l : List Int) (h : fitsB g x = true) (hr : ¬ addR g x = []) : feedN g (x :: l) = ((feedN (addG g x) l).1, addR g x :: (feedN (addG g x) l).2.1, (feedN (addG g x) l).2.2) := by
  rw [feedN, if_pos h]
  simp only
  rw [if_neg hr]
theorem feedN_no {g : Grp} {x : Int} (l : List Int) (h : ¬ fitsB g x = true) : feedN g (x :: l) = ((feedN g l).1, (feedN g l).2.1, (feedN g l).2.2 + 1) := by
  rw [feedN, if_neg h]
/-- Samples in two parts. -/
theorem feedN_parts : ∀ (l m : List Int) (g : Grp), feedN g (l ++ m) = ((feedN (feedN g l).1 m).1, (feedN g l).2.1 ++ (feedN (feedN g l).1 m).2.1, (feedN g l).2.2 + (feedN (feedN g l).1 m).2.2)
  | [], m, g => by simp [feedN]
  | x :: l, m, g => by
    have ih := feedN_parts l m (addG g x)
    have ih2 := feedN_parts l m g
    show feedN g (x :: (l ++ m)) = _
    by_cases h : fitsB g x = true
    · by_cases hr : addR g x = []
      · rw [feedN_yes _ h hr, feedN_yes _ h hr, ih]
      · rw [feedN_row _ h hr, feedN_row _ h hr, ih]
        rfl
    · rw [feedN_no _ h, feedN_no _ h, ih2]
      simp only [Prod.mk.injEq, true_and]
      omega
end Go.Proofs.Ytnpgofkdfckioaa
