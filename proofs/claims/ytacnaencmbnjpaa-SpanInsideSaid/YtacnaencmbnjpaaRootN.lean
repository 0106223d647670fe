/- Plain numbers: the greatest number whose square is not more than a number, found between two ends. No Go in sight. -/
import Derived.Test.YtacnaencmbnjpaaNum3
import Derived.Test.YtacnaencmbnjpaaBase
namespace Go.Proofs.Ytacnaencmbnjpaa

/-- r is the greatest number whose square is not more than a. -/
structure IsRoot (a r : Nat) : Prop where
  le : r * r ≤ a
  lt : a < (r + 1) * (r + 1)
theorem sq_lt {x y : Nat} (h : x < y) : x * x < y * y := Nat.lt_of_le_of_lt (Nat.mul_le_mul_left x (Nat.le_of_lt h)) (Nat.mul_lt_mul_of_pos_right h (by omega))
theorem sq_le {x y : Nat} (h : x ≤ y) : x * x ≤ y * y := Nat.mul_le_mul h h
theorem lt_of_sq {x y : Nat} (h : x * x < y * y) : x < y := by
  rcases Nat.lt_or_ge x y with c | c
  · exact c
  · have := sq_le c; omega
theorem le_of_sq {x y : Nat} (h : x * x ≤ y * y) : x ≤ y := by
  rcases Nat.lt_or_ge y x with c | c
  · have := sq_lt c; omega
  · exact c
theorem IsRoot.is (a : Nat) : ∃ r, IsRoot a r := by
  induction a with
  | zero => exact ⟨0, by omega, by omega⟩
  | succ a ih =>
    obtain ⟨r, h1, h2⟩ := ih
    rcases Nat.lt_or_ge (a + 1) ((r + 1) * (r + 1)) with c | c
    · exact ⟨r, by omega, c⟩
    · have := sq_lt (show r + 1 < r + 1 + 1 by omega)
      exact ⟨r + 1, c, by omega⟩
theorem IsRoot.not_beyond {a r m : Nat} (h : IsRoot a r) (hm : m * m ≤ a) : m ≤ r := by
  have := h.lt
  have := lt_of_sq (show m * m < (r + 1) * (r + 1) by omega)
  omega
theorem IsRoot.beyond {a r m : Nat} (h : IsRoot a r) (hm : a < m * m) : r < m := by
  have := h.le
  exact lt_of_sq (show r * r < m * m by omega)
theorem IsRoot.same {a r s : Nat} (h : IsRoot a r) (k : IsRoot a s) : r = s :=
  Nat.le_antisymm (k.not_beyond h.le) (h.not_beyond k.le)
theorem IsRoot.fit {a r : Nat} (h : IsRoot a r) (ha : a < M128) : r < B64 := by
  have e : M128 = B64 * B64 := by decide
  rw [e] at ha
  exact h.beyond ha
theorem IsRoot.of_sq (x : Nat) : IsRoot (x * x) x := ⟨Nat.le_refl _, sq_lt (by omega)⟩
theorem IsRoot.mono {a b r s : Nat} (h : IsRoot a r) (k : IsRoot b s) (hab : a ≤ b) : r ≤ s := k.not_beyond (Nat.le_trans h.le hab)
theorem sq_fit {x : Nat} (h : x < B64) : x * x < M128 := by
  have e : M128 = B64 * B64 := by decide
  rw [e]; exact sq_lt h
/-- The upper one: the least number whose square is not less. -/
def upOf (a r : Nat) : Nat := if r * r = a then r else r + 1
theorem upOf_le {a r : Nat} (h : r < B64) : upOf a r ≤ B64 := by unfold upOf; split <;> omega
theorem upOf_lt {a r : Nat} (h : r < B64) : upOf a r < M128 := by have := upOf_le (a := a) h; unfold B64 at this; unfold M128; omega
theorem upOf_mono {a b r s : Nat} (h : IsRoot a r) (k : IsRoot b s) (hab : a ≤ b) : upOf a r ≤ upOf b s := by
  have m := h.mono k hab
  unfold upOf
  split <;> split
  · exact m
  · omega
  · rename_i c d
    rcases Nat.lt_or_ge r s with e | e
    · omega
    · obtain rfl : r = s := by omega
      have := h.le; omega
  · omega
/-- The middle of two ends, the upper one of two. -/
theorem mid_nums (l u : Nat) (h : l ≤ u) (hu : u < B64) :
    IntKind.u64.wrap ((u : Int) - (l : Int)) = ((u - l : Nat) : Int) ∧ ((u - l : Nat) : Int).tdiv 2 = (((u - l) / 2 : Nat) : Int) ∧ IntKind.u64.wrap ((u : Int) - (((u - l) / 2 : Nat) : Int)) = ((u - (u - l) / 2 : Nat) : Int) ∧ IntKind.u64.wrap (((u - l) / 2 : Nat) : Int) = (((u - l) / 2 : Nat) : Int) := by
  unfold B64 at hu
  refine ⟨?_, ?_, ?_, ?_⟩
  · rw [IntKind.wrap_u64]; omega
  · rw [Int.tdiv_eq_ediv_of_nonneg (by omega)]; omega
  · rw [IntKind.wrap_u64]; omega
  · rw [IntKind.wrap_u64]; omega
theorem pred_num (m : Nat) (h0 : 0 < m) (h : m < B64) : IntKind.u64.wrap ((m : Int) - 1) = ((m - 1 : Nat) : Int) := by
  unfold B64 at h; rw [IntKind.wrap_u64]; omega
end Go.Proofs.Ytacnaencmbnjpaa
