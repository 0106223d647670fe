/- Stats as numbers: which may be, those of samples, both of two, the spread. -/
import Derived.Test.YtfafkdbflmennaaStaN
import Derived.Test.YtfafkdbflmennaaInN
namespace Go.Proofs.Ytfafkdbflmennaa

/-- Stats: how many, the sum, the squares, the least, the greatest. -/
structure Sta where
  n : Int
  sum : Int
  sq : Nat
  lo : Int
  hi : Int
def sta0 : Sta := ⟨0, 0, 0, 0, 0⟩
def staOk (s : Sta) : Prop := (1 ≤ s.n ∧ s.n ≤ 1000000000 ∧ s.lo ≤ s.hi ∧ -1000000 ≤ s.lo ∧ s.hi ≤ 1000000) ∧ (s.n * s.lo ≤ s.sum ∧ s.sum ≤ s.n * s.hi ∧ (s.sq : Int) ≤ s.n * 1000000000000) ∧ s.sum * s.sum ≤ s.n * (s.sq : Int)
instance (s : Sta) : Decidable (staOk s) := by unfold staOk; infer_instance
def staZ (s : Sta) : Prop := s.n = 0 ∧ s.sum = 0 ∧ s.sq = 0 ∧ s.lo = 0 ∧ s.hi = 0
instance (s : Sta) : Decidable (staZ s) := by unfold staZ; infer_instance
def staB (s : Sta) : Bool := decide (staZ s ∨ staOk s)
def staOf (l : List Int) : Sta := ⟨(l.length : Int), ssum l, (qsum l).toNat, lmin l, lmax l⟩
theorem staOf_sq (l : List Int) : ((staOf l).sq : Int) = qsum l := by
  show (((qsum l).toNat : Nat) : Int) = _
  have := qsum_nonneg l
  omega
theorem staOf_snoc (l : List Int) (x : Int) (h : l ≠ []) : staOf (l ++ [x]) = ⟨(l.length : Int) + 1, ssum l + x, (qsum l).toNat + (x * x).toNat, min (lmin l) x, max (lmax l) x⟩ := by
  have hq := qsum_nonneg l
  have hx := sq_nonneg' x
  unfold staOf
  rw [ssum_append, qsum_append, lmin_append h (by simp), lmax_append h (by simp), List.length_append]
  simp only [ssum, qsum, lmin, lmax, List.length_singleton, Int.natCast_add, Int.natCast_one, Int.add_zero]
  congr 1
  omega
theorem staOf_one (x : Int) : staOf [x] = ⟨1, x, (x * x).toNat, x, x⟩ := by
  simp [staOf, ssum, qsum, lmin, lmax]
theorem staOf_join {l m : List Int} (hl : l ≠ []) (hm : m ≠ []) : staOf (l ++ m) = ⟨(staOf l).n + (staOf m).n, (staOf l).sum + (staOf m).sum, (staOf l).sq + (staOf m).sq, min (staOf l).lo (staOf m).lo, max (staOf l).hi (staOf m).hi⟩ := by
  have h1 := qsum_nonneg l
  have h2 := qsum_nonneg m
  unfold staOf
  rw [ssum_append, qsum_append, lmin_append hl hm, lmax_append hl hm, List.length_append]
  simp only [Int.natCast_add]
  congr 1
  omega
theorem staOf_ok {l : List Int} (h : l ≠ []) (hi : inB l = true) (hn : l.length ≤ 1000000000) : staOk (staOf l) := by
  have hin := inB_of hi
  have hp : 0 < l.length := List.length_pos_iff.2 h
  have h1 := hin _ (lmin_mem h)
  have h2 := hin _ (lmax_mem h)
  have h3 := lmin_le (lmax_mem h)
  have h4 := sum_ge (lmin l) (l := l) fun x hx => lmin_le hx
  have h5 := sum_le (lmax l) (l := l) fun x hx => le_lmax hx
  have h6 := qsum_le 1000000 (l := l) hin
  have h7 := lagrange l
  have h8 := dsum_nonneg l
  refine ⟨⟨?_, ?_, h3, h1.1, h2.2⟩, ⟨h4, h5, ?_⟩, ?_⟩
  · show (1 : Int) ≤ (l.length : Int); omega
  · show (l.length : Int) ≤ 1000000000; omega
  · rw [staOf_sq]; exact h6
  · rw [staOf_sq]
    show ssum l * ssum l ≤ (l.length : Int) * qsum l
    omega
theorem staOf_right {l : List Int} (hi : inB l = true) (hn : l.length ≤ 1000000000) : staB (staOf l) = true := by
  by_cases h : l = []
  · subst h; exact decide_eq_true (.inl ⟨rfl, rfl, rfl, rfl, rfl⟩)
  · exact decide_eq_true (.inr (staOf_ok h hi hn))
def spreadN (s : Sta) : Nat := (s.n * (s.sq : Int) - s.sum * s.sum).toNat
theorem spread_of (l : List Int) : ((spreadN (staOf l) : Nat) : Int) = dsum l := by
  unfold spreadN
  rw [staOf_sq]
  have h7 := lagrange l
  have h8 := dsum_nonneg l
  show (((((l.length : Int) * qsum l - ssum l * ssum l).toNat : Nat)) : Int) = _
  omega
theorem staOf_rev (l : List Int) : staOf l.reverse = staOf l := by
  unfold staOf
  rw [ssum_rev, qsum_rev, lmin_rev, lmax_rev, List.length_reverse]
/-- How great what is reckoned can get. -/
theorem sta_sum {s : Sta} (h : staOk s) : -1000000000000000 ≤ s.sum ∧ s.sum ≤ 1000000000000000 := by
  obtain ⟨⟨h1, h2, h3, h4, h5⟩, ⟨h6, h7, h8⟩, h9⟩ := h
  have a1 : s.n * (s.lo + 1000000) ≥ 0 := Int.mul_nonneg (by omega) (by omega)
  have a2 : s.n * (1000000 - s.hi) ≥ 0 := Int.mul_nonneg (by omega) (by omega)
  rw [Int.mul_add] at a1
  rw [Int.mul_sub] at a2
  omega
end Go.Proofs.Ytfafkdbflmennaa
