/- All that a rule may have seen, one point after the other: the reference's rows of states. -/
import Derived.Test.YtjonpcpcokapkaaNelN
namespace Go.Proofs.Ytjonpcpcokapkaa

def addN (l : List Seen) (s : Seen) : List Seen := if s ∈ l then l else l ++ [s]
theorem mem_addN (l : List Seen) (s x : Seen) : x ∈ addN l s ↔ x ∈ l ∨ x = s := by
  unfold addN
  split
  · rename_i h
    exact ⟨.inl, fun h2 => h2.elim id (fun e => e ▸ h)⟩
  · simp
theorem nodup_addN {l : List Seen} (h : l.Nodup) (s : Seen) : (addN l s).Nodup := by
  unfold addN
  split
  · exact h
  · rename_i hs
    rw [List.nodup_append]
    exact ⟨h, by simp, fun a ha b hb => by rw [List.mem_singleton] at hb; subst hb; rintro rfl; exact hs ha⟩
/-- One state, behind each of some classes. -/
def innerN (r : Nat) (s : Seen) (more : List Seen) (cs : List Int) : List Seen := cs.foldl (fun l c => addN l (nextN r s c)) more
/-- Some states, behind a mask. -/
def midN (r : Nat) (m : Int) (more : List Seen) (all : List Seen) : List Seen := all.foldl (fun l s => innerN r s l (classesN m)) more
def allN (r : Nat) (all : List Seen) (ms : List Int) : List Seen := ms.foldl (fun l m => midN r m [] l) all
theorem innerN_snoc (r : Nat) (s : Seen) (more : List Seen) (cs : List Int) (c : Int) : innerN r s more (cs ++ [c]) = addN (innerN r s more cs) (nextN r s c) := by unfold innerN; rw [List.foldl_append]; rfl
theorem midN_snoc (r : Nat) (m : Int) (more all : List Seen) (s : Seen) : midN r m more (all ++ [s]) = innerN r s (midN r m more all) (classesN m) := by unfold midN; rw [List.foldl_append]; rfl
theorem allN_snoc (r : Nat) (all : List Seen) (ms : List Int) (m : Int) : allN r all (ms ++ [m]) = midN r m [] (allN r all ms) := by unfold allN; rw [List.foldl_append]; rfl
theorem mem_innerN (r : Nat) (s x : Seen) : ∀ (cs : List Int) (more : List Seen), x ∈ innerN r s more cs ↔ x ∈ more ∨ ∃ c ∈ cs, x = nextN r s c
  | [], more => by simp [innerN]
  | c :: cs, more => by
    show x ∈ innerN r s (addN more (nextN r s c)) cs ↔ _
    rw [mem_innerN r s x cs, mem_addN]
    simp only [List.mem_cons, exists_eq_or_imp]
    exact or_assoc
theorem nodup_innerN (r : Nat) (s : Seen) : ∀ (cs : List Int) {more : List Seen}, more.Nodup → (innerN r s more cs).Nodup
  | [], _, h => h
  | c :: cs, _, h => nodup_innerN r s cs (nodup_addN h (nextN r s c))
theorem mem_midN (r : Nat) (m : Int) (x : Seen) : ∀ (all more : List Seen), x ∈ midN r m more all ↔ x ∈ more ∨ ∃ s ∈ all, ∃ c ∈ classesN m, x = nextN r s c
  | [], more => by simp [midN]
  | s :: all, more => by
    show x ∈ midN r m (innerN r s more (classesN m)) all ↔ _
    rw [mem_midN r m x all, mem_innerN]
    simp only [List.mem_cons, exists_eq_or_imp]
    exact or_assoc
theorem nodup_midN (r : Nat) (m : Int) : ∀ (all : List Seen) {more : List Seen}, more.Nodup → (midN r m more all).Nodup
  | [], _, h => h
  | s :: all, _, h => nodup_midN r m all (nodup_innerN r s _ h)
/-- What is seen of some row that is of the masks. -/
theorem mem_allN (r : Nat) (x : Seen) : ∀ (ms : List Int) (all : List Seen), x ∈ allN r all ms ↔ ∃ s ∈ all, ∃ row, OfM row ms ∧ row.foldl (nextN r) s = x
  | [], all => by
    constructor
    · intro h; exact ⟨x, h, [], trivial, rfl⟩
    · rintro ⟨s, hs, row, hr, rfl⟩
      cases row with
      | nil => exact hs
      | cons c row => exact hr.elim
  | m :: ms, all => by
    show x ∈ allN r (midN r m [] all) ms ↔ _
    rw [mem_allN r x ms]
    constructor
    · rintro ⟨s, hs, row, hr, he⟩
      rw [mem_midN] at hs
      rcases hs with hs | ⟨s0, h0, c, hc, rfl⟩
      · cases hs
      · exact ⟨s0, h0, c :: row, ⟨hc, hr⟩, he⟩
    · rintro ⟨s0, h0, row, hr, he⟩
      cases row with
      | nil => exact hr.elim
      | cons c row => exact ⟨nextN r s0 c, (mem_midN r m _ all []).2 (.inr ⟨s0, h0, c, hr.1, rfl⟩), row, hr.2, he⟩
/-- What is told is what the states tell. -/
theorem tell_states (r : Nat) (ms : List Int) : tellG (holdsN r) (allN r [seen0] ms) = tellG (rowN r) (rowsN ms) := by
  refine tellG_congr _ _ _ _ (fun x hx => ?_) (fun row hr => ?_)
  · obtain ⟨s, hs, row, hr, rfl⟩ := (mem_allN r x ms _).1 hx
    obtain rfl : s = seen0 := by simpa using hs
    exact ⟨row, (mem_rowsN _ _).2 hr, rfl⟩
  · exact ⟨_, (mem_allN r _ ms _).2 ⟨seen0, by simp, row, (mem_rowsN _ _).1 hr, rfl⟩, rfl⟩
/-! ### How many states there are at most -/
def StB (k : Nat) (s : Seen) : Prop := s.n = (k : Nat) ∧ (0 ≤ s.a ∧ s.a ≤ (k : Nat)) ∧ (0 ≤ s.b ∧ s.b ≤ (k : Nat)) ∧ (-4 ≤ s.last ∧ s.last ≤ 4)
theorem nextN_bounds {r k : Nat} {s : Seen} {c : Int} (h : StB k s) (hc : -4 ≤ c ∧ c ≤ 4) : StB (k + 1) (nextN r s c) := by
  obtain ⟨h1, h2, h3, h4⟩ := h
  have ob := fun p => oneN_bounds p
  unfold nextN
  split
  · have x1 := ob ((decide (s.n = 0) || decide (s.a = 1)) && upR r s c)
    have x2 := ob ((decide (s.n = 0) || decide (s.b = 1)) && downR r s c)
    unfold StB
    dsimp only
    omega
  · split
    · have x1 := ob (decide (-1 ≤ c) && decide (c ≤ 1))
      unfold StB
      dsimp only
      omega
    · split
      · have x1 := ob (decide (2 ≤ c) || decide (c ≤ -2))
        unfold StB
        dsimp only
        omega
      · have x1 := ob (decide (fromN r ≤ c))
        have x2 := ob (decide (c ≤ 0 - fromN r))
        unfold StB
        dsimp only
        omega
theorem classes_range {m c : Int} (h : c ∈ classesN m) : -4 ≤ c ∧ c ≤ 4 := by
  have := (List.mem_filter.1 h).1
  simp only [List.mem_cons, List.not_mem_nil, or_false] at this
  omega
theorem classes_len (m : Int) : (classesN m).length ≤ 9 := Nat.le_trans (List.length_filter_le _ _) (by decide)
theorem count_le : ∀ (n : Nat) (l : List Nat), l.Nodup → (∀ x ∈ l, x < n) → l.length ≤ n
  | 0, l, _, h => by
    cases l with
    | nil => exact Nat.le_refl _
    | cons x l => have := h x (by simp); omega
  | n + 1, l, hn, h => by
    have h1 := count_le n (l.erase n) (hn.erase n) (fun x hx => by
      have h2 := h x (List.mem_of_mem_erase hx)
      have h3 : x ≠ n := fun e => by rw [e] at hx; exact (hn.not_mem_erase) hx
      omega)
    have h4 : l.length ≤ (l.erase n).length + 1 := by rw [List.length_erase]; split <;> omega
    omega
def codeN (s : Seen) : Nat := (s.a.toNat * 16 + s.b.toNat) * 9 + (s.last + 4).toNat
theorem states_few {k : Nat} {l : List Seen} (hk : k ≤ 15) (hn : l.Nodup) (h : ∀ s ∈ l, StB k s) : l.length ≤ 2304 := by
  have h1 : (l.map codeN).Nodup := by
    unfold List.Nodup
    rw [List.pairwise_map]
    refine List.Pairwise.imp_of_mem (fun {s t} hs ht hne he => hne ?_) hn
    obtain ⟨s1, s2, s3, s4⟩ := h s hs
    obtain ⟨t1, t2, t3, t4⟩ := h t ht
    unfold codeN at he
    rw [Seen.eq_iff]
    omega
  have h2 := count_le 2304 (l.map codeN) h1 (fun x hx => by
    obtain ⟨s, hs, rfl⟩ := List.mem_map.1 hx
    obtain ⟨s1, s2, s3, s4⟩ := h s hs
    unfold codeN
    omega)
  rwa [List.length_map] at h2
theorem allN_bounds (r : Nat) : ∀ (ms : List Int) (k : Nat) (all : List Seen), (∀ s ∈ all, StB k s) → ∀ s ∈ allN r all ms, StB (k + ms.length) s
  | [], k, all, h => h
  | m :: ms, k, all, h => by
    have := allN_bounds r ms (k + 1) (midN r m [] all) (fun s hs => by
      rw [mem_midN] at hs
      rcases hs with hs | ⟨s0, h0, c, hc, rfl⟩
      · cases hs
      · exact nextN_bounds (h s0 h0) (classes_range hc))
    rw [List.length_cons, show k + (ms.length + 1) = k + 1 + ms.length by omega]
    exact this
end Go.Proofs.Ytjonpcpcokapkaa
