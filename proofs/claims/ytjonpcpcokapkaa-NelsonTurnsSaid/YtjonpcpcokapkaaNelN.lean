/- Rules over points, as numbers: what a rule has seen of a row of classes; what is told of masks. -/
import Derived.Test.YtjonpcpcokapkaaZonN
namespace Go.Proofs.Ytjonpcpcokapkaa

/-- What a rule has seen: how many, two counts, the last class. -/
structure Seen where
  n : Int
  a : Int
  b : Int
  last : Int
theorem Seen.eq_iff (s t : Seen) : s = t ↔ s.n = t.n ∧ s.a = t.a ∧ s.b = t.b ∧ s.last = t.last := by
  constructor
  · rintro rfl; exact ⟨rfl, rfl, rfl, rfl⟩
  · rintro ⟨h1, h2, h3, h4⟩
    cases s; cases t
    simp only at h1 h2 h3 h4
    subst h1 h2 h3 h4
    rfl
instance : DecidableEq Seen := fun s t => decidable_of_iff _ (Seen.eq_iff s t).symm
def seen0 : Seen := ⟨0, 0, 0, 0⟩
def oneN (p : Bool) : Int := if p then 1 else 0
theorem oneN_bounds (p : Bool) : 0 ≤ oneN p ∧ oneN p ≤ 1 := by cases p <;> decide
def fromN (r : Nat) : Int := ([4, 1, 0, 0, 3, 2, 0, 2] : List Int).getD (r - 1) 0
def needN (r : Nat) : Int := ([1, 9, 1, 1, 2, 4, 15, 8] : List Int).getD (r - 1) 0
def longN (r : Nat) : Nat := ([1, 9, 6, 14, 3, 5, 15, 8] : List Nat).getD (r - 1) 0
def swN (r : Nat) (s : Seen) : Bool := decide (r = 4) && decide (s.n % 2 = 0)
def upN (s : Seen) (c : Int) : Bool := decide (s.n = 0) || decide (s.last < c)
def downN (s : Seen) (c : Int) : Bool := decide (s.n = 0) || decide (c < s.last)
def upR (r : Nat) (s : Seen) (c : Int) : Bool := if swN r s then downN s c else upN s c
def downR (r : Nat) (s : Seen) (c : Int) : Bool := if swN r s then upN s c else downN s c
def nextN (r : Nat) (s : Seen) (c : Int) : Seen :=
  if r = 3 ∨ r = 4 then ⟨s.n + 1, oneN ((decide (s.n = 0) || decide (s.a = 1)) && upR r s c), oneN ((decide (s.n = 0) || decide (s.b = 1)) && downR r s c), c⟩
  else if r = 7 then ⟨s.n + 1, s.a + oneN (decide (-1 ≤ c) && decide (c ≤ 1)), s.b, 0⟩
  else if r = 8 then ⟨s.n + 1, s.a + oneN (decide (2 ≤ c) || decide (c ≤ -2)), s.b, 0⟩
  else ⟨s.n + 1, s.a + oneN (decide (fromN r ≤ c)), s.b + oneN (decide (c ≤ 0 - fromN r)), 0⟩
def holdsN (r : Nat) (s : Seen) : Bool := decide (needN r ≤ s.a) || decide (needN r ≤ s.b)
/-- Does a rule hold of a row that is as long as it looks? -/
def rowN (r : Nat) (row : List Int) : Bool := holdsN r (row.foldl (nextN r) seen0)

/-! ### Rows of classes that are of masks -/
def OfM : List Int → List Int → Prop
  | [], [] => True
  | c :: r, m :: ms => c ∈ classesN m ∧ OfM r ms
  | _, _ => False
def rowsN : List Int → List (List Int)
  | [] => [[]]
  | m :: ms => (classesN m).flatMap fun c => (rowsN ms).map (c :: ·)
theorem mem_rowsN : ∀ (ms row : List Int), row ∈ rowsN ms ↔ OfM row ms
  | [], [] => by simp [rowsN, OfM]
  | [], c :: r => by simp [rowsN, OfM]
  | m :: ms, [] => by simp [rowsN, OfM]
  | m :: ms, c :: r => by
    simp only [rowsN, OfM, List.mem_flatMap, List.mem_map]
    constructor
    · rintro ⟨x, hx, y, hy, he⟩
      injection he with e1 e2
      subst e1 e2
      exact ⟨hx, (mem_rowsN ms y).1 hy⟩
    · rintro ⟨h1, h2⟩
      exact ⟨c, h1, r, (mem_rowsN ms r).2 h2, rfl⟩
theorem OfM.length : ∀ {row ms : List Int}, OfM row ms → row.length = ms.length
  | [], [], _ => rfl
  | _ :: _, _ :: _, h => by simp only [List.length_cons]; rw [OfM.length h.2]
  | [], _ :: _, h => h.elim
  | _ :: _, [], h => h.elim
theorem OfM.drop : ∀ {row ms : List Int} (k : Nat), OfM row ms → OfM (row.drop k) (ms.drop k)
  | [], [], k, _ => by simp [OfM]
  | _ :: _, _ :: _, 0, h => h
  | _ :: r, _ :: ms, k + 1, h => OfM.drop (row := r) (ms := ms) k h.2
  | [], _ :: _, _, h => h.elim
  | _ :: _, [], _, h => h.elim
def okM (ms : List Int) : Prop := ∀ m ∈ ms, 1 ≤ m ∧ m ≤ 511
theorem rowsN_some : ∀ {ms : List Int}, okM ms → rowsN ms ≠ []
  | [], _ => by simp [rowsN]
  | m :: ms, h => by
    have h1 := classes_some (h m (by simp)).1 (h m (by simp)).2
    have h2 := rowsN_some (ms := ms) (fun x hx => h x (by simp [hx]))
    obtain ⟨c, hc⟩ := List.exists_mem_of_ne_nil _ h1
    obtain ⟨r, hr⟩ := List.exists_mem_of_ne_nil _ h2
    exact List.ne_nil_of_mem (a := c :: r) ((mem_rowsN (m :: ms) (c :: r)).2 ⟨hc, (mem_rowsN _ _).1 hr⟩)

/-! ### What is told -/
/-- 2 of all, 0 of none, else 1. -/
def tellG {α : Type} (H : α → Bool) (R : List α) : Int := if R.any H = false then 0 else if R.all H = true then 2 else 1
theorem tellG_congr {α β : Type} (H : α → Bool) (K : β → Bool) (R : List α) (S : List β) (h1 : ∀ x ∈ R, ∃ y ∈ S, K y = H x) (h2 : ∀ y ∈ S, ∃ x ∈ R, H x = K y) : tellG H R = tellG K S := by
  have e1 : R.any H = S.any K := by
    rw [Bool.eq_iff_iff, List.any_eq_true, List.any_eq_true]
    constructor
    · rintro ⟨x, hx, hh⟩; obtain ⟨y, hy, he⟩ := h1 x hx; exact ⟨y, hy, by rw [he, hh]⟩
    · rintro ⟨y, hy, hh⟩; obtain ⟨x, hx, he⟩ := h2 y hy; exact ⟨x, hx, by rw [he, hh]⟩
  have e2 : R.all H = S.all K := by
    rw [Bool.eq_iff_iff, List.all_eq_true, List.all_eq_true]
    constructor
    · intro h y hy; obtain ⟨x, hx, he⟩ := h2 y hy; rw [← he]; exact h x hx
    · intro h x hx; obtain ⟨y, hy, he⟩ := h1 x hx; rw [← he]; exact h y hy
  unfold tellG
  rw [e1, e2]
def lastK (k : Nat) (l : List Int) : List Int := l.drop (l.length - k)
theorem lastK_len {k : Nat} {l : List Int} (h : k ≤ l.length) : (lastK k l).length = k := by unfold lastK; rw [List.length_drop]; omega
def tellN (r : Nat) (ms : List Int) : Int := if ms.length < longN r then 0 else tellG (rowN r) (rowsN (lastK (longN r) ms))
def exactN (r : Nat) (l : List Int) : Bool := if l.length < longN r then false else rowN r (lastK (longN r) l)
theorem tellG_bounds {α : Type} (H : α → Bool) (R : List α) : 0 ≤ tellG H R ∧ tellG H R ≤ 2 := by unfold tellG; split; omega; split <;> omega
theorem tellN_bounds (r : Nat) (ms : List Int) : 0 ≤ tellN r ms ∧ tellN r ms ≤ 2 := by unfold tellN; split; omega; exact tellG_bounds _ _
theorem okM.lastK {ms : List Int} (h : okM ms) (k : Nat) : okM (lastK k ms) := fun m hm => h m (List.mem_of_mem_drop hm)
theorem OfM.lastK {row ms : List Int} (h : OfM row ms) (k : Nat) : OfM (lastK k row) (lastK k ms) := by
  unfold Go.Proofs.Ytjonpcpcokapkaa.lastK
  rw [h.length]
  exact h.drop _
theorem tellG_yes {α : Type} {H : α → Bool} {R : List α} (h : tellG H R = 2) : ∀ x ∈ R, H x = true := by
  unfold tellG at h
  split at h
  · omega
  · split at h
    · rename_i h2; exact List.all_eq_true.1 h2
    · omega
theorem tellG_no {α : Type} {H : α → Bool} {R : List α} (h : tellG H R = 0) : ∀ x ∈ R, H x = false := by
  unfold tellG at h
  split at h
  · rename_i h2
    intro x hx
    cases hH : H x with
    | false => rfl
    | true => have : R.any H = true := List.any_eq_true.2 ⟨x, hx, hH⟩; rw [this] at h2; cases h2
  · split at h <;> omega
theorem tellG_one {α : Type} (H : α → Bool) (x : α) : tellG H [x] = if H x then 2 else 0 := by
  unfold tellG
  cases h : H x <;> simp [h]
/-- What is certain of masks is so of every row of classes that is of them. -/
theorem tell_sure {r : Nat} {ms row : List Int} (h : OfM row ms) : (tellN r ms = 2 → exactN r row = true) ∧ (tellN r ms = 0 → okM ms → exactN r row = false) := by
  unfold tellN exactN
  rw [h.length]
  by_cases hl : ms.length < longN r
  · rw [if_pos hl, if_pos hl]; exact ⟨fun h => by omega, fun _ _ => rfl⟩
  · rw [if_neg hl, if_neg hl]
    have hm := (mem_rowsN _ _).2 (h.lastK (longN r))
    exact ⟨fun h2 => tellG_yes h2 _ hm, fun h2 _ => tellG_no h2 _ hm⟩
/-! ### Masks of one class each -/
def bitM (c : Int) : Int := maskN c c
def okC (l : List Int) : Prop := ∀ c ∈ l, -4 ≤ c ∧ c ≤ 4
theorem rowsN_single : ∀ {l : List Int}, okC l → rowsN (l.map bitM) = [l]
  | [], _ => rfl
  | c :: l, h => by
    have h1 := one_classes (h c (by simp)).1 (h c (by simp)).2
    have h2 := rowsN_single (l := l) (fun x hx => h x (by simp [hx]))
    rw [List.map_cons]
    unfold rowsN bitM
    rw [h1, List.flatMap_cons, List.flatMap_nil, List.append_nil]
    show List.map (fun x => c :: x) (rowsN (l.map bitM)) = _
    rw [h2]
    rfl
theorem tell_single {r : Nat} {l : List Int} (h : okC l) : tellN r (l.map bitM) = if exactN r l then 2 else 0 := by
  unfold tellN exactN
  rw [List.length_map]
  by_cases hl : l.length < longN r
  · rw [if_pos hl, if_pos hl]; rfl
  · rw [if_neg hl, if_neg hl]
    have e : lastK (longN r) (l.map bitM) = (lastK (longN r) l).map bitM := by
      unfold lastK
      rw [List.length_map, List.map_drop]
    rw [e, rowsN_single (show okC (lastK (longN r) l) from fun c hc => h c (List.mem_of_mem_drop hc)), tellG_one]
theorem OfM_single {l : List Int} (h : okC l) : OfM l (l.map bitM) := (mem_rowsN _ _).1 (by rw [rowsN_single h]; simp)
end Go.Proofs.Ytjonpcpcokapkaa
