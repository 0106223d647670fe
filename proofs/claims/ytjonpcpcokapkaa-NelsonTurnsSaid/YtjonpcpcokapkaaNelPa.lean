/- What nelson's code has to know of the points that a rule went through: pasts; that they tell what the rules tell. -/
import Derived.Test.YtjonpcpcokapkaaNelS
namespace Go.Proofs.Ytjonpcpcokapkaa

/-- What a rule has to know of the points that it went through. -/
structure Past where
  begun : Bool
  cls : Int
  step : Int
  side : Int
  na : Int
  nb : Int
theorem Past.eq_iff (s t : Past) : s = t ↔ s.begun = t.begun ∧ s.cls = t.cls ∧ s.step = t.step ∧ s.side = t.side ∧ s.na = t.na ∧ s.nb = t.nb := by
  constructor
  · rintro rfl; exact ⟨rfl, rfl, rfl, rfl, rfl, rfl⟩
  · rintro ⟨h1, h2, h3, h4, h5, h6⟩
    cases s; cases t
    simp only at h1 h2 h3 h4 h5 h6
    subst h1 h2 h3 h4 h5 h6
    rfl
instance : DecidableEq Past := fun s t => decidable_of_iff _ (Past.eq_iff s t).symm
def past0 : Past := ⟨false, 0, 0, 0, 0, 0⟩
def cmpN (x y : Int) : Int := if x < y then -1 else if y < x then 1 else 0
def farN (c : Int) : Int := max c (-c)
def steppedN (c : Int) (p : Past) : Past := ⟨true, c, if p.begun = true then cmpN c p.cls else 0, 0, 0, 0⟩
def oneP (x : Bool) : Int := if x then 1 else 0
def butN (f c : Int) (p : Past) : Past := ⟨p.begun, p.cls, p.step, p.side, p.na + oneP (decide (c < f)), p.nb + oneP (decide (-f < c))⟩
/-- Behind one more class. -/
def pastN (r : Nat) (c : Int) (p : Past) : Past :=
  if r = 2 then ⟨false, 0, 0, cmpN c 0, 0, 0⟩
  else if r = 3 ∨ r = 4 then steppedN c p
  else if r = 5 then butN 3 c p
  else if r = 6 then butN 2 c p
  else past0
/-- May the rule still hold? -/
def goesN (r : Nat) (c : Int) (p : Past) : Bool :=
  if r = 1 then decide (farN c = 4)
  else if r = 2 then !decide (cmpN c 0 = 0) && !decide (cmpN c 0 = -p.side)
  else if r = 3 then !p.begun || !decide ((steppedN c p).step = 0) && !decide ((steppedN c p).step = -p.step)
  else if r = 4 then !p.begun || !decide ((steppedN c p).step = 0) && !decide ((steppedN c p).step = p.step)
  else if r = 5 then decide ((butN 3 c p).na ≤ 1) || decide ((butN 3 c p).nb ≤ 1)
  else if r = 6 then decide ((butN 2 c p).na ≤ 1) || decide ((butN 2 c p).nb ≤ 1)
  else if r = 7 then decide (farN c ≤ 1)
  else decide (2 ≤ farN c)
/-- Does the rule go through the whole row? -/
def goN (r : Nat) : Past → List Int → Bool
  | _, [] => true
  | p, c :: row => goesN r c p && goN r (pastN r c p) row

/-! ### It goes through just those rows of which it holds -/
def SimP (r : Nat) (p : Past) (s : Seen) : Prop :=
  if r = 1 then (s.n = 0 ∧ s.a = 0 ∧ s.b = 0) ∨ (s.n = 1 ∧ (1 ≤ s.a ∨ 1 ≤ s.b))
  else if r = 2 then (p.side = 0 ∧ s.n = 0 ∧ s.a = 0 ∧ s.b = 0) ∨ (p.side = 1 ∧ 1 ≤ s.n ∧ s.a = s.n ∧ s.b = 0) ∨ (p.side = -1 ∧ 1 ≤ s.n ∧ s.b = s.n ∧ s.a = 0)
  else if r = 3 then (p.begun = false ∧ s.n = 0) ∨ (p.begun = true ∧ s.last = p.cls ∧ ((p.step = 0 ∧ s.n = 1 ∧ s.a = 1 ∧ s.b = 1) ∨ (p.step = 1 ∧ 2 ≤ s.n ∧ s.a = 1 ∧ s.b = 0) ∨ (p.step = -1 ∧ 2 ≤ s.n ∧ s.a = 0 ∧ s.b = 1)))
  else if r = 4 then (p.begun = false ∧ s.n = 0) ∨ (p.begun = true ∧ s.last = p.cls ∧ ((p.step = 0 ∧ s.n = 1 ∧ s.a = 1 ∧ s.b = 1) ∨ (p.step = 1 ∧ 2 ≤ s.n ∧ s.a = 1 - s.n % 2 ∧ s.b = s.n % 2) ∨ (p.step = -1 ∧ 2 ≤ s.n ∧ s.a = s.n % 2 ∧ s.b = 1 - s.n % 2)))
  else if r = 5 ∨ r = 6 then s.a = s.n - p.na ∧ s.b = s.n - p.nb ∧ (p.na ≤ 1 ∨ p.nb ≤ 1) ∧ 0 ≤ p.na ∧ 0 ≤ p.nb
  else s.a = s.n ∧ s.b = 0 ∧ 0 ≤ s.n
def DeadP (r : Nat) (s : Seen) : Prop :=
  if r = 1 then 1 ≤ s.n ∧ s.a ≤ s.n - 1 ∧ s.b ≤ s.n - 1
  else if r = 3 ∨ r = 4 then 1 ≤ s.n ∧ s.a = 0 ∧ s.b = 0
  else if r = 5 ∨ r = 6 then s.a < s.n - 1 ∧ s.b < s.n - 1
  else if r = 2 then s.a < s.n ∧ s.b < s.n
  else s.a < s.n ∧ s.b = 0
theorem oneN_true {p : Bool} (h : p = true) : oneN p = 1 := by rw [h]; rfl
theorem oneN_false {p : Bool} (h : p = false) : oneN p = 0 := by rw [h]; rfl
theorem oneN_dec (P : Prop) [Decidable P] : oneN (decide P) = if P then 1 else 0 := by unfold oneN; by_cases h : P <;> simp [h]
theorem oneP_dec (P : Prop) [Decidable P] : oneP (decide P) = if P then 1 else 0 := by unfold oneP; by_cases h : P <;> simp [h]
theorem oneN_if (p : Bool) : oneN p = if p = true then 1 else 0 := rfl
theorem oneP_if (p : Bool) : oneP p = if p = true then 1 else 0 := rfl
theorem far_cases (c : Int) : (0 ≤ c ∧ farN c = c) ∨ (c < 0 ∧ farN c = -c) := by unfold farN; omega
theorem sim1 {p : Past} {s : Seen} {c : Int} (h : SimP 1 p s) (hn : s.n < 1) (hc : -4 ≤ c ∧ c ≤ 4) : (goesN 1 c p = true → SimP 1 (pastN 1 c p) (nextN 1 s c)) ∧ (goesN 1 c p = false → DeadP 1 (nextN 1 s c)) := by
  simp [SimP] at h
  simp [SimP, DeadP, goesN, nextN, fromN, oneN_if]
  have hm := far_cases c
  generalize farN c = f at hm ⊢
  by_cases g1 : 4 ≤ c
  · simp [g1, show ¬ c ≤ -4 by omega]; omega
  · by_cases g2 : c ≤ -4
    · simp [g1, g2]; omega
    · simp [g1, g2]; omega
theorem sim2 {p : Past} {s : Seen} {c : Int} (h : SimP 2 p s) : (goesN 2 c p = true → SimP 2 (pastN 2 c p) (nextN 2 s c)) ∧ (goesN 2 c p = false → DeadP 2 (nextN 2 s c)) := by
  simp [SimP] at h
  simp [SimP, DeadP, goesN, pastN, nextN, fromN, oneN_if, cmpN]
  rcases Int.lt_trichotomy c 0 with g | g | g
  · simp [g, show ¬ 0 < c by omega, show ¬ 1 ≤ c by omega, show c ≤ -1 by omega]; omega
  · simp [g]; omega
  · simp [g, show ¬ c < 0 by omega, show 1 ≤ c by omega, show ¬ c ≤ -1 by omega]; omega
theorem sim3 {p : Past} {s : Seen} {c : Int} (h : SimP 3 p s) : (goesN 3 c p = true → SimP 3 (pastN 3 c p) (nextN 3 s c)) ∧ (goesN 3 c p = false → DeadP 3 (nextN 3 s c)) := by
  simp [SimP] at h
  simp [SimP, DeadP, goesN, pastN, nextN, oneN_if, steppedN, cmpN, upR, downR, swN, upN, downN]
  rcases h with ⟨h1, h2⟩ | ⟨h1, h2, h3⟩
  · simp [h1, h2]
  · simp only [h1, h2]
    rcases Int.lt_trichotomy c p.cls with g | g | g
    · simp [g, show ¬ p.cls < c by omega]; rcases h3 with h3 | h3 | h3 <;> simp [h3] <;> omega
    · simp [g]; omega
    · simp [g, show ¬ c < p.cls by omega]; rcases h3 with h3 | h3 | h3 <;> simp [h3] <;> omega
theorem sim4 {p : Past} {s : Seen} {c : Int} (h : SimP 4 p s) : (goesN 4 c p = true → SimP 4 (pastN 4 c p) (nextN 4 s c)) ∧ (goesN 4 c p = false → DeadP 4 (nextN 4 s c)) := by
  simp [SimP] at h
  simp [SimP, DeadP, goesN, pastN, nextN, oneN_if, steppedN, cmpN, upR, downR, swN, upN, downN]
  rcases h with ⟨h1, h2⟩ | ⟨h1, h2, h3⟩
  · simp [h1, h2]
  · simp only [h1, h2]
    have hmod : s.n % 2 = 0 ∨ s.n % 2 = 1 := by omega
    rcases Int.lt_trichotomy c p.cls with g | g | g
    · rcases hmod with m | m <;> simp [g, m, show ¬ p.cls < c by omega] <;> rcases h3 with h3 | h3 | h3 <;> simp [h3] <;> omega
    · simp [g]; omega
    · rcases hmod with m | m <;> simp [g, m, show ¬ c < p.cls by omega] <;> rcases h3 with h3 | h3 | h3 <;> simp [h3] <;> omega
theorem sim5 {p : Past} {s : Seen} {c : Int} (h : SimP 5 p s) : (goesN 5 c p = true → SimP 5 (pastN 5 c p) (nextN 5 s c)) ∧ (goesN 5 c p = false → DeadP 5 (nextN 5 s c)) := by
  simp [SimP] at h
  simp [SimP, DeadP, goesN, pastN, nextN, fromN, oneN_if, oneP_if, butN]
  by_cases g1 : 3 ≤ c
  · simp [g1, show ¬ c < 3 by omega, show ¬ c ≤ -3 by omega, show -3 < c by omega]; omega
  · by_cases g2 : c ≤ -3
    · simp [g1, g2, show c < 3 by omega, show ¬ -3 < c by omega]; omega
    · simp [g1, g2, show c < 3 by omega, show -3 < c by omega]; omega
theorem sim6 {p : Past} {s : Seen} {c : Int} (h : SimP 6 p s) : (goesN 6 c p = true → SimP 6 (pastN 6 c p) (nextN 6 s c)) ∧ (goesN 6 c p = false → DeadP 6 (nextN 6 s c)) := by
  simp [SimP] at h
  simp [SimP, DeadP, goesN, pastN, nextN, fromN, oneN_if, oneP_if, butN]
  by_cases g1 : 2 ≤ c
  · simp [g1, show ¬ c < 2 by omega, show ¬ c ≤ -2 by omega, show -2 < c by omega]; omega
  · by_cases g2 : c ≤ -2
    · simp [g1, g2, show c < 2 by omega, show ¬ -2 < c by omega]; omega
    · simp [g1, g2, show c < 2 by omega, show -2 < c by omega]; omega
theorem sim7 {p : Past} {s : Seen} {c : Int} (h : SimP 7 p s) : (goesN 7 c p = true → SimP 7 (pastN 7 c p) (nextN 7 s c)) ∧ (goesN 7 c p = false → DeadP 7 (nextN 7 s c)) := by
  simp [SimP] at h
  simp [SimP, DeadP, goesN, nextN, oneN_if]
  have hm := far_cases c
  generalize farN c = f at hm ⊢
  by_cases g1 : -1 ≤ c ∧ c ≤ 1
  · simp [g1]; omega
  · simp [g1]; omega
theorem sim8 {p : Past} {s : Seen} {c : Int} (h : SimP 8 p s) : (goesN 8 c p = true → SimP 8 (pastN 8 c p) (nextN 8 s c)) ∧ (goesN 8 c p = false → DeadP 8 (nextN 8 s c)) := by
  simp [SimP] at h
  simp [SimP, DeadP, goesN, nextN, oneN_if]
  have hm := far_cases c
  generalize farN c = f at hm ⊢
  by_cases g1 : 2 ≤ c ∨ c ≤ -2
  · simp [g1]; omega
  · simp [g1]; omega
theorem sim_step {r : Nat} (h1 : 1 ≤ r) (h8 : r ≤ 8) {p : Past} {s : Seen} {c : Int} (h : SimP r p s) (hn : s.n < (longN r : Nat)) (hc : -4 ≤ c ∧ c ≤ 4) : (goesN r c p = true → SimP r (pastN r c p) (nextN r s c)) ∧ (goesN r c p = false → DeadP r (nextN r s c)) := by
  obtain rfl | rfl | rfl | rfl | rfl | rfl | rfl | rfl : r = 1 ∨ r = 2 ∨ r = 3 ∨ r = 4 ∨ r = 5 ∨ r = 6 ∨ r = 7 ∨ r = 8 := by omega
  · exact sim1 h hn hc
  · exact sim2 h
  · exact sim3 h
  · exact sim4 h
  · exact sim5 h
  · exact sim6 h
  · exact sim7 h
  · exact sim8 h
theorem dead_step {r : Nat} (h1 : 1 ≤ r) (h8 : r ≤ 8) {s : Seen} (c : Int) (h : DeadP r s) : DeadP r (nextN r s c) := by
  obtain rfl | rfl | rfl | rfl | rfl | rfl | rfl | rfl : r = 1 ∨ r = 2 ∨ r = 3 ∨ r = 4 ∨ r = 5 ∨ r = 6 ∨ r = 7 ∨ r = 8 := by omega
  · simp [DeadP, nextN, fromN] at h ⊢
    have := oneN_bounds (decide (4 ≤ c)); have := oneN_bounds (decide (c ≤ -4)); omega
  · simp [DeadP, nextN, fromN] at h ⊢
    have := oneN_bounds (decide (1 ≤ c)); have := oneN_bounds (decide (c ≤ -1)); omega
  · simp [DeadP, nextN] at h ⊢
    obtain ⟨q1, q2, q3⟩ := h
    rw [q2, q3]
    simp [oneN, show ¬ s.n = 0 by omega]
    omega
  · simp [DeadP, nextN] at h ⊢
    obtain ⟨q1, q2, q3⟩ := h
    rw [q2, q3]
    simp [oneN, show ¬ s.n = 0 by omega]
    omega
  · simp [DeadP, nextN, fromN] at h ⊢
    have := oneN_bounds (decide (3 ≤ c)); have := oneN_bounds (decide (c ≤ -3)); omega
  · simp [DeadP, nextN, fromN] at h ⊢
    have := oneN_bounds (decide (2 ≤ c)); have := oneN_bounds (decide (c ≤ -2)); omega
  · simp [DeadP, nextN] at h ⊢
    have := oneN_bounds (decide (-1 ≤ c) && decide (c ≤ 1)); omega
  · simp [DeadP, nextN] at h ⊢
    have := oneN_bounds (decide (2 ≤ c) || decide (c ≤ -2)); omega
theorem next_n (r : Nat) (s : Seen) (c : Int) : (nextN r s c).n = s.n + 1 := by unfold nextN; split; rfl; split; rfl; split <;> rfl
theorem sim_end {r : Nat} (h1 : 1 ≤ r) (h8 : r ≤ 8) {p : Past} {s : Seen} (h : SimP r p s) (hn : s.n = (longN r : Nat)) : holdsN r s = true := by
  obtain rfl | rfl | rfl | rfl | rfl | rfl | rfl | rfl : r = 1 ∨ r = 2 ∨ r = 3 ∨ r = 4 ∨ r = 5 ∨ r = 6 ∨ r = 7 ∨ r = 8 := by omega
  all_goals
    simp [SimP] at h
    simp [longN] at hn
    simp [holdsN, needN]
    omega
theorem dead_end {r : Nat} (h1 : 1 ≤ r) (h8 : r ≤ 8) {s : Seen} (h : DeadP r s) (hn : s.n = (longN r : Nat)) : holdsN r s = false := by
  obtain rfl | rfl | rfl | rfl | rfl | rfl | rfl | rfl : r = 1 ∨ r = 2 ∨ r = 3 ∨ r = 4 ∨ r = 5 ∨ r = 6 ∨ r = 7 ∨ r = 8 := by omega
  all_goals
    simp [DeadP] at h
    simp [longN] at hn
    simp [holdsN, needN]
    omega
theorem dead_row {r : Nat} (h1 : 1 ≤ r) (h8 : r ≤ 8) : ∀ (row : List Int) (s : Seen), DeadP r s → s.n + row.length = (longN r : Nat) → holdsN r (row.foldl (nextN r) s) = false
  | [], s, h, hn => dead_end h1 h8 h (by simpa using hn)
  | c :: row, s, h, hn => dead_row h1 h8 row _ (dead_step h1 h8 c h) (by rw [next_n]; rw [List.length_cons] at hn; omega)
theorem go_row {r : Nat} (h1 : 1 ≤ r) (h8 : r ≤ 8) : ∀ (row : List Int) (p : Past) (s : Seen), SimP r p s → s.n + row.length = (longN r : Nat) → okC row → goN r p row = holdsN r (row.foldl (nextN r) s)
  | [], p, s, h, hn, _ => (sim_end h1 h8 h (by simpa using hn)).symm
  | c :: row, p, s, h, hn, hc => by
    rw [List.length_cons] at hn
    obtain ⟨k1, k2⟩ := sim_step h1 h8 h (c := c) (by omega) (hc c (by simp))
    unfold goN
    cases g : goesN r c p with
    | true => rw [Bool.true_and]; exact go_row h1 h8 row _ _ (k1 g) (by rw [next_n]; omega) (fun x hx => hc x (by simp [hx]))
    | false => rw [Bool.false_and]; exact (dead_row h1 h8 row _ (k2 g) (by rw [next_n]; omega)).symm
theorem sim_start {r : Nat} (h1 : 1 ≤ r) (h8 : r ≤ 8) : SimP r past0 seen0 := by
  obtain rfl | rfl | rfl | rfl | rfl | rfl | rfl | rfl : r = 1 ∨ r = 2 ∨ r = 3 ∨ r = 4 ∨ r = 5 ∨ r = 6 ∨ r = 7 ∨ r = 8 := by omega
  all_goals simp [SimP, past0, seen0]
theorem go_rowN {r : Nat} (h1 : 1 ≤ r) (h8 : r ≤ 8) {row : List Int} (hl : row.length = longN r) (hc : okC row) : goN r past0 row = rowN r row :=
  go_row h1 h8 row past0 seen0 (sim_start h1 h8) (by rw [hl]; show (0 : Int) + _ = _; omega) hc

/-! ### All pasts, one point after the other -/
def addP (l : List Past) (s : Past) : List Past := if s ∈ l then l else l ++ [s]
theorem mem_addP (l : List Past) (s x : Past) : x ∈ addP l s ↔ x ∈ l ∨ x = s := by
  unfold addP
  split
  · rename_i h
    exact ⟨.inl, fun h2 => h2.elim id (fun e => e ▸ h)⟩
  · simp
theorem nodup_addP {l : List Past} (h : l.Nodup) (s : Past) : (addP l s).Nodup := by
  unfold addP
  split
  · exact h
  · rename_i hs
    rw [List.nodup_append]
    exact ⟨h, by simp, fun a ha b hb => by rw [List.mem_singleton] at hb; subst hb; rintro rfl; exact hs ha⟩
/-- What is there behind one class more: the pasts, and whether all is sure. -/
def stepP (r : Nat) (p : Past) (x : List Past × Bool) (c : Int) : List Past × Bool := (if goesN r c p then addP x.1 (pastN r c p) else x.1, x.2 && goesN r c p)
def innerP (r : Nat) (p : Past) (x : List Past × Bool) (cs : List Int) : List Past × Bool := cs.foldl (stepP r p) x
def midP (r : Nat) (cs : List Int) (x : List Past × Bool) (ps : List Past) : List Past × Bool := ps.foldl (fun x p => innerP r p x cs) x
def pointP (r : Nat) (x : List Past × Bool) (cs : List Int) : List Past × Bool := midP r cs ([], x.2) x.1
def allP (r : Nat) (x : List Past × Bool) (pts : List (List Int)) : List Past × Bool := pts.foldl (pointP r) x
def startP : List Past × Bool := ([past0], true)
def followN (r : Nat) (pts : List (List Int)) : Int := if (allP r startP pts).1 = [] then 0 else if (allP r startP pts).2 = true then 2 else 1
theorem innerP_snoc (r : Nat) (p : Past) (x : List Past × Bool) (cs : List Int) (c : Int) : innerP r p x (cs ++ [c]) = stepP r p (innerP r p x cs) c := by unfold innerP; rw [List.foldl_append]; rfl
theorem midP_snoc (r : Nat) (cs : List Int) (x : List Past × Bool) (ps : List Past) (p : Past) : midP r cs x (ps ++ [p]) = innerP r p (midP r cs x ps) cs := by unfold midP; rw [List.foldl_append]; rfl
theorem allP_snoc (r : Nat) (x : List Past × Bool) (pts : List (List Int)) (cs : List Int) : allP r x (pts ++ [cs]) = pointP r (allP r x pts) cs := by unfold allP; rw [List.foldl_append]; rfl
theorem mem_stepP (r : Nat) (p : Past) (x : List Past × Bool) (c : Int) (y : Past) : y ∈ (stepP r p x c).1 ↔ y ∈ x.1 ∨ (goesN r c p = true ∧ y = pastN r c p) := by
  unfold stepP
  dsimp only
  split
  · rename_i h; rw [mem_addP]; simp [h]
  · rename_i h; simp [h]
theorem mem_innerP (r : Nat) (p y : Past) : ∀ (cs : List Int) (x : List Past × Bool), y ∈ (innerP r p x cs).1 ↔ y ∈ x.1 ∨ ∃ c ∈ cs, goesN r c p = true ∧ y = pastN r c p
  | [], x => by simp [innerP]
  | c :: cs, x => by
    show y ∈ (innerP r p (stepP r p x c) cs).1 ↔ _
    rw [mem_innerP r p y cs, mem_stepP]
    simp only [List.mem_cons, exists_eq_or_imp]
    exact or_assoc
theorem sure_innerP (r : Nat) (p : Past) : ∀ (cs : List Int) (x : List Past × Bool), (innerP r p x cs).2 = true ↔ x.2 = true ∧ ∀ c ∈ cs, goesN r c p = true
  | [], x => by simp [innerP]
  | c :: cs, x => by
    show (innerP r p (stepP r p x c) cs).2 = true ↔ _
    rw [sure_innerP r p cs]
    simp only [stepP, Bool.and_eq_true, List.mem_cons, forall_eq_or_imp]
    exact and_assoc
theorem mem_midP (r : Nat) (cs : List Int) (y : Past) : ∀ (ps : List Past) (x : List Past × Bool), y ∈ (midP r cs x ps).1 ↔ y ∈ x.1 ∨ ∃ p ∈ ps, ∃ c ∈ cs, goesN r c p = true ∧ y = pastN r c p
  | [], x => by simp [midP]
  | p :: ps, x => by
    show y ∈ (midP r cs (innerP r p x cs) ps).1 ↔ _
    rw [mem_midP r cs y ps, mem_innerP]
    simp only [List.mem_cons, exists_eq_or_imp]
    exact or_assoc
theorem sure_midP (r : Nat) (cs : List Int) : ∀ (ps : List Past) (x : List Past × Bool), (midP r cs x ps).2 = true ↔ x.2 = true ∧ ∀ p ∈ ps, ∀ c ∈ cs, goesN r c p = true
  | [], x => by simp [midP]
  | p :: ps, x => by
    show (midP r cs (innerP r p x cs) ps).2 = true ↔ _
    rw [sure_midP r cs ps, sure_innerP]
    simp only [List.mem_cons, forall_eq_or_imp]
    exact and_assoc
theorem nodup_stepP (r : Nat) (p : Past) {x : List Past × Bool} (h : x.1.Nodup) (c : Int) : (stepP r p x c).1.Nodup := by
  unfold stepP
  dsimp only
  split
  · exact nodup_addP h _
  · exact h
theorem nodup_innerP (r : Nat) (p : Past) : ∀ (cs : List Int) {x : List Past × Bool}, x.1.Nodup → (innerP r p x cs).1.Nodup
  | [], _, h => h
  | c :: cs, _, h => nodup_innerP r p cs (nodup_stepP r p h c)
theorem nodup_midP (r : Nat) (cs : List Int) : ∀ (ps : List Past) {x : List Past × Bool}, x.1.Nodup → (midP r cs x ps).1.Nodup
  | [], _, h => h
  | p :: ps, _, h => nodup_midP r cs ps (nodup_innerP r p cs h)
/-! ### Rows of classes that are of points -/
def rowsC : List (List Int) → List (List Int)
  | [] => [[]]
  | cs :: pts => cs.flatMap fun c => (rowsC pts).map (c :: ·)
theorem rowsC_of (ms : List Int) : rowsC (ms.map classesN) = rowsN ms := by
  induction ms with
  | nil => rfl
  | cons m ms ih => rw [List.map_cons]; unfold rowsC rowsN; rw [ih]
theorem mem_rowsC_cons (cs : List Int) (pts : List (List Int)) (row : List Int) : row ∈ rowsC (cs :: pts) ↔ ∃ c ∈ cs, ∃ y ∈ rowsC pts, row = c :: y := by
  rw [show rowsC (cs :: pts) = cs.flatMap fun c => (rowsC pts).map (c :: ·) from rfl, List.mem_flatMap]
  constructor
  · rintro ⟨c, hc, hr⟩
    obtain ⟨y, hy, rfl⟩ := List.mem_map.1 hr
    exact ⟨c, hc, y, hy, rfl⟩
  · rintro ⟨c, hc, y, hy, rfl⟩
    exact ⟨c, hc, List.mem_map.2 ⟨y, hy, rfl⟩⟩
theorem rowsC_some : ∀ {pts : List (List Int)}, (∀ cs ∈ pts, cs ≠ []) → ∃ row, row ∈ rowsC pts
  | [], _ => ⟨[], by simp [rowsC]⟩
  | cs :: pts, h => by
    obtain ⟨row, hr⟩ := rowsC_some (pts := pts) (fun x hx => h x (by simp [hx]))
    obtain ⟨c, hc⟩ := List.exists_mem_of_ne_nil _ (h cs (by simp))
    exact ⟨c :: row, (mem_rowsC_cons _ _ _).2 ⟨c, hc, row, hr, rfl⟩⟩
/-- A past is there just if some row goes. -/
theorem some_allP (r : Nat) : ∀ (pts : List (List Int)) (x : List Past × Bool), (allP r x pts).1 ≠ [] ↔ ∃ p ∈ x.1, ∃ row ∈ rowsC pts, goN r p row = true
  | [], x => by
    simp only [allP, List.foldl_nil, rowsC, List.mem_singleton, exists_eq_left, goN, and_true]
    exact ⟨fun h => List.exists_mem_of_ne_nil _ h, fun ⟨p, hp⟩ => List.ne_nil_of_mem hp⟩
  | cs :: pts, x => by
    show (allP r (pointP r x cs) pts).1 ≠ [] ↔ _
    rw [some_allP r pts]
    unfold pointP
    constructor
    · rintro ⟨p, hp, row, hr, hg⟩
      rw [mem_midP] at hp
      rcases hp with hp | ⟨q, hq, c, hc, hgo, rfl⟩
      · cases hp
      · exact ⟨q, hq, c :: row, (mem_rowsC_cons _ _ _).2 ⟨c, hc, row, hr, rfl⟩, by unfold goN; rw [hgo, hg]; rfl⟩
    · rintro ⟨q, hq, row, hr, hg⟩
      obtain ⟨c, hc, y, hy, rfl⟩ := (mem_rowsC_cons _ _ _).1 hr
      unfold goN at hg
      rw [Bool.and_eq_true] at hg
      exact ⟨_, (mem_midP r cs _ x.1 _).2 (.inr ⟨q, hq, c, hc, hg.1, rfl⟩), y, hy, hg.2⟩
/-- All is sure just if all rows go. -/
theorem sure_allP (r : Nat) : ∀ (pts : List (List Int)) (x : List Past × Bool), (∀ cs ∈ pts, cs ≠ []) → ((allP r x pts).2 = true ↔ x.2 = true ∧ ∀ p ∈ x.1, ∀ row ∈ rowsC pts, goN r p row = true)
  | [], x, _ => by
    simp [allP, rowsC, goN]
  | cs :: pts, x, h => by
    show (allP r (pointP r x cs) pts).2 = true ↔ _
    rw [sure_allP r pts _ (fun y hy => h y (by simp [hy]))]
    unfold pointP
    rw [sure_midP]
    obtain ⟨row0, hr0⟩ := rowsC_some (pts := pts) (fun y hy => h y (by simp [hy]))
    constructor
    · rintro ⟨⟨h1, h2⟩, h3⟩
      refine ⟨h1, fun p hp row hr => ?_⟩
      obtain ⟨c, hc, y, hy, rfl⟩ := (mem_rowsC_cons _ _ _).1 hr
      unfold goN
      rw [h2 p hp c hc, h3 _ ((mem_midP r cs _ x.1 _).2 (.inr ⟨p, hp, c, hc, h2 p hp c hc, rfl⟩)) y hy]
      rfl
    · rintro ⟨h1, h2⟩
      have hgo : ∀ p ∈ x.1, ∀ c ∈ cs, goesN r c p = true := fun p hp c hc => by
        have := h2 p hp _ ((mem_rowsC_cons _ _ _).2 ⟨c, hc, row0, hr0, rfl⟩)
        unfold goN at this
        rw [Bool.and_eq_true] at this
        exact this.1
      refine ⟨⟨h1, hgo⟩, fun p hp row hr => ?_⟩
      rw [mem_midP] at hp
      rcases hp with hp | ⟨q, hq, c, hc, _, rfl⟩
      · cases hp
      · have := h2 q hq _ ((mem_rowsC_cons _ _ _).2 ⟨c, hc, row, hr, rfl⟩)
        unfold goN at this
        rw [Bool.and_eq_true] at this
        exact this.2
theorem follow_tell (r : Nat) {pts : List (List Int)} (h : ∀ cs ∈ pts, cs ≠ []) : followN r pts = tellG (goN r past0) (rowsC pts) := by
  have e1 := some_allP r pts startP
  have e2 := sure_allP r pts startP h
  simp only [startP, List.mem_singleton, exists_eq_left, forall_eq, true_and] at e1 e2
  have k1 : ((allP r ([past0], true) pts).1 = []) ↔ (rowsC pts).any (goN r past0) = false := by
    rw [← Decidable.not_iff_not, ← ne_eq, e1, Bool.not_eq_false, List.any_eq_true]
  have k2 : ((allP r ([past0], true) pts).2 = true) ↔ (rowsC pts).all (goN r past0) = true := by
    rw [e2, List.all_eq_true]
  unfold followN tellG startP
  by_cases c1 : (allP r ([past0], true) pts).1 = []
  · rw [if_pos c1, if_pos (k1.1 c1)]
  · rw [if_neg c1, if_neg (fun x => c1 (k1.2 x))]
    by_cases c2 : (allP r ([past0], true) pts).2 = true
    · rw [if_pos c2, if_pos (k2.1 c2)]
    · rw [if_neg c2, if_neg (fun x => c2 (k2.2 x))]
theorem rowsN_okC : ∀ (ms row : List Int), OfM row ms → okC row
  | [], [], _ => fun c hc => by cases hc
  | m :: ms, c :: row, h => fun x hx => by
    rcases List.mem_cons.1 hx with rfl | hx
    · exact classes_range h.1
    · exact rowsN_okC ms row h.2 x hx
  | [], _ :: _, h => h.elim
  | _ :: _, [], h => h.elim
/-- What the code tells of as many masks as the rule looks at. -/
theorem follow_rule {r : Nat} (h1 : 1 ≤ r) (h8 : r ≤ 8) {ms : List Int} (hm : okM ms) (hl : ms.length = longN r) : followN r (ms.map classesN) = tellG (rowN r) (rowsN ms) := by
  rw [follow_tell r (fun cs hcs => by
    obtain ⟨m, hm2, rfl⟩ := List.mem_map.1 hcs
    exact classes_some (hm m hm2).1 (hm m hm2).2), rowsC_of]
  refine tellG_congr _ _ _ _ (fun row hr => ⟨row, hr, ?_⟩) (fun row hr => ⟨row, hr, ?_⟩)
  all_goals
    have ho := (mem_rowsN _ _).1 hr
    rw [go_rowN h1 h8 (ho.length.trans hl) (rowsN_okC ms row ho)]
/-- What is told of points, by the code. -/
def toldC (r : Nat) (pts : List (List Int)) : Int := if pts.length < longN r then 0 else followN r (pts.drop (pts.length - longN r))
theorem told_masks {r : Nat} (h1 : 1 ≤ r) (h8 : r ≤ 8) {ms : List Int} (hm : okM ms) : toldC r (ms.map classesN) = tellN r ms := by
  unfold toldC tellN lastK
  rw [List.length_map]
  by_cases c : ms.length < longN r
  · rw [if_pos c, if_pos c]
  · rw [if_neg c, if_neg c, ← List.map_drop]
    exact follow_rule h1 h8 (fun m hx => hm m (List.mem_of_mem_drop hx)) (by rw [List.length_drop]; omega)
theorem told_classes {r : Nat} (h1 : 1 ≤ r) (h8 : r ≤ 8) {l : List Int} (hc : okC l) : toldC r (l.map fun c => [c]) = if exactN r l then 2 else 0 := by
  have e : (l.map fun c => [c]) = (l.map bitM).map classesN := by
    rw [List.map_map]
    refine List.map_congr_left fun c hx => ?_
    show [c] = classesN (maskN c c)
    rw [one_classes (hc c hx).1 (hc c hx).2]
  have ho : okM (l.map bitM) := fun m hx => by
    obtain ⟨c, hcx, rfl⟩ := List.mem_map.1 hx
    exact mask_bounds (hc c hcx).1 (Int.le_refl _) (hc c hcx).2
  rw [e, told_masks h1 h8 ho, tell_single hc]
/-! ### How many pasts there are at most -/
def PaB (k : Nat) (p : Past) : Prop := (-4 ≤ p.cls ∧ p.cls ≤ 4) ∧ (-1 ≤ p.step ∧ p.step ≤ 1) ∧ (-1 ≤ p.side ∧ p.side ≤ 1) ∧ (0 ≤ p.na ∧ p.na ≤ (k : Nat)) ∧ (0 ≤ p.nb ∧ p.nb ≤ (k : Nat))
theorem cmpN_bounds (x y : Int) : -1 ≤ cmpN x y ∧ cmpN x y ≤ 1 := by unfold cmpN; split; omega; split <;> omega
theorem oneP_bounds (x : Bool) : 0 ≤ oneP x ∧ oneP x ≤ 1 := by cases x <;> decide
theorem pastN_bounds (r : Nat) {k : Nat} {p : Past} {c : Int} (h : PaB k p) (hc : -4 ≤ c ∧ c ≤ 4) : PaB (k + 1) (pastN r c p) := by
  obtain ⟨h1, h2, h3, h4, h5⟩ := h
  have b1 := cmpN_bounds c 0
  have b2 := cmpN_bounds c p.cls
  have b3 := oneP_bounds (decide (c < 3)); have b4 := oneP_bounds (decide (-3 < c))
  have b5 := oneP_bounds (decide (c < 2)); have b6 := oneP_bounds (decide (-2 < c))
  unfold pastN steppedN butN past0 PaB
  split
  · dsimp only; omega
  · split
    · dsimp only; split <;> omega
    · split
      · dsimp only; omega
      · split
        · dsimp only; omega
        · dsimp only; omega
theorem pair_inj {a b n x y : Nat} (h : a * n + x = b * n + y) (hx : x < n) (hy : y < n) : a = b ∧ x = y := by
  have h1 : (a * n + x) / n = a := by rw [Nat.mul_comm, Nat.mul_add_div (by omega), Nat.div_eq_of_lt hx, Nat.add_zero]
  have h2 : (b * n + y) / n = b := by rw [Nat.mul_comm, Nat.mul_add_div (by omega), Nat.div_eq_of_lt hy, Nat.add_zero]
  have h3 : a = b := by rw [← h1, ← h2, h]
  subst h3
  exact ⟨rfl, by omega⟩
theorem pair_lt {a m n x : Nat} (h : a < m) (hx : x < n) : a * n + x < m * n := by
  have : (a + 1) * n ≤ m * n := Nat.mul_le_mul_right n h
  rw [Nat.add_mul] at this
  omega
def codeP (p : Past) : Nat := (((((if p.begun then 1 else 0) * 9 + (p.cls + 4).toNat) * 3 + (p.step + 1).toNat) * 3 + (p.side + 1).toNat) * 16 + p.na.toNat) * 16 + p.nb.toNat
theorem codeP_inj {k : Nat} (hk : k ≤ 15) {s t : Past} (hs : PaB k s) (ht : PaB k t) (h : codeP s = codeP t) : s = t := by
  obtain ⟨s1, s2, s3, s4, s5⟩ := hs
  obtain ⟨t1, t2, t3, t4, t5⟩ := ht
  have a1 : (s.cls + 4).toNat < 9 := by omega
  have a2 : (s.step + 1).toNat < 3 := by omega
  have a3 : (s.side + 1).toNat < 3 := by omega
  have a4 : s.na.toNat < 16 := by omega
  have a5 : s.nb.toNat < 16 := by omega
  have c1 : (t.cls + 4).toNat < 9 := by omega
  have c2 : (t.step + 1).toNat < 3 := by omega
  have c3 : (t.side + 1).toNat < 3 := by omega
  have c4 : t.na.toNat < 16 := by omega
  have c5 : t.nb.toNat < 16 := by omega
  unfold codeP at h
  obtain ⟨h, e5⟩ := pair_inj h a5 c5
  obtain ⟨h, e4⟩ := pair_inj h a4 c4
  obtain ⟨h, e3⟩ := pair_inj h a3 c3
  obtain ⟨h, e2⟩ := pair_inj h a2 c2
  obtain ⟨h, e1⟩ := pair_inj h a1 c1
  rw [Past.eq_iff]
  refine ⟨?_, by clear h; omega, by clear h; omega, by clear h; omega, by clear h; omega, by clear h; omega⟩
  cases hs1 : s.begun <;> cases ht1 : t.begun <;> simp_all
theorem codeP_lt {k : Nat} (hk : k ≤ 15) {s : Past} (hs : PaB k s) : codeP s < 41472 := by
  obtain ⟨s1, s2, s3, s4, s5⟩ := hs
  have h0 : (if s.begun then 1 else 0) < (2 : Nat) := by split <;> omega
  have h1 := pair_lt h0 (show (s.cls + 4).toNat < 9 by omega)
  have h2 := pair_lt h1 (show (s.step + 1).toNat < 3 by omega)
  have h3 := pair_lt h2 (show (s.side + 1).toNat < 3 by omega)
  have h4 := pair_lt h3 (show s.na.toNat < 16 by omega)
  exact pair_lt h4 (show s.nb.toNat < 16 by omega)
theorem pasts_few {k : Nat} {l : List Past} (hk : k ≤ 15) (hn : l.Nodup) (h : ∀ p ∈ l, PaB k p) : l.length ≤ 41472 := by
  have h1 : (l.map codeP).Nodup := by
    unfold List.Nodup
    rw [List.pairwise_map]
    exact List.Pairwise.imp_of_mem (fun {s t} hs ht hne he => hne (codeP_inj hk (h s hs) (h t ht) he)) hn
  have h2 := count_le 41472 (l.map codeP) h1 (fun x hx => by
    obtain ⟨s, hs, rfl⟩ := List.mem_map.1 hx
    exact codeP_lt hk (h s hs))
  rwa [List.length_map] at h2
theorem pointP_bounds (r : Nat) {k : Nat} {x : List Past × Bool} {cs : List Int} (hx : ∀ p ∈ x.1, PaB k p) (hc : okC cs) : ∀ p ∈ (pointP r x cs).1, PaB (k + 1) p := fun p hp => by
  unfold pointP at hp
  rw [mem_midP] at hp
  rcases hp with hp | ⟨q, hq, c, hcc, _, rfl⟩
  · cases hp
  · exact pastN_bounds r (hx q hq) (hc c hcc)
theorem allP_bounds (r : Nat) : ∀ (pts : List (List Int)) (k : Nat) (x : List Past × Bool), (∀ p ∈ x.1, PaB k p) → (∀ cs ∈ pts, okC cs) → ∀ p ∈ (allP r x pts).1, PaB (k + pts.length) p
  | [], _, _, h, _ => h
  | cs :: pts, k, x, h, hc => by
    have := allP_bounds r pts (k + 1) (pointP r x cs) (pointP_bounds r h (hc cs (by simp))) (fun y hy => hc y (by simp [hy]))
    rw [List.length_cons, show k + (pts.length + 1) = k + 1 + pts.length by omega]
    exact this
theorem allP_nodup (r : Nat) : ∀ (pts : List (List Int)) (x : List Past × Bool), x.1.Nodup → (allP r x pts).1.Nodup
  | [], _, h => h
  | cs :: pts, x, _ => allP_nodup r pts _ (nodup_midP r cs x.1 List.nodup_nil)
theorem start_bounds (r : Nat) {pts : List (List Int)} (hc : ∀ cs ∈ pts, okC cs) : ∀ p ∈ (allP r startP pts).1, PaB pts.length p := by
  have := allP_bounds r pts 0 startP (fun p hp => by
    obtain rfl : p = past0 := by simpa [startP] using hp
    unfold PaB past0
    dsimp only
    omega) hc
  rwa [Nat.zero_add] at this
theorem start_few (r : Nat) {pts : List (List Int)} (hc : ∀ cs ∈ pts, okC cs) (h : pts.length ≤ 15) : (allP r startP pts).1.length ≤ 41472 := pasts_few h (allP_nodup r pts startP (by simp [startP])) (start_bounds r hc)
/-- However far a round has come, there are few pasts. -/
theorem interP_few (r i : Nat) {ps : List Past} (b : Bool) (hps : ∀ p ∈ ps, PaB i p) (hi : i + 1 ≤ 15) {cs : List Int} (hc : okC cs) (j k : Nat) {p : Past} (hp : p ∈ ps) : (innerP r p (midP r cs ([], b) (ps.take j)) (cs.take k)).1.length ≤ 41472 := by
  refine pasts_few hi (nodup_innerP r p _ (nodup_midP r cs _ List.nodup_nil)) fun x hx => ?_
  rw [mem_innerP, mem_midP] at hx
  rcases hx with (hx | ⟨q, hq, c, hcc, _, rfl⟩) | ⟨c, hcc, _, rfl⟩
  · cases hx
  · exact pastN_bounds r (hps q (List.mem_of_mem_take hq)) (hc c hcc)
  · exact pastN_bounds r (hps p hp) (hc c (List.mem_of_mem_take hcc))
end Go.Proofs.Ytjonpcpcokapkaa
