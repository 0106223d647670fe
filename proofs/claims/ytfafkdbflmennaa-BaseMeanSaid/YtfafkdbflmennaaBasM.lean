/- Bases of rows, as numbers: what the laws of stage 15 say. -/
import Derived.Test.YtfafkdbflmennaaBasN
namespace Go.Proofs.Ytfafkdbflmennaa

theorem mulB {a b A B : Int} (ha : -A ≤ a ∧ a ≤ A) (hb : -B ≤ b ∧ b ≤ B) : -(A * B) ≤ a * b ∧ a * b ≤ A * B := by
  have h : (a * b).natAbs ≤ A.natAbs * B.natAbs := by
    rw [Int.natAbs_mul]
    exact Nat.mul_le_mul (by omega) (by omega)
  have hA : (A.natAbs : Int) = A := by omega
  have hB : (B.natAbs : Int) = B := by omega
  have h2 : ((a * b).natAbs : Int) ≤ A * B := by
    rw [← hA, ← hB, ← Int.natCast_mul]
    exact Int.ofNat_le.2 h
  omega
/-! ### A base of rows -/
def rsum : List (List Int) → Int
  | [] => 0
  | l :: r => ssum l + rsum r
theorem rsum_cons (l : List Int) (r : List (List Int)) : rsum (l :: r) = ssum l + rsum r := rfl
theorem rsum_append : ∀ a b : List (List Int), rsum (a ++ b) = rsum a + rsum b
  | [], b => by simp [rsum]
  | l :: a, b => by
    rw [List.cons_append, rsum_cons, rsum_cons, rsum_append a b]
    omega
theorem rsum_snoc (a : List (List Int)) (l : List Int) : rsum (a ++ [l]) = rsum a + ssum l := by rw [rsum_append]; simp [rsum]
def madeN (size : Int) (rows : List (List Int)) : Bas := rows.foldl takeN ⟨size, 0, 0, 0, 0⟩
theorem made_snoc (size : Int) (rows : List (List Int)) (l : List Int) : madeN size (rows ++ [l]) = takeN (madeN size rows) l := by unfold madeN; rw [List.foldl_append]; rfl
def rowsOk (size : Int) (rows : List (List Int)) : Prop := ∀ l ∈ rows, (l.length : Int) = size ∧ inB l = true
theorem made_size (size : Int) : ∀ rows : List (List Int), (madeN size rows).size = size ∧ (madeN size rows).m = (rows.length : Int) ∧ (madeN size rows).sum = rsum rows := by
  have gen : ∀ (rows : List (List Int)) (b : Bas), (rows.foldl takeN b).size = b.size ∧ (rows.foldl takeN b).m = b.m + (rows.length : Int) ∧ (rows.foldl takeN b).sum = b.sum + rsum rows := by
    intro rows
    induction rows with
    | nil => intro b; simp [rsum]
    | cons l r ih =>
      intro b
      obtain ⟨h1, h2, h3⟩ := ih (takeN b l)
      rw [List.foldl_cons, h1, h2, h3, List.length_cons]
      refine ⟨rfl, ?_, ?_⟩
      · show b.m + 1 + _ = _; omega
      · rw [rsum_cons]; show b.sum + ssum l + _ = _; omega
  intro rows
  have := gen rows ⟨size, 0, 0, 0, 0⟩
  unfold madeN
  dsimp only at this
  omega
theorem new_ok {size : Int} (h1 : 1 ≤ size) (h2 : size ≤ 10) : basOk ⟨size, 0, 0, 0, 0⟩ := by
  unfold basOk stpN
  dsimp only
  refine ⟨⟨h1, h2, by omega, by omega, by omega, by omega, fun _ => rfl⟩, by omega, by omega, ?_⟩
  split <;> omega
theorem made_ok {size : Int} (h1 : 1 ≤ size) (h2 : size ≤ 10) (rows : List (List Int)) (hr : rowsOk size rows) (hl : rows.length ≤ 25) : basOk (madeN size rows) := by
  have : ∀ k, k ≤ rows.length → basOk (madeN size (rows.take k)) := by
    intro k
    induction k with
    | zero => intro _; exact new_ok h1 h2
    | succ k ih =>
      intro hk
      have hx : rows[k]? = some rows[k] := List.getElem?_eq_getElem (by omega)
      have e : rows.take (k + 1) = rows.take k ++ [rows[k]] := by rw [List.take_add_one, hx]; rfl
      rw [e, made_snoc]
      have hs := made_size size (rows.take k)
      refine take_ok (ih (by omega)) ?_ (by rw [hs.2.1, List.length_take]; omega)
      have := hr rows[k] (List.getElem_mem _)
      unfold rowB
      rw [hs.1, decide_eq_true this.1, this.2]
      rfl
  have := this rows.length (Nat.le_refl _)
  rwa [List.take_length] at this
theorem made_row {size : Int} {rows : List (List Int)} {l : List Int} (h : (l.length : Int) = size ∧ inB l = true) : rowB (madeN size rows) l = true := by
  unfold rowB
  rw [(made_size size rows).1, decide_eq_true h.1, h.2]
  rfl
/-! ### Points -/
theorem point_mean {b : Bas} (hb : basOk b) (hm : 2 ≤ b.m) (s t : Int) : 1 ≤ (pntN b s).den ∧ (pntN b s).den = (pntN b t).den ∧ (pntN b s).center = (pntN b t).center ∧ (pntN b s).var = (pntN b t).var ∧
    ((pntN b s).center + (pntN b s).dev) * b.size = s * (pntN b s).den ∧ (pntN b s).center * b.m * b.size = b.sum * (pntN b s).den ∧ ((pntN b s).dev = 0 ↔ s * b.m = b.sum) ∧ ((pntN b s).dev - (pntN b t).dev) * b.size = (s - t) * (pntN b s).den := by
  have h1 := hb.1.1
  unfold pntN
  by_cases k : b.size = 1
  · rw [if_pos k, if_pos k]
    dsimp only
    rw [k]
    obtain ⟨m, hmm⟩ : ∃ m, b.m = m := ⟨_, rfl⟩
    rw [hmm] at hm ⊢
    have hp : 0 < m * (m - 1) := Int.mul_pos (by omega) (by omega)
    refine ⟨?_, rfl, rfl, rfl, by grind, by grind, ?_, by grind⟩
    · have : 11280 * m * (m - 1) = 11280 * (m * (m - 1)) := by grind
      omega
    · constructor
      · intro h
        rcases Int.mul_eq_zero.1 h with h | h
        · omega
        · omega
      · intro h
        rw [h, Int.sub_self, Int.mul_zero]
  · rw [if_neg k, if_neg k]
    dsimp only
    have hp : 0 < b.m * b.size := Int.mul_pos (by omega) (by omega)
    refine ⟨?_, rfl, rfl, rfl, by grind, by grind, by omega, by grind⟩
    have : 30000 * b.m * b.size = 30000 * (b.m * b.size) := by grind
    omega
theorem sum_bounds {b : Bas} (hb : basOk b) : -250000000 ≤ b.sum ∧ b.sum ≤ 250000000 := by
  have h := ms_bounds hb
  obtain ⟨_, ⟨c1, c2⟩, _⟩ := hb
  generalize b.m * b.size = P at *
  omega
theorem point_bounds {b : Bas} (hb : basOk b) (hm : 2 ≤ b.m) {s : Int} (hs : -10000000 ≤ s ∧ s ≤ 10000000) : (0 ≤ (pntN b s).den ∧ (pntN b s).den ≤ 7500000) ∧ (-169200000000000 ≤ (pntN b s).center ∧ (pntN b s).center ≤ 169200000000000) ∧ (-169200000000000 ≤ (pntN b s).dev ∧ (pntN b s).dev ≤ 169200000000000) := by
  have hu := sum_bounds hb
  have hP := ms_bounds hb
  have h1 := (point_mean hb hm s s).1
  obtain ⟨⟨b1, b2, b3, b4, _⟩, _, _⟩ := hb
  have hsm := mulB hs (show -25 ≤ b.m ∧ b.m ≤ 25 by omega)
  refine ⟨⟨by omega, ?_⟩, ?_, ?_⟩
  all_goals
    unfold pntN
    by_cases k : b.size = 1
    · rw [if_pos k]
      dsimp only
      have hw := mulB (show -25 ≤ b.m ∧ b.m ≤ 25 by omega) (show -24 ≤ b.m - 1 ∧ b.m - 1 ≤ 24 by omega)
      have hc := mulB (show -24 ≤ b.m - 1 ∧ b.m - 1 ≤ 24 by omega) hu
      have hd := mulB (show -24 ≤ b.m - 1 ∧ b.m - 1 ≤ 24 by omega) (show -500000000 ≤ s * b.m - b.sum ∧ s * b.m - b.sum ≤ 500000000 by omega)
      rw [Int.mul_assoc]
      first | (generalize b.m * (b.m - 1) = X at *; omega) | (generalize (b.m - 1) * b.sum = X at *; omega) | (generalize (b.m - 1) * (s * b.m - b.sum) = X at *; omega)
    · rw [if_neg k]
      dsimp only
      first | (rw [Int.mul_assoc]; generalize b.m * b.size = X at *; omega) | omega
/-! ### Wide -/
theorem fac2_row : ∀ j, j < 9 → 10000 < fac 2 j := by decide
theorem fac1_row : ∀ j, j < 9 → fac 1 j < 10000 ∧ 0 ≤ fac 1 j := by decide
theorem nWide_row {b : Bas} (hb : basOk b) : (nWide b - 2).toNat < 9 ∧ 2 ≤ nWide b ∧ nWide b ≤ 10 := by
  have h1 := hb.1.1
  have h2 := hb.1.2.1
  unfold nWide
  split <;> omega
theorem wide_tri (b : Bas) (r : Int) : -1 ≤ wideN b r ∧ wideN b r ≤ 1 := by unfold wideN; split; omega; split <;> omega
theorem mWide_bounds {b : Bas} (hb : basOk b) (hm : 2 ≤ b.m) : 1 ≤ mWide b ∧ mWide b ≤ 25 ∧ mWide b = stpN b := by
  have := hb.1.2.2.2.1
  unfold mWide stpN
  split <;> omega
theorem wide_mono {b : Bas} (hb : basOk b) (hm : 2 ≤ b.m) {r t : Int} (h : r ≤ t) : wideN b r ≤ wideN b t := by
  have hw := (mWide_bounds hb hm).1
  have h2 : r * mWide b * 10000 ≤ t * mWide b * 10000 := by
    have := Int.mul_le_mul_of_nonneg_right h (show 0 ≤ mWide b by omega)
    omega
  unfold wideN
  generalize r * mWide b * 10000 = A at *
  generalize t * mWide b * 10000 = B at *
  generalize fac 2 (nWide b - 2).toNat * b.rng = C
  generalize fac 1 (nWide b - 2).toNat * b.rng = D
  split <;> split <;> (try split) <;> (try split) <;> omega
theorem wide_zero {b : Bas} (hb : basOk b) (hm : 2 ≤ b.m) (hr : b.rng = 0) {r : Int} (h : 0 ≤ r) : (r = 0 ↔ wideN b r = 0) ∧ 0 ≤ wideN b r := by
  have hw := (mWide_bounds hb hm).1
  unfold wideN
  rw [hr, Int.mul_zero, Int.mul_zero]
  by_cases k : r = 0
  · subst k
    simp
  · have : 0 < r * mWide b := Int.mul_pos (by omega) (by omega)
    rw [if_pos (by omega)]
    omega
theorem wide_mean {b : Bas} (hb : basOk b) (hr : 0 < b.rng) {r : Int} (h : r * mWide b = b.rng) : wideN b r = 0 := by
  have hn := (nWide_row hb).1
  have h2 := fac2_row _ hn
  have h1 := fac1_row _ hn
  unfold wideN
  rw [h]
  have a2 : 10000 * b.rng ≤ fac 2 (nWide b - 2).toNat * b.rng := Int.mul_le_mul_of_nonneg_right (by omega) (by omega)
  have a1 : fac 1 (nWide b - 2).toNat * b.rng ≤ 10000 * b.rng := Int.mul_le_mul_of_nonneg_right (by omega) (by omega)
  rw [if_neg (by omega), if_neg (by omega)]
/-! ### What is added to all samples; the other order -/
def spanN (l : List Int) : Int := lmax l - lmin l
def adjS : List Int → Int
  | [] => 0
  | x :: r => sumI (stepsF x r)
theorem adjS_cons (x : Int) (r : List Int) : adjS (x :: r) = sumI (stepsF x r) := rfl
theorem adjS_snoc (x : Int) (r : List Int) (y : Int) : adjS (x :: r ++ [y]) = adjS (x :: r) + distI (lastF x r) y := by
  rw [List.cons_append, adjS_cons, adjS_cons, stepsF_append, sumI_append]
  simp [stepsF, sumI]
def rspan : List (List Int) → Int
  | [] => 0
  | l :: r => spanN l + rspan r
theorem rspan_cons (l : List Int) (r : List (List Int)) : rspan (l :: r) = spanN l + rspan r := rfl
theorem rspan_append : ∀ a b : List (List Int), rspan (a ++ b) = rspan a + rspan b
  | [], b => by simp [rspan]
  | l :: a, b => by
    rw [List.cons_append, rspan_cons, rspan_cons, rspan_append a b]
    omega
theorem rsum_rev : ∀ a : List (List Int), rsum (a.reverse.map List.reverse) = rsum a
  | [] => rfl
  | l :: a => by
    rw [List.reverse_cons, List.map_append, rsum_append, rsum_rev a, rsum_cons]
    show rsum a + rsum [l.reverse] = _
    rw [rsum_cons, ssum_rev]
    show rsum a + (ssum l + 0) = _
    omega
theorem rspan_rev : ∀ a : List (List Int), rspan (a.reverse.map List.reverse) = rspan a
  | [] => rfl
  | l :: a => by
    rw [List.reverse_cons, List.map_append, rspan_append, rspan_rev a, rspan_cons]
    show rspan a + rspan [l.reverse] = _
    rw [rspan_cons, show spanN l.reverse = spanN l by unfold spanN; rw [lmin_rev, lmax_rev]]
    show rspan a + (spanN l + 0) = _
    omega
/-- Of rows of more than one sample the ranges are all spans. -/
theorem made_rng {size : Int} (h : size ≠ 1) : ∀ rows : List (List Int), (madeN size rows).rng = rspan rows := by
  have gen : ∀ (rows : List (List Int)) (b : Bas), b.size ≠ 1 → (rows.foldl takeN b).rng = b.rng + rspan rows := by
    intro rows
    induction rows with
    | nil => intro b _; simp [rspan]
    | cons l r ih =>
      intro b hb
      rw [List.foldl_cons, ih (takeN b l) hb]
      show b.rng + rngN b l + _ = _
      unfold rngN
      rw [if_neg (fun x => hb x.1), rspan_cons]
      unfold spanN
      omega
  intro rows
  have := gen rows ⟨size, 0, 0, 0, 0⟩ h
  unfold madeN
  rw [this]
  show 0 + _ = _
  omega
def firsts (rows : List (List Int)) : List Int := rows.map fun l => l.getD 0 0
/-- Of single samples they are all steps. -/
theorem made_single : ∀ rows : List (List Int), rowsOk 1 rows → (madeN 1 rows).rng = adjS (firsts rows) ∧ (madeN 1 rows).last = (match firsts rows with | [] => 0 | x :: r => lastF x r) := by
  intro rows
  induction hn : rows.length generalizing rows with
  | zero =>
    intro _
    have : rows = [] := List.eq_nil_of_length_eq_zero hn
    subst this
    exact ⟨rfl, rfl⟩
  | succ n ih =>
    intro hr
    obtain ⟨a, l, rfl⟩ : ∃ a l, rows = a ++ [l] := ⟨rows.dropLast, rows.getLast (by rintro rfl; simp at hn), (List.dropLast_concat_getLast _).symm⟩
    have hla : a.length = n := by simpa using hn
    obtain ⟨h1, h2⟩ := ih a hla (fun x hx => hr x (by simp [hx]))
    have hl := (hr l (by simp)).1
    obtain ⟨y, rfl⟩ : ∃ y, l = [y] := List.length_eq_one_iff.1 (by omega)
    rw [made_snoc]
    have hs := made_size 1 a
    have ef : firsts (a ++ [[y]]) = firsts a ++ [y] := by unfold firsts; rw [List.map_append]; rfl
    rw [ef]
    constructor
    · show (madeN 1 a).rng + rngN (madeN 1 a) [y] = _
      rw [h1]
      unfold rngN
      rw [hs.1, hs.2.1, h2]
      cases a with
      | nil =>
        rw [if_neg (by simp)]
        rw [lmax_one]
        rfl
      | cons u a =>
        rw [if_pos ⟨rfl, by rw [List.length_cons]; omega⟩]
        show _ + distI (lastF _ _) y = _
        unfold firsts
        rw [List.map_cons, adjS_snoc]
    · show y = _
      cases hf : firsts a with
      | nil => rfl
      | cons x r =>
        rw [List.cons_append]
        show y = lastF x (r ++ [y])
        rw [lastF_snoc]
theorem adjS_rev (l : List Int) : adjS l.reverse = adjS l := by
  cases l with
  | nil => rfl
  | cons a r =>
    have h := stepsF_rev a r
    cases hl : (a :: r).reverse with
    | nil => simp at hl
    | cons x q =>
      have hx : x = lastF a r := by
        have e : (a :: r).reverse.head? = some x := by rw [hl]; rfl
        rw [List.head?_reverse] at e
        have gen : ∀ (r : List Int) (a : Int), (a :: r).getLast? = some (lastF a r) := by
          intro r
          induction r with
          | nil => intro a; rfl
          | cons y r ih => intro a; rw [List.getLast?_cons_cons, ih y]; rfl
        rw [gen r a] at e
        injection e with e
        exact e.symm
      rw [hl] at h
      rw [adjS_cons, adjS_cons, hx]
      have e2 : (x :: q).drop 1 = q := rfl
      rw [e2] at h
      rw [h, sumI_rev]
theorem distI_add (a b c : Int) : distI (a + c) (b + c) = distI a b := by unfold distI; omega
theorem stepsF_add (c : Int) : ∀ (r : List Int) (a : Int), stepsF (a + c) (r.map (· + c)) = stepsF a r
  | [], a => rfl
  | x :: r, a => by
    rw [List.map_cons]
    show distI (a + c) (x + c) :: stepsF (x + c) (r.map (· + c)) = _
    rw [distI_add, stepsF_add c r x]
    rfl
theorem adjS_add (c : Int) (l : List Int) : adjS (l.map (· + c)) = adjS l := by
  cases l with
  | nil => rfl
  | cons a r => rw [List.map_cons, adjS_cons, adjS_cons, stepsF_add]
def addR (c : Int) (rows : List (List Int)) : List (List Int) := rows.map fun l => l.map (· + c)
def turnR (rows : List (List Int)) : List (List Int) := rows.reverse.map List.reverse
theorem rspan_add (c : Int) : ∀ rows : List (List Int), (∀ l ∈ rows, l ≠ []) → rspan (addR c rows) = rspan rows
  | [], _ => rfl
  | l :: r, h => by
    unfold addR
    rw [List.map_cons]
    show spanN (l.map (· + c)) + rspan (addR c r) = spanN l + rspan r
    rw [rspan_add c r (fun x hx => h x (by simp [hx]))]
    unfold spanN
    rw [lmin_add c (h l (by simp)), lmax_add c (h l (by simp))]
    omega
theorem rsum_add (c size : Int) : ∀ rows : List (List Int), (∀ l ∈ rows, (l.length : Int) = size) → rsum (addR c rows) = rsum rows + c * size * (rows.length : Int)
  | [], _ => by simp [addR, rsum]
  | l :: r, h => by
    unfold addR
    rw [List.map_cons]
    show ssum (l.map (· + c)) + rsum (addR c r) = ssum l + rsum r + _
    rw [rsum_add c size r (fun x hx => h x (by simp [hx])), ssum_add, h l (by simp), List.length_cons]
    have : c * size * ((r.length + 1 : Nat) : Int) = c * size * (r.length : Int) + c * size := by rw [Int.natCast_add, Int.mul_add]; simp
    omega
theorem firsts_add (c : Int) (rows : List (List Int)) (h : ∀ l ∈ rows, l ≠ []) : firsts (addR c rows) = (firsts rows).map (· + c) := by
  unfold firsts addR
  rw [List.map_map, List.map_map]
  refine List.map_congr_left fun l hl => ?_
  cases l with
  | nil => exact absurd rfl (h [] hl)
  | cons x r => rfl
theorem made_shift {size c : Int} (h1 : 1 ≤ size) {rows : List (List Int)} (hr : rowsOk size rows) (hr2 : rowsOk size (addR c rows)) :
    (madeN size (addR c rows)).rng = (madeN size rows).rng ∧ (madeN size (addR c rows)).m = (madeN size rows).m ∧ (madeN size (addR c rows)).sum = (madeN size rows).sum + c * size * (madeN size rows).m := by
  have hne : ∀ l ∈ rows, l ≠ [] := fun l hl => by
    have := (hr l hl).1
    rintro rfl
    simp at this
    omega
  have s1 := made_size size rows
  have s2 := made_size size (addR c rows)
  have hlen : (addR c rows).length = rows.length := by unfold addR; rw [List.length_map]
  refine ⟨?_, by rw [s1.2.1, s2.2.1, hlen], by rw [s1.2.2, s2.2.2, s1.2.1, rsum_add c size rows (fun l hl => (hr l hl).1)]⟩
  by_cases k : size = 1
  · subst k
    rw [(made_single rows hr).1, (made_single _ hr2).1, firsts_add c rows hne, adjS_add]
  · rw [made_rng k, made_rng k, rspan_add c rows hne]
theorem firsts_turn {rows : List (List Int)} (hr : rowsOk 1 rows) : firsts (turnR rows) = (firsts rows).reverse := by
  unfold firsts turnR
  rw [List.map_map, ← List.map_reverse]
  refine List.map_congr_left fun l hl => ?_
  have := (hr l (by simpa using hl)).1
  obtain ⟨y, rfl⟩ : ∃ y, l = [y] := List.length_eq_one_iff.1 (by omega)
  rfl
theorem made_turn {size : Int} {rows : List (List Int)} (hr : rowsOk size rows) (hr2 : rowsOk size (turnR rows)) :
    (madeN size (turnR rows)).rng = (madeN size rows).rng ∧ (madeN size (turnR rows)).m = (madeN size rows).m ∧ (madeN size (turnR rows)).sum = (madeN size rows).sum := by
  have s1 := made_size size rows
  have s2 := made_size size (turnR rows)
  have hlen : (turnR rows).length = rows.length := by unfold turnR; rw [List.length_map, List.length_reverse]
  refine ⟨?_, by rw [s1.2.1, s2.2.1, hlen], by rw [s1.2.2, s2.2.2]; exact rsum_rev rows⟩
  by_cases k : size = 1
  · subst k
    rw [(made_single rows hr).1, (made_single _ hr2).1, firsts_turn hr, adjS_rev]
  · rw [made_rng k, made_rng k]
    exact rspan_rev rows
/-- A point of the moved base is as far from the middle. -/
theorem point_shift {a b : Bas} {c : Int} (hs : a.size = b.size) (hr : b.rng = a.rng) (hm : b.m = a.m) (hu : b.sum = a.sum + c * a.size * a.m) (s : Int) :
    (pntN b (s + c * a.size)).dev = (pntN a s).dev ∧ (pntN b (s + c * a.size)).var = (pntN a s).var ∧ (pntN b (s + c * a.size)).den = (pntN a s).den ∧ (pntN b (s + c * a.size)).center = (pntN a s).center + c * (pntN a s).den := by
  have hroot : rootN b = rootN a := by unfold rootN; rw [hs, hr, hm]
  unfold pntN
  rw [← hs, hroot, hm, hu]
  by_cases k : a.size = 1
  · rw [if_pos k, if_pos k]
    dsimp only
    rw [k]
    refine ⟨by grind, rfl, rfl, by grind⟩
  · rw [if_neg k, if_neg k]
    dsimp only
    refine ⟨by grind, rfl, rfl, by grind⟩
theorem wide_same {a b : Bas} (hs : a.size = b.size) (hr : b.rng = a.rng) (hm : b.m = a.m) (r : Int) : wideN b r = wideN a r := by
  unfold wideN nWide mWide
  rw [← hs, hr, hm]
end Go.Proofs.Ytfafkdbflmennaa
