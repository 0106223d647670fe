/- The other side of the middle; one mask parted in two; the last points alone. -/
import Derived.Test.YtjonpcpcokapkaaNelS
namespace Go.Proofs.Ytjonpcpcokapkaa

/-! ### The other side -/
def flipS (s : Seen) : Seen := ⟨s.n, s.b, s.a, -s.last⟩
theorem next_flip {r : Nat} (h7 : r ≠ 7) (h8 : r ≠ 8) (s : Seen) (c : Int) : nextN r (flipS s) (-c) = flipS (nextN r s c) := by
  have e1 : upN (flipS s) (-c) = downN s c := by
    unfold upN downN flipS
    dsimp only
    rw [show decide (-s.last < -c) = decide (c < s.last) from decide_eq_decide.2 (by omega)]
  have e2 : downN (flipS s) (-c) = upN s c := by
    unfold upN downN flipS
    dsimp only
    rw [show decide (-c < -s.last) = decide (s.last < c) from decide_eq_decide.2 (by omega)]
  have e3 : swN r (flipS s) = swN r s := rfl
  have e4 : upR r (flipS s) (-c) = downR r s c := by unfold upR downR; rw [e1, e2, e3]
  have e5 : downR r (flipS s) (-c) = upR r s c := by unfold upR downR; rw [e1, e2, e3]
  unfold nextN
  by_cases h34 : r = 3 ∨ r = 4
  · rw [if_pos h34, if_pos h34, e4, e5]
    rfl
  · rw [if_neg h34, if_neg h34, if_neg h7, if_neg h7, if_neg h8, if_neg h8]
    unfold flipS
    dsimp only
    rw [show decide (fromN r ≤ -c) = decide (c ≤ 0 - fromN r) from decide_eq_decide.2 (by omega), show decide (-c ≤ 0 - fromN r) = decide (fromN r ≤ c) from decide_eq_decide.2 (by omega)]
    rfl
theorem next_same {r : Nat} (h : r = 7 ∨ r = 8) (s : Seen) (c : Int) : nextN r s (-c) = nextN r s c := by
  unfold nextN
  have h34 : ¬ (r = 3 ∨ r = 4) := by omega
  simp only [if_neg h34]
  rcases h with rfl | rfl
  · simp only [if_true]
    rw [show decide (-1 ≤ -c) = decide (c ≤ 1) from decide_eq_decide.2 (by omega), show decide (-c ≤ 1) = decide (-1 ≤ c) from decide_eq_decide.2 (by omega), Bool.and_comm]
  · simp only [show ¬ (8 : Nat) = 7 by omega, if_false, if_true]
    rw [show decide (2 ≤ -c) = decide (c ≤ -2) from decide_eq_decide.2 (by omega), show decide (-c ≤ -2) = decide (2 ≤ c) from decide_eq_decide.2 (by omega), Bool.or_comm]
theorem fold_flip {r : Nat} (h7 : r ≠ 7) (h8 : r ≠ 8) : ∀ (l : List Int) (s : Seen), (l.map (fun c => -c)).foldl (nextN r) (flipS s) = flipS (l.foldl (nextN r) s)
  | [], _ => rfl
  | c :: l, s => by
    rw [List.map_cons, List.foldl_cons, List.foldl_cons, next_flip h7 h8, fold_flip h7 h8 l]
theorem fold_same {r : Nat} (h : r = 7 ∨ r = 8) : ∀ (l : List Int) (s : Seen), (l.map (fun c => -c)).foldl (nextN r) s = l.foldl (nextN r) s
  | [], _ => rfl
  | c :: l, s => by
    rw [List.map_cons, List.foldl_cons, List.foldl_cons, next_same h, fold_same h l]
theorem row_flip (r : Nat) (l : List Int) : rowN r (l.map (fun c => -c)) = rowN r l := by
  unfold rowN
  by_cases h : r = 7 ∨ r = 8
  · rw [fold_same h]
  · have e := fold_flip (r := r) (by omega) (by omega) l seen0
    rw [show flipS seen0 = seen0 from rfl] at e
    rw [e]
    unfold holdsN flipS
    dsimp only
    rw [Bool.or_comm]
/-- A mask on the other side. -/
def turnN (m : Int) : Int := ([-4, -3, -2, -1, 0, 1, 2, 3, 4].filter (bitB m)).foldl (fun x c => x + ((2 ^ (4 - c).toNat : Nat) : Int)) 0
theorem turn_tab : ∀ m : Fin 512, 1 ≤ m.val → (1 ≤ turnN (m.val : Int) ∧ turnN (m.val : Int) ≤ 511) ∧ ∀ c : Fin 9, bitB (turnN (m.val : Int)) ((c.val : Int) - 4) = bitB (m.val : Int) (4 - (c.val : Int)) := by decide +kernel
theorem turn_bounds {m : Int} (h : 1 ≤ m ∧ m ≤ 511) : 1 ≤ turnN m ∧ turnN m ≤ 511 := by
  have := (turn_tab ⟨m.toNat, by omega⟩ (by show 1 ≤ m.toNat; omega)).1
  have e : ((m.toNat : Nat) : Int) = m := by omega
  dsimp only at this
  rwa [e] at this
theorem mem_classes (m c : Int) : c ∈ classesN m ↔ bitB m c = true := by
  unfold classesN
  rw [List.mem_filter]
  constructor
  · exact fun h => h.2
  · intro h
    refine ⟨?_, h⟩
    unfold bitB at h
    rw [Bool.and_eq_true, Bool.and_eq_true] at h
    have := of_decide_eq_true h.2.1
    simp only [List.mem_cons, List.not_mem_nil, or_false]
    omega
theorem turn_bit {m : Int} (h : 1 ≤ m ∧ m ≤ 511) (c : Int) : c ∈ classesN (turnN m) ↔ -c ∈ classesN m := by
  rw [mem_classes, mem_classes]
  by_cases hc : -4 ≤ c ∧ c ≤ 4
  · have := (turn_tab ⟨m.toNat, by omega⟩ (by show 1 ≤ m.toNat; omega)).2 ⟨(c + 4).toNat, by omega⟩
    have e : ((m.toNat : Nat) : Int) = m := by omega
    have e2 : (((c + 4).toNat : Nat) : Int) - 4 = c := by omega
    have e3 : 4 - (((c + 4).toNat : Nat) : Int) = -c := by omega
    dsimp only at this
    rw [e, e2, e3] at this
    rw [this]
  · have f : ∀ (m c : Int), ¬ (-4 ≤ c ∧ c ≤ 4) → bitB m c = false := fun m c h => by unfold bitB; rw [decide_eq_false h]; simp
    rw [f _ c hc, f _ (-c) (by omega)]
theorem OfM_turn : ∀ {ms : List Int} (row : List Int), okM ms → (OfM row (ms.map turnN) ↔ OfM (row.map (fun c => -c)) ms)
  | [], [], _ => Iff.rfl
  | [], _ :: _, _ => Iff.rfl
  | _ :: _, [], _ => Iff.rfl
  | m :: ms, c :: row, h => by
    show (c ∈ classesN (turnN m) ∧ OfM row (ms.map turnN)) ↔ (-c ∈ classesN m ∧ OfM (row.map (fun c => -c)) ms)
    rw [turn_bit (h m (by simp)), OfM_turn (ms := ms) row (fun x hx => h x (by simp [hx]))]
theorem neg_neg_map (l : List Int) : (l.map (fun c => -c)).map (fun c => -c) = l := by
  rw [List.map_map]
  conv => rhs; rw [← List.map_id l]
  apply List.map_congr_left
  intro x _
  show - -x = x
  omega
theorem tell_turn {r : Nat} {ms : List Int} (h : okM ms) : tellN r (ms.map turnN) = tellN r ms := by
  unfold tellN
  rw [List.length_map]
  split
  · rfl
  · have e : lastK (longN r) (ms.map turnN) = (lastK (longN r) ms).map turnN := by unfold lastK; rw [List.length_map, List.map_drop]
    have ho := h.lastK (longN r)
    rw [e]
    refine tellG_congr _ _ _ _ (fun x hx => ⟨x.map (fun c => -c), ?_, row_flip r x⟩) (fun y hy => ⟨y.map (fun c => -c), ?_, row_flip r y⟩)
    · exact (mem_rowsN _ _).2 ((OfM_turn x ho).1 ((mem_rowsN _ _).1 hx))
    · refine (mem_rowsN _ _).2 ((OfM_turn _ ho).2 ?_)
      rw [neg_neg_map]
      exact (mem_rowsN _ _).1 hy
/-! ### One mask, parted in two -/
def Parts (m a b : Int) : Prop := ∀ c, c ∈ classesN m ↔ c ∈ classesN a ∨ c ∈ classesN b
theorem OfM_parts {m a b : Int} (h : Parts m a b) : ∀ (pre post row : List Int), OfM row (pre ++ m :: post) ↔ OfM row (pre ++ a :: post) ∨ OfM row (pre ++ b :: post)
  | [], post, [] => by simp [OfM]
  | [], post, c :: row => by
    show (c ∈ classesN m ∧ OfM row post) ↔ (c ∈ classesN a ∧ OfM row post) ∨ (c ∈ classesN b ∧ OfM row post)
    rw [h c]
    exact or_and_right
  | x :: pre, post, [] => by simp [OfM]
  | x :: pre, post, c :: row => by
    show (c ∈ classesN x ∧ OfM row (pre ++ m :: post)) ↔ (c ∈ classesN x ∧ OfM row (pre ++ a :: post)) ∨ (c ∈ classesN x ∧ OfM row (pre ++ b :: post))
    rw [OfM_parts h pre post row]
    exact and_or_left
theorem tellG_parts {α : Type} (H : α → Bool) {R S T : List α} (h : ∀ x, x ∈ R ↔ x ∈ S ∨ x ∈ T) (hs : S ≠ []) (ht : T ≠ []) : tellG H R = if tellG H S = tellG H T then tellG H S else 1 := by
  have e1 : R.any H = (S.any H || T.any H) := by
    rw [Bool.eq_iff_iff, Bool.or_eq_true, List.any_eq_true, List.any_eq_true, List.any_eq_true]
    constructor
    · rintro ⟨x, hx, hh⟩; exact ((h x).1 hx).imp (fun k => ⟨x, k, hh⟩) (fun k => ⟨x, k, hh⟩)
    · rintro (⟨x, hx, hh⟩ | ⟨x, hx, hh⟩)
      · exact ⟨x, (h x).2 (.inl hx), hh⟩
      · exact ⟨x, (h x).2 (.inr hx), hh⟩
  have e2 : R.all H = (S.all H && T.all H) := by
    rw [Bool.eq_iff_iff, Bool.and_eq_true, List.all_eq_true, List.all_eq_true, List.all_eq_true]
    exact ⟨fun k => ⟨fun x hx => k x ((h x).2 (.inl hx)), fun x hx => k x ((h x).2 (.inr hx))⟩, fun k x hx => ((h x).1 hx).elim (k.1 x) (k.2 x)⟩
  have a1 : ∀ U : List α, U ≠ [] → U.all H = true → U.any H = true := fun U hU k => by
    obtain ⟨x, hx⟩ := List.exists_mem_of_ne_nil _ hU
    exact List.any_eq_true.2 ⟨x, hx, List.all_eq_true.1 k x hx⟩
  have s1 := a1 S hs
  have t1 := a1 T ht
  unfold tellG
  rw [e1, e2]
  cases hS : S.any H <;> cases hT : T.any H <;> cases hS2 : S.all H <;> cases hT2 : T.all H <;> simp_all
theorem lastK_set (k : Nat) (pre post : List Int) (m : Int) : (∃ p, lastK k (pre ++ m :: post) = p ++ m :: post ∧ ∀ a, lastK k (pre ++ a :: post) = p ++ a :: post) ∨ ∀ a, lastK k (pre ++ m :: post) = lastK k (pre ++ a :: post) := by
  have hl : ∀ a : Int, (pre ++ a :: post).length = pre.length + (post.length + 1) := fun a => by rw [List.length_append, List.length_cons]
  by_cases h : (pre.length + (post.length + 1)) - k ≤ pre.length
  · left
    have e : ∀ a, lastK k (pre ++ a :: post) = pre.drop ((pre.length + (post.length + 1)) - k) ++ a :: post := fun a => by
      unfold lastK
      rw [hl, List.drop_append_of_le_length h]
    exact ⟨_, e m, e⟩
  · right
    intro a
    have e : ∀ b, lastK k (pre ++ b :: post) = post.drop ((pre.length + (post.length + 1)) - k - pre.length - 1) := fun b => by
      unfold lastK
      rw [hl, List.drop_append, List.drop_of_length_le (by omega), List.nil_append]
      obtain ⟨j, hj⟩ : ∃ j, (pre.length + (post.length + 1)) - k - pre.length = j + 1 := ⟨(pre.length + (post.length + 1)) - k - pre.length - 1, by omega⟩
      rw [hj]
      rfl
    rw [e m, e a]
theorem tell_parts {r : Nat} {m a b : Int} {pre post : List Int} (h : Parts m a b) (ha : okM (pre ++ a :: post)) (hb : okM (pre ++ b :: post)) :
    tellN r (pre ++ m :: post) = if tellN r (pre ++ a :: post) = tellN r (pre ++ b :: post) then tellN r (pre ++ a :: post) else 1 := by
  have hl : ∀ x : Int, (pre ++ x :: post).length = pre.length + (post.length + 1) := fun a => by rw [List.length_append, List.length_cons]
  unfold tellN
  rw [hl, hl, hl]
  split
  · rw [if_pos rfl]
  · rcases lastK_set (longN r) pre post m with ⟨p, e1, e2⟩ | e
    · have ra := ha.lastK (longN r)
      have rb := hb.lastK (longN r)
      rw [e2] at ra rb
      rw [e1, e2, e2]
      refine tellG_parts _ (fun x => ?_) (rowsN_some ra) (rowsN_some rb)
      rw [mem_rowsN, mem_rowsN, mem_rowsN]
      exact OfM_parts h p post x
    · rw [← e a, ← e b, if_pos rfl]
/-! ### The last points alone -/
def pushN (l : List Int) (m : Int) : List Int := (if l.length < 15 then l else l.drop 1) ++ [m]
theorem pushN_len {l : List Int} (h : l.length ≤ 15) (m : Int) : (pushN l m).length = min (l.length + 1) 15 := by
  unfold pushN
  rw [List.length_append]
  split
  · simp; omega
  · rw [List.length_drop]; simp; omega
theorem pushN_ok {l : List Int} (h : okM l) {m : Int} (hm : 1 ≤ m ∧ m ≤ 511) : okM (pushN l m) := by
  intro x hx
  unfold pushN at hx
  rw [List.mem_append, List.mem_singleton] at hx
  rcases hx with hx | rfl
  · split at hx
    · exact h x hx
    · exact h x (List.mem_of_mem_drop hx)
  · exact hm
/-- Behind pushes the last ones are what was pushed last. -/
theorem push_last : ∀ (ms l : List Int), l.length ≤ 15 → ms.length ≤ 15 → ∃ p, ms.foldl pushN l = p ++ ms ∧ (ms.foldl pushN l).length ≤ 15 := by
  have gen : ∀ (ms : List Int) (p q : List Int), (p ++ q).length ≤ 15 → q.length + ms.length ≤ 15 → ∃ p', ms.foldl pushN (p ++ q) = p' ++ (q ++ ms) ∧ (ms.foldl pushN (p ++ q)).length ≤ 15 := by
    intro ms
    induction ms with
    | nil => intro p q h1 _; exact ⟨p, by simp, h1⟩
    | cons m ms ih =>
      intro p q h1 h2
      rw [List.length_cons] at h2
      have e : ∃ p2, pushN (p ++ q) m = p2 ++ (q ++ [m]) := by
        unfold pushN
        split
        · exact ⟨p, by rw [List.append_assoc]⟩
        · rename_i h
          rw [List.length_append] at h h1
          refine ⟨p.drop 1, ?_⟩
          rw [List.drop_append_of_le_length (by omega), List.append_assoc]
      obtain ⟨p2, hp2⟩ := e
      have hlen := pushN_len h1 m
      rw [hp2] at hlen
      obtain ⟨p', e1, e2⟩ := ih p2 (q ++ [m]) (by omega) (by rw [List.length_append]; simp; omega)
      refine ⟨p', ?_, ?_⟩
      · rw [List.foldl_cons, hp2, e1, List.append_assoc]; rfl
      · rw [List.foldl_cons, hp2]; exact e2
  intro ms l h1 h2
  obtain ⟨p, e1, e2⟩ := gen ms l [] (by simpa using h1) (by simpa using h2)
  rw [List.append_nil] at e1 e2
  exact ⟨p, by rw [e1]; rfl, e2⟩
theorem lastK_append {k : Nat} {p l : List Int} (h : k ≤ l.length) : lastK k (p ++ l) = lastK k l := by
  unfold lastK
  rw [List.length_append, List.drop_append, List.drop_of_length_le (by omega), List.nil_append, show p.length + l.length - k - p.length = l.length - k by omega]
theorem tell_append {r : Nat} {p l : List Int} (h : longN r ≤ l.length) : tellN r (p ++ l) = tellN r l := by
  unfold tellN
  rw [List.length_append, if_neg (by omega), if_neg (by omega), lastK_append h]
theorem tell_short {r : Nat} {l : List Int} (h : l.length < longN r) : tellN r l = 0 := if_pos h
end Go.Proofs.Ytjonpcpcokapkaa
