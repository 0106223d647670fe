/- A region that draws its order, walked by a table: what each operation that has come up has left in its slot, and what holds of the world; whatever order comes, the frame is the table laid over the frame at the beginning. -/
import Derived.Test.YtjonpcpcokapkaaInvB
namespace Go.Proofs.Ytjonpcpcokapkaa
open Go.RowKit

def updV (vals : Nat → Value) (i : Nat) (v : Value) : Nat → Value := fun j => if j = i then v else vals j
theorem updV_at (vals : Nat → Value) (i : Nat) (v : Value) : updV vals i v i = v := if_pos rfl
theorem updV_ne (vals : Nat → Value) {i j : Nat} (v : Value) (h : j ≠ i) : updV vals i v j = vals j := if_neg h
/-- The table laid over a frame. -/
def putT (dst : Nat → Option Nat) (l : Array Bool) (vals : Nat → Value) : List Nat → Act → Act
  | [], a => a
  | j :: L, a => putT dst l vals L (if l.getD j false = true then a.put (dst j) (vals j) else a)
/-- .. where all have come up. -/
def putsT (dst : Nat → Option Nat) (vals : Nat → Value) : List Nat → Act → Act
  | [], a => a
  | j :: L, a => putsT dst vals L (a.put (dst j) (vals j))
section
variable {dst : Nat → Option Nat} {l : Array Bool} {vals : Nat → Value}
theorem put_comm (a : Act) {d e : Option Nat} (h : d ≠ e ∨ d = none) (u v : Value) : (a.put d u).put e v = (a.put e v).put d u := by
  cases d with
  | none => rfl
  | some d =>
    cases e with
    | none => rfl
    | some e =>
      have hne : d ≠ e := fun c => h.elim (fun h => h (congrArg some c)) (fun h => by cases h)
      simp only [Act.put]
      rw [Array.setIfInBounds_comm _ _ hne]
theorem putT_all {L : List Nat} (h : ∀ j, j ∈ L → l.getD j false = true) : ∀ a : Act, putT dst l vals L a = putsT dst vals L a := by
  induction L with
  | nil => intro a; rfl
  | cons j L ih =>
    intro a
    show putT dst l vals L _ = putsT dst vals L _
    rw [if_pos (h j (List.mem_cons_self)), ih (fun k hk => h k (List.mem_cons_of_mem _ hk))]
theorem putT_none {L : List Nat} (h : ∀ j, j ∈ L → l.getD j false = false) : ∀ a : Act, putT dst l vals L a = a := by
  induction L with
  | nil => intro a; rfl
  | cons j L ih =>
    intro a
    show putT dst l vals L _ = a
    rw [if_neg (by rw [h j (List.mem_cons_self)]; simp), ih (fun k hk => h k (List.mem_cons_of_mem _ hk))]
theorem putT_other {i : Nat} {v : Value} : ∀ (L : List Nat) (a : Act), i ∉ L → putT dst (l.setIfInBounds i true) (updV vals i v) L a = putT dst l vals L a
  | [], _, _ => rfl
  | j :: L, a, h => by
    have hj : j ≠ i := fun c => h (c ▸ List.mem_cons_self)
    show putT dst _ _ L _ = putT dst _ _ L _
    rw [set_else (Ne.symm hj), updV_ne _ _ hj]
    exact putT_other L _ (fun c => h (List.mem_cons_of_mem _ c))
theorem putT_put {d : Option Nat} {v : Value} : ∀ (L : List Nat) (a : Act), (∀ j, j ∈ L → d ≠ dst j ∨ d = none) → putT dst l vals L (a.put d v) = (putT dst l vals L a).put d v
  | [], _, _ => rfl
  | j :: L, a, h => by
    show putT dst _ _ L _ = (putT dst _ _ L _).put d v
    rw [← putT_put L _ fun k hk => h k (List.mem_cons_of_mem _ hk)]
    congr 1
    by_cases c : l.getD j false = true
    · rw [if_pos c, if_pos c]
      exact put_comm a (h j List.mem_cons_self) v (vals j)
    · rw [if_neg c, if_neg c]
theorem putT_mark {i : Nat} {v : Value} (hi : i < l.size) (hl : l.getD i false = false) : ∀ (L : List Nat) (a : Act), L.Nodup → i ∈ L → (∀ j, j ∈ L → j ≠ i → dst i ≠ dst j ∨ dst i = none) →
    putT dst (l.setIfInBounds i true) (updV vals i v) L a = (putT dst l vals L a).put (dst i) v
  | [], _, _, h, _ => by cases h
  | j :: L, a, hn, hm, hd => by
    have hn2 := List.nodup_cons.1 hn
    by_cases c : j = i
    · subst c
      show putT dst _ _ L _ = (putT dst _ _ L _).put (dst j) v
      rw [if_pos (set_here hi), if_neg (by rw [hl]; simp), updV_at, putT_other L _ hn2.1]
      exact putT_put L a fun k hk => hd k (List.mem_cons_of_mem _ hk) (fun e => hn2.1 (e ▸ hk))
    · show putT dst _ _ L _ = (putT dst _ _ L _).put (dst i) v
      rw [set_else (fun e => c e.symm), updV_ne _ _ c]
      refine putT_mark hi hl L _ hn2.2 ?_ fun k hk => hd k (List.mem_cons_of_mem _ hk)
      rcases List.mem_cons.1 hm with e | e
      · exact absurd e.symm c
      · exact e
theorem putT_size : ∀ (L : List Nat) (a : Act), (putT dst l vals L a).tmps.size = a.tmps.size
  | [], _ => rfl
  | j :: L, a => by
    show (putT dst _ _ L _).tmps.size = _
    rw [putT_size L]
    split
    · cases dst j <;> simp [Act.put]
    · rfl
theorem putT_defers : ∀ (L : List Nat) (a : Act), (putT dst l vals L a).defers = a.defers
  | [], _ => rfl
  | j :: L, a => by
    show (putT dst _ _ L _).defers = _
    rw [putT_defers L]
    split
    · cases dst j <;> simp [Act.put]
    · rfl
theorem put_getD_ne (a : Act) {d : Option Nat} {s : Nat} (h : d ≠ some s) (v : Value) : (a.put d v).tmps.getD s undef = a.tmps.getD s undef := by
  cases d with
  | none => rfl
  | some d =>
    have : d ≠ s := fun c => h (congrArg some c)
    simp only [Act.put, Array.getD_eq_getD_getElem?]
    rw [Array.getElem?_setIfInBounds_ne this]
theorem put_getD_eq (a : Act) {s : Nat} (hs : s < a.tmps.size) (v : Value) : (a.put (some s) v).tmps.getD s undef = v := by
  simp only [Act.put, Array.getD_eq_getD_getElem?]
  rw [Array.getElem?_setIfInBounds_self]
  simp [hs]
/-- A slot that none of those that have come up writes. -/
theorem putT_un {s : Nat} : ∀ (L : List Nat) (a : Act), (∀ j, j ∈ L → dst j = some s → l.getD j false = false) → (putT dst l vals L a).tmps.getD s undef = a.tmps.getD s undef
  | [], _, _ => rfl
  | j :: L, a, h => by
    show (putT dst _ _ L _).tmps.getD s undef = _
    rw [putT_un L _ fun k hk => h k (List.mem_cons_of_mem _ hk)]
    by_cases c : l.getD j false = true
    · rw [if_pos c, put_getD_ne a fun e => by rw [h j List.mem_cons_self e] at c; cases c]
    · rw [if_neg c]
/-- A slot that one that has come up has written. -/
theorem putT_at {s i : Nat} (hl : l.getD i false = true) (hd : dst i = some s) : ∀ (L : List Nat) (a : Act), L.Nodup → i ∈ L → (∀ j, j ∈ L → j ≠ i → dst j ≠ some s) → s < a.tmps.size → (putT dst l vals L a).tmps.getD s undef = vals i
  | [], _, _, h, _, _ => by cases h
  | j :: L, a, hn, hm, ho, hs => by
    have hn2 := List.nodup_cons.1 hn
    by_cases c : j = i
    · subst c
      show (putT dst _ _ L _).tmps.getD s undef = _
      rw [if_pos hl, putT_un L _ fun k hk e => absurd e (ho k (List.mem_cons_of_mem _ hk) (fun e => hn2.1 (e ▸ hk))), hd, put_getD_eq a hs]
    · show (putT dst _ _ L _).tmps.getD s undef = _
      refine putT_at hl hd L _ hn2.2 ?_ (fun k hk => ho k (List.mem_cons_of_mem _ hk)) ?_
      · rcases List.mem_cons.1 hm with e | e
        · exact absurd e.symm c
        · exact e
      · split
        · cases hdj : dst j <;> simpa [Act.put] using hs
        · exact hs
end
section
variable {P : Program} {ops : Array Oper} {Q : Exit → Act → World → Prop}
def dstOf (ops : Array Oper) (i : Nat) : Option Nat := (ops[i]?).bind (·.dst)
/-- No two operations write one slot. -/
def apartB (ops : Array Oper) : Bool := (List.range ops.size).all fun i => (List.range ops.size).all fun j => i == j || decide (dstOf ops i ≠ dstOf ops j) || decide (dstOf ops i = none)
theorem apart_of (h : apartB ops = true) {i j : Nat} (hi : i < ops.size) (hj : j < ops.size) (hne : j ≠ i) : dstOf ops i ≠ dstOf ops j ∨ dstOf ops i = none := by
  have h1 := List.all_eq_true.1 (List.all_eq_true.1 h i (List.mem_range.2 hi)) j (List.mem_range.2 hj)
  simp only [Bool.or_eq_true, beq_iff_eq, decide_eq_true_eq] at h1
  rcases h1 with (h1 | h1) | h1
  · exact absurd h1.symm hne
  · exact .inl h1
  · exact .inr h1
/-- The frame behind those that have come up. -/
def tabA (ops : Array Oper) (l : Array Bool) (vals : Nat → Value) (a : Act) : Act := putT (dstOf ops) l vals (List.range ops.size) a
theorem tabA_un {l : Array Bool} {vals : Nat → Value} {a : Act} {s : Nat} (h : ∀ j, j < ops.size → dstOf ops j = some s → l.getD j false = false) : (tabA ops l vals a).eval (.tmp s) = a.eval (.tmp s) :=
  putT_un _ _ fun j hj => h j (List.mem_range.1 hj)
theorem tabA_at (hap : apartB ops = true) {l : Array Bool} {vals : Nat → Value} {a : Act} {s i : Nat} (hi : i < ops.size) (hd : dstOf ops i = some s) (hl : l.getD i false = true) (hs : s < a.tmps.size) : (tabA ops l vals a).eval (.tmp s) = vals i :=
  putT_at hl hd _ _ List.nodup_range (List.mem_range.2 hi) (fun j hj hne e => by
    rcases apart_of hap hi (List.mem_range.1 hj) hne with c | c
    · exact c (hd.trans e.symm)
    · rw [hd] at c; cases c) hs
theorem tabA_all {l : Array Bool} {vals : Nat → Value} {a : Act} (h : ∀ i, i < ops.size → l.getD i false = true) : tabA ops l vals a = putsT (dstOf ops) vals (List.range ops.size) a :=
  putT_all (fun j hj => h j (List.mem_range.1 hj)) a
theorem wp_region_tab {id : Nat} {a : Act} {w : World} (J : Array Bool → (Nat → Value) → World → Prop) (hm : P.follows .mixedOrders = true) (ho : inOrder ops = true) (hap : apartB ops = true)
    (h0 : J (Array.replicate ops.size false) (fun _ => undef) w.drew)
    (hstep : ∀ l vals w i, l.size = ops.size → ClosedL .any ops l → i ∈ Region.ready .any ops l → i < ops.size → J l vals w → wpOp P ops Q i (fun a' w' => ∃ v, a' = (tabA ops l vals a).put (dstOf ops i) v ∧ J (l.setIfInBounds i true) (updV vals i v) w') (tabA ops l vals a) w)
    (hend : ∀ vals l w, (∀ i, i < ops.size → l.getD i false = true) → J l vals w → Q .normal (putsT (dstOf ops) vals (List.range ops.size) a) w) : (Code.region id ops true).wp P Q a w := by
  refine wp_region_by (fun l a' w' => ∃ vals, a' = tabA ops l vals a ∧ J l vals w') hm ho ⟨_, (putT_none (fun j hj => ?_) a).symm, h0⟩ ?_ ?_
  · have hj := List.mem_range.1 hj
    simp [hj]
  · rintro l _ w i hz hc hr ⟨vals, rfl, hJ⟩
    have hi : i < ops.size := (Array.getElem?_eq_some_iff.1 (mem_ready.1 hr).2.choose_spec.1).1
    refine wpOp_mono (fun a' w' h => ?_) (hstep l vals w i hz hc hr hi hJ)
    obtain ⟨v, rfl, hJ'⟩ := h
    exact ⟨_, (putT_mark (by omega) (ready_not hr) _ _ List.nodup_range (List.mem_range.2 hi) fun j hj hne => apart_of hap hi (List.mem_range.1 hj) hne).symm, hJ'⟩
  · rintro l _ w hall ⟨vals, rfl, hJ⟩
    rw [tabA_all hall]
    exact hend vals l w hall hJ
/-- One waits for another. -/
def waitsB (ops : Array Oper) (i j : Nat) : Bool := ((ops[i]?).map fun o => o.after.any fun e => e.on == j && Region.binds .any e).getD false
theorem waits_edge {i j : Nat} (h : waitsB ops i j = true) : ∃ oi, ops[i]? = some oi ∧ ∃ e ∈ oi.after, Region.binds .any e = true ∧ e.on = j := by
  unfold waitsB at h
  cases ho : ops[i]? with
  | none => rw [ho] at h; cases h
  | some oi =>
    rw [ho] at h
    simp only [Option.map_some, Option.getD_some, Array.any_eq_true, Bool.and_eq_true, beq_iff_eq] at h
    obtain ⟨k, hk, h1, h2⟩ := h
    exact ⟨oi, rfl, _, Array.getElem_mem hk, h2, h1⟩
theorem waits_ready {l : Array Bool} {i : Nat} (hi : i ∈ Region.ready .any ops l) (j : Nat) (h : waitsB ops i j = true) : l.getD j false = true := by
  obtain ⟨oi, ho, e, he, hb, rfl⟩ := waits_edge h
  exact ready_on hi ho he hb
theorem waits_closed {l : Array Bool} (hc : ClosedL .any ops l) {i : Nat} (j : Nat) (h : waitsB ops i j = true) (hl : l.getD i false = true) : l.getD j false = true := by
  obtain ⟨oi, ho, e, he, hb, rfl⟩ := waits_edge h
  exact hc i oi ho hl e he hb
theorem waits_not {l : Array Bool} (hc : ClosedL .any ops l) {i : Nat} (j : Nat) (h : waitsB ops i j = true) (hl : l.getD j false = false) : l.getD i false = false := by
  cases q : l.getD i false with
  | false => rfl
  | true => rw [waits_closed hc j h q] at hl; cases hl
end
end Go.Proofs.Ytjonpcpcokapkaa
