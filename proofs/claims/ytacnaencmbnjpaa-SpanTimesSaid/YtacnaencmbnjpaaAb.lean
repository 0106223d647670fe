/- A region that draws its order, walked once, in the order of the text: of each operation it is shown what it does in whatever world meets S0, wherever in the order it comes; blocks that the region makes are told by letters. -/
import Derived.Test.YtacnaencmbnjpaaBase
namespace Go.Proofs.Ytacnaencmbnjpaa
open Go.RowKit

section
variable {P : Program} {ops : Array Oper} {Q : Exit → Act → World → Prop} {md : Region.Mode} {S0 : World → Prop} {S : (Nat → Nat) → Array Bool → World → Prop}

/-- In state a, in whatever world meets S0, the operation leaves v, and all that was there as it was. -/
def Gives (P : Program) (ops : Array Oper) (S0 : World → Prop) (o : Oper) (v : Value) (a : Act) : Prop :=
  (Region.wanted o (yielded ops a.tmps) = true ∧ ∀ w, S0 w →
    (∃ w', (execOp a.eval o).run P w = .ok (.value v) w' ∧ Below w.heap.size w w') ∨
    (∃ f args, (execOp a.eval o).run P w = .ok (.enter f args) w ∧ Calls P f args w fun e w' => e = .returned v ∧ Below w.heap.size w w')) ∨
  (Region.wanted o (yielded ops a.tmps) = false ∧ v = undef)

theorem Gives.of_same {o : Oper} {v : Value} {a a' : Act} (h : Gives P ops S0 o v a) (he : execOp a'.eval o = execOp a.eval o)
    (hw : Region.wanted o (yielded ops a'.tmps) = Region.wanted o (yielded ops a.tmps)) : Gives P ops S0 o v a' := by
  unfold Gives at *
  rw [he, hw]
  exact h

/-- Two operations that are apart: whether the one's value is there already makes no difference to the other one. -/
theorem wpOp_apart {j : Nat} {oi oj : Oper} {v : Value} (hj : ops[j]? = some oj) (hap : oi.apart ops oj = true)
    (hsi : ∀ cs b, oi.op ≠ .select cs b) (hsj : ∀ cs b, oj.op ≠ .select cs b)
    (hQ : ∀ c a w, Q (.panic c) (a.put oi.dst v) w → Q (.panic c) a w) {K : Act → World → Prop} {a : Act} {w : World}
    (hg : Gives P ops S0 oi v a) (h : wpOp P ops Q j K (a.put oi.dst v) w) :
    wpOp P ops Q j (fun a' w' => Gives P ops S0 oi v a' ∧ K (a'.put oi.dst v) w') a w := by
  obtain ⟨h1, h2, h3⟩ := Oper.apart_spec hap
  have keep : ∀ a : Act, Gives P ops S0 oi v a → ∀ u, Gives P ops S0 oi v (a.put oj.dst u) :=
    fun a hy u => hy.of_same (execOp_put oi hsi a oj.dst u h3) (wanted_put oi a oj.dst u h3)
  have kd : ∀ d, Gives P ops S0 oi v { a with defers := d :: a.defers } := fun d => hg.of_same rfl rfl
  have e1 : execOp (a.put oi.dst v).eval oj = execOp a.eval oj := execOp_put oj hsj a oi.dst v h1
  have e2 := wanted_put (ops := ops) oj a oi.dst v h1
  unfold wpOp at *
  simp only [hj] at *
  rw [e2] at h
  by_cases hw : Region.wanted oj (yielded ops a.tmps) = true
  · simp only [hw, if_true] at h ⊢
    rcases h with h | ⟨hk, hl⟩
    · left
      unfold Oper.wp at *
      rw [e1] at h
      cases hr : (execOp a.eval oj).run P w with
      | ok n w' =>
        rw [hr] at h
        cases n with
        | value u => exact ⟨keep a hg u, by rw [← Act.put_comm a v u h2]; exact h⟩
        | skip => exact ⟨keep a hg undef, by rw [← Act.put_comm a v undef h2]; exact h⟩
        | defer d =>
          simp only [Oper.upon] at h ⊢
          refine ⟨keep _ (kd d) _, ?_⟩
          rw [← Act.put_comm _ v undef h2, ← Act.put_defers]
          exact h
        | enter f args =>
          refine Calls.mono h fun e w'' he => ?_
          cases e with
          | returned u => exact ⟨keep a hg u, by rw [← Act.put_comm a v u h2]; exact he⟩
          | panicked c => exact hQ _ _ _ he
          | outgrown => exact he
        | row row args => exact Rows.mono h fun u w'' he => ⟨keep a hg u, by rw [← Act.put_comm a v u h2]; exact he⟩
        | _ => exact h.elim
      | halt x w' =>
        rw [hr] at h
        cases x with
        | panic u => exact hQ _ _ _ h
        | _ => exact h.elim
    · right
      refine ⟨?_, hl⟩
      unfold Oper.asks at *
      rwa [e1] at hk
  · simp only [hw] at h ⊢
    exact ⟨keep a hg undef, by rw [← Act.put_comm a v undef h2]; exact h⟩

/-- Whatever order is picked from here on, in whatever world meets S now; g: the blocks that were made, by the operations that made them. -/
def wpAb (P : Program) (md : Region.Mode) (ops : Array Oper) (Q : Exit → Act → World → Prop) (S : (Nat → Nat) → Array Bool → World → Prop) : Nat → (Nat → Nat) → Array Bool → Act → Prop
  | 0, g, l, a => Region.ready md ops l = [] ∧ ∀ w, S g l w → Q .normal a w
  | n + 1, g, l, a => (Region.ready md ops l = [] → ∀ w, S g l w → Q .normal a w) ∧
    ∀ i ∈ Region.ready md ops l, ∀ w, S g l w → wpOp P ops Q i (fun a' w' => ∃ g', S g' (l.setIfInBounds i true) w' ∧ wpAb P md ops Q S n g' (l.setIfInBounds i true) a') a w

theorem wpAny_of_ab : ∀ (n : Nat) (g : Nat → Nat) (l : Array Bool) (a : Act) (w : World), wpAb P md ops Q S n g l a → S g l w → wpAny P md ops Q n l a w
  | 0, _, _, _, w, h, hs => ⟨h.1, h.2 w hs⟩
  | n + 1, _, _, _, w, h, hs => ⟨fun e => h.1 e w hs, fun i hi => wpOp_mono (fun a' w' ⟨g', s, k⟩ => wpAny_of_ab n g' _ a' w' k s) (h.2 i hi w hs)⟩

/-- What S owes an operation that leaves all blocks as they were. -/
structure Fit (S0 : World → Prop) (S : (Nat → Nat) → Array Bool → World → Prop) (i : Nat) : Prop where
  base : ∀ g l w, S g l w → S0 w
  step : ∀ g l w w', S g l w → Below w.heap.size w w' → S g l w'
  mark : ∀ g l w, S g (l.setIfInBounds i true) w ↔ S g l w

theorem Gives.wpOp {i : Nat} {o : Oper} {v : Value} {a : Act} (hi : ops[i]? = some o) (h : Gives P ops S0 o v a) {K : Act → World → Prop} {w : World} (hs : S0 w)
    (hk : ∀ w', Below w.heap.size w w' → K (a.put o.dst v) w') : wpOp P ops Q i K a w := by
  unfold Go.wpOp
  simp only [hi]
  rcases h with ⟨hw, hv⟩ | ⟨hw, rfl⟩
  · simp only [hw, if_true]
    left
    unfold Oper.wp
    rcases hv w hs with ⟨w', hr, hb⟩ | ⟨f, args, hr, hc⟩
    · rw [hr, Oper.upon_value]; exact hk w' hb
    · rw [hr, Oper.upon_enter]
      refine hc.mono ?_
      rintro e w' ⟨rfl, hb⟩
      exact hk w' hb
  · simp only [hw, Bool.false_eq_true, if_false]
    exact hk w (Below.refl _ _)

theorem abFirst {i : Nat} {oi : Oper} {v : Value} (hi : ops[i]? = some oi) (hsel : ∀ (j : Nat) (o : Oper) cs b, ops[j]? = some o → o.op ≠ .select cs b)
    (hQ : ∀ c a w, Q (.panic c) (a.put oi.dst v) w → Q (.panic c) a w) (hF : Fit S0 S i) :
    ∀ (n : Nat) (g : Nat → Nat) (l : Array Bool) (a : Act),
      (∀ j oj, ops[j]? = some oj → j ≠ i → l.getD j true = false → (∀ e ∈ oj.after, Region.binds md e = true → e.on ≠ i) → oi.apart ops oj = true) →
      i ∈ Region.ready md ops l → Gives P ops S0 oi v a →
      wpAb P md ops Q S n g (l.setIfInBounds i true) (a.put oi.dst v) → wpAb P md ops Q S (n + 1) g l a := by
  intro n
  induction n with
  | zero =>
    intro g l a _ hr hg H
    refine ⟨fun h => (by rw [h] at hr; cases hr), fun j hj w hs => ?_⟩
    by_cases hji : j = i
    · subst hji
      exact hg.wpOp hi (hF.base _ _ _ hs) fun w' hb => ⟨g, (hF.mark _ _ _).2 (hF.step _ _ _ _ hs hb), H⟩
    · have := ready_mono hj hji
      rw [H.1] at this
      cases this
  | succ n ih =>
    intro g l a hfree hr hg H
    refine ⟨fun h => (by rw [h] at hr; cases hr), fun j hj w hs => ?_⟩
    by_cases hji : j = i
    · subst hji
      exact hg.wpOp hi (hF.base _ _ _ hs) fun w' hb => ⟨g, (hF.mark _ _ _).2 (hF.step _ _ _ _ hs hb), H⟩
    · have h1 := H.2 j (ready_mono hj hji) w ((hF.mark _ _ _).2 hs)
      obtain ⟨hjun, oj, hoj, hall⟩ := mem_ready.1 hj
      have hnot : ∀ e ∈ oj.after, Region.binds md e = true → e.on ≠ i := fun e he hb heq => by
        have h1 := hall e he hb
        have h0 := (mem_ready.1 hr).1
        rw [heq] at h1
        rcases Nat.lt_or_ge i l.size with h' | h'
        · simp [h'] at h0 h1; rw [h0] at h1; cases h1
        · simp [Array.getElem?_eq_none h'] at h1
      have h2 := wpOp_apart hoj (hfree j oj hoj hji hjun hnot) (fun cs b => hsel i oi cs b hi) (fun cs b => hsel j oj cs b hoj) hQ hg h1
      have hfree' : ∀ k ok, ops[k]? = some ok → k ≠ i → (l.setIfInBounds j true).getD k true = false →
          (∀ e ∈ ok.after, Region.binds md e = true → e.on ≠ i) → oi.apart ops ok = true := fun k ok hk hki hun hno => by
        refine hfree k ok hk hki ?_ hno
        by_cases hjk : j = k
        · subst hjk; exact hjun
        · rw [getD_set_ne true hjk] at hun; exact hun
      refine wpOp_mono (fun a' w' ⟨hg', g', hs', hk'⟩ => ?_) h2
      rw [Array.setIfInBounds_comm _ _ (Ne.symm hji)] at hs' hk'
      exact ⟨g', (hF.mark _ _ _).1 hs', ih g' (l.setIfInBounds j true) a' hfree' (ready_mono hr (Ne.symm hji)) hg' hk'⟩

/-! ### What the region makes -/
/-- A block that operation x makes, what it holds first, and what it holds behind operation s. -/
structure Ent where
  x : Nat
  s : Nat
  pre : World → Nat → Prop
  post : World → Nat → Prop
/-- A word on a block that speaks of what lies there alone. -/
def Local (p : World → Nat → Prop) : Prop := ∀ w w' b, w'.heap[b]? = w.heap[b]? → p w b → p w' b
def Sof (S0 : World → Prop) (B : Nat) (own : List Ent) (g : Nat → Nat) (l : Array Bool) (w : World) : Prop :=
  S0 w ∧ B ≤ w.heap.size ∧
  (∀ e ∈ own, l.getD e.x false = true → B ≤ g e.x ∧ g e.x < w.heap.size ∧ (if l.getD e.s false = true then e.post w (g e.x) else e.pre w (g e.x))) ∧
  (∀ e ∈ own, ∀ e' ∈ own, e.x ≠ e'.x → l.getD e.x false = true → l.getD e'.x false = true → g e.x ≠ g e'.x)

theorem sof_fit {B : Nat} {own : List Ent} {i : Nat} (hst : ∀ w w', S0 w → Below B w w' → S0 w') (hl : ∀ e ∈ own, Local e.pre ∧ Local e.post) (hi : ∀ e ∈ own, e.x ≠ i ∧ e.s ≠ i) : Fit S0 (Sof S0 B own) i where
  base _ _ _ h := h.1
  step g l w w' h hb := by
    obtain ⟨h1, h2, h3, h4⟩ := h
    refine ⟨hst _ _ h1 (hb.mono h2), Nat.le_trans h2 hb.size, fun e he hx => ?_, h4⟩
    obtain ⟨k1, k2, k3⟩ := h3 e he hx
    refine ⟨k1, Nat.lt_of_lt_of_le k2 hb.size, ?_⟩
    split at k3
    · rename_i c; rw [if_pos c]; exact (hl e he).2 _ _ _ (hb.block _ k2) k3
    · rename_i c; rw [if_neg c]; exact (hl e he).1 _ _ _ (hb.block _ k2) k3
  mark g l w := by
    have k : ∀ e ∈ own, ((l.setIfInBounds i true).getD e.x false = l.getD e.x false) ∧ ((l.setIfInBounds i true).getD e.s false = l.getD e.s false) :=
      fun e he => ⟨getD_set_ne _ (Ne.symm (hi e he).1), getD_set_ne _ (Ne.symm (hi e he).2)⟩
    constructor
    · rintro ⟨h1, h2, h3, h4⟩
      refine ⟨h1, h2, fun e he hx => ?_, fun e he e' he' hn hx hx' => h4 e he e' he' hn ((k e he).1.trans hx) ((k e' he').1.trans hx')⟩
      have := h3 e he ((k e he).1.trans hx)
      rwa [(k e he).2] at this
    · rintro ⟨h1, h2, h3, h4⟩
      refine ⟨h1, h2, fun e he hx => ?_, fun e he e' he' hn hx hx' => h4 e he e' he' hn ((k e he).1.symm.trans hx) ((k e' he').1.symm.trans hx')⟩
      have := h3 e he ((k e he).1.symm.trans hx)
      rwa [← (k e he).2] at this

/-! ### The moves -/
theorem wp_region_ab {id : Nat} {a : Act} {w : World} (B : Nat) (own : List Ent) (hm : P.follows .mixedOrders = true) (h0 : S0 w.drew) (hB : B ≤ w.heap.size)
    (ho : ∀ e ∈ own, e.x < ops.size)
    (h : wpAb P .any ops Q (Sof S0 B own) ops.size (fun _ => 0) (Array.replicate ops.size false) a) : (Code.region id ops true).wp P Q a w := by
  refine wp_region_any hm (wpAny_of_ab _ _ _ _ _ h ⟨h0, hB, fun e he hx => ?_, fun e he e' he' hn hx => ?_⟩)
  · simp [ho e he] at hx
  · simp [ho e he] at hx

variable {B : Nat} {own : List Ent} {n : Nat} {g : Nat → Nat} {l : Array Bool} {a : Act}

/-- A value that hangs on nothing but S0. -/
theorem abTake (i : Nat) (d : Option Tmp) {oi : Oper} {v : Value} (hi : ops[i]? = some oi) (hd : oi.dst = d)
    (hs : Region.noSelect ops = true) (hf : Region.free md ops l i = true) (hr : (Region.ready md ops l).contains i = true)
    (hQ : ∀ c a w, Q (.panic c) (a.put d v) w → Q (.panic c) a w) (hF : Fit S0 (Sof S0 B own) i)
    (hw : Region.wanted oi (yielded ops a.tmps) = true) (hy : ∀ w, S0 w → (execOp a.eval oi).run P w = .ok (.value v) w)
    (h : wpAb P md ops Q (Sof S0 B own) n g (l.setIfInBounds i true) (a.put d v)) : wpAb P md ops Q (Sof S0 B own) (n + 1) g l a := by
  subst hd
  exact abFirst hi (Region.noSelect_spec hs) hQ hF n g l a (Region.free_spec hi hf) (by simpa using hr) (.inl ⟨hw, fun w k => .inl ⟨w, hy w k, Below.refl _ _⟩⟩) h
/-- An operation that is not wanted. -/
theorem abSkip (i : Nat) (d : Option Tmp) {oi : Oper} (hi : ops[i]? = some oi) (hd : oi.dst = d)
    (hs : Region.noSelect ops = true) (hf : Region.free md ops l i = true) (hr : (Region.ready md ops l).contains i = true)
    (hQ : ∀ c a w, Q (.panic c) (a.put d undef) w → Q (.panic c) a w) (hF : Fit S0 (Sof S0 B own) i)
    (hw : Region.wanted oi (yielded ops a.tmps) = false)
    (h : wpAb P md ops Q (Sof S0 B own) n g (l.setIfInBounds i true) (a.put d undef)) : wpAb P md ops Q (Sof S0 B own) (n + 1) g l a := by
  subst hd
  exact abFirst hi (Region.noSelect_spec hs) hQ hF n g l a (Region.free_spec hi hf) (by simpa using hr) (.inr ⟨hw, rfl⟩) h
/-- A call that answers v and leaves all blocks as they were. -/
theorem abCall (i : Nat) (d : Option Tmp) {oi : Oper} {v : Value} {f : FuncId} {args : Array Value} (hi : ops[i]? = some oi) (hd : oi.dst = d)
    (hs : Region.noSelect ops = true) (hf : Region.free md ops l i = true) (hr : (Region.ready md ops l).contains i = true)
    (hQ : ∀ c a w, Q (.panic c) (a.put d v) w → Q (.panic c) a w) (hF : Fit S0 (Sof S0 B own) i)
    (hw : Region.wanted oi (yielded ops a.tmps) = true) (hy : ∀ w, S0 w → (execOp a.eval oi).run P w = .ok (.enter f args) w)
    (hc : ∀ w, S0 w → Calls P f args w fun e w' => e = .returned v ∧ Below w.heap.size w w')
    (h : wpAb P md ops Q (Sof S0 B own) n g (l.setIfInBounds i true) (a.put d v)) : wpAb P md ops Q (Sof S0 B own) (n + 1) g l a := by
  subst hd
  exact abFirst hi (Region.noSelect_spec hs) hQ hF n g l a (Region.free_spec hi hf) (by simpa using hr) (.inl ⟨hw, fun w k => .inr ⟨f, args, hy w k, hc w k⟩⟩) h
/-- One operation alone may come up, and panics; or whatever it does is what the post asks. -/
theorem abLast (i : Nat) (hr : Region.ready md ops l = [i]) (h : ∀ w, Sof S0 B own g l w → wpOp P ops Q i (fun a' w' => ∃ g', Sof S0 B own g' (l.setIfInBounds i true) w' ∧ wpAb P md ops Q (Sof S0 B own) n g' (l.setIfInBounds i true) a') a w) :
    wpAb P md ops Q (Sof S0 B own) (n + 1) g l a :=
  ⟨fun e => (by rw [hr] at e; cases e), fun j hj => (by rw [hr] at hj; simp at hj; subst hj; exact h)⟩
/-- A call that gives up. -/
theorem abGives (i : Nat) {oi : Oper} {f : FuncId} {args : Array Value} (hi : ops[i]? = some oi) (hr : Region.ready md ops l = [i])
    (hw : Region.wanted oi (yielded ops a.tmps) = true) (hy : ∀ w, S0 w → (execOp a.eval oi).run P w = .ok (.enter f args) w)
    (hc : ∀ w, S0 w → Calls P f args w fun e w' => ∃ c, e = .panicked c ∧ Q (.panic c) a w') : wpAb P md ops Q (Sof S0 B own) (n + 1) g l a :=
  abLast i hr fun w hs => by
    unfold Go.wpOp
    simp only [hi, hw, if_true]
    left
    unfold Oper.wp
    rw [hy w hs.1, Oper.upon_enter]
    refine (hc w hs.1).mono ?_
    rintro e w' ⟨c, rfl, h⟩
    exact h
/-- All have come up. -/
theorem abDone (hr : Region.ready md ops l = []) (h : ∀ w, Sof S0 B own g l w → Q .normal a w) : ∀ n, wpAb P md ops Q (Sof S0 B own) n g l a
  | 0 => ⟨hr, h⟩
  | _ + 1 => ⟨fun _ => h, by rw [hr]; simp⟩

/-- g with block b for operation x. -/
def made (g : Nat → Nat) (x b : Nat) : Nat → Nat := fun y => if y = x then b else g y
theorem made_same (g : Nat → Nat) (x b : Nat) : made g x b x = b := if_pos rfl
theorem made_other (g : Nat → Nat) {x y : Nat} (b : Nat) (h : y ≠ x) : made g x b y = g y := if_neg h

theorem sof_made (e : Ent) (he : e ∈ own) (hu : ∀ e' ∈ own, e'.x = e.x → e' = e) (hx : ∀ e' ∈ own, e'.s ≠ e.x) (hst : ∀ w w', S0 w → Below B w w' → S0 w') (hl : ∀ e ∈ own, Local e.pre ∧ Local e.post) {w : World} {o : Obj}
    (hun : l.getD e.s false = false) (hin : e.x < l.size) (hp : e.pre (w.alloc o) w.heap.size) (hs : Sof S0 B own g l w) : Sof S0 B own (made g e.x w.heap.size) (l.setIfInBounds e.x true) (w.alloc o) := by
  obtain ⟨h1, h2, h3, h4⟩ := hs
  have hb : Below w.heap.size w (w.alloc o) := (Below.refl _ _).alloc (Nat.le_refl _) _
  have hz : (w.alloc o).heap.size = w.heap.size + 1 := by simp
  refine ⟨hst _ _ h1 (hb.mono h2), by omega, fun e' he' hx' => ?_, fun e1 he1 e2 he2 hn hx1 hx2 => ?_⟩
  · rw [getD_set_ne _ (Ne.symm (hx e' he'))]
    by_cases c : e'.x = e.x
    · obtain rfl := hu e' he' c
      rw [made_same, if_neg (by rw [hun]; simp)]
      exact ⟨h2, by omega, hp⟩
    · rw [made_other _ _ c]
      rw [getD_set_ne _ (Ne.symm c)] at hx'
      obtain ⟨k1, k2, k3⟩ := h3 e' he' hx'
      refine ⟨k1, by omega, ?_⟩
      split at k3
      · rename_i c3; rw [if_pos c3]; exact (hl e' he').2 _ _ _ (hb.block _ k2) k3
      · rename_i c3; rw [if_neg c3]; exact (hl e' he').1 _ _ _ (hb.block _ k2) k3
  · by_cases c1 : e1.x = e.x
    · have c2 : e2.x ≠ e.x := fun c => hn (c1.trans c.symm)
      rw [c1, made_same, made_other _ _ c2]
      rw [getD_set_ne _ (Ne.symm c2)] at hx2
      have := (h3 e2 he2 hx2).2.1
      omega
    · rw [made_other _ _ c1]
      rw [getD_set_ne _ (Ne.symm c1)] at hx1
      by_cases c2 : e2.x = e.x
      · rw [c2, made_same]
        have := (h3 e1 he1 hx1).2.1
        omega
      · rw [made_other _ _ c2]
        rw [getD_set_ne _ (Ne.symm c2)] at hx2
        exact h4 e1 he1 e2 he2 hn hx1 hx2

/-- An alloc of a block that the region owns: one of those that may come up. -/
def AbMakes (P : Program) (ops : Array Oper) (S0 : World → Prop) (e : Ent) (oi : Oper) (a : Act) : Prop :=
  Region.wanted oi (yielded ops a.tmps) = true ∧ ∃ o, ∀ w, S0 w → (execOp a.eval oi).run P w = .ok (.value (.pointer (some ⟨w.heap.size, 0, none⟩))) (w.alloc o) ∧ e.pre (w.alloc o) w.heap.size
structure OwnOk (S0 : World → Prop) (B : Nat) (own : List Ent) : Prop where
  st : ∀ w w', S0 w → Below B w w' → S0 w'
  loc : ∀ e ∈ own, Local e.pre ∧ Local e.post
  one : ∀ e ∈ own, ∀ e' ∈ own, e'.x = e.x → e' = e
  two : ∀ e ∈ own, ∀ e' ∈ own, e'.s = e.s → e' = e
  apart : ∀ e ∈ own, ∀ e' ∈ own, e'.s ≠ e.x
theorem own0_ok (st : ∀ w w', S0 w → Below B w w' → S0 w') : OwnOk S0 B [] :=
  ⟨st, fun _ h => (by cases h), fun _ h => (by cases h), fun _ h => (by cases h), fun _ h => (by cases h)⟩
theorem own1_ok {e : Ent} (st : ∀ w w', S0 w → Below B w w' → S0 w') (he : Local e.pre ∧ Local e.post) (h : e.s ≠ e.x) : OwnOk S0 B [e] :=
  ⟨st, fun k hk => (by simp at hk; subst hk; exact he), fun k hk k' hk' _ => (by simp at hk hk'; rw [hk, hk']), fun k hk k' hk' _ => (by simp at hk hk'; rw [hk, hk']), fun k hk k' hk' => (by simp at hk hk'; rw [hk, hk']; exact h)⟩
theorem own2_ok {e f : Ent} (st : ∀ w w', S0 w → Below B w w' → S0 w') (he : Local e.pre ∧ Local e.post) (hf : Local f.pre ∧ Local f.post) (hx : e.x ≠ f.x) (hs : e.s ≠ f.s)
    (h : e.s ≠ e.x ∧ e.s ≠ f.x ∧ f.s ≠ e.x ∧ f.s ≠ f.x) : OwnOk S0 B [e, f] := by
  obtain ⟨h1, h2, h3, h4⟩ := h
  refine ⟨st, fun k hk => ?_, fun k hk k' hk' c => ?_, fun k hk k' hk' c => ?_, fun k hk k' hk' => ?_⟩
  · simp at hk; rcases hk with rfl | rfl <;> assumption
  · simp at hk hk'; rcases hk with rfl | rfl <;> rcases hk' with rfl | rfl <;> first | rfl | exact absurd c hx | exact absurd c (Ne.symm hx)
  · simp at hk hk'; rcases hk with rfl | rfl <;> rcases hk' with rfl | rfl <;> first | rfl | exact absurd c hs | exact absurd c (Ne.symm hs)
  · simp at hk hk'; rcases hk with rfl | rfl <;> rcases hk' with rfl | rfl <;> assumption
theorem abMake {x : Nat} {oi : Oper} (ok : OwnOk S0 B own) (e : Ent) (he : e ∈ own) (hx : e.x = x) (hi : ops[x]? = some oi) (hun : l.getD e.s false = false) (hin : decide (x < l.size) = true)
    (hm : AbMakes P ops S0 e oi a) {K : (Nat → Nat) → Act → Prop} (h : ∀ b, B ≤ b → (∀ e' ∈ own, l.getD e'.x false = true → g e'.x ≠ b) → K (made g x b) (a.put oi.dst (.pointer (some ⟨b, 0, none⟩)))) (w : World) (hs : Sof S0 B own g l w) :
    wpOp P ops Q x (fun a' w' => ∃ g', Sof S0 B own g' (l.setIfInBounds x true) w' ∧ K g' a') a w := by
  subst hx
  obtain ⟨hw, o, hr⟩ := hm
  obtain ⟨hr, hp⟩ := hr w hs.1
  unfold Go.wpOp
  simp only [hi, hw, if_true]
  left
  unfold Oper.wp
  rw [hr, Oper.upon_value]
  refine ⟨_, sof_made e he (fun e' he' => ok.one e he e' he') (fun e' he' => ok.apart e he e' he') ok.st ok.loc hun (of_decide_eq_true hin) hp hs, h _ hs.2.1 fun e' he' hl => ?_⟩
  have := (hs.2.2.1 e' he' hl).2.1
  omega
/-- One block is made. -/
theorem abMake1 (x : Nat) (d : Tmp) {oi : Oper} (ok : OwnOk S0 B own) (e : Ent) (he : e ∈ own) (hx : e.x = x) (hi : ops[x]? = some oi) (hd : oi.dst = some d) (hun : l.getD e.s false = false) (hin : decide (x < l.size) = true)
    (hr : Region.ready md ops l = [x]) (hm : AbMakes P ops S0 e oi a)
    (h : ∀ b, B ≤ b → (∀ e' ∈ own, l.getD e'.x false = true → g e'.x ≠ b) → wpAb P md ops Q (Sof S0 B own) n (made g x b) (l.setIfInBounds x true) (a.put (some d) (.pointer (some ⟨b, 0, none⟩)))) :
    wpAb P md ops Q (Sof S0 B own) (n + 1) g l a :=
  abLast x hr fun w hs => abMake ok e he hx hi hun hin hm (K := fun g' a' => wpAb P md ops Q (Sof S0 B own) n g' (l.setIfInBounds x true) a') (by rw [hd]; exact h) w hs
theorem AbMakes.put {e : Ent} {o o' : Oper} {v : Value} (hs : ∀ cs b, o.op ≠ .select cs b) (hap : o'.apart ops o = true) (h : AbMakes P ops S0 e o a) : AbMakes P ops S0 e o (a.put o'.dst v) := by
  obtain ⟨h1, _, _⟩ := Oper.apart_spec hap
  unfold AbMakes at *
  rw [execOp_put o hs a o'.dst v h1, wanted_put (ops := ops) o a o'.dst v h1]
  exact h
theorem made_comm (g : Nat → Nat) {x y : Nat} (b c : Nat) (h : x ≠ y) : made (made g x b) y c = made (made g y c) x b := by
  funext z
  unfold made
  by_cases c1 : z = x <;> by_cases c2 : z = y <;> simp_all
/-- Two blocks are made, in either order. -/
theorem abMake2 (x y : Nat) (dx dy : Tmp) {ox oy : Oper} (ok : OwnOk S0 B own) (e f : Ent) (he : e ∈ own) (hf : f ∈ own) (hex : e.x = x) (hfy : f.x = y) (hx : ops[x]? = some ox) (hy : ops[y]? = some oy) (hdx : ox.dst = some dx) (hdy : oy.dst = some dy)
    (hue : l.getD e.s false = false) (huf : l.getD f.s false = false) (hxin : decide (x < l.size) = true) (hyin : decide (y < l.size) = true) (hne : x ≠ y) (hes : e.s ≠ y ∧ f.s ≠ x) (hns : Region.noSelect ops = true) (hxy : ox.apart ops oy = true) (hyx : oy.apart ops ox = true)
    (hr : Region.ready md ops l = [x, y]) (hrx : Region.ready md ops (l.setIfInBounds x true) = [y]) (hry : Region.ready md ops (l.setIfInBounds y true) = [x]) (hmx : AbMakes P ops S0 e ox a) (hmy : AbMakes P ops S0 f oy a)
    (h : ∀ b c, B ≤ b → B ≤ c → b ≠ c → wpAb P md ops Q (Sof S0 B own) n (made (made g x b) y c) ((l.setIfInBounds x true).setIfInBounds y true) ((a.put (some dx) (.pointer (some ⟨b, 0, none⟩))).put (some dy) (.pointer (some ⟨c, 0, none⟩)))) :
    wpAb P md ops Q (Sof S0 B own) (n + 1 + 1) g l a := by
  have gset : ∀ (l : Array Bool) (k : Nat), k < l.size → (l.setIfInBounds k true).getD k false = true := fun l k hk => by simp [hk]
  refine ⟨fun e => (by rw [hr] at e; cases e), fun j hj => ?_⟩
  rw [hr] at hj
  simp at hj
  rcases hj with rfl | rfl
  · refine abMake ok e he hex hx hue hxin hmx (K := fun g' a' => wpAb P md ops Q (Sof S0 B own) (n + 1) g' (l.setIfInBounds j true) a') fun b hb _ => ?_
    refine abMake1 y dy ok f hf hfy hy hdy (by rw [getD_set_ne _ (Ne.symm hes.2)]; exact huf) (by simpa using of_decide_eq_true hyin) hrx (hmy.put (Region.noSelect_spec hns y oy · · hy) hxy) fun c hc hdis => ?_
    have hbc : b ≠ c := by
      have := hdis e he (by rw [hex]; exact gset _ _ (of_decide_eq_true hxin))
      rwa [hex, made_same] at this
    rw [hdx]
    exact h b c hb hc hbc
  · refine abMake ok f hf hfy hy huf hyin hmy (K := fun g' a' => wpAb P md ops Q (Sof S0 B own) (n + 1) g' (l.setIfInBounds j true) a') fun c hc _ => ?_
    refine abMake1 x dx ok e he hex hx hdx (by rw [getD_set_ne _ (Ne.symm hes.1)]; exact hue) (by simpa using of_decide_eq_true hxin) hry (hmx.put (Region.noSelect_spec hns x ox · · hx) hyx) fun b hb hdis => ?_
    have hbc : b ≠ c := by
      have := hdis f hf (by rw [hfy]; exact gset _ _ (of_decide_eq_true hyin))
      rw [hfy, made_same] at this
      exact Ne.symm this
    have hd : ∀ d, (some dy : Option Tmp) = some d → (some dx : Option Tmp) ≠ some d := by
      have := (Oper.apart_spec hyx).2.1
      rwa [hdx, hdy] at this
    rw [hdy, Act.put_comm a (x := some dy) (y := some dx) _ _ hd, made_comm g c b (Ne.symm hne), Array.setIfInBounds_comm _ _ (Ne.symm hne)]
    exact h b c hb hc hbc

/-- What is stored into a block that the region made. -/
theorem abStore (s : Nat) {oi : Oper} (ok : OwnOk S0 B own) (e : Ent) (he : e ∈ own) (hs : e.s = s) (hi : ops[s]? = some oi) (hd : oi.dst = none) (hr : Region.ready md ops l = [s]) (hun : l.getD s false = false) (hmd : l.getD e.x false = true) (hin : decide (s < l.size) = true)
    (hw : Region.wanted oi (yielded ops a.tmps) = true)
    (hy : ∀ w b, S0 w → b = g e.x → B ≤ b → e.pre w b → ∃ w', (execOp a.eval oi).run P w = .ok .skip w' ∧ e.post w' b ∧ Below B w w' ∧ ∀ k, k ≠ b → w'.heap[k]? = w.heap[k]?)
    (h : wpAb P md ops Q (Sof S0 B own) n g (l.setIfInBounds s true) a) : wpAb P md ops Q (Sof S0 B own) (n + 1) g l a := by
  subst hs
  refine abLast e.s hr fun w hS => ?_
  obtain ⟨h1, h2, h3, h4⟩ := hS
  obtain ⟨k1, k2, k3⟩ := h3 e he hmd
  rw [if_neg (by rw [hun]; simp)] at k3
  obtain ⟨w', r1, r2, r3, r4⟩ := hy w _ h1 rfl k1 k3
  unfold Go.wpOp
  simp only [hi, hw, if_true]
  left
  unfold Oper.wp
  rw [r1, Oper.upon_skip, hd]
  refine ⟨g, ⟨ok.st _ _ h1 r3, Nat.le_trans h2 r3.size, fun e' he' hx => ?_, fun e1 he1 e2 he2 hn hx1 hx2 => ?_⟩, h⟩
  · rw [getD_set_ne _ (ok.apart e' he' e he)] at hx
    obtain ⟨j1, j2, j3⟩ := h3 e' he' hx
    refine ⟨j1, Nat.lt_of_lt_of_le j2 r3.size, ?_⟩
    by_cases c : e'.x = e.x
    · obtain rfl := ok.one e he e' he' c
      rw [if_pos (by simp [of_decide_eq_true hin])]
      exact r2
    · have hne := h4 e' he' e he c hx hmd
      have hns : e'.s ≠ e.s := fun c2 => c (by rw [ok.two e he e' he' c2])
      rw [getD_set_ne _ (Ne.symm hns)]
      split at j3
      · rename_i c3; rw [if_pos c3]; exact (ok.loc e' he').2 _ _ _ (r4 _ hne) j3
      · rename_i c3; rw [if_neg c3]; exact (ok.loc e' he').1 _ _ _ (r4 _ hne) j3
  · rw [getD_set_ne _ (ok.apart e1 he1 e he)] at hx1
    rw [getD_set_ne _ (ok.apart e2 he2 e he)] at hx2
    exact h4 e1 he1 e2 he2 hn hx1 hx2
/-- What lies in a block of the region's behind it. -/
theorem sof_post {w : World} (h : Sof S0 B own g l w) (e : Ent) (he : e ∈ own) (h1 : l.getD e.x false = true) (h2 : l.getD e.s false = true) {b : Nat} (hb : g e.x = b) : B ≤ b ∧ b < w.heap.size ∧ e.post w b := by
  obtain ⟨k1, k2, k3⟩ := h.2.2.1 e he h1
  rw [if_pos h2] at k3
  subst hb
  exact ⟨k1, k2, k3⟩
end
end Go.Proofs.Ytacnaencmbnjpaa
