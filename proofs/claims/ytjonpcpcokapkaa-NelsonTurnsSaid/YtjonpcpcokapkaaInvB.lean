/- A region that draws its order, walked by what holds between its operations. -/
import Derived.Test.YtjonpcpcokapkaaInv
namespace Go.Proofs.Ytjonpcpcokapkaa
open Go.RowKit
section
variable {P : Program} {ops : Array Oper} {Q : Exit → Act → World → Prop} {md : Region.Mode} {S S' : World → Prop}
/-- What has come up has come up behind all that it waits for. -/
def ClosedL (md : Region.Mode) (ops : Array Oper) (l : Array Bool) : Prop :=
  ∀ (i : Nat) (oi : Oper), ops[i]? = some oi → l.getD i false = true → ∀ e ∈ oi.after, Region.binds md e = true → l.getD e.on false = true
theorem set_mono {l : Array Bool} {i j : Nat} (h : l.getD j false = true) : (l.setIfInBounds i true).getD j false = true := by
  by_cases e : i = j
  · subst e
    rcases Nat.lt_or_ge i l.size with c | c
    · simp [c]
    · simp [Array.getElem?_eq_none c] at h
  · rw [getD_set_ne false e]
    exact h
theorem set_here {l : Array Bool} {i : Nat} (h : i < l.size) : (l.setIfInBounds i true).getD i false = true := by simp [h]
theorem set_else {l : Array Bool} {i j : Nat} (h : i ≠ j) : (l.setIfInBounds i true).getD j false = l.getD j false := getD_set_ne false h
theorem ready_on {l : Array Bool} {i : Nat} (h : i ∈ Region.ready md ops l) {oi : Oper} (hi : ops[i]? = some oi) {e : Edge} (he : e ∈ oi.after) (hb : Region.binds md e = true) : l.getD e.on false = true := by
  obtain ⟨-, o, ho, h2⟩ := mem_ready.1 h
  rw [hi] at ho
  cases ho
  exact h2 e he hb
theorem ready_not {l : Array Bool} {i : Nat} (h : i ∈ Region.ready md ops l) : l.getD i false = false := by
  have h0 := (mem_ready.1 h).1
  rcases Nat.lt_or_ge i l.size with c | c
  · simpa [c] using h0
  · simp [Array.getElem?_eq_none c]
theorem ClosedL.set {l : Array Bool} {i : Nat} (h : ClosedL md ops l) (hi : i ∈ Region.ready md ops l) : ClosedL md ops (l.setIfInBounds i true) := fun j oj hj hl e he hb => by
  by_cases c : i = j
  · subst c
    exact set_mono (ready_on hi hj he hb)
  · rw [set_else c] at hl
    exact set_mono (h j oj hj hl e he hb)
theorem ready_all {l : Array Bool} (h : Region.ready md ops l = []) (hz : l.size = ops.size) (ho : ∀ (i : Nat) (oi : Oper), ops[i]? = some oi → ∀ e ∈ oi.after, e.on < i) : ∀ n i, i ≤ n → i < ops.size → l.getD i false = true := by
  intro n
  induction n with
  | zero =>
    intro i hi hl
    obtain rfl : i = 0 := by omega
    cases q : l.getD 0 false with
    | true => rfl
    | false =>
      have : 0 ∈ Region.ready md ops l := mem_ready.2 ⟨by simpa [hz, hl] using q, _, Array.getElem?_eq_getElem hl, fun e he _ => absurd (ho 0 _ (Array.getElem?_eq_getElem hl) e he) (Nat.not_lt_zero _)⟩
      rw [h] at this
      cases this
  | succ n ih =>
    intro i hi hl
    cases q : l.getD i false with
    | true => rfl
    | false =>
      have : i ∈ Region.ready md ops l := mem_ready.2 ⟨by simpa [hz, hl] using q, _, Array.getElem?_eq_getElem hl, fun e he _ => by
        have := ho i _ (Array.getElem?_eq_getElem hl) e he
        exact ih _ (by omega) (by omega)⟩
      rw [h] at this
      cases this
def inOrder (ops : Array Oper) : Bool := (List.range ops.size).all fun i => ((ops[i]?).map fun o => o.after.all fun e => decide (e.on < i)).getD true
theorem inOrder_spec (h : inOrder ops = true) : ∀ (i : Nat) (oi : Oper), ops[i]? = some oi → ∀ e ∈ oi.after, e.on < i := fun i oi hi e he => by
  have h := List.all_eq_true.1 h i (List.mem_range.2 (Array.getElem?_eq_some_iff.1 hi).1)
  rw [hi] at h
  simp only [Option.map_some, Option.getD_some, Array.all_eq_true_iff_forall_mem, decide_eq_true_eq] at h
  exact h e he
/-- A region walked by what holds between its operations: what has come up is closed under what it waits for. -/
theorem wp_region_by {id : Nat} {a : Act} {w : World} (I : Array Bool → Act → World → Prop) (hm : P.follows .mixedOrders = true) (ho : inOrder ops = true)
    (h0 : I (Array.replicate ops.size false) a w.drew)
    (hstep : ∀ l a w i, l.size = ops.size → ClosedL .any ops l → i ∈ Region.ready .any ops l → I l a w → wpOp P ops Q i (fun a' w' => I (l.setIfInBounds i true) a' w') a w)
    (hend : ∀ l a w, (∀ i, i < ops.size → l.getD i false = true) → I l a w → Q .normal a w) : (Code.region id ops true).wp P Q a w :=
  wp_region_inv (fun l a w => (l.size = ops.size ∧ ClosedL .any ops l) ∧ I l a w) hm ⟨⟨by simp, fun i oi hi hl => by
    rw [show (Array.replicate ops.size false).getD i false = false from by
      rcases Nat.lt_or_ge i ops.size with c | c
      · simp [c]
      · simp [Array.getElem?_eq_none (show (Array.replicate ops.size false).size ≤ i by simpa using c)]] at hl
    cases hl⟩, h0⟩
    (fun l a w i hi ⟨⟨hz, hc⟩, h⟩ => wpOp_mono (fun a' w' h' => ⟨⟨by simpa using hz, hc.set hi⟩, h'⟩) (hstep l a w i hz hc hi h))
    (fun l a w hr ⟨⟨hz, _⟩, h⟩ => hend l a w (fun i hi => ready_all hr hz (inOrder_spec ho) i i (Nat.le_refl _) hi) h)
section
variable {i : Nat} {oi : Oper} {a : Act} {w w' : World} {K : Act → World → Prop}
theorem wpOp_of {K : Act → World → Prop} (hi : ops[i]? = some oi) (hw : Region.wanted oi (yielded ops a.tmps) = true) (h : oi.wp P a w K Q) : wpOp P ops Q i K a w := by
  unfold Go.wpOp
  simp only [hi, hw, if_true]
  exact Or.inl h
theorem wpOp_value (hi : ops[i]? = some oi) (hw : Region.wanted oi (yielded ops a.tmps) = true) {v : Value} (hy : (execOp a.eval oi).run P w = .ok (.value v) w') (h : K (a.put oi.dst v) w') : wpOp P ops Q i K a w :=
  wpOp_of hi hw (by unfold Oper.wp; rw [hy, Oper.upon_value]; exact h)
theorem wpOp_store (hi : ops[i]? = some oi) (hw : Region.wanted oi (yielded ops a.tmps) = true) (hy : (execOp a.eval oi).run P w = .ok .skip w') (h : K (a.put oi.dst undef) w') : wpOp P ops Q i K a w :=
  wpOp_of hi hw (by unfold Oper.wp; rw [hy, Oper.upon_skip]; exact h)
theorem wpOp_call (hi : ops[i]? = some oi) (hw : Region.wanted oi (yielded ops a.tmps) = true) {f : FuncId} {args : Array Value} (hy : (execOp a.eval oi).run P w = .ok (.enter f args) w')
    (h : Calls P f args w' fun e w'' => ∃ v, e = .returned v ∧ K (a.put oi.dst v) w'') : wpOp P ops Q i K a w :=
  wpOp_of hi hw (by
    unfold Oper.wp
    rw [hy, Oper.upon_enter]
    refine h.mono ?_
    rintro e w'' ⟨v, rfl, hn⟩
    exact hn)
end
end
end Go.Proofs.Ytjonpcpcokapkaa
