/- Rows of the call's own, in a row of the call's own. -/
import Derived.Test.YtfafkdbflmennaaRdR
import Derived.Test.YtfafkdbflmennaaApI
import Derived.OwnWalk
namespace Go.Proofs.Ytfafkdbflmennaa
open Go.RowKit

theorem ReadsI.frame0 {w w' : World} {v : Value} {xs : List Int} (h : ReadsI w v xs) (hs : w.heap.size ≤ w'.heap.size) (hk : 0 < xs.length → ∀ k, v.ownBlock = some k → w'.heap[k]? = w.heap[k]?) : ReadsI w' v xs := by
  obtain ⟨ao, cap, rfl, h2, h3, h4⟩ := h
  refine ⟨ao, cap, rfl, h2, h3, fun i hi => ?_⟩
  obtain ⟨b, off, rfl, h6, h7⟩ := h4 i hi
  exact ⟨b, off, rfl, Nat.lt_of_lt_of_le h6 hs, (World.cell?_of_block (w := w) (hk (by omega) b rfl)).trans h7⟩
/-- Rows of the call's own, in a row of the call's own. -/
def OwnRows (B : Nat) (rv : Value) (w : World) (L : List (List Int)) : Prop :=
  ∃ vs : List Value, w.ownsRow B 24 1 rv L.length vs ∧ ∀ (i : Nat) (row : List Int), L[i]? = some row → ∃ u, vs[i]? = some u ∧ IRow B u row w
theorem own_irow {w : World} {B B' n : Nat} {v u : Value} {vs : List Value} {row : List Int} (h : w.ownsRow B 24 1 v n vs) (hu : IRow B' u row w) : u.ownBlock = none ∨ u.ownBlock ≠ v.ownBlock := by
  rcases hu.2 with ⟨rfl, _⟩ | ⟨g, cap, cur, rfl, _, hg, _⟩
  · exact .inl rfl
  · refine .inr fun e => ?_
    rcases h.2 with ⟨rfl, _⟩ | ⟨g', cap', cur', rfl, _, hg', _⟩
    · cases e
    · injection e with e
      have e2 : g = g' := e
      subst e2
      rw [hg] at hg'
      injection hg' with hg'
      injection hg' with _ hg' _
      exact absurd hg' (by decide)
theorem OwnRows.frame {B : Nat} {rv : Value} {w w' : World} {L : List (List Int)} (h : OwnRows B rv w L) (hk : ∀ k, B ≤ k → k < w.heap.size → w'.heap[k]? = w.heap[k]?) : OwnRows B rv w' L := by
  obtain ⟨vs, h1, h2⟩ := h
  refine ⟨vs, ⟨h1.1, ?_⟩, fun i row hi => ?_⟩
  · rcases h1.2 with hn | ⟨g, cap, cur, h3, h4, h5, h6⟩
    · exact .inl hn
    · exact .inr ⟨g, cap, cur, h3, h4, (hk g h4 (Array.getElem?_eq_some_iff.1 h5).1).trans h5, h6⟩
  · obtain ⟨u, h3, h4⟩ := h2 i row hi
    exact ⟨u, h3, h4.frame hk⟩
theorem OwnRows.below {B : Nat} {rv : Value} {w w' : World} {L : List (List Int)} (h : OwnRows B rv w L) (hb : Below w.heap.size w w') : OwnRows B rv w' L := h.frame fun k _ hk => hb.block k hk
theorem OwnRows.lt {B : Nat} {rv : Value} {w : World} {L : List (List Int)} (h : OwnRows B rv w L) : ∀ k, rv.ownBlock = some k → B ≤ k ∧ k < w.heap.size := by
  obtain ⟨vs, h1, _⟩ := h
  exact h1.lt
theorem OwnRows.reads {B : Nat} {rv : Value} {w : World} {L : List (List Int)} (h : OwnRows B rv w L) : ReadsR w rv L := by
  obtain ⟨vs, h2, h3⟩ := h
  rcases id h2.2 with ⟨rfl, h0⟩ | ⟨g, cap, cur, rfl, hb, hg, hn, hm, hs, ht⟩
  · have : L = [] := List.eq_nil_of_length_eq_zero h0
    subst this
    exact ReadsR.nil w
  · refine ⟨_, cap, rfl, hn, hm, fun i hi => ?_⟩
    obtain ⟨u, h4, h5⟩ := h3 i _ (List.getElem?_eq_getElem hi)
    have hc := h2.cells (g := g) rfl i _ h4
    have e : (⟨g, 0, none⟩ : Addr).add i = ⟨g, 0 + i, none⟩ := by unfold Addr.add; split <;> simp_all
    rw [e] at hc
    refine ⟨g, 0, u, rfl, (Array.getElem?_eq_some_iff.1 hg).1, hc, ?_⟩
    rw [List.getD_eq_getElem?_getD, List.getElem?_eq_getElem hi]
    exact h5.reads
theorem IRow.one {B : Nat} {u : Value} {row : List Int} {w : World} (h : IRow B u row w) : u.oneCell' = true := by
  rcases h.2 with ⟨rfl, _⟩ | ⟨g, cap, cur, rfl, _⟩ <;> rfl
/-- One row more. -/
theorem wpList_append_row {w : World} {ops : Array Oper} {rest : List Oper} {o : Oper} {a : Act} {Q : Exit → Act → World → Prop} (hgd : o.guard = none) (s x : Operand)
    (ho : o.op = .call { callee := .builtin .append, args := #[s, x], argTypes := #[47, 47] }) (B : Nat) (rv : Value) (L : List (List Int)) (hs : a.eval s = rv) (hown : OwnRows B rv w L)
    (ad : Addr) (c : Nat) (u : Value) (row : List Int) (hx : a.eval x = .slice (some ad) 1 c) (hz : w.cell? ad = some u) (hu : IRow B u row w) (hl : L.length ≤ 100000) (hB : B ≤ w.heap.size)
    (h : ∀ v' w', OwnRows B v' w' (L ++ [row]) → w.grownBy w' rv.ownBlock → wpList Try.prog ops Q rest (a.put o.dst v') w') : wpList Try.prog ops Q (o :: rest) a w := by
  obtain ⟨i0, hi, hz0, hz1, hz2⟩ := info_parts infoRow
  obtain ⟨vs, h1, h2⟩ := hown
  refine wpList_append_own w hgd s x 47 ho B 24 i0 (.slice none 0 0) 1 24 Try.underlying47 hi hz0 hz1 hz2 rfl (by decide) rv L.length vs hs h1 ad 1 c [u] hx rfl ?_ (fun q hq => by rw [List.mem_singleton.1 hq]; exact hu.one) (by unfold maxLen; omega) (by omega) hB ?_
  · intro j q hj
    cases j with
    | zero => cases hj; exact hz
    | succ j => cases hj
  · intro v' w' h3 h4 _
    have keep : ∀ q r, IRow B q r w → IRow B q r w' := fun q r hq => by
      have h0 : w.ownsRow B 3 1 q r.length (r.map (Value.int .i64)) := hq
      exact h0.kept h4 (own_irow h1 hq)
    refine h v' w' ⟨vs ++ [u], by rw [List.length_append]; exact h3, fun i r hi => ?_⟩ h4
    have hvl := h1.1
    rw [Nat.mul_one] at hvl
    rcases Nat.lt_or_ge i L.length with hl | hl
    · rw [List.getElem?_append_left hl] at hi
      obtain ⟨q, h5, h6⟩ := h2 i r hi
      exact ⟨q, by rw [List.getElem?_append_left (by omega)]; exact h5, keep _ _ h6⟩
    · rw [List.getElem?_append_right hl] at hi
      obtain ⟨i', rfl⟩ : ∃ i', i = L.length + i' := ⟨i - L.length, by omega⟩
      rw [Nat.add_sub_cancel_left] at hi
      cases i' with
      | succ i' => cases hi
      | zero =>
        cases hi
        refine ⟨u, ?_, keep _ _ hu⟩
        rw [Nat.add_zero, List.getElem?_append_right (by omega), hvl, Nat.sub_self]
        rfl
theorem OwnRows.made (w : World) : OwnRows w.heap.size (.slice (some ⟨w.heap.size, 0, none⟩) 0 0) (w.alloc (.cells #[] 24)) [] :=
  ⟨[], World.ownsRow_made w #[] 0 (Nat.le_refl _) (Nat.zero_le _) rfl, fun i row hi => by cases hi⟩
end Go.Proofs.Ytfafkdbflmennaa
