/- A region that draws its order: what holds may be made more on the way; and a region walked by what holds between its operations, whatever order comes. -/
import Derived.Test.YtjonpcpcokapkaaGen
namespace Go.Proofs.Ytjonpcpcokapkaa
open Go.RowKit
section
variable {P : Program} {ops : Array Oper} {Q : Exit → Act → World → Prop} {md : Region.Mode} {S S' : World → Prop}
/-- What holds behind each operation may be more from here on. -/
theorem wpAnyH_more (hS : ∀ w, S' w → S w) : ∀ (n : Nat) (l : Array Bool) (a : Act) (w : World), wpAnyH P md ops Q S' n l a w → wpAnyH P md ops Q S n l a w
  | 0, _, _, _, h => h
  | n + 1, _, _, _, h => ⟨h.1, fun i hi => wpOp_mono (fun a' w' h' => ⟨hS _ h'.1, wpAnyH_more hS n _ a' w' h'.2⟩) (h.2 i hi)⟩
/-- How many have not come up. -/
def opensB (l : Array Bool) : Nat := l.toList.countP (fun b => !b)
theorem opensB_set {l : Array Bool} {i : Nat} (h : l.getD i true = false) : opensB (l.setIfInBounds i true) < opensB l := by
  unfold opensB
  have hi : i < l.size := by
    rcases Nat.lt_or_ge i l.size with c | c
    · exact c
    · simp [Array.getElem?_eq_none c] at h
  have hl : l.toList[i]'(by simpa using hi) = false := by simpa [hi] using h
  rw [Array.toList_setIfInBounds]
  have e : ∀ (m : List Bool) (i : Nat) (hi : i < m.length), m[i] = false → (m.set i true).countP (fun b => !b) < m.countP (fun b => !b) := by
    intro m
    induction m with
    | nil => intro i hi; exact absurd hi (Nat.not_lt_zero _)
    | cons b m ih =>
      intro i hi hb
      cases i with
      | zero =>
        have hb : b = false := hb
        subst hb
        simp
      | succ i =>
        have := ih i (by simpa using hi) (by simpa using hb)
        simp only [List.set_cons_succ, List.countP_cons]
        omega
  exact e l.toList i (by simpa using hi) hl
theorem wpAny_of_inv (I : Array Bool → Act → World → Prop)
    (hstep : ∀ l a w i, i ∈ Region.ready md ops l → I l a w → wpOp P ops Q i (fun a' w' => I (l.setIfInBounds i true) a' w') a w)
    (hend : ∀ l a w, Region.ready md ops l = [] → I l a w → Q .normal a w) :
    ∀ (n : Nat) (l : Array Bool) (a : Act) (w : World), opensB l ≤ n → I l a w → wpAny P md ops Q n l a w
  | 0, l, a, w, hn, h => by
    have h0 : Region.ready md ops l = [] := by
      rcases e : Region.ready md ops l with _ | ⟨i, r⟩
      · rfl
      · have := opensB_set (mem_ready.1 (show i ∈ Region.ready md ops l by rw [e]; simp)).1
        omega
    exact ⟨h0, hend l a w h0 h⟩
  | n + 1, l, a, w, hn, h => ⟨fun h0 => hend l a w h0 h, fun i hi => wpOp_mono (fun a' w' h' => wpAny_of_inv I hstep hend n _ a' w' (by
      have := opensB_set (mem_ready.1 hi).1
      omega) h') (hstep l a w i hi h)⟩
theorem wp_region_inv {id : Nat} {a : Act} {w : World} (I : Array Bool → Act → World → Prop) (hm : P.follows .mixedOrders = true)
    (h0 : I (Array.replicate ops.size false) a w.drew)
    (hstep : ∀ l a w i, i ∈ Region.ready .any ops l → I l a w → wpOp P ops Q i (fun a' w' => I (l.setIfInBounds i true) a' w') a w)
    (hend : ∀ l a w, Region.ready .any ops l = [] → I l a w → Q .normal a w) : (Code.region id ops true).wp P Q a w :=
  wp_region_any hm (wpAny_of_inv I hstep hend _ _ _ _ (by
    unfold opensB
    refine Nat.le_trans List.countP_le_length ?_
    simp) h0)
end
end Go.Proofs.Ytjonpcpcokapkaa
