/- A slice of words of 64 bits that a call makes for itself: one more word appended. -/
import Derived.Test.YtacnaencmbnjpaaBase
import Derived.Test.YtacnaencmbnjpaaCarr
import Derived.OwnWalk
import Derived.Laws.AppendOwn
namespace Go.Proofs.Ytacnaencmbnjpaa
open Go.RowKit

theorem info64 : (Try.prog.info? 53).map (fun i => (i.zero, i.size, i.bytes)) = some (some (.int .u64 0), 1, 8) := by kernel_rfl

theorem ownsRow_base {w : World} {base base' : Nat} {e : TypeId} {size : Nat} {v : Value} {n : Nat} {xs : List Value} (h : w.ownsRow base e size v n xs) (hb : base' ≤ base) : w.ownsRow base' e size v n xs := by
  obtain ⟨h1, h2⟩ := h
  refine ⟨h1, ?_⟩
  rcases h2 with h2 | ⟨g, cap, cur, e1, e2, e3⟩
  · exact .inl h2
  · exact .inr ⟨g, cap, cur, e1, Nat.le_trans hb e2, e3⟩

/-- A call has answered a slice of n words, told by f, in new memory; nothing that was there is changed. -/
def RowOut (f : Nat → Nat) (n : Nat) (w : World) (e : Ending) (w' : World) : Prop :=
  ∃ g cap, e = .returned (.slice (some ⟨g, 0, none⟩) n cap) ∧ w.heap.size ≤ g ∧ g < w'.heap.size ∧ n ≤ cap ∧ (∀ j, j < n → w'.cell? ⟨g, j, none⟩ = some (.int .u64 (f j : Nat))) ∧ (∀ j, w'.frozen? ⟨g, j, none⟩ = false) ∧ Below w.heap.size w w'
theorem row_cells {w : World} {base n : Nat} {v : Value} {f : Nat → Nat} (hn : 0 < n) (h : w.ownsRow base 53 1 v n (u64s (fl f n))) :
    ∃ g cap, v = .slice (some ⟨g, 0, none⟩) n cap ∧ base ≤ g ∧ g < w.heap.size ∧ n ≤ cap ∧ (∀ j, j < n → w.cell? ⟨g, j, none⟩ = some (.int .u64 (f j : Nat))) ∧ (∀ j, w.frozen? ⟨g, j, none⟩ = false) := by
  obtain ⟨_, h2⟩ := h
  rcases h2 with ⟨_, h0⟩ | ⟨g, cap, cur, hv, hb, hcur, hle, _, hs, ht⟩
  · omega
  · refine ⟨g, cap, hv, hb, (Array.getElem?_eq_some_iff.1 hcur).1, hle, fun j hj => ?_, fun j => ?_⟩
    · have e := u64s_get f n j hj
      rw [← ht, Nat.mul_one, List.getElem?_take, if_pos hj] at e
      rw [cell_of_row w g j cur _ (0, 0) hcur]
      simpa using e
    · simp [World.frozen?, hcur]
theorem RowOut.of_own {f : Nat → Nat} {n : Nat} {w w' : World} {e : Ending} {v : Value} (hn : 0 < n) (he : e = .returned v) (ho : w'.ownsRow w.heap.size 53 1 v n (u64s (fl f n))) (hb : Below w.heap.size w w') : RowOut f n w e w' := by
  obtain ⟨g, cap, rfl, h1, h2, h3, h4, h5⟩ := row_cells hn ho
  exact ⟨g, cap, he, h1, h2, h3, h4, h5, hb⟩

/-- 'append(s, x)' of one word, s a row of the call's own. -/
theorem append1 {w : World} {ops : Array Oper} {rest : List Oper} {o : Oper} {a : Act} {Q : Exit → Act → World → Prop} (hgd : o.guard = none) (s x : Operand)
    (ho : o.op = .call { callee := .builtin .append, args := #[s, x], argTypes := #[100, 100] })
    (base : Nat) (v : Value) (n : Nat) (xs : List Value) (hs : a.eval s = v) (hown : w.ownsRow base 53 1 v n xs)
    (b : Nat) (c : Int) (hx : a.eval x = .slice (some ⟨b, 0, none⟩) 1 1) (hc : w.cell? ⟨b, 0, none⟩ = some (.int .u64 c)) (hn : n < 1000000) (hbase : base ≤ w.heap.size)
    (h : ∀ v' w', w'.ownsRow base 53 1 v' (n + 1) (xs ++ [.int .u64 c]) → w.grownBy w' v.ownBlock → wpList Try.prog ops Q rest (a.put o.dst v') w') : wpList Try.prog ops Q (o :: rest) a w := by
  obtain ⟨i, hi, hz0, hz1, hz2⟩ := info_parts info64
  refine wpList_append_own w hgd s x 100 ho base 53 i (.int .u64 0) 1 8 Try.underlying100 hi hz0 hz1 hz2 rfl (by decide) v n xs hs hown ⟨b, 0, none⟩ 1 1 [.int .u64 c] hx rfl ?_ ?_ ?_ ?_ hbase (fun v' w' h1 h2 _ => h v' w' h1 h2)
  · intro j u hj
    cases j with
    | zero => simp at hj; subst hj; exact hc
    | succ j => simp at hj
  · intro u hu; simp at hu; subst hu; rfl
  · unfold maxLen; omega
  · omega

/-- The same as an operation of a region that draws its order. -/
theorem regAppend1 {ops : Array Oper} {Q : Exit → Act → World → Prop} {md : Region.Mode} {S : World → Prop} (i : Nat) (d : Option Tmp) {oi : Oper} {fuel : Nat} {listed : Array Bool} {a : Act} {w : World} (hi : ops[i]? = some oi) (hd : oi.dst = d)
    (hr : Region.ready md ops listed = [i]) (hw : Region.wanted oi (yielded ops a.tmps) = true) (s x : Operand)
    (ho : oi.op = .call { callee := .builtin .append, args := #[s, x], argTypes := #[100, 100] })
    (base : Nat) (v : Value) (n : Nat) (xs : List Value) (hs : a.eval s = v) (hown : w.ownsRow base 53 1 v n xs)
    (b : Nat) (c : Int) (hx : a.eval x = .slice (some ⟨b, 0, none⟩) 1 1) (hc : w.cell? ⟨b, 0, none⟩ = some (.int .u64 c)) (hn : n < 1000000) (hbase : base ≤ w.heap.size)
    (h : ∀ v' w', w'.ownsRow base 53 1 v' (n + 1) (xs ++ [.int .u64 c]) → w.grownBy w' v.ownBlock → S w' ∧ (S w' → wpAnyH Try.prog md ops Q S fuel (listed.setIfInBounds i true) (a.put d v') w')) : wpAnyH Try.prog md ops Q S (fuel + 1) listed a w := by
  subst hd
  refine wpAnyH_ready (rs := [i]) hr (by simp) (AllReadyH.cons hi (fun K hK => ?_) AllReadyH.nil)
  rw [if_pos hw]
  obtain ⟨i, hi, hz0, hz1, hz2⟩ := info_parts info64
  refine wp_append_own w s x 100 ho base 53 i (.int .u64 0) 1 8 Try.underlying100 hi hz0 hz1 hz2 rfl (by decide) v n xs hs hown ⟨b, 0, none⟩ 1 1 [.int .u64 c] hx rfl ?_ ?_ ?_ ?_ hbase (fun v' w' h1 h2 _ => hK.out _ _ (h v' w' h1 h2).1 (h v' w' h1 h2).2)
  · intro j u hj
    cases j with
    | zero => simp at hj; subst hj; exact hc
    | succ j => simp at hj
  · intro u hu; simp at hu; subst hu; rfl
  · unfold maxLen; omega
  · omega
end Go.Proofs.Ytacnaencmbnjpaa
