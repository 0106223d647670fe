/- Steps through a region that draws its order where one of two operations may come up next. -/
import Derived.Test.YtacnaencmbnjpaaBase
namespace Go.Proofs.Ytacnaencmbnjpaa
open Go.RowKit
section
variable {P : Program} {ops : Array Oper} {Q : Exit → Act → World → Prop} {md : Region.Mode} {S : World → Prop} {fuel : Nat} {listed : Array Bool} {a : Act} {w : World}
theorem regTwo (i j : Nat) (hr : Region.ready md ops listed = [i, j]) (h1 : AllReadyH P md ops Q S fuel listed a w [i]) (h2 : AllReadyH P md ops Q S fuel listed a w [j]) : wpAnyH P md ops Q S (fuel + 1) listed a w :=
  wpAnyH_ready hr (by simp) (fun k hk => by
    rcases List.mem_cons.1 hk with rfl | hk
    · exact h1 _ (by simp)
    · exact h2 _ hk)
theorem stepCall (i : Nat) (d : Option Tmp) {oi : Oper} {f : FuncId} {args : Array Value} (hi : ops[i]? = some oi) (hd : oi.dst = d) (hw : Region.wanted oi (yielded ops a.tmps) = true)
    (hy : (execOp a.eval oi).run P w = .ok (.enter f args) w)
    (h : Calls P f args w fun e w' => ∃ v, e = .returned v ∧ S w' ∧ (S w' → wpAnyH P md ops Q S fuel (listed.setIfInBounds i true) (a.put d v) w')) : AllReadyH P md ops Q S fuel listed a w [i] := by
  subst hd
  refine AllReadyH.cons hi (fun K hK => ?_) AllReadyH.nil
  rw [if_pos hw]
  unfold Oper.wp
  rw [hy, Oper.upon_enter]
  refine h.mono ?_
  rintro e w' ⟨v, rfl, hs, hn⟩
  exact hK.out _ _ hs hn
theorem stepDo (i : Nat) (d : Option Tmp) {oi : Oper} {v : Value} {w' : World} (hi : ops[i]? = some oi) (hd : oi.dst = d) (hw : Region.wanted oi (yielded ops a.tmps) = true)
    (hy : (execOp a.eval oi).run P w = .ok (.value v) w') (hs : S w')
    (h : S w' → wpAnyH P md ops Q S fuel (listed.setIfInBounds i true) (a.put d v) w') : AllReadyH P md ops Q S fuel listed a w [i] := by
  subst hd
  refine AllReadyH.cons hi (fun K hK => ?_) AllReadyH.nil
  rw [if_pos hw]
  unfold Oper.wp
  rw [hy, Oper.upon_value]
  exact hK.out _ _ hs h
end
theorem keepSet {W : World} {b Z off : Nat} {x y v : Value} (hne : b ≠ Z) (h : b < W.heap.size ∧ W.cell? ⟨b, 0, none⟩ = some x ∧ W.cell? ⟨b, 1, none⟩ = some y) :
    b < (W.setCell ⟨Z, off, none⟩ v).heap.size ∧ (W.setCell ⟨Z, off, none⟩ v).cell? ⟨b, 0, none⟩ = some x ∧ (W.setCell ⟨Z, off, none⟩ v).cell? ⟨b, 1, none⟩ = some y :=
  ⟨by simpa [World.setCell] using h.1, (World.cell?_setCell_other W _ _ _ (fun e => hne (by injection e with e1; exact e1.symm))).trans h.2.1, (World.cell?_setCell_other W _ _ _ (fun e => hne (by injection e with e1; exact e1.symm))).trans h.2.2⟩
/-- Two fresh cells of a block stay what they were, and may be written, behind a call that leaves all old blocks alone. -/
theorem keepZ {W w1 : World} (hb : Below W.heap.size W w1) {z : Nat} {x y : Value} (h : z < W.heap.size) (hc : W.cell? ⟨z, 0, none⟩ = some x ∧ W.cell? ⟨z, 1, none⟩ = some y ∧ W.frozen? ⟨z, 0, none⟩ = false ∧ W.frozen? ⟨z, 1, none⟩ = false) :
    z < w1.heap.size ∧ w1.cell? ⟨z, 0, none⟩ = some x ∧ w1.cell? ⟨z, 1, none⟩ = some y ∧ w1.frozen? ⟨z, 0, none⟩ = false ∧ w1.frozen? ⟨z, 1, none⟩ = false :=
  ⟨Nat.lt_of_lt_of_le h hb.size, (hb.cell (p := ⟨z, 0, none⟩) h).trans hc.1, (hb.cell (p := ⟨z, 1, none⟩) h).trans hc.2.1, (hb.frozen (p := ⟨z, 0, none⟩) h).trans hc.2.2.1, (hb.frozen (p := ⟨z, 1, none⟩) h).trans hc.2.2.2⟩
end Go.Proofs.Ytacnaencmbnjpaa
