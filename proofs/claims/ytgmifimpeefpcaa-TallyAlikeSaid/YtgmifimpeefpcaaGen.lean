/- A region that draws its order, walked once, in the order of the text: of each operation it is shown what it does in whatever world meets S0, wherever in the order it comes; blocks that the region makes are told by letters. -/
import Derived.Test.YtgmifimpeefpcaaRows
import Derived.WalkKit
import Derived.Outline
import Derived.Deep.RegionWith
import Derived.Deep.RegionHeld3
import Derived.Deep.DeepCutAuto
import Derived.Deep.QuietTactic
import Derived.BigQuiet
import Derived.KernelRfl
import Derived.LoopN
import Derived.Lib.Hide
import Derived.RangeFuncNested
import Derived.RangeFuncLeaves
import Derived.Scope
/- Steps through a region that draws its order, the slot that an operation writes given as a number. -/
namespace Go.Proofs.Ytgmifimpeefpcaa
open Go.RowKit

/-! ### Steps through a region that draws its order, the slot that an operation writes given as a number -/
section
variable {P : Program} {ops : Array Oper} {Q : Exit → Act → World → Prop} {md : Region.Mode} {S : World → Prop}
theorem regTake (i : Nat) (d : Option Tmp) {oi : Oper} {v : Value} {fuel : Nat} {listed : Array Bool} {a : Act} {w : World} (hi : ops[i]? = some oi) (hd : oi.dst = d)
    (hs : Region.noSelect ops = true) (hf : Region.free md ops listed i = true) (hr : (Region.ready md ops listed).contains i = true)
    (hQ : ∀ c a w, Q (.panic c) (a.put d v) w → Q (.panic c) a w) (hw : Region.wanted oi (yielded ops a.tmps) = true) (hS : S w)
    (hy : ∀ w, S w → (execOp a.eval oi).run P w = .ok (.value v) w)
    (h : wpAnyH P md ops Q S fuel (listed.setIfInBounds i true) (a.put d v) w) : wpAnyH P md ops Q S (fuel + 1) listed a w := by
  subst hd
  exact wpAnyH_take hi hs hf hr hQ (Or.inl ⟨hw, hy⟩) hS h
theorem regSkip (i : Nat) (d : Option Tmp) {oi : Oper} {fuel : Nat} {listed : Array Bool} {a : Act} {w : World} (hi : ops[i]? = some oi) (hd : oi.dst = d)
    (hs : Region.noSelect ops = true) (hf : Region.free md ops listed i = true) (hr : (Region.ready md ops listed).contains i = true)
    (hQ : ∀ c a w, Q (.panic c) (a.put d undef) w → Q (.panic c) a w) (hw : Region.wanted oi (yielded ops a.tmps) = false) (hS : S w)
    (h : wpAnyH P md ops Q S fuel (listed.setIfInBounds i true) (a.put d undef) w) : wpAnyH P md ops Q S (fuel + 1) listed a w := by
  subst hd
  exact wpAnyH_take hi hs hf hr hQ (Or.inr ⟨hw, rfl⟩) hS h
theorem regCall (i : Nat) (d : Option Tmp) {oi : Oper} {f : FuncId} {args : Array Value} {fuel : Nat} {listed : Array Bool} {a : Act} {w : World} (hi : ops[i]? = some oi) (hd : oi.dst = d)
    (hr : Region.ready md ops listed = [i]) (hw : Region.wanted oi (yielded ops a.tmps) = true)
    (hy : (execOp a.eval oi).run P w = .ok (.enter f args) w)
    (h : Calls P f args w fun e w' => ∃ v, e = .returned v ∧ S w' ∧ (S w' → wpAnyH P md ops Q S fuel (listed.setIfInBounds i true) (a.put d v) w')) : wpAnyH P md ops Q S (fuel + 1) listed a w := by
  subst hd
  refine wpAnyH_ready (rs := [i]) hr (by simp) (AllReadyH.cons hi (fun K hK => ?_) AllReadyH.nil)
  rw [if_pos hw]
  unfold Oper.wp
  rw [hy, Oper.upon_enter]
  refine h.mono ?_
  rintro e w' ⟨v, rfl, hs, hn⟩
  exact hK.out _ _ hs hn
/-- One operation alone may come up, and leaves a value and a world. -/
theorem regDo (i : Nat) (d : Option Tmp) {oi : Oper} {v : Value} {fuel : Nat} {listed : Array Bool} {a : Act} {w w' : World} (hi : ops[i]? = some oi) (hd : oi.dst = d)
    (hr : Region.ready md ops listed = [i]) (hw : Region.wanted oi (yielded ops a.tmps) = true)
    (hy : (execOp a.eval oi).run P w = .ok (.value v) w') (hs : S w')
    (h : S w' → wpAnyH P md ops Q S fuel (listed.setIfInBounds i true) (a.put d v) w') : wpAnyH P md ops Q S (fuel + 1) listed a w := by
  subst hd
  refine wpAnyH_ready (rs := [i]) hr (by simp) (AllReadyH.cons hi (fun K hK => ?_) AllReadyH.nil)
  rw [if_pos hw]
  unfold Oper.wp
  rw [hy, Oper.upon_value]
  exact hK.out _ _ hs h
theorem regStore (i : Nat) {oi : Oper} {fuel : Nat} {listed : Array Bool} {a : Act} {w w' : World} (hi : ops[i]? = some oi) (hd : oi.dst = none)
    (hr : Region.ready md ops listed = [i]) (hw : Region.wanted oi (yielded ops a.tmps) = true)
    (hy : (execOp a.eval oi).run P w = .ok .skip w') (hs : S w')
    (h : S w' → wpAnyH P md ops Q S fuel (listed.setIfInBounds i true) a w') : wpAnyH P md ops Q S (fuel + 1) listed a w := by
  refine wpAnyH_ready (rs := [i]) hr (by simp) (AllReadyH.cons hi (fun K hK => ?_) AllReadyH.nil)
  rw [if_pos hw]
  unfold Oper.wp
  rw [hy, Oper.upon_skip, hd]
  exact hK.out _ _ hs h
end

end Go.Proofs.Ytgmifimpeefpcaa

/- Steps through a region that draws its order where one of two operations may come up next. -/
namespace Go.Proofs.Ytgmifimpeefpcaa
open Go.RowKit
section
variable {P : Program} {ops : Array Oper} {Q : Exit → Act → World → Prop} {md : Region.Mode} {S : World → Prop} {fuel : Nat} {listed : Array Bool} {a : Act} {w : World}
theorem regTwo (i j : Nat) (hr : Region.ready md ops listed = [i, j]) (h1 : AllReadyH P md ops Q S fuel listed a w [i]) (h2 : AllReadyH P md ops Q S fuel listed a w [j]) : wpAnyH P md ops Q S (fuel + 1) listed a w :=
  wpAnyH_ready hr (by simp) (fun k hk => by
    rcases List.mem_cons.1 hk with rfl | hk
    · exact h1 _ (by simp)
    · exact h2 _ hk)
theorem stepCall (i : Nat) (d : Option Tmp) {oi : Oper} {f : FuncId} {args : Array Value} (hi : ops[i]? = some oi) (hd : oi.dst = d) (hw : Region.wanted oi (yielded ops a.tmps) = true)
    (hy : (execOp a.eval oi).run P w = .ok (.enter f args) w)
    (h : Calls P f args w fun e w' => ∃ v, e = .returned v ∧ S w' ∧ (S w' → wpAnyH P md ops Q S fuel (listed.setIfInBounds i true) (a.put d v) w')) : AllReadyH P md ops Q S fuel listed a w [i] := by
  subst hd
  refine AllReadyH.cons hi (fun K hK => ?_) AllReadyH.nil
  rw [if_pos hw]
  unfold Oper.wp
  rw [hy, Oper.upon_enter]
  refine h.mono ?_
  rintro e w' ⟨v, rfl, hs, hn⟩
  exact hK.out _ _ hs hn
theorem stepDo (i : Nat) (d : Option Tmp) {oi : Oper} {v : Value} {w' : World} (hi : ops[i]? = some oi) (hd : oi.dst = d) (hw : Region.wanted oi (yielded ops a.tmps) = true)
    (hy : (execOp a.eval oi).run P w = .ok (.value v) w') (hs : S w')
    (h : S w' → wpAnyH P md ops Q S fuel (listed.setIfInBounds i true) (a.put d v) w') : AllReadyH P md ops Q S fuel listed a w [i] := by
  subst hd
  refine AllReadyH.cons hi (fun K hK => ?_) AllReadyH.nil
  rw [if_pos hw]
  unfold Oper.wp
  rw [hy, Oper.upon_value]
  exact hK.out _ _ hs h
end
theorem keepSet {W : World} {b Z off : Nat} {x y v : Value} (hne : b ≠ Z) (h : b < W.heap.size ∧ W.cell? ⟨b, 0, none⟩ = some x ∧ W.cell? ⟨b, 1, none⟩ = some y) :
    b < (W.setCell ⟨Z, off, none⟩ v).heap.size ∧ (W.setCell ⟨Z, off, none⟩ v).cell? ⟨b, 0, none⟩ = some x ∧ (W.setCell ⟨Z, off, none⟩ v).cell? ⟨b, 1, none⟩ = some y :=
  ⟨by simpa [World.setCell] using h.1, (World.cell?_setCell_other W _ _ _ (fun e => hne (by injection e with e1; exact e1.symm))).trans h.2.1, (World.cell?_setCell_other W _ _ _ (fun e => hne (by injection e with e1; exact e1.symm))).trans h.2.2⟩
/-- Two fresh cells of a block stay what they were, and may be written, behind a call that leaves all old blocks alone. -/
theorem keepZ {W w1 : World} (hb : Below W.heap.size W w1) {z : Nat} {x y : Value} (h : z < W.heap.size) (hc : W.cell? ⟨z, 0, none⟩ = some x ∧ W.cell? ⟨z, 1, none⟩ = some y ∧ W.frozen? ⟨z, 0, none⟩ = false ∧ W.frozen? ⟨z, 1, none⟩ = false) :
    z < w1.heap.size ∧ w1.cell? ⟨z, 0, none⟩ = some x ∧ w1.cell? ⟨z, 1, none⟩ = some y ∧ w1.frozen? ⟨z, 0, none⟩ = false ∧ w1.frozen? ⟨z, 1, none⟩ = false :=
  ⟨Nat.lt_of_lt_of_le h hb.size, (hb.cell (p := ⟨z, 0, none⟩) h).trans hc.1, (hb.cell (p := ⟨z, 1, none⟩) h).trans hc.2.1, (hb.frozen (p := ⟨z, 0, none⟩) h).trans hc.2.2.1, (hb.frozen (p := ⟨z, 1, none⟩) h).trans hc.2.2.2⟩
end Go.Proofs.Ytgmifimpeefpcaa

/- A range over a function: an iterator hands out N known rows of values, one after another, and a body takes each; what the two owe one another, and what holds behind the loop. -/
namespace Go.Proofs.Ytgmifimpeefpcaa
open Go.RowKit

/-- What lay from block B on lies as it lay. -/
structure Above (B : Nat) (w w' : World) : Prop where
  size : w.heap.size ≤ w'.heap.size
  block : ∀ k, B ≤ k → k < w.heap.size → w'.heap[k]? = w.heap[k]?
theorem Above.refl (B : Nat) (w : World) : Above B w w := ⟨Nat.le_refl _, fun _ _ _ => rfl⟩
theorem Above.trans {B : Nat} {x y z : World} (h : Above B x y) (k : Above B y z) : Above B x z :=
  ⟨Nat.le_trans h.size k.size, fun i hi hx => (k.block i hi (Nat.lt_of_lt_of_le hx h.size)).trans (h.block i hi hx)⟩
theorem Above.mono {B B' : Nat} {x y : World} (h : Above B x y) (hb : B ≤ B') : Above B' x y := ⟨h.size, fun k hk hx => h.block k (Nat.le_trans hb hk) hx⟩
theorem Above.of {B : Nat} {x y z : World} (h : Above B x y) (k : Below y.heap.size y z) : Above B x z := h.trans ⟨k.size, fun i _ hx => k.block i hx⟩
theorem Above.alloc {B : Nat} {x y : World} (h : Above B x y) (o : Obj) : Above B x (y.alloc o) := h.of ((Below.refl _ _).alloc (Nat.le_refl _) _)
theorem Above.setCell {B : Nat} {x y : World} (h : Above B x y) {p : Addr} (hp : p.block < B) (u : Value) : Above B x (y.setCell p u) :=
  h.trans ⟨by simp [World.setCell], fun k hk _ => Below.heap_setCell _ _ _ _ (by omega)⟩
theorem Above.drew {B : Nat} {x y : World} (h : Above B x y) : Above B x y.drew := h.trans ⟨Nat.le_refl _, fun _ _ _ => rfl⟩
theorem Above.putObj {B : Nat} {x y : World} (h : Above B x y) {l : Nat} (hl : l < B) (o : Obj) : Above B x (y.putObj l o) :=
  h.trans ⟨by simp, fun k hk _ => World.putObj_heap_other (by omega)⟩
theorem lt_of_cell {x : World} {b o : Nat} {v : Value} (hc : x.cell? ⟨b, o, none⟩ = some v) : b < x.heap.size := by
  apply Classical.byContradiction; intro hn
  have : x.heap[b]? = none := Array.getElem?_eq_none (by omega)
  simp [World.cell?, this] at hc
/-- A cell of a block that lay from B on. -/
theorem Above.cell {B : Nat} {x y : World} (h : Above B x y) {b o : Nat} {v : Value} (hb : B ≤ b) (hc : x.cell? ⟨b, o, none⟩ = some v) : y.cell? ⟨b, o, none⟩ = some v :=
  (World.cell?_of_block (w := x) (h.block b hb (lt_of_cell hc))).trans hc

theorem below_putObj {B l : Nat} (w : World) (o : Obj) (hl : B ≤ l) : Below B w (w.putObj l o) :=
  ⟨rfl, rfl, rfl, by simp, fun k hk => World.putObj_heap_other (by omega)⟩
/-- A cell does not lie in a loop's record. -/
theorem cell_putObj {W : World} {b off l : Nat} {v : Value} {r : Loop} (o : Obj) (hl : W.heap[l]? = some (.loop r)) (hc : W.cell? ⟨b, off, none⟩ = some v) : (W.putObj l o).cell? ⟨b, off, none⟩ = some v := by
  have hne : b ≠ l := by rintro rfl; simp [World.cell?, hl] at hc
  exact (World.cell?_of_block (w := W) (World.putObj_heap_other hne)).trans hc

/-- What an iterator promises: it hands out f 0, f 1, .. up to N rows, unless a round says 'no more'; whatever of the caller's speaks of older blocks alone holds through. -/
def Seq (P : Program) (g : Nat) (lb : Array Value) (f : Nat → Array Value) (N : Nat) (Cap : World → Prop) : Prop :=
  ∀ (l : Nat) (J : Nat → World → Prop) (Jx : World → Prop) (W : World),
    (∀ i A B, J i A → Below W.heap.size A B → J i B) → (∀ A B, Jx A → Below W.heap.size A B → Jx B) → (∀ i A, J i A → Cap A) →
    (∀ i W1, i < N → J i W1 → ∀ m, YieldAt Fence.wide m P l (f i) W1 fun e W' => (e = .returned (.bool true) ∧ J (i + 1) W' ∧ Above W.heap.size W1 W') ∨ (e = .returned (.bool false) ∧ Jx W')) →
    J 0 W → Calls P g (#[.func (.yield l) #[] #[]] ++ lb) W fun e W' => (∃ v, e = .returned v) ∧ (J N W' ∨ Jx W')

/-- How a round's body may be left: off its end, or by a goto. -/
def roundQ (B : Nat) (I : Nat → World → Prop) (Ix : Nat → World → Prop) (i : Nat) (W : World) : Exit → Act → World → Prop
  | .normal, _, W' => Above B W W' ∧ I (i + 1) W'
  | .goto t, _, W' => Above B W W' ∧ Ix t W'
  | _, _, _ => False

def recOf (fn : FuncId) (tmps : Array Value) (ps : Array Tmp) (assign body : Code) (D : Nat) (st : LoopState) (pe : Option Code) : Loop :=
  { state := st, pending := pe, fn, tmps, params := ps, assign, body, defers := D }

theorem wp_range {P : Program} {g : Operand} {ps : Array Tmp} {assign body : Code} {Q : Exit → Act → World → Prop} {a : Act} {w : World}
    {gf : Nat} {lb : Array Value} (hg : a.eval g = .func (.func gf) #[] lb) (eg : ∀ args w, (callFunc gf args).run P w = .ok (.enter gf args) w)
    {f : Nat → Array Value} {N : Nat} {Cap : World → Prop} (hseq : Seq P gf lb f N Cap) (hps : ∀ i, (f i).size = ps.size)
    (I : Nat → World → Prop) (Ix : Nat → World → Prop)
    (hI : ∀ i A B, I i A → Below w.heap.size A B → I i B) (hIx : ∀ t A B, Ix t A → Below w.heap.size A B → Ix t B) (hcap : ∀ i A, I i A → Cap A) (h0 : I 0 w)
    (Ax : Nat → Act → World → Prop) (hAx : ∀ i a' A l r o, A.heap[l]? = some (.loop r) → Ax i a' A → Ax i a' (A.putObj l o))
    (hassign : ∀ (l i : Nat) (W : World) (m : Nat) (K : Act → World → Prop), i < N → I i W → w.heap.size < W.heap.size → (∀ a' W', Above w.heap.size W W' → I i W' → Ax i a' W' → K a' W') →
      assign.wpIn (Fence.wide.inRound l) m P (Exit.then K (fun _ _ _ => False)) { tmps := (ps.zip (f i)).foldl (fun t (p, v) => t.setIfInBounds p v) a.tmps, defers := [] } W)
    (hbody : ∀ (l i : Nat) (a' : Act) (W : World) (m : Nat), i < N → I i W → Ax i a' W → w.heap.size < W.heap.size → body.wpIn (Fence.wide.inRound l) m P (roundQ w.heap.size I Ix i W) a' W)
    (hdone : ∀ (D : Nat) (W : World), w.heap.size ≤ D → I N W → W.heap[D]? = some (.deferred (some [])) → Q .normal { a with defers := { target := .collected D, args := #[] } :: a.defers } W)
    (hstop : ∀ (D t : Nat) (W : World), w.heap.size ≤ D → Ix t W → W.heap[D]? = some (.deferred (some [])) → Q (.goto t) { a with defers := { target := .collected D, args := #[] } :: a.defers } W) :
    (Code.rangeFunc g ps assign body).wp P Q a w := by
  refine (wpIn_wide (n := 0)).1 (wpIn_rangeFunc ?_)
  intro fn _
  generalize hD : w.heap.size = D at *
  obtain ⟨rec, hrec⟩ : ∃ rec : LoopState → Option Code → Loop, rec = recOf fn a.tmps ps assign body D := ⟨_, rfl⟩
  obtain ⟨W1, hW1⟩ : ∃ W1, (w.alloc (.deferred (some []))).alloc (.loop (rec .ready none)) = W1 := ⟨_, rfl⟩
  have hsz : W1.heap.size = D + 2 := by rw [← hW1]; simp; omega
  have hL1 : W1.heap[D + 1]? = some (.loop (rec .ready none)) := by
    rw [← hW1]; have := World.alloc_heap_new (w.alloc (.deferred (some []))) (.loop (rec .ready none)); rwa [World.size_alloc, hD] at this
  have hD1 : W1.heap[D]? = some (.deferred (some [])) := by
    rw [← hW1]; refine (Below.heap_alloc _ _ _ (by simp; omega)).trans ?_; rw [← hD]; exact World.alloc_heap_new w _
  have hb1 : Below D w W1 := by rw [← hW1]; exact ((Below.refl _ w).alloc (by omega) _).alloc (by simp; omega) _
  have loop_same : ∀ {A B : World} {o : Obj} (k : Nat), k < D + 2 → Below W1.heap.size A B → A.heap[k]? = some o → B.heap[k]? = some o :=
    fun k hk h e => (h.block k (by omega)).trans e
  refine ⟨D + 1, [{ target := .collected D, args := #[] }], W1, { target := .fn (.func gf) lb, args := #[.func (.yield (D + 1)) #[] #[]] }, W1, gf, #[.func (.yield (D + 1)) #[] #[]] ++ lb, W1, ?_, ?_, fun _ _ => trivial, ?_, (fun h => by simp [Fence.wide] at h), callsIn_wide.2 ?_⟩
  · rw [← hW1, hrec, ← hD]; exact run_enterLoop_outer _ _ _ _ _
  · simp only [resolve, hg]; simp [go_sem]
  · simp [invoke, go_sem, eg]
  refine (hseq (D + 1) (fun i W => I i W ∧ W.heap[D + 1]? = some (.loop (rec .ready none)) ∧ W.heap[D]? = some (.deferred (some [])))
    (fun W => ∃ t, Ix t W ∧ W.heap[D + 1]? = some (.loop (rec .done (some (.goto t)))) ∧ W.heap[D]? = some (.deferred (some [])))
    W1 (fun i A B h hb => ⟨hI i A B h.1 (hb.mono (by omega)), loop_same _ (by omega) hb h.2.1, loop_same _ (by omega) hb h.2.2⟩)
    (fun A B ⟨t, h1, h2, h3⟩ hb => ⟨t, hIx t A B h1 (hb.mono (by omega)), loop_same _ (by omega) hb h2, loop_same _ (by omega) hb h3⟩) (fun i A h => hcap i A h.1) ?_ ⟨hI 0 _ _ h0 hb1, hL1, hD1⟩).mono ?_
  · rintro i W hi ⟨hi0, hl, hd⟩ m
    have hy := run_yield (P := P) (args := f i) hl (by rw [hrec]; exact hps i)
    rw [hrec] at hy
    refine ⟨fn, _, assign, body, hy, ?_⟩
    refine roundIn_of_wpIn trivial (hassign _ i W _ _ hi hi0 ?_ ?_)
    · have := (Array.getElem?_eq_some_iff.1 hl).1; omega
    intro a' Wa hab hia hax
    have hlt : D + 1 < W.heap.size := (Array.getElem?_eq_some_iff.1 hl).1
    have hla : Wa.heap[D + 1]? = some (.loop (rec .ready none)) := (hab.block _ (by omega) hlt).trans hl
    have hda : Wa.heap[D]? = some (.deferred (some [])) := (hab.block _ (by omega) (by omega)).trans hd
    have hlta : D + 1 < Wa.heap.size := (Array.getElem?_eq_some_iff.1 hla).1
    refine ⟨_, run_beginRound hla (by rw [hrec]; rfl), ?_⟩
    have hbusy : (Wa.putObj (D + 1) (.loop { rec .ready none with state := .busy })).heap[D + 1]? = some (.loop { rec .ready none with state := .busy }) := World.putObj_heap_same hlta
    have hdef : (Wa.putObj (D + 1) (.loop { rec .ready none with state := .busy })).heap[D]? = some (.deferred (some [])) := (World.putObj_heap_other (by omega)).trans hda
    refine wpIn_mono (hbody _ i a' _ _ hi (hI _ _ _ hia (below_putObj _ _ (by omega))) (hAx _ _ _ _ _ _ hla hax) (by simp; omega)) ?_
    have hab2 : Above (D + 2) W (Wa.putObj (D + 1) (.loop { rec .ready none with state := .busy })) := (hab.mono (by omega)).putObj (by omega) _
    have fin : ∀ (jump : Option Code) (W3 : World), Above D (Wa.putObj (D + 1) (.loop { rec .ready none with state := .busy })) W3 →
        (Instr.endRound (D + 1) jump).run P W3 = .ok (.bool jump.isNone) (W3.putObj (D + 1) (.loop (rec (if jump.isNone then .ready else .done) jump))) ∧
        (W3.putObj (D + 1) (.loop (rec (if jump.isNone then .ready else .done) jump))).heap[D + 1]? = some (.loop (rec (if jump.isNone then .ready else .done) jump)) ∧
        (W3.putObj (D + 1) (.loop (rec (if jump.isNone then .ready else .done) jump))).heap[D]? = some (.deferred (some [])) ∧ Above W1.heap.size W (W3.putObj (D + 1) (.loop (rec (if jump.isNone then .ready else .done) jump))) := by
      intro jump W3 h3
      have hl3 := (h3.block (D + 1) (by omega) (by simp; omega)).trans hbusy
      have hd3 := (h3.block D (by omega) (by simp; omega)).trans hdef
      have he := run_endRound (P := P) jump hl3
      refine ⟨?_, World.putObj_heap_same (Array.getElem?_eq_some_iff.1 hl3).1, (World.putObj_heap_other (by omega)).trans hd3, ?_⟩
      · rw [he, hrec]; rfl
      · rw [hsz]; exact (hab2.trans (h3.mono (by omega))).putObj (by omega) _
    rintro e a3 W3 hp
    cases e with
    | normal =>
      obtain ⟨h3, hi3⟩ := hp
      obtain ⟨k1, k2, k3, k4⟩ := fin none W3 h3
      exact ⟨_, _, k1, .inl ⟨rfl, ⟨hI _ _ _ hi3 (below_putObj _ _ (by omega)), k2, k3⟩, k4⟩⟩
    | goto t =>
      obtain ⟨h3, hi3⟩ := hp
      obtain ⟨k1, k2, k3, k4⟩ := fin (some (.goto t)) W3 h3
      exact ⟨_, _, k1, .inr ⟨rfl, t, hIx _ _ _ hi3 (below_putObj _ _ (by omega)), k2, k3⟩⟩
    | exit id => exact hp.elim
    | ret => exact hp.elim
    | panic ch => exact hp.elim
    | outgrown => exact hp.elim
  · rintro e W' ⟨⟨v, rfl⟩, (⟨hi, hl, hd⟩ | ⟨t, hi, hl, hd⟩)⟩
    · have he := run_endLoop (P := P) hl (by rw [hrec]; simp [recOf])
      refine ⟨_, _, he, ?_⟩
      rw [show (rec .ready none).pending = none by rw [hrec]; rfl]
      exact hdone D _ (by omega) (hI _ _ _ hi (below_putObj _ _ (by omega))) ((World.putObj_heap_other (by omega)).trans hd)
    · have he := run_endLoop (P := P) hl (by rw [hrec]; simp [recOf])
      refine ⟨_, _, he, ?_⟩
      rw [show (rec .done (some (.goto t))).pending = some (.goto t) by rw [hrec]; rfl]
      exact wpIn_goto (hstop D t _ (by omega) (hIx _ _ _ hi (below_putObj _ _ (by omega))) ((World.putObj_heap_other (by omega)).trans hd))

/-- A function that holds such a loop: its contract out of its body's walk. -/
theorem calls_of_marks {P : Program} {f : FuncId} {fn : Func} {c : Code} {args : Array Value} {w : World} {R : Ending → World → Prop}
    (hf : P.funcs[f]? = some fn) (hb : fn.body = some c)
    (h : c.wp P (bodyPostM Fence.wide 0 P fn R) { tmps := args ++ Array.replicate (fn.ntmps - args.size) undef, defers := [] } w) : Calls P f args w R :=
  (callsIn_wide (n := 0)).1 (callsIn_of_wp_marks hf hb trivial (wpIn_wide.2 h) rfl)

/-- The way out of such a function, behind the loop. -/
theorem post_mark {P : Program} {fn : Func} {R : Ending → World → Prop} {tmps : Array Value} {D : Nat} {W : World} {v : Value} (hD : W.heap[D]? = some (.deferred (some [])))
    (hr : (results fn tmps).run P (W.putObj D (.deferred none)) = .ok v (W.putObj D (.deferred none))) (h : R (.returned v) (W.putObj D (.deferred none))) :
    bodyPostM Fence.wide 0 P fn R .ret { tmps := tmps, defers := [{ target := .collected D, args := #[] }] } W :=
  ⟨by simp, .inl ⟨D, _, rfl, run_takeDeferred hD, ⟨v, hr, h⟩⟩⟩
end Go.Proofs.Ytgmifimpeefpcaa

/- A block of cells that may be written, known whole: what leaves it as it is, and a store into it. -/
namespace Go.Proofs.Ytgmifimpeefpcaa
open Go.RowKit

structure Blk (W : World) (b : Nat) (vs : Array Value) : Prop where
  heap : ∃ t, W.heap[b]? = some (.cells vs t (0, 0))
theorem Blk.cell {W : World} {b i : Nat} {vs : Array Value} {v : Value} (h : Blk W b vs) (hi : vs[i]? = some v) : W.cell? ⟨b, i, none⟩ = some v := by
  obtain ⟨t, e⟩ := h.heap
  simp [World.cell?, e, hi]
theorem Blk.free {W : World} {b : Nat} {vs : Array Value} (h : Blk W b vs) (i : Nat) : W.frozen? ⟨b, i, none⟩ = false := by
  obtain ⟨t, e⟩ := h.heap
  simp [World.frozen?, e]
theorem Blk.lt {W : World} {b : Nat} {vs : Array Value} (h : Blk W b vs) : b < W.heap.size := by
  obtain ⟨t, e⟩ := h.heap
  exact (Array.getElem?_eq_some_iff.1 e).1
theorem Blk.block {W W' : World} {b : Nat} {vs : Array Value} (h : Blk W b vs) (e : W'.heap[b]? = W.heap[b]?) : Blk W' b vs := by
  obtain ⟨t, k⟩ := h.heap
  exact ⟨t, e.trans k⟩
theorem Blk.below {B : Nat} {W W' : World} {b : Nat} {vs : Array Value} (h : Blk W b vs) (hb : Below B W W') (hB : b < B) : Blk W' b vs := h.block (hb.block b hB)
theorem Blk.call {W W' : World} {b : Nat} {vs : Array Value} (h : Blk W b vs) (hb : Below W.heap.size W W') : Blk W' b vs := h.below hb h.lt
theorem Blk.alloc {W : World} {b : Nat} {vs : Array Value} (h : Blk W b vs) (o : Obj) : Blk (W.alloc o) b vs := h.call ((Below.refl _ _).alloc (Nat.le_refl _) _)
theorem Blk.drew {W : World} {b : Nat} {vs : Array Value} (h : Blk W b vs) : Blk W.drew b vs := h.block rfl
theorem Blk.put {W : World} {b l : Nat} {vs : Array Value} (h : Blk W b vs) (o : Obj) (hl : b ≠ l) : Blk (W.putObj l o) b vs := h.block (World.putObj_heap_other hl)
theorem Blk.other {W : World} {b : Nat} {vs : Array Value} {p : Addr} (h : Blk W b vs) (hp : b ≠ p.block) (u : Value) : Blk (W.setCell p u) b vs := h.block (Below.heap_setCell _ _ _ _ hp)
theorem Blk.new (W : World) (vs : Array Value) (t : TypeId) : Blk (W.alloc (.cells vs t)) W.heap.size vs := ⟨t, World.alloc_heap_new _ _⟩
theorem Blk.newAt {W : World} {vs : Array Value} {t : TypeId} {b : Nat} (h : W.heap.size = b) : Blk (W.alloc (.cells vs t)) b vs := h ▸ Blk.new W vs t
theorem Blk.set {W : World} {b : Nat} {vs : Array Value} (h : Blk W b vs) (i : Nat) (u : Value) : Blk (W.setCell ⟨b, i, none⟩ u) b (vs.setIfInBounds i u) := by
  obtain ⟨t, e⟩ := h.heap
  have hlt := h.lt
  have h' : W.heap[b] = .cells vs t (0, 0) := by simpa [Array.getElem?_eq_getElem hlt] using e
  refine ⟨t, ?_⟩
  show (W.heap.modify b _)[b]? = _
  rw [Array.getElem?_eq_getElem (by simpa using hlt), Array.getElem_modify_self, h']
  rfl
theorem Blk.local (vs : Array Value) : ∀ (w w' : World) (b : Nat), w'.heap[b]? = w.heap[b]? → Blk w b vs → Blk w' b vs := fun _ _ _ e h => h.block e
end Go.Proofs.Ytgmifimpeefpcaa

/- All blocks of a walk in one word: what each holds, that no two are one, and that what lay before lies as it lay. -/
namespace Go.Proofs.Ytgmifimpeefpcaa
open Go.RowKit

structure Mem (w W : World) (l : List (Nat × Array Value)) : Prop where
  blk : ∀ e ∈ l, Blk W e.1 e.2
  low : Below w.heap.size w W
  ge : ∀ e ∈ l, w.heap.size ≤ e.1
  ne : l.Pairwise (fun e f => e.1 ≠ f.1)
theorem Mem.start (w : World) : Mem w w [] := ⟨fun _ h => (by cases h), Below.refl _ _, fun _ h => (by cases h), .nil⟩
theorem Mem.lts {w W : World} {l : List (Nat × Array Value)} (h : Mem w W l) : ∀ e ∈ l, e.1 < W.heap.size := fun e he => (h.blk e he).lt
theorem Mem.step {w W W' : World} {l : List (Nat × Array Value)} {B : Nat} (h : Mem w W l) (hb : Below B W W') (hB : ∀ e ∈ l, e.1 < B) (hl : w.heap.size ≤ B) : Mem w W' l :=
  ⟨fun e he => (h.blk e he).below hb (hB e he), h.low.trans (hb.mono hl), h.ge, h.ne⟩
theorem Mem.call {w W W' : World} {l : List (Nat × Array Value)} (h : Mem w W l) (hb : Below W.heap.size W W') : Mem w W' l := h.step hb h.lts h.low.size
theorem Mem.alloc {w W : World} {l : List (Nat × Array Value)} (h : Mem w W l) (o : Obj) : Mem w (W.alloc o) l := h.call ((Below.refl _ _).alloc (Nat.le_refl _) _)
theorem Mem.drew {w W : World} {l : List (Nat × Array Value)} (h : Mem w W l) : Mem w W.drew l := h.call ((Below.refl _ _).drew)
theorem Mem.new {w W : World} {l : List (Nat × Array Value)} (h : Mem w W l) (b : Nat) (vs : Array Value) (t : TypeId) (hb : W.heap.size = b) : Mem w (W.alloc (.cells vs t)) ((b, vs) :: l) := by
  have h' := h.alloc (.cells vs t)
  have hl := h.lts
  have hs := h.low.size
  subst hb
  refine ⟨fun e he => ?_, h'.low, fun e he => ?_, List.pairwise_cons.2 ⟨fun e he => Nat.ne_of_gt (hl e he), h.ne⟩⟩
  · rcases List.mem_cons.1 he with rfl | he
    · exact Blk.new _ _ _
    · exact h'.blk e he
  · rcases List.mem_cons.1 he with rfl | he
    · exact hs
    · exact h.ge e he
theorem Mem.mem {l : List (Nat × Array Value)} {k : Nat} {e : Nat × Array Value} (hk : l[k]? = some e) : e ∈ l := List.mem_of_getElem? hk
theorem Mem.at {w W : World} {l : List (Nat × Array Value)} (h : Mem w W l) (k : Nat) {b : Nat} {vs : Array Value} (hk : l[k]? = some (b, vs)) : Blk W b vs := h.blk _ (Mem.mem hk)
theorem Mem.cell {w W : World} {l : List (Nat × Array Value)} (h : Mem w W l) (k : Nat) {b i : Nat} {vs : Array Value} {v : Value} (hk : l[k]? = some (b, vs)) (hi : vs[i]? = some v) : W.cell? ⟨b, i, none⟩ = some v := (h.at k hk).cell hi
theorem Mem.free {w W : World} {l : List (Nat × Array Value)} (h : Mem w W l) (k : Nat) {b : Nat} {vs : Array Value} (hk : l[k]? = some (b, vs)) (i : Nat) : W.frozen? ⟨b, i, none⟩ = false := (h.at k hk).free i
theorem Mem.lt {w W : World} {l : List (Nat × Array Value)} (h : Mem w W l) (k : Nat) {b : Nat} {vs : Array Value} (hk : l[k]? = some (b, vs)) : b < W.heap.size := (h.at k hk).lt
theorem Mem.apart {w W : World} {l : List (Nat × Array Value)} (h : Mem w W l) (j k : Nat) {b c : Nat} {us vs : Array Value} (hj : l[j]? = some (b, us)) (hk : l[k]? = some (c, vs)) (hjk : j ≠ k) : b ≠ c := by
  have p := List.pairwise_iff_getElem.1 h.ne
  obtain ⟨h1, e1⟩ := List.getElem?_eq_some_iff.1 hj
  obtain ⟨h2, e2⟩ := List.getElem?_eq_some_iff.1 hk
  rcases Nat.lt_or_gt_of_ne hjk with c | c
  · have := p j k h1 h2 c; rw [e1, e2] at this; exact this
  · have := p k j h2 h1 c; rw [e1, e2] at this; exact Ne.symm this
theorem Mem.set {w W : World} {l : List (Nat × Array Value)} (h : Mem w W l) (k i : Nat) (v : Value) {b : Nat} {vs : Array Value} (hk : l[k]? = some (b, vs)) : Mem w (W.setCell ⟨b, i, none⟩ v) (l.set k (b, vs.setIfInBounds i v)) := by
  obtain ⟨hlt, hbe⟩ := List.getElem?_eq_some_iff.1 hk
  have hge : w.heap.size ≤ b := h.ge _ (Mem.mem hk)
  refine ⟨fun e he => ?_, h.low.setCell (p := ⟨b, i, none⟩) hge v, fun e he => ?_, ?_⟩
  · obtain ⟨j, hj, rfl⟩ := List.mem_iff_getElem.1 he
    rw [List.length_set] at hj
    rw [List.getElem_set]
    split
    · exact (h.at k hk).set i v
    · rename_i hne
      refine (h.blk _ (List.getElem_mem hj)).other (p := ⟨b, i, none⟩) ?_ v
      exact h.apart j k (List.getElem?_eq_getElem hj) hk (Ne.symm hne)
  · rcases List.mem_or_eq_of_mem_set he with he | rfl
    · exact h.ge e he
    · exact hge
  · refine List.pairwise_iff_getElem.2 fun i' j' h1 h2 hij => ?_
    rw [List.length_set] at h1 h2
    have p := List.pairwise_iff_getElem.1 h.ne i' j' h1 h2 hij
    rw [List.getElem_set, List.getElem_set]
    split
    · rename_i e1; subst e1
      split
      · omega
      · simpa [hbe] using p
    · split
      · rename_i e2; subst e2; simpa [hbe] using p
      · exact p
theorem Mem.drop {w W : World} {l : List (Nat × Array Value)} {e : Nat × Array Value} (h : Mem w W (e :: l)) : Mem w W l :=
  ⟨fun f hf => h.blk f (List.mem_cons_of_mem _ hf), h.low, fun f hf => h.ge f (List.mem_cons_of_mem _ hf), (List.pairwise_cons.1 h.ne).2⟩
/-- A block that a region made, known behind it. -/
theorem Mem.join {w W : World} {l : List (Nat × Array Value)} (h : Mem w W l) {B b : Nat} {vs : Array Value} (hb : Blk W b vs) (hB : B ≤ b) (hlt : ∀ e ∈ l, e.1 < B) (hl : w.heap.size ≤ B) : Mem w W ((b, vs) :: l) := by
  refine ⟨fun e he => ?_, h.low, fun e he => ?_, List.pairwise_cons.2 ⟨fun e he => ?_, h.ne⟩⟩
  · rcases List.mem_cons.1 he with rfl | he
    · exact hb
    · exact h.blk e he
  · rcases List.mem_cons.1 he with rfl | he
    · exact Nat.le_trans hl hB
    · exact h.ge e he
  · have := hlt e he; simp; omega
theorem Mem.join2 {w W : World} {l : List (Nat × Array Value)} (h : Mem w W l) {B b c : Nat} {us vs : Array Value} (hb : Blk W b us) (hB : B ≤ b) (hc : Blk W c vs) (hC : B ≤ c) (hbc : b ≠ c) (hlt : ∀ e ∈ l, e.1 < B) (hl : w.heap.size ≤ B) : Mem w W ((c, vs) :: (b, us) :: l) := by
  have h' := h.join hb hB hlt hl
  refine ⟨fun e he => ?_, h.low, fun e he => ?_, List.pairwise_cons.2 ⟨fun e he => ?_, h'.ne⟩⟩
  · rcases List.mem_cons.1 he with rfl | he
    · exact hc
    · exact h'.blk e he
  · rcases List.mem_cons.1 he with rfl | he
    · exact Nat.le_trans hl hC
    · exact h'.ge e he
  · rcases List.mem_cons.1 he with rfl | he
    · exact Ne.symm hbc
    · have := hlt e he; simp; omega
theorem Mem.to {w W : World} {l l' : List (Nat × Array Value)} (h : Mem w W l) (e : l = l') : Mem w W l' := e ▸ h
end Go.Proofs.Ytgmifimpeefpcaa

/- A region that draws its order, walked once, in the order of the text: of each operation it is shown what it does in whatever world meets S0, wherever in the order it comes; blocks that the region makes are told by letters. -/
namespace Go.Proofs.Ytgmifimpeefpcaa
open Go.RowKit

section
variable {P : Program} {ops : Array Oper} {Q : Exit → Act → World → Prop} {md : Region.Mode} {S0 : World → Prop} {S : (Nat → Nat) → Array Bool → World → Prop}

/-- In state a, in whatever world meets S0, the operation leaves v, and all that was there as it was. -/
def Gives (P : Program) (ops : Array Oper) (S0 : World → Prop) (o : Oper) (v : Value) (a : Act) : Prop :=
  (Region.wanted o (yielded ops a.tmps) = true ∧ ∀ w, S0 w →
    (∃ w', (execOp a.eval o).run P w = .ok (.value v) w' ∧ Below w.heap.size w w') ∨
    (∃ f args, (execOp a.eval o).run P w = .ok (.enter f args) w ∧ Calls P f args w fun e w' => e = .returned v ∧ Below w.heap.size w w')) ∨
  (Region.wanted o (yielded ops a.tmps) = false ∧ v = undef)

theorem Gives.of_same {o : Oper} {v : Value} {a a' : Act} (h : Gives P ops S0 o v a) (he : execOp a'.eval o = execOp a.eval o)
    (hw : Region.wanted o (yielded ops a'.tmps) = Region.wanted o (yielded ops a.tmps)) : Gives P ops S0 o v a' := by
  unfold Gives at *
  rw [he, hw]
  exact h

/-- Two operations that are apart: whether the one's value is there already makes no difference to the other one. -/
theorem wpOp_apart {j : Nat} {oi oj : Oper} {v : Value} (hj : ops[j]? = some oj) (hap : oi.apart ops oj = true)
    (hsi : ∀ cs b, oi.op ≠ .select cs b) (hsj : ∀ cs b, oj.op ≠ .select cs b)
    (hQ : ∀ c a w, Q (.panic c) (a.put oi.dst v) w → Q (.panic c) a w) {K : Act → World → Prop} {a : Act} {w : World}
    (hg : Gives P ops S0 oi v a) (h : wpOp P ops Q j K (a.put oi.dst v) w) :
    wpOp P ops Q j (fun a' w' => Gives P ops S0 oi v a' ∧ K (a'.put oi.dst v) w') a w := by
  obtain ⟨h1, h2, h3⟩ := Oper.apart_spec hap
  have keep : ∀ a : Act, Gives P ops S0 oi v a → ∀ u, Gives P ops S0 oi v (a.put oj.dst u) :=
    fun a hy u => hy.of_same (execOp_put oi hsi a oj.dst u h3) (wanted_put oi a oj.dst u h3)
  have kd : ∀ d, Gives P ops S0 oi v { a with defers := d :: a.defers } := fun d => hg.of_same rfl rfl
  have e1 : execOp (a.put oi.dst v).eval oj = execOp a.eval oj := execOp_put oj hsj a oi.dst v h1
  have e2 := wanted_put (ops := ops) oj a oi.dst v h1
  unfold wpOp at *
  simp only [hj] at *
  rw [e2] at h
  by_cases hw : Region.wanted oj (yielded ops a.tmps) = true
  · simp only [hw, if_true] at h ⊢
    rcases h with h | ⟨hk, hl⟩
    · left
      unfold Oper.wp at *
      rw [e1] at h
      cases hr : (execOp a.eval oj).run P w with
      | ok n w' =>
        rw [hr] at h
        cases n with
        | value u => exact ⟨keep a hg u, by rw [← Act.put_comm a v u h2]; exact h⟩
        | skip => exact ⟨keep a hg undef, by rw [← Act.put_comm a v undef h2]; exact h⟩
        | defer d =>
          simp only [Oper.upon] at h ⊢
          refine ⟨keep _ (kd d) _, ?_⟩
          rw [← Act.put_comm _ v undef h2, ← Act.put_defers]
          exact h
        | enter f args =>
          refine Calls.mono h fun e w'' he => ?_
          cases e with
          | returned u => exact ⟨keep a hg u, by rw [← Act.put_comm a v u h2]; exact he⟩
          | panicked c => exact hQ _ _ _ he
          | outgrown => exact he
        | row row args => exact Rows.mono h fun u w'' he => ⟨keep a hg u, by rw [← Act.put_comm a v u h2]; exact he⟩
        | _ => exact h.elim
      | halt x w' =>
        rw [hr] at h
        cases x with
        | panic u => exact hQ _ _ _ h
        | _ => exact h.elim
    · right
      refine ⟨?_, hl⟩
      unfold Oper.asks at *
      rwa [e1] at hk
  · simp only [hw] at h ⊢
    exact ⟨keep a hg undef, by rw [← Act.put_comm a v undef h2]; exact h⟩

/-- Whatever order is picked from here on, in whatever world meets S now; g: the blocks that were made, by the operations that made them. -/
def wpAb (P : Program) (md : Region.Mode) (ops : Array Oper) (Q : Exit → Act → World → Prop) (S : (Nat → Nat) → Array Bool → World → Prop) : Nat → (Nat → Nat) → Array Bool → Act → Prop
  | 0, g, l, a => Region.ready md ops l = [] ∧ ∀ w, S g l w → Q .normal a w
  | n + 1, g, l, a => (Region.ready md ops l = [] → ∀ w, S g l w → Q .normal a w) ∧
    ∀ i ∈ Region.ready md ops l, ∀ w, S g l w → wpOp P ops Q i (fun a' w' => ∃ g', S g' (l.setIfInBounds i true) w' ∧ wpAb P md ops Q S n g' (l.setIfInBounds i true) a') a w

theorem wpAny_of_ab : ∀ (n : Nat) (g : Nat → Nat) (l : Array Bool) (a : Act) (w : World), wpAb P md ops Q S n g l a → S g l w → wpAny P md ops Q n l a w
  | 0, _, _, _, w, h, hs => ⟨h.1, h.2 w hs⟩
  | n + 1, _, _, _, w, h, hs => ⟨fun e => h.1 e w hs, fun i hi => wpOp_mono (fun a' w' ⟨g', s, k⟩ => wpAny_of_ab n g' _ a' w' k s) (h.2 i hi w hs)⟩

/-- What S owes an operation that leaves all blocks as they were. -/
structure Fit (S0 : World → Prop) (S : (Nat → Nat) → Array Bool → World → Prop) (i : Nat) : Prop where
  base : ∀ g l w, S g l w → S0 w
  step : ∀ g l w w', S g l w → Below w.heap.size w w' → S g l w'
  mark : ∀ g l w, S g (l.setIfInBounds i true) w ↔ S g l w

theorem Gives.wpOp {i : Nat} {o : Oper} {v : Value} {a : Act} (hi : ops[i]? = some o) (h : Gives P ops S0 o v a) {K : Act → World → Prop} {w : World} (hs : S0 w)
    (hk : ∀ w', Below w.heap.size w w' → K (a.put o.dst v) w') : wpOp P ops Q i K a w := by
  unfold Go.wpOp
  simp only [hi]
  rcases h with ⟨hw, hv⟩ | ⟨hw, rfl⟩
  · simp only [hw, if_true]
    left
    unfold Oper.wp
    rcases hv w hs with ⟨w', hr, hb⟩ | ⟨f, args, hr, hc⟩
    · rw [hr, Oper.upon_value]; exact hk w' hb
    · rw [hr, Oper.upon_enter]
      refine hc.mono ?_
      rintro e w' ⟨rfl, hb⟩
      exact hk w' hb
  · simp only [hw, Bool.false_eq_true, if_false]
    exact hk w (Below.refl _ _)

theorem abFirst {i : Nat} {oi : Oper} {v : Value} (hi : ops[i]? = some oi) (hsel : ∀ (j : Nat) (o : Oper) cs b, ops[j]? = some o → o.op ≠ .select cs b)
    (hQ : ∀ c a w, Q (.panic c) (a.put oi.dst v) w → Q (.panic c) a w) (hF : Fit S0 S i) :
    ∀ (n : Nat) (g : Nat → Nat) (l : Array Bool) (a : Act),
      (∀ j oj, ops[j]? = some oj → j ≠ i → l.getD j true = false → (∀ e ∈ oj.after, Region.binds md e = true → e.on ≠ i) → oi.apart ops oj = true) →
      i ∈ Region.ready md ops l → Gives P ops S0 oi v a →
      wpAb P md ops Q S n g (l.setIfInBounds i true) (a.put oi.dst v) → wpAb P md ops Q S (n + 1) g l a := by
  intro n
  induction n with
  | zero =>
    intro g l a _ hr hg H
    refine ⟨fun h => (by rw [h] at hr; cases hr), fun j hj w hs => ?_⟩
    by_cases hji : j = i
    · subst hji
      exact hg.wpOp hi (hF.base _ _ _ hs) fun w' hb => ⟨g, (hF.mark _ _ _).2 (hF.step _ _ _ _ hs hb), H⟩
    · have := ready_mono hj hji
      rw [H.1] at this
      cases this
  | succ n ih =>
    intro g l a hfree hr hg H
    refine ⟨fun h => (by rw [h] at hr; cases hr), fun j hj w hs => ?_⟩
    by_cases hji : j = i
    · subst hji
      exact hg.wpOp hi (hF.base _ _ _ hs) fun w' hb => ⟨g, (hF.mark _ _ _).2 (hF.step _ _ _ _ hs hb), H⟩
    · have h1 := H.2 j (ready_mono hj hji) w ((hF.mark _ _ _).2 hs)
      obtain ⟨hjun, oj, hoj, hall⟩ := mem_ready.1 hj
      have hnot : ∀ e ∈ oj.after, Region.binds md e = true → e.on ≠ i := fun e he hb heq => by
        have h1 := hall e he hb
        have h0 := (mem_ready.1 hr).1
        rw [heq] at h1
        rcases Nat.lt_or_ge i l.size with h' | h'
        · simp [h'] at h0 h1; rw [h0] at h1; cases h1
        · simp [Array.getElem?_eq_none h'] at h1
      have h2 := wpOp_apart hoj (hfree j oj hoj hji hjun hnot) (fun cs b => hsel i oi cs b hi) (fun cs b => hsel j oj cs b hoj) hQ hg h1
      have hfree' : ∀ k ok, ops[k]? = some ok → k ≠ i → (l.setIfInBounds j true).getD k true = false →
          (∀ e ∈ ok.after, Region.binds md e = true → e.on ≠ i) → oi.apart ops ok = true := fun k ok hk hki hun hno => by
        refine hfree k ok hk hki ?_ hno
        by_cases hjk : j = k
        · subst hjk; exact hjun
        · rw [getD_set_ne true hjk] at hun; exact hun
      refine wpOp_mono (fun a' w' ⟨hg', g', hs', hk'⟩ => ?_) h2
      rw [Array.setIfInBounds_comm _ _ (Ne.symm hji)] at hs' hk'
      exact ⟨g', (hF.mark _ _ _).1 hs', ih g' (l.setIfInBounds j true) a' hfree' (ready_mono hr (Ne.symm hji)) hg' hk'⟩

/-! ### What the region makes -/
/-- A block that operation x makes, what it holds first, and what it holds behind operation s. -/
structure Ent where
  x : Nat
  s : Nat
  pre : World → Nat → Prop
  post : World → Nat → Prop
/-- A word on a block that speaks of what lies there alone. -/
def Local (p : World → Nat → Prop) : Prop := ∀ w w' b, w'.heap[b]? = w.heap[b]? → p w b → p w' b
def Sof (S0 : World → Prop) (B : Nat) (own : List Ent) (g : Nat → Nat) (l : Array Bool) (w : World) : Prop :=
  S0 w ∧ B ≤ w.heap.size ∧
  (∀ e ∈ own, l.getD e.x false = true → B ≤ g e.x ∧ g e.x < w.heap.size ∧ (if l.getD e.s false = true then e.post w (g e.x) else e.pre w (g e.x))) ∧
  (∀ e ∈ own, ∀ e' ∈ own, e.x ≠ e'.x → l.getD e.x false = true → l.getD e'.x false = true → g e.x ≠ g e'.x)

theorem sof_fit {B : Nat} {own : List Ent} {i : Nat} (hst : ∀ w w', S0 w → Below B w w' → S0 w') (hl : ∀ e ∈ own, Local e.pre ∧ Local e.post) (hi : ∀ e ∈ own, e.x ≠ i ∧ e.s ≠ i) : Fit S0 (Sof S0 B own) i where
  base _ _ _ h := h.1
  step g l w w' h hb := by
    obtain ⟨h1, h2, h3, h4⟩ := h
    refine ⟨hst _ _ h1 (hb.mono h2), Nat.le_trans h2 hb.size, fun e he hx => ?_, h4⟩
    obtain ⟨k1, k2, k3⟩ := h3 e he hx
    refine ⟨k1, Nat.lt_of_lt_of_le k2 hb.size, ?_⟩
    split at k3
    · rename_i c; rw [if_pos c]; exact (hl e he).2 _ _ _ (hb.block _ k2) k3
    · rename_i c; rw [if_neg c]; exact (hl e he).1 _ _ _ (hb.block _ k2) k3
  mark g l w := by
    have k : ∀ e ∈ own, ((l.setIfInBounds i true).getD e.x false = l.getD e.x false) ∧ ((l.setIfInBounds i true).getD e.s false = l.getD e.s false) :=
      fun e he => ⟨getD_set_ne _ (Ne.symm (hi e he).1), getD_set_ne _ (Ne.symm (hi e he).2)⟩
    constructor
    · rintro ⟨h1, h2, h3, h4⟩
      refine ⟨h1, h2, fun e he hx => ?_, fun e he e' he' hn hx hx' => h4 e he e' he' hn ((k e he).1.trans hx) ((k e' he').1.trans hx')⟩
      have := h3 e he ((k e he).1.trans hx)
      rwa [(k e he).2] at this
    · rintro ⟨h1, h2, h3, h4⟩
      refine ⟨h1, h2, fun e he hx => ?_, fun e he e' he' hn hx hx' => h4 e he e' he' hn ((k e he).1.symm.trans hx) ((k e' he').1.symm.trans hx')⟩
      have := h3 e he ((k e he).1.symm.trans hx)
      rwa [← (k e he).2] at this

/-! ### The moves -/
theorem wp_region_ab {id : Nat} {a : Act} {w : World} (B : Nat) (own : List Ent) (hm : P.follows .mixedOrders = true) (h0 : S0 w.drew) (hB : B ≤ w.heap.size)
    (ho : ∀ e ∈ own, e.x < ops.size)
    (h : wpAb P .any ops Q (Sof S0 B own) ops.size (fun _ => 0) (Array.replicate ops.size false) a) : (Code.region id ops true).wp P Q a w := by
  refine wp_region_any hm (wpAny_of_ab _ _ _ _ _ h ⟨h0, hB, fun e he hx => ?_, fun e he e' he' hn hx => ?_⟩)
  · simp [ho e he] at hx
  · simp [ho e he] at hx

variable {B : Nat} {own : List Ent} {n : Nat} {g : Nat → Nat} {l : Array Bool} {a : Act}

/-- A value that hangs on nothing but S0. -/
theorem abTake (i : Nat) (d : Option Tmp) {oi : Oper} {v : Value} (hi : ops[i]? = some oi) (hd : oi.dst = d)
    (hs : Region.noSelect ops = true) (hf : Region.free md ops l i = true) (hr : (Region.ready md ops l).contains i = true)
    (hQ : ∀ c a w, Q (.panic c) (a.put d v) w → Q (.panic c) a w) (hF : Fit S0 (Sof S0 B own) i)
    (hw : Region.wanted oi (yielded ops a.tmps) = true) (hy : ∀ w, S0 w → (execOp a.eval oi).run P w = .ok (.value v) w)
    (h : wpAb P md ops Q (Sof S0 B own) n g (l.setIfInBounds i true) (a.put d v)) : wpAb P md ops Q (Sof S0 B own) (n + 1) g l a := by
  subst hd
  exact abFirst hi (Region.noSelect_spec hs) hQ hF n g l a (Region.free_spec hi hf) (by simpa using hr) (.inl ⟨hw, fun w k => .inl ⟨w, hy w k, Below.refl _ _⟩⟩) h
/-- An operation that is not wanted. -/
theorem abSkip (i : Nat) (d : Option Tmp) {oi : Oper} (hi : ops[i]? = some oi) (hd : oi.dst = d)
    (hs : Region.noSelect ops = true) (hf : Region.free md ops l i = true) (hr : (Region.ready md ops l).contains i = true)
    (hQ : ∀ c a w, Q (.panic c) (a.put d undef) w → Q (.panic c) a w) (hF : Fit S0 (Sof S0 B own) i)
    (hw : Region.wanted oi (yielded ops a.tmps) = false)
    (h : wpAb P md ops Q (Sof S0 B own) n g (l.setIfInBounds i true) (a.put d undef)) : wpAb P md ops Q (Sof S0 B own) (n + 1) g l a := by
  subst hd
  exact abFirst hi (Region.noSelect_spec hs) hQ hF n g l a (Region.free_spec hi hf) (by simpa using hr) (.inr ⟨hw, rfl⟩) h
/-- A call that answers v and leaves all blocks as they were. -/
theorem abCall (i : Nat) (d : Option Tmp) {oi : Oper} {v : Value} {f : FuncId} {args : Array Value} (hi : ops[i]? = some oi) (hd : oi.dst = d)
    (hs : Region.noSelect ops = true) (hf : Region.free md ops l i = true) (hr : (Region.ready md ops l).contains i = true)
    (hQ : ∀ c a w, Q (.panic c) (a.put d v) w → Q (.panic c) a w) (hF : Fit S0 (Sof S0 B own) i)
    (hw : Region.wanted oi (yielded ops a.tmps) = true) (hy : ∀ w, S0 w → (execOp a.eval oi).run P w = .ok (.enter f args) w)
    (hc : ∀ w, S0 w → Calls P f args w fun e w' => e = .returned v ∧ Below w.heap.size w w')
    (h : wpAb P md ops Q (Sof S0 B own) n g (l.setIfInBounds i true) (a.put d v)) : wpAb P md ops Q (Sof S0 B own) (n + 1) g l a := by
  subst hd
  exact abFirst hi (Region.noSelect_spec hs) hQ hF n g l a (Region.free_spec hi hf) (by simpa using hr) (.inl ⟨hw, fun w k => .inr ⟨f, args, hy w k, hc w k⟩⟩) h
/-- One operation alone may come up, and panics; or whatever it does is what the post asks. -/
theorem abLast (i : Nat) (hr : Region.ready md ops l = [i]) (h : ∀ w, Sof S0 B own g l w → wpOp P ops Q i (fun a' w' => ∃ g', Sof S0 B own g' (l.setIfInBounds i true) w' ∧ wpAb P md ops Q (Sof S0 B own) n g' (l.setIfInBounds i true) a') a w) :
    wpAb P md ops Q (Sof S0 B own) (n + 1) g l a :=
  ⟨fun e => (by rw [hr] at e; cases e), fun j hj => (by rw [hr] at hj; simp at hj; subst hj; exact h)⟩
/-- A call that gives up. -/
theorem abGives (i : Nat) {oi : Oper} {f : FuncId} {args : Array Value} (hi : ops[i]? = some oi) (hr : Region.ready md ops l = [i])
    (hw : Region.wanted oi (yielded ops a.tmps) = true) (hy : ∀ w, S0 w → (execOp a.eval oi).run P w = .ok (.enter f args) w)
    (hc : ∀ w, S0 w → Calls P f args w fun e w' => ∃ c, e = .panicked c ∧ Q (.panic c) a w') : wpAb P md ops Q (Sof S0 B own) (n + 1) g l a :=
  abLast i hr fun w hs => by
    unfold Go.wpOp
    simp only [hi, hw, if_true]
    left
    unfold Oper.wp
    rw [hy w hs.1, Oper.upon_enter]
    refine (hc w hs.1).mono ?_
    rintro e w' ⟨c, rfl, h⟩
    exact h
/-- All have come up. -/
theorem abDone (hr : Region.ready md ops l = []) (h : ∀ w, Sof S0 B own g l w → Q .normal a w) : ∀ n, wpAb P md ops Q (Sof S0 B own) n g l a
  | 0 => ⟨hr, h⟩
  | _ + 1 => ⟨fun _ => h, by rw [hr]; simp⟩

/-- g with block b for operation x. -/
def made (g : Nat → Nat) (x b : Nat) : Nat → Nat := fun y => if y = x then b else g y
theorem made_same (g : Nat → Nat) (x b : Nat) : made g x b x = b := if_pos rfl
theorem made_other (g : Nat → Nat) {x y : Nat} (b : Nat) (h : y ≠ x) : made g x b y = g y := if_neg h

theorem sof_made (e : Ent) (he : e ∈ own) (hu : ∀ e' ∈ own, e'.x = e.x → e' = e) (hx : ∀ e' ∈ own, e'.s ≠ e.x) (hst : ∀ w w', S0 w → Below B w w' → S0 w') (hl : ∀ e ∈ own, Local e.pre ∧ Local e.post) {w : World} {o : Obj}
    (hun : l.getD e.s false = false) (hin : e.x < l.size) (hp : e.pre (w.alloc o) w.heap.size) (hs : Sof S0 B own g l w) : Sof S0 B own (made g e.x w.heap.size) (l.setIfInBounds e.x true) (w.alloc o) := by
  obtain ⟨h1, h2, h3, h4⟩ := hs
  have hb : Below w.heap.size w (w.alloc o) := (Below.refl _ _).alloc (Nat.le_refl _) _
  have hz : (w.alloc o).heap.size = w.heap.size + 1 := by simp
  refine ⟨hst _ _ h1 (hb.mono h2), by omega, fun e' he' hx' => ?_, fun e1 he1 e2 he2 hn hx1 hx2 => ?_⟩
  · rw [getD_set_ne _ (Ne.symm (hx e' he'))]
    by_cases c : e'.x = e.x
    · obtain rfl := hu e' he' c
      rw [made_same, if_neg (by rw [hun]; simp)]
      exact ⟨h2, by omega, hp⟩
    · rw [made_other _ _ c]
      rw [getD_set_ne _ (Ne.symm c)] at hx'
      obtain ⟨k1, k2, k3⟩ := h3 e' he' hx'
      refine ⟨k1, by omega, ?_⟩
      split at k3
      · rename_i c3; rw [if_pos c3]; exact (hl e' he').2 _ _ _ (hb.block _ k2) k3
      · rename_i c3; rw [if_neg c3]; exact (hl e' he').1 _ _ _ (hb.block _ k2) k3
  · by_cases c1 : e1.x = e.x
    · have c2 : e2.x ≠ e.x := fun c => hn (c1.trans c.symm)
      rw [c1, made_same, made_other _ _ c2]
      rw [getD_set_ne _ (Ne.symm c2)] at hx2
      have := (h3 e2 he2 hx2).2.1
      omega
    · rw [made_other _ _ c1]
      rw [getD_set_ne _ (Ne.symm c1)] at hx1
      by_cases c2 : e2.x = e.x
      · rw [c2, made_same]
        have := (h3 e1 he1 hx1).2.1
        omega
      · rw [made_other _ _ c2]
        rw [getD_set_ne _ (Ne.symm c2)] at hx2
        exact h4 e1 he1 e2 he2 hn hx1 hx2

/-- An alloc of a block that the region owns: one of those that may come up. -/
def AbMakes (P : Program) (ops : Array Oper) (S0 : World → Prop) (e : Ent) (oi : Oper) (a : Act) : Prop :=
  Region.wanted oi (yielded ops a.tmps) = true ∧ ∃ o, ∀ w, S0 w → (execOp a.eval oi).run P w = .ok (.value (.pointer (some ⟨w.heap.size, 0, none⟩))) (w.alloc o) ∧ e.pre (w.alloc o) w.heap.size
structure OwnOk (S0 : World → Prop) (B : Nat) (own : List Ent) : Prop where
  st : ∀ w w', S0 w → Below B w w' → S0 w'
  loc : ∀ e ∈ own, Local e.pre ∧ Local e.post
  one : ∀ e ∈ own, ∀ e' ∈ own, e'.x = e.x → e' = e
  two : ∀ e ∈ own, ∀ e' ∈ own, e'.s = e.s → e' = e
  apart : ∀ e ∈ own, ∀ e' ∈ own, e'.s ≠ e.x
theorem own0_ok (st : ∀ w w', S0 w → Below B w w' → S0 w') : OwnOk S0 B [] :=
  ⟨st, fun _ h => (by cases h), fun _ h => (by cases h), fun _ h => (by cases h), fun _ h => (by cases h)⟩
theorem own1_ok {e : Ent} (st : ∀ w w', S0 w → Below B w w' → S0 w') (he : Local e.pre ∧ Local e.post) (h : e.s ≠ e.x) : OwnOk S0 B [e] :=
  ⟨st, fun k hk => (by simp at hk; subst hk; exact he), fun k hk k' hk' _ => (by simp at hk hk'; rw [hk, hk']), fun k hk k' hk' _ => (by simp at hk hk'; rw [hk, hk']), fun k hk k' hk' => (by simp at hk hk'; rw [hk, hk']; exact h)⟩
theorem own2_ok {e f : Ent} (st : ∀ w w', S0 w → Below B w w' → S0 w') (he : Local e.pre ∧ Local e.post) (hf : Local f.pre ∧ Local f.post) (hx : e.x ≠ f.x) (hs : e.s ≠ f.s)
    (h : e.s ≠ e.x ∧ e.s ≠ f.x ∧ f.s ≠ e.x ∧ f.s ≠ f.x) : OwnOk S0 B [e, f] := by
  obtain ⟨h1, h2, h3, h4⟩ := h
  refine ⟨st, fun k hk => ?_, fun k hk k' hk' c => ?_, fun k hk k' hk' c => ?_, fun k hk k' hk' => ?_⟩
  · simp at hk; rcases hk with rfl | rfl <;> assumption
  · simp at hk hk'; rcases hk with rfl | rfl <;> rcases hk' with rfl | rfl <;> first | rfl | exact absurd c hx | exact absurd c (Ne.symm hx)
  · simp at hk hk'; rcases hk with rfl | rfl <;> rcases hk' with rfl | rfl <;> first | rfl | exact absurd c hs | exact absurd c (Ne.symm hs)
  · simp at hk hk'; rcases hk with rfl | rfl <;> rcases hk' with rfl | rfl <;> assumption
theorem abMake {x : Nat} {oi : Oper} (ok : OwnOk S0 B own) (e : Ent) (he : e ∈ own) (hx : e.x = x) (hi : ops[x]? = some oi) (hun : l.getD e.s false = false) (hin : decide (x < l.size) = true)
    (hm : AbMakes P ops S0 e oi a) {K : (Nat → Nat) → Act → Prop} (h : ∀ b, B ≤ b → (∀ e' ∈ own, l.getD e'.x false = true → g e'.x ≠ b) → K (made g x b) (a.put oi.dst (.pointer (some ⟨b, 0, none⟩)))) (w : World) (hs : Sof S0 B own g l w) :
    wpOp P ops Q x (fun a' w' => ∃ g', Sof S0 B own g' (l.setIfInBounds x true) w' ∧ K g' a') a w := by
  subst hx
  obtain ⟨hw, o, hr⟩ := hm
  obtain ⟨hr, hp⟩ := hr w hs.1
  unfold Go.wpOp
  simp only [hi, hw, if_true]
  left
  unfold Oper.wp
  rw [hr, Oper.upon_value]
  refine ⟨_, sof_made e he (fun e' he' => ok.one e he e' he') (fun e' he' => ok.apart e he e' he') ok.st ok.loc hun (of_decide_eq_true hin) hp hs, h _ hs.2.1 fun e' he' hl => ?_⟩
  have := (hs.2.2.1 e' he' hl).2.1
  omega
/-- One block is made. -/
theorem abMake1 (x : Nat) (d : Tmp) {oi : Oper} (ok : OwnOk S0 B own) (e : Ent) (he : e ∈ own) (hx : e.x = x) (hi : ops[x]? = some oi) (hd : oi.dst = some d) (hun : l.getD e.s false = false) (hin : decide (x < l.size) = true)
    (hr : Region.ready md ops l = [x]) (hm : AbMakes P ops S0 e oi a)
    (h : ∀ b, B ≤ b → (∀ e' ∈ own, l.getD e'.x false = true → g e'.x ≠ b) → wpAb P md ops Q (Sof S0 B own) n (made g x b) (l.setIfInBounds x true) (a.put (some d) (.pointer (some ⟨b, 0, none⟩)))) :
    wpAb P md ops Q (Sof S0 B own) (n + 1) g l a :=
  abLast x hr fun w hs => abMake ok e he hx hi hun hin hm (K := fun g' a' => wpAb P md ops Q (Sof S0 B own) n g' (l.setIfInBounds x true) a') (by rw [hd]; exact h) w hs
theorem AbMakes.put {e : Ent} {o o' : Oper} {v : Value} (hs : ∀ cs b, o.op ≠ .select cs b) (hap : o'.apart ops o = true) (h : AbMakes P ops S0 e o a) : AbMakes P ops S0 e o (a.put o'.dst v) := by
  obtain ⟨h1, _, _⟩ := Oper.apart_spec hap
  unfold AbMakes at *
  rw [execOp_put o hs a o'.dst v h1, wanted_put (ops := ops) o a o'.dst v h1]
  exact h
theorem made_comm (g : Nat → Nat) {x y : Nat} (b c : Nat) (h : x ≠ y) : made (made g x b) y c = made (made g y c) x b := by
  funext z
  unfold made
  by_cases c1 : z = x <;> by_cases c2 : z = y <;> simp_all
/-- Two blocks are made, in either order. -/
theorem abMake2 (x y : Nat) (dx dy : Tmp) {ox oy : Oper} (ok : OwnOk S0 B own) (e f : Ent) (he : e ∈ own) (hf : f ∈ own) (hex : e.x = x) (hfy : f.x = y) (hx : ops[x]? = some ox) (hy : ops[y]? = some oy) (hdx : ox.dst = some dx) (hdy : oy.dst = some dy)
    (hue : l.getD e.s false = false) (huf : l.getD f.s false = false) (hxin : decide (x < l.size) = true) (hyin : decide (y < l.size) = true) (hne : x ≠ y) (hes : e.s ≠ y ∧ f.s ≠ x) (hns : Region.noSelect ops = true) (hxy : ox.apart ops oy = true) (hyx : oy.apart ops ox = true)
    (hr : Region.ready md ops l = [x, y]) (hrx : Region.ready md ops (l.setIfInBounds x true) = [y]) (hry : Region.ready md ops (l.setIfInBounds y true) = [x]) (hmx : AbMakes P ops S0 e ox a) (hmy : AbMakes P ops S0 f oy a)
    (h : ∀ b c, B ≤ b → B ≤ c → b ≠ c → wpAb P md ops Q (Sof S0 B own) n (made (made g x b) y c) ((l.setIfInBounds x true).setIfInBounds y true) ((a.put (some dx) (.pointer (some ⟨b, 0, none⟩))).put (some dy) (.pointer (some ⟨c, 0, none⟩)))) :
    wpAb P md ops Q (Sof S0 B own) (n + 1 + 1) g l a := by
  have gset : ∀ (l : Array Bool) (k : Nat), k < l.size → (l.setIfInBounds k true).getD k false = true := fun l k hk => by simp [hk]
  refine ⟨fun e => (by rw [hr] at e; cases e), fun j hj => ?_⟩
  rw [hr] at hj
  simp at hj
  rcases hj with rfl | rfl
  · refine abMake ok e he hex hx hue hxin hmx (K := fun g' a' => wpAb P md ops Q (Sof S0 B own) (n + 1) g' (l.setIfInBounds j true) a') fun b hb _ => ?_
    refine abMake1 y dy ok f hf hfy hy hdy (by rw [getD_set_ne _ (Ne.symm hes.2)]; exact huf) (by simpa using of_decide_eq_true hyin) hrx (hmy.put (Region.noSelect_spec hns y oy · · hy) hxy) fun c hc hdis => ?_
    have hbc : b ≠ c := by
      have := hdis e he (by rw [hex]; exact gset _ _ (of_decide_eq_true hxin))
      rwa [hex, made_same] at this
    rw [hdx]
    exact h b c hb hc hbc
  · refine abMake ok f hf hfy hy huf hyin hmy (K := fun g' a' => wpAb P md ops Q (Sof S0 B own) (n + 1) g' (l.setIfInBounds j true) a') fun c hc _ => ?_
    refine abMake1 x dx ok e he hex hx hdx (by rw [getD_set_ne _ (Ne.symm hes.1)]; exact hue) (by simpa using of_decide_eq_true hxin) hry (hmx.put (Region.noSelect_spec hns x ox · · hx) hyx) fun b hb hdis => ?_
    have hbc : b ≠ c := by
      have := hdis f hf (by rw [hfy]; exact gset _ _ (of_decide_eq_true hyin))
      rw [hfy, made_same] at this
      exact Ne.symm this
    have hd : ∀ d, (some dy : Option Tmp) = some d → (some dx : Option Tmp) ≠ some d := by
      have := (Oper.apart_spec hyx).2.1
      rwa [hdx, hdy] at this
    rw [hdy, Act.put_comm a (x := some dy) (y := some dx) _ _ hd, made_comm g c b (Ne.symm hne), Array.setIfInBounds_comm _ _ (Ne.symm hne)]
    exact h b c hb hc hbc

/-- What is stored into a block that the region made. -/
theorem abStore (s : Nat) {oi : Oper} (ok : OwnOk S0 B own) (e : Ent) (he : e ∈ own) (hs : e.s = s) (hi : ops[s]? = some oi) (hd : oi.dst = none) (hr : Region.ready md ops l = [s]) (hun : l.getD s false = false) (hmd : l.getD e.x false = true) (hin : decide (s < l.size) = true)
    (hw : Region.wanted oi (yielded ops a.tmps) = true)
    (hy : ∀ w b, S0 w → b = g e.x → B ≤ b → e.pre w b → ∃ w', (execOp a.eval oi).run P w = .ok .skip w' ∧ e.post w' b ∧ Below B w w' ∧ ∀ k, k ≠ b → w'.heap[k]? = w.heap[k]?)
    (h : wpAb P md ops Q (Sof S0 B own) n g (l.setIfInBounds s true) a) : wpAb P md ops Q (Sof S0 B own) (n + 1) g l a := by
  subst hs
  refine abLast e.s hr fun w hS => ?_
  obtain ⟨h1, h2, h3, h4⟩ := hS
  obtain ⟨k1, k2, k3⟩ := h3 e he hmd
  rw [if_neg (by rw [hun]; simp)] at k3
  obtain ⟨w', r1, r2, r3, r4⟩ := hy w _ h1 rfl k1 k3
  unfold Go.wpOp
  simp only [hi, hw, if_true]
  left
  unfold Oper.wp
  rw [r1, Oper.upon_skip, hd]
  refine ⟨g, ⟨ok.st _ _ h1 r3, Nat.le_trans h2 r3.size, fun e' he' hx => ?_, fun e1 he1 e2 he2 hn hx1 hx2 => ?_⟩, h⟩
  · rw [getD_set_ne _ (ok.apart e' he' e he)] at hx
    obtain ⟨j1, j2, j3⟩ := h3 e' he' hx
    refine ⟨j1, Nat.lt_of_lt_of_le j2 r3.size, ?_⟩
    by_cases c : e'.x = e.x
    · obtain rfl := ok.one e he e' he' c
      rw [if_pos (by simp [of_decide_eq_true hin])]
      exact r2
    · have hne := h4 e' he' e he c hx hmd
      have hns : e'.s ≠ e.s := fun c2 => c (by rw [ok.two e he e' he' c2])
      rw [getD_set_ne _ (Ne.symm hns)]
      split at j3
      · rename_i c3; rw [if_pos c3]; exact (ok.loc e' he').2 _ _ _ (r4 _ hne) j3
      · rename_i c3; rw [if_neg c3]; exact (ok.loc e' he').1 _ _ _ (r4 _ hne) j3
  · rw [getD_set_ne _ (ok.apart e1 he1 e he)] at hx1
    rw [getD_set_ne _ (ok.apart e2 he2 e he)] at hx2
    exact h4 e1 he1 e2 he2 hn hx1 hx2
/-- What lies in a block of the region's behind it. -/
theorem sof_post {w : World} (h : Sof S0 B own g l w) (e : Ent) (he : e ∈ own) (h1 : l.getD e.x false = true) (h2 : l.getD e.s false = true) {b : Nat} (hb : g e.x = b) : B ≤ b ∧ b < w.heap.size ∧ e.post w b := by
  obtain ⟨k1, k2, k3⟩ := h.2.2.1 e he h1
  rw [if_pos h2] at k3
  subst hb
  exact ⟨k1, k2, k3⟩
end
end Go.Proofs.Ytgmifimpeefpcaa

/- Rounds and calls inside a range over a function. -/
namespace Go.Proofs.Ytgmifimpeefpcaa
open Go.RowKit
theorem roundIn_any {m m' : Nat} {P : Program} {l : Nat} {f : FuncId} {tmps : Array Value} {assign body : Code} {w : World} {R : Ending → World → Prop} (h : RoundIn Fence.wide m P l f tmps assign body w R) : RoundIn Fence.wide m' P l f tmps assign body w R :=
  ⟨h.1, fun c cs _ => h.2 c cs (room_wide _)⟩
theorem below_at {n : Nat} {x y z : World} (h : Below n x y) (hn : n ≤ y.heap.size) (k : Below y.heap.size y z) : Below n x z := h.trans (k.mono hn)
theorem noDepth {m : Nat} (h : Fence.wide.depth.isSome = true) : 1 ≤ m := by simp [Fence.wide] at h
end Go.Proofs.Ytgmifimpeefpcaa
