/- A range over a function: an iterator hands out N known rows of values, one after another, and a body takes each; what the two owe one another, and what holds behind the loop. -/
import Derived.Test.YtacnaencmbnjpaaBase
import Derived.RangeFuncNested
import Derived.RangeFuncLeaves
import Derived.Scope
namespace Go.Proofs.Ytacnaencmbnjpaa
open Go.RowKit

/-- What lay from block B on lies as it lay. -/
structure Above (B : Nat) (w w' : World) : Prop where
  size : w.heap.size ≤ w'.heap.size
  block : ∀ k, B ≤ k → k < w.heap.size → w'.heap[k]? = w.heap[k]?
theorem Above.refl (B : Nat) (w : World) : Above B w w := ⟨Nat.le_refl _, fun _ _ _ => rfl⟩
theorem Above.trans {B : Nat} {x y z : World} (h : Above B x y) (k : Above B y z) : Above B x z :=
  ⟨Nat.le_trans h.size k.size, fun i hi hx => (k.block i hi (Nat.lt_of_lt_of_le hx h.size)).trans (h.block i hi hx)⟩
theorem Above.mono {B B' : Nat} {x y : World} (h : Above B x y) (hb : B ≤ B') : Above B' x y := ⟨h.size, fun k hk hx => h.block k (Nat.le_trans hb hk) hx⟩
theorem Above.of {B : Nat} {x y z : World} (h : Above B x y) (k : Below y.heap.size y z) : Above B x z := h.trans ⟨k.size, fun i _ hx => k.block i hx⟩
theorem Above.alloc {B : Nat} {x y : World} (h : Above B x y) (o : Obj) : Above B x (y.alloc o) := h.of ((Below.refl _ _).alloc (Nat.le_refl _) _)
theorem Above.setCell {B : Nat} {x y : World} (h : Above B x y) {p : Addr} (hp : p.block < B) (u : Value) : Above B x (y.setCell p u) :=
  h.trans ⟨by simp [World.setCell], fun k hk _ => Below.heap_setCell _ _ _ _ (by omega)⟩
theorem Above.drew {B : Nat} {x y : World} (h : Above B x y) : Above B x y.drew := h.trans ⟨Nat.le_refl _, fun _ _ _ => rfl⟩
theorem Above.putObj {B : Nat} {x y : World} (h : Above B x y) {l : Nat} (hl : l < B) (o : Obj) : Above B x (y.putObj l o) :=
  h.trans ⟨by simp, fun k hk _ => World.putObj_heap_other (by omega)⟩
theorem lt_of_cell {x : World} {b o : Nat} {v : Value} (hc : x.cell? ⟨b, o, none⟩ = some v) : b < x.heap.size := by
  apply Classical.byContradiction; intro hn
  have : x.heap[b]? = none := Array.getElem?_eq_none (by omega)
  simp [World.cell?, this] at hc
/-- A cell of a block that lay from B on. -/
theorem Above.cell {B : Nat} {x y : World} (h : Above B x y) {b o : Nat} {v : Value} (hb : B ≤ b) (hc : x.cell? ⟨b, o, none⟩ = some v) : y.cell? ⟨b, o, none⟩ = some v :=
  (World.cell?_of_block (w := x) (h.block b hb (lt_of_cell hc))).trans hc

theorem below_putObj {B l : Nat} (w : World) (o : Obj) (hl : B ≤ l) : Below B w (w.putObj l o) :=
  ⟨rfl, rfl, rfl, by simp, fun k hk => World.putObj_heap_other (by omega)⟩
/-- A cell does not lie in a loop's record. -/
theorem cell_putObj {W : World} {b off l : Nat} {v : Value} {r : Loop} (o : Obj) (hl : W.heap[l]? = some (.loop r)) (hc : W.cell? ⟨b, off, none⟩ = some v) : (W.putObj l o).cell? ⟨b, off, none⟩ = some v := by
  have hne : b ≠ l := by rintro rfl; simp [World.cell?, hl] at hc
  exact (World.cell?_of_block (w := W) (World.putObj_heap_other hne)).trans hc

/-- What an iterator promises: it hands out f 0, f 1, .. up to N rows, unless a round says 'no more'; whatever of the caller's speaks of older blocks alone holds through. -/
def Seq (P : Program) (g : Nat) (lb : Array Value) (f : Nat → Array Value) (N : Nat) (Cap : World → Prop) : Prop :=
  ∀ (l : Nat) (J : Nat → World → Prop) (Jx : World → Prop) (W : World),
    (∀ i A B, J i A → Below W.heap.size A B → J i B) → (∀ A B, Jx A → Below W.heap.size A B → Jx B) → (∀ i A, J i A → Cap A) →
    (∀ i W1, i < N → J i W1 → ∀ m, YieldAt Fence.wide m P l (f i) W1 fun e W' => (e = .returned (.bool true) ∧ J (i + 1) W' ∧ Above W.heap.size W1 W') ∨ (e = .returned (.bool false) ∧ Jx W')) →
    J 0 W → Calls P g (#[.func (.yield l) #[] #[]] ++ lb) W fun e W' => (∃ v, e = .returned v) ∧ (J N W' ∨ Jx W')

/-- How a round's body may be left: off its end, or by a goto. -/
def roundQ (B : Nat) (I : Nat → World → Prop) (Ix : Nat → World → Prop) (i : Nat) (W : World) : Exit → Act → World → Prop
  | .normal, _, W' => Above B W W' ∧ I (i + 1) W'
  | .goto t, _, W' => Above B W W' ∧ Ix t W'
  | _, _, _ => False

def recOf (fn : FuncId) (tmps : Array Value) (ps : Array Tmp) (assign body : Code) (D : Nat) (st : LoopState) (pe : Option Code) : Loop :=
  { state := st, pending := pe, fn, tmps, params := ps, assign, body, defers := D }

theorem wp_range {P : Program} {g : Operand} {ps : Array Tmp} {assign body : Code} {Q : Exit → Act → World → Prop} {a : Act} {w : World}
    {gf : Nat} {lb : Array Value} (hg : a.eval g = .func (.func gf) #[] lb) (eg : ∀ args w, (callFunc gf args).run P w = .ok (.enter gf args) w)
    {f : Nat → Array Value} {N : Nat} {Cap : World → Prop} (hseq : Seq P gf lb f N Cap) (hps : ∀ i, (f i).size = ps.size)
    (I : Nat → World → Prop) (Ix : Nat → World → Prop)
    (hI : ∀ i A B, I i A → Below w.heap.size A B → I i B) (hIx : ∀ t A B, Ix t A → Below w.heap.size A B → Ix t B) (hcap : ∀ i A, I i A → Cap A) (h0 : I 0 w)
    (Ax : Nat → Act → World → Prop) (hAx : ∀ i a' A l r o, A.heap[l]? = some (.loop r) → Ax i a' A → Ax i a' (A.putObj l o))
    (hassign : ∀ (l i : Nat) (W : World) (m : Nat) (K : Act → World → Prop), i < N → I i W → w.heap.size < W.heap.size → (∀ a' W', Above w.heap.size W W' → I i W' → Ax i a' W' → K a' W') →
      assign.wpIn (Fence.wide.inRound l) m P (Exit.then K (fun _ _ _ => False)) { tmps := (ps.zip (f i)).foldl (fun t (p, v) => t.setIfInBounds p v) a.tmps, defers := [] } W)
    (hbody : ∀ (l i : Nat) (a' : Act) (W : World) (m : Nat), i < N → I i W → Ax i a' W → w.heap.size < W.heap.size → body.wpIn (Fence.wide.inRound l) m P (roundQ w.heap.size I Ix i W) a' W)
    (hdone : ∀ (D : Nat) (W : World), w.heap.size ≤ D → I N W → W.heap[D]? = some (.deferred (some [])) → Q .normal { a with defers := { target := .collected D, args := #[] } :: a.defers } W)
    (hstop : ∀ (D t : Nat) (W : World), w.heap.size ≤ D → Ix t W → W.heap[D]? = some (.deferred (some [])) → Q (.goto t) { a with defers := { target := .collected D, args := #[] } :: a.defers } W) :
    (Code.rangeFunc g ps assign body).wp P Q a w := by
  refine (wpIn_wide (n := 0)).1 (wpIn_rangeFunc ?_)
  intro fn _
  generalize hD : w.heap.size = D at *
  obtain ⟨rec, hrec⟩ : ∃ rec : LoopState → Option Code → Loop, rec = recOf fn a.tmps ps assign body D := ⟨_, rfl⟩
  obtain ⟨W1, hW1⟩ : ∃ W1, (w.alloc (.deferred (some []))).alloc (.loop (rec .ready none)) = W1 := ⟨_, rfl⟩
  have hsz : W1.heap.size = D + 2 := by rw [← hW1]; simp; omega
  have hL1 : W1.heap[D + 1]? = some (.loop (rec .ready none)) := by
    rw [← hW1]; have := World.alloc_heap_new (w.alloc (.deferred (some []))) (.loop (rec .ready none)); rwa [World.size_alloc, hD] at this
  have hD1 : W1.heap[D]? = some (.deferred (some [])) := by
    rw [← hW1]; refine (Below.heap_alloc _ _ _ (by simp; omega)).trans ?_; rw [← hD]; exact World.alloc_heap_new w _
  have hb1 : Below D w W1 := by rw [← hW1]; exact ((Below.refl _ w).alloc (by omega) _).alloc (by simp; omega) _
  have loop_same : ∀ {A B : World} {o : Obj} (k : Nat), k < D + 2 → Below W1.heap.size A B → A.heap[k]? = some o → B.heap[k]? = some o :=
    fun k hk h e => (h.block k (by omega)).trans e
  refine ⟨D + 1, [{ target := .collected D, args := #[] }], W1, { target := .fn (.func gf) lb, args := #[.func (.yield (D + 1)) #[] #[]] }, W1, gf, #[.func (.yield (D + 1)) #[] #[]] ++ lb, W1, ?_, ?_, fun _ _ => trivial, ?_, (fun h => by simp [Fence.wide] at h), callsIn_wide.2 ?_⟩
  · rw [← hW1, hrec, ← hD]; exact run_enterLoop_outer _ _ _ _ _
  · simp only [resolve, hg]; simp [go_sem]
  · simp [invoke, go_sem, eg]
  refine (hseq (D + 1) (fun i W => I i W ∧ W.heap[D + 1]? = some (.loop (rec .ready none)) ∧ W.heap[D]? = some (.deferred (some [])))
    (fun W => ∃ t, Ix t W ∧ W.heap[D + 1]? = some (.loop (rec .done (some (.goto t)))) ∧ W.heap[D]? = some (.deferred (some [])))
    W1 (fun i A B h hb => ⟨hI i A B h.1 (hb.mono (by omega)), loop_same _ (by omega) hb h.2.1, loop_same _ (by omega) hb h.2.2⟩)
    (fun A B ⟨t, h1, h2, h3⟩ hb => ⟨t, hIx t A B h1 (hb.mono (by omega)), loop_same _ (by omega) hb h2, loop_same _ (by omega) hb h3⟩) (fun i A h => hcap i A h.1) ?_ ⟨hI 0 _ _ h0 hb1, hL1, hD1⟩).mono ?_
  · rintro i W hi ⟨hi0, hl, hd⟩ m
    have hy := run_yield (P := P) (args := f i) hl (by rw [hrec]; exact hps i)
    rw [hrec] at hy
    refine ⟨fn, _, assign, body, hy, ?_⟩
    refine roundIn_of_wpIn trivial (hassign _ i W _ _ hi hi0 ?_ ?_)
    · have := (Array.getElem?_eq_some_iff.1 hl).1; omega
    intro a' Wa hab hia hax
    have hlt : D + 1 < W.heap.size := (Array.getElem?_eq_some_iff.1 hl).1
    have hla : Wa.heap[D + 1]? = some (.loop (rec .ready none)) := (hab.block _ (by omega) hlt).trans hl
    have hda : Wa.heap[D]? = some (.deferred (some [])) := (hab.block _ (by omega) (by omega)).trans hd
    have hlta : D + 1 < Wa.heap.size := (Array.getElem?_eq_some_iff.1 hla).1
    refine ⟨_, run_beginRound hla (by rw [hrec]; rfl), ?_⟩
    have hbusy : (Wa.putObj (D + 1) (.loop { rec .ready none with state := .busy })).heap[D + 1]? = some (.loop { rec .ready none with state := .busy }) := World.putObj_heap_same hlta
    have hdef : (Wa.putObj (D + 1) (.loop { rec .ready none with state := .busy })).heap[D]? = some (.deferred (some [])) := (World.putObj_heap_other (by omega)).trans hda
    refine wpIn_mono (hbody _ i a' _ _ hi (hI _ _ _ hia (below_putObj _ _ (by omega))) (hAx _ _ _ _ _ _ hla hax) (by simp; omega)) ?_
    have hab2 : Above (D + 2) W (Wa.putObj (D + 1) (.loop { rec .ready none with state := .busy })) := (hab.mono (by omega)).putObj (by omega) _
    have fin : ∀ (jump : Option Code) (W3 : World), Above D (Wa.putObj (D + 1) (.loop { rec .ready none with state := .busy })) W3 →
        (Instr.endRound (D + 1) jump).run P W3 = .ok (.bool jump.isNone) (W3.putObj (D + 1) (.loop (rec (if jump.isNone then .ready else .done) jump))) ∧
        (W3.putObj (D + 1) (.loop (rec (if jump.isNone then .ready else .done) jump))).heap[D + 1]? = some (.loop (rec (if jump.isNone then .ready else .done) jump)) ∧
        (W3.putObj (D + 1) (.loop (rec (if jump.isNone then .ready else .done) jump))).heap[D]? = some (.deferred (some [])) ∧ Above W1.heap.size W (W3.putObj (D + 1) (.loop (rec (if jump.isNone then .ready else .done) jump))) := by
      intro jump W3 h3
      have hl3 := (h3.block (D + 1) (by omega) (by simp; omega)).trans hbusy
      have hd3 := (h3.block D (by omega) (by simp; omega)).trans hdef
      have he := run_endRound (P := P) jump hl3
      refine ⟨?_, World.putObj_heap_same (Array.getElem?_eq_some_iff.1 hl3).1, (World.putObj_heap_other (by omega)).trans hd3, ?_⟩
      · rw [he, hrec]; rfl
      · rw [hsz]; exact (hab2.trans (h3.mono (by omega))).putObj (by omega) _
    rintro e a3 W3 hp
    cases e with
    | normal =>
      obtain ⟨h3, hi3⟩ := hp
      obtain ⟨k1, k2, k3, k4⟩ := fin none W3 h3
      exact ⟨_, _, k1, .inl ⟨rfl, ⟨hI _ _ _ hi3 (below_putObj _ _ (by omega)), k2, k3⟩, k4⟩⟩
    | goto t =>
      obtain ⟨h3, hi3⟩ := hp
      obtain ⟨k1, k2, k3, k4⟩ := fin (some (.goto t)) W3 h3
      exact ⟨_, _, k1, .inr ⟨rfl, t, hIx _ _ _ hi3 (below_putObj _ _ (by omega)), k2, k3⟩⟩
    | exit id => exact hp.elim
    | ret => exact hp.elim
    | panic ch => exact hp.elim
    | outgrown => exact hp.elim
  · rintro e W' ⟨⟨v, rfl⟩, (⟨hi, hl, hd⟩ | ⟨t, hi, hl, hd⟩)⟩
    · have he := run_endLoop (P := P) hl (by rw [hrec]; simp [recOf])
      refine ⟨_, _, he, ?_⟩
      rw [show (rec .ready none).pending = none by rw [hrec]; rfl]
      exact hdone D _ (by omega) (hI _ _ _ hi (below_putObj _ _ (by omega))) ((World.putObj_heap_other (by omega)).trans hd)
    · have he := run_endLoop (P := P) hl (by rw [hrec]; simp [recOf])
      refine ⟨_, _, he, ?_⟩
      rw [show (rec .done (some (.goto t))).pending = some (.goto t) by rw [hrec]; rfl]
      exact wpIn_goto (hstop D t _ (by omega) (hIx _ _ _ hi (below_putObj _ _ (by omega))) ((World.putObj_heap_other (by omega)).trans hd))

/-- A function that holds such a loop: its contract out of its body's walk. -/
theorem calls_of_marks {P : Program} {f : FuncId} {fn : Func} {c : Code} {args : Array Value} {w : World} {R : Ending → World → Prop}
    (hf : P.funcs[f]? = some fn) (hb : fn.body = some c)
    (h : c.wp P (bodyPostM Fence.wide 0 P fn R) { tmps := args ++ Array.replicate (fn.ntmps - args.size) undef, defers := [] } w) : Calls P f args w R :=
  (callsIn_wide (n := 0)).1 (callsIn_of_wp_marks hf hb trivial (wpIn_wide.2 h) rfl)

/-- The way out of such a function, behind the loop. -/
theorem post_mark {P : Program} {fn : Func} {R : Ending → World → Prop} {tmps : Array Value} {D : Nat} {W : World} {v : Value} (hD : W.heap[D]? = some (.deferred (some [])))
    (hr : (results fn tmps).run P (W.putObj D (.deferred none)) = .ok v (W.putObj D (.deferred none))) (h : R (.returned v) (W.putObj D (.deferred none))) :
    bodyPostM Fence.wide 0 P fn R .ret { tmps := tmps, defers := [{ target := .collected D, args := #[] }] } W :=
  ⟨by simp, .inl ⟨D, _, rfl, run_takeDeferred hD, ⟨v, hr, h⟩⟩⟩
end Go.Proofs.Ytacnaencmbnjpaa
