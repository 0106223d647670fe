/- RecipeSwaps: for every two channels: in the other order they are printed in the other order, and parsed so, one behind the other; two of one name are refused at the second one. No condition but that the library's variables that the row lists hold what the program's own text lays in them (the card ties that). -/
import Derived.Test.YtdimgomigidbkaaGreatDoorPk9
import Derived.Deep.MidRow
import Derived.Test.YtdimgomigidbkaaGreatDoorCards
import Derived.Test.YtdimgomigidbkaaGreatDoorTie
/- The law of RecipeBack. -/
namespace Go.Proofs.YtdimgomigidbkaaGreatDoor
open Go.RowKit

theorem fewC_fin {l : List Ch} (hf : ∀ c ∈ l, c.fin) : ∀ c ∈ fewC l, c.fin := fun c hc => by
  obtain ⟨u, hu, rfl⟩ := List.mem_map.1 hc
  exact hf u (List.mem_of_mem_take hu)
theorem CRow.own {B b : Nat} {v u : Value} {l : List Ch} {w : World} (h : CRow B v l w) (hb : b < B) : CRow B v l (w.setCell ⟨b, 0, none⟩ u) := h.kept (WB.set (b := b) w 0 u) hb
set_option linter.unusedSimpArgs false in
set_option maxHeartbeats 0 in
set_option maxRecDepth 100000 in
theorem back_walk (l : List Ch) (va : Value) (w : World) (ht : ∀ i, i < l.length → (nthC l i).name.length ≤ 9223372036854775807) (hf : ∀ c ∈ l, c.fin) (ha : ReadsC w va l) (hE : EnvR w) :
    Calls Tryz.prog 5 #[.agg #[va]] w fun e w' => e = .returned (.bool true) ∧ Below w.heap.size w w' := by
  have hB := (Below.refl w.heap.size w).alloc (Nat.le_refl _) (.cells #[va] 24)
  have hx := Has.new w [va] 24
  have hfw := few8_any l va _ ht (ha.below hB)
  have hE1 := hE.below hB
  have hlen := fewC_len l
  have hnm := fun i hi => Nat.le_trans (fewC_name l i hi) (show 20 ≤ 100000 by decide)
  have hpr := fun W v (hR : ReadsC W v (fewC l)) (hE : Env W) => print8_any (fewC l) v W (by omega) hR hnm hE
  have hsm := fun W v u (h1 : ReadsC W v (fewC l)) (h2 : ReadsC W u (fewC l)) => sameC_any (fewC l) v u W (by omega) h1 h2
  have hrp := fun h => read_print (fewC l) h (fewC_fin hf)
  have HLEN := Lib.hid hlen
  have hs1 : (w.alloc (.cells #[va] 24)).heap.size = w.heap.size + 1 := by simp
  rw [hs1] at hfw
  obtain ⟨a0, p0, rfl, -⟩ := ha
  clear ht hf hE1 hnm hlen
  unfold print8 at hpr
  generalize fewC l = m at *
  go_enter Tryz.func5, Tryz.ntmps5
  go_wp2_with fail
  refine hfw.mono ?_
  rintro e w2 ⟨v1, rfl, hr2, k2⟩
  have hs2 := k2.size
  have hx2 := hx.of (k2.block w.heap.size (by omega))
  have hB2 := hB.trans (k2.mono (by omega))
  rw [hs1] at hs2
  obtain ⟨a1, p1, hv1, -⟩ := hr2.reads
  subst hv1
  have c0 : w2.cell? ⟨w.heap.size, 0, none⟩ = some (.slice a0 l.length p0) := hx2.cell 0
  have f0 : w2.frozen? ⟨w.heap.size, 0, none⟩ = false := hx2.frozen 0
  have hx3 := hx2.set 0 (.slice a1 m.length p1)
  have hr3 := hr2.own (b := w.heap.size) (u := .slice a1 m.length p1) (by omega)
  have hB3 := hB2.setCell (p := ⟨w.heap.size, 0, none⟩) (Nat.le_refl _) (.slice a1 m.length p1)
  have hs3 : (w2.setCell ⟨w.heap.size, 0, none⟩ (.slice a1 m.length p1)).heap.size = w2.heap.size := by simp
  clear hfw hr2 k2 hx hB hx2 hB2
  have hn3 := hpr _ _ hr3.reads (hE.below hB3).1
  cases hq : recB m with
  | false =>
    rw [hq, if_neg (show ¬ (false = true) from by decide)] at hn3
    clear hr3 hx3 hpr hsm hrp hq
    go_wp2_with fail
    refine hn3.mono ?_
    rintro e w4 ⟨rfl, k4⟩
    have hB4 := hB3.trans (k4.mono (by rw [hs3]; omega))
    have hal := alive8_any w4 (hE.below hB4)
    clear hn3 hB3 k4
    go_wp2_with fail
    refine hal.mono ?_
    rintro e w5 ⟨rfl, k5⟩
    have hB5 := hB4.trans (k5.mono hB4.size)
    go_wp2
    go_ret
    exact ⟨rfl, hB5⟩
  | true =>
    rw [hq, if_pos rfl] at hn3
    have hps := fun W (hE : EnvR W) => parse_any (printR m) W hE
    unfold ParseEnd at hps
    rw [hrp hq] at hps
    dsimp only at hps
    generalize printR m = tx at *
    clear hpr hrp hq
    go_wp2_with fail
    refine hn3.mono ?_
    rintro e w4 ⟨rfl, k4⟩
    have hB4 := hB3.trans (k4.mono (by rw [hs3]; omega))
    have hs4 := k4.size
    rw [hs3] at hs4
    have hx4 := hx3.call k4
    have hr4 := hr3.below k4
    have hn4 := hps _ (hE.below hB4)
    clear hn3 hB3 k4 hx3 hr3 hps
    go_wp2_with fail
    refine hn4.mono ?_
    rintro e w5 ⟨v2, rfl, hr5, k5⟩
    obtain ⟨a2, p2, hv2, -⟩ := hr5.reads
    subst hv2
    have hb6 := (Below.refl w5.heap.size w5).alloc (Nat.le_refl _) (.cells #[.slice a2 m.length p2] 24)
    have hs5 := k5.size
    have hB6 := (hB4.trans (k5.mono (by omega))).trans (hb6.mono (by omega))
    have hx6 := (hx4.call k5).call hb6
    have hr6 := (hr4.below k5).below hb6
    have hq6 := hr5.below hb6
    have hy6 := Has.new w5 [.slice a2 m.length p2] 24
    have hs6 : (w5.alloc (.cells #[.slice a2 m.length p2] 24)).heap.size = w5.heap.size + 1 := by simp
    have hal := alive8_any _ (hE.below hB6)
    clear hn4 hB4 k5 hb6 hx4 hr4 hr5
    go_wp2_with fail
    refine hal.mono ?_
    rintro e w7 ⟨rfl, k7⟩
    have hs7 := k7.size
    rw [hs6] at hs7
    have hx7 := hx6.call k7
    have hy7 := hy6.call k7
    have hB7 := hB6.trans (k7.mono (by rw [hs6]; omega))
    have c7 : w7.cell? ⟨w.heap.size, 0, none⟩ = some (.slice a1 m.length p1) := hx7.cell 0
    have d7 : w7.cell? ⟨w5.heap.size, 0, none⟩ = some (.slice a2 m.length p2) := hy7.cell 0
    have hn7 := hsm w7 _ _ (hq6.below k7).reads (hr6.below k7).reads
    clear hal hB6 k7 hx6 hr6 hq6 hy6 hx7 hy7 hsm
    go_wp2_with fail
    refine hn7.mono ?_
    rintro e w8 ⟨rfl, k8⟩
    have hB8 := hB7.trans (k8.mono (by omega))
    go_wp2
    go_ret
    exact ⟨rfl, hB8⟩
end Go.Proofs.YtdimgomigidbkaaGreatDoor
/- A region that draws its order: what holds may be made more on the way; and a region walked by what holds between its operations, whatever order comes. -/
namespace Go.Proofs.YtdimgomigidbkaaGreatDoor
open Go.RowKit
section
variable {P : Program} {ops : Array Oper} {Q : Exit → Act → World → Prop} {md : Region.Mode} {S S' : World → Prop}
/-- What holds behind each operation may be more from here on. -/
theorem wpAnyH_more (hS : ∀ w, S' w → S w) : ∀ (n : Nat) (l : Array Bool) (a : Act) (w : World), wpAnyH P md ops Q S' n l a w → wpAnyH P md ops Q S n l a w
  | 0, _, _, _, h => h
  | n + 1, _, _, _, h => ⟨h.1, fun i hi => wpOp_mono (fun a' w' h' => ⟨hS _ h'.1, wpAnyH_more hS n _ a' w' h'.2⟩) (h.2 i hi)⟩
/-- How many have not come up. -/
def opensB (l : Array Bool) : Nat := l.toList.countP (fun b => !b)
theorem opensB_set {l : Array Bool} {i : Nat} (h : l.getD i true = false) : opensB (l.setIfInBounds i true) < opensB l := by
  unfold opensB
  have hi : i < l.size := by
    rcases Nat.lt_or_ge i l.size with c | c
    · exact c
    · simp [Array.getElem?_eq_none c] at h
  have hl : l.toList[i]'(by simpa using hi) = false := by simpa [hi] using h
  rw [Array.toList_setIfInBounds]
  have e : ∀ (m : List Bool) (i : Nat) (hi : i < m.length), m[i] = false → (m.set i true).countP (fun b => !b) < m.countP (fun b => !b) := by
    intro m
    induction m with
    | nil => intro i hi; exact absurd hi (Nat.not_lt_zero _)
    | cons b m ih =>
      intro i hi hb
      cases i with
      | zero =>
        have hb : b = false := hb
        subst hb
        simp
      | succ i =>
        have := ih i (by simpa using hi) (by simpa using hb)
        simp only [List.set_cons_succ, List.countP_cons]
        omega
  exact e l.toList i (by simpa using hi) hl
theorem wpAny_of_inv (I : Array Bool → Act → World → Prop)
    (hstep : ∀ l a w i, i ∈ Region.ready md ops l → I l a w → wpOp P ops Q i (fun a' w' => I (l.setIfInBounds i true) a' w') a w)
    (hend : ∀ l a w, Region.ready md ops l = [] → I l a w → Q .normal a w) :
    ∀ (n : Nat) (l : Array Bool) (a : Act) (w : World), opensB l ≤ n → I l a w → wpAny P md ops Q n l a w
  | 0, l, a, w, hn, h => by
    have h0 : Region.ready md ops l = [] := by
      rcases e : Region.ready md ops l with _ | ⟨i, r⟩
      · rfl
      · have := opensB_set (mem_ready.1 (show i ∈ Region.ready md ops l by rw [e]; simp)).1
        omega
    exact ⟨h0, hend l a w h0 h⟩
  | n + 1, l, a, w, hn, h => ⟨fun h0 => hend l a w h0 h, fun i hi => wpOp_mono (fun a' w' h' => wpAny_of_inv I hstep hend n _ a' w' (by
      have := opensB_set (mem_ready.1 hi).1
      omega) h') (hstep l a w i hi h)⟩
theorem wp_region_inv {id : Nat} {a : Act} {w : World} (I : Array Bool → Act → World → Prop) (hm : P.follows .mixedOrders = true)
    (h0 : I (Array.replicate ops.size false) a w.drew)
    (hstep : ∀ l a w i, i ∈ Region.ready .any ops l → I l a w → wpOp P ops Q i (fun a' w' => I (l.setIfInBounds i true) a' w') a w)
    (hend : ∀ l a w, Region.ready .any ops l = [] → I l a w → Q .normal a w) : (Code.region id ops true).wp P Q a w :=
  wp_region_any hm (wpAny_of_inv I hstep hend _ _ _ _ (by
    unfold opensB
    refine Nat.le_trans List.countP_le_length ?_
    simp) h0)
end
end Go.Proofs.YtdimgomigidbkaaGreatDoor
/- A region that draws its order, walked by what holds between its operations. -/
namespace Go.Proofs.YtdimgomigidbkaaGreatDoor
open Go.RowKit
section
variable {P : Program} {ops : Array Oper} {Q : Exit → Act → World → Prop} {md : Region.Mode} {S S' : World → Prop}
/-- What has come up has come up behind all that it waits for. -/
def ClosedL (md : Region.Mode) (ops : Array Oper) (l : Array Bool) : Prop :=
  ∀ (i : Nat) (oi : Oper), ops[i]? = some oi → l.getD i false = true → ∀ e ∈ oi.after, Region.binds md e = true → l.getD e.on false = true
theorem set_mono {l : Array Bool} {i j : Nat} (h : l.getD j false = true) : (l.setIfInBounds i true).getD j false = true := by
  by_cases e : i = j
  · subst e
    rcases Nat.lt_or_ge i l.size with c | c
    · simp [c]
    · simp [Array.getElem?_eq_none c] at h
  · rw [getD_set_ne false e]
    exact h
theorem set_here {l : Array Bool} {i : Nat} (h : i < l.size) : (l.setIfInBounds i true).getD i false = true := by simp [h]
theorem set_else {l : Array Bool} {i j : Nat} (h : i ≠ j) : (l.setIfInBounds i true).getD j false = l.getD j false := getD_set_ne false h
theorem ready_on {l : Array Bool} {i : Nat} (h : i ∈ Region.ready md ops l) {oi : Oper} (hi : ops[i]? = some oi) {e : Edge} (he : e ∈ oi.after) (hb : Region.binds md e = true) : l.getD e.on false = true := by
  obtain ⟨-, o, ho, h2⟩ := mem_ready.1 h
  rw [hi] at ho
  cases ho
  exact h2 e he hb
theorem ready_not {l : Array Bool} {i : Nat} (h : i ∈ Region.ready md ops l) : l.getD i false = false := by
  have h0 := (mem_ready.1 h).1
  rcases Nat.lt_or_ge i l.size with c | c
  · simpa [c] using h0
  · simp [Array.getElem?_eq_none c]
theorem ClosedL.set {l : Array Bool} {i : Nat} (h : ClosedL md ops l) (hi : i ∈ Region.ready md ops l) : ClosedL md ops (l.setIfInBounds i true) := fun j oj hj hl e he hb => by
  by_cases c : i = j
  · subst c
    exact set_mono (ready_on hi hj he hb)
  · rw [set_else c] at hl
    exact set_mono (h j oj hj hl e he hb)
theorem ready_all {l : Array Bool} (h : Region.ready md ops l = []) (hz : l.size = ops.size) (ho : ∀ (i : Nat) (oi : Oper), ops[i]? = some oi → ∀ e ∈ oi.after, e.on < i) : ∀ n i, i ≤ n → i < ops.size → l.getD i false = true := by
  intro n
  induction n with
  | zero =>
    intro i hi hl
    obtain rfl : i = 0 := by omega
    cases q : l.getD 0 false with
    | true => rfl
    | false =>
      have : 0 ∈ Region.ready md ops l := mem_ready.2 ⟨by simpa [hz, hl] using q, _, Array.getElem?_eq_getElem hl, fun e he _ => absurd (ho 0 _ (Array.getElem?_eq_getElem hl) e he) (Nat.not_lt_zero _)⟩
      rw [h] at this
      cases this
  | succ n ih =>
    intro i hi hl
    cases q : l.getD i false with
    | true => rfl
    | false =>
      have : i ∈ Region.ready md ops l := mem_ready.2 ⟨by simpa [hz, hl] using q, _, Array.getElem?_eq_getElem hl, fun e he _ => by
        have := ho i _ (Array.getElem?_eq_getElem hl) e he
        exact ih _ (by omega) (by omega)⟩
      rw [h] at this
      cases this
def inOrder (ops : Array Oper) : Bool := (List.range ops.size).all fun i => ((ops[i]?).map fun o => o.after.all fun e => decide (e.on < i)).getD true
theorem inOrder_spec (h : inOrder ops = true) : ∀ (i : Nat) (oi : Oper), ops[i]? = some oi → ∀ e ∈ oi.after, e.on < i := fun i oi hi e he => by
  have h := List.all_eq_true.1 h i (List.mem_range.2 (Array.getElem?_eq_some_iff.1 hi).1)
  rw [hi] at h
  simp only [Option.map_some, Option.getD_some, Array.all_eq_true_iff_forall_mem, decide_eq_true_eq] at h
  exact h e he
/-- A region walked by what holds between its operations: what has come up is closed under what it waits for. -/
theorem wp_region_by {id : Nat} {a : Act} {w : World} (I : Array Bool → Act → World → Prop) (hm : P.follows .mixedOrders = true) (ho : inOrder ops = true)
    (h0 : I (Array.replicate ops.size false) a w.drew)
    (hstep : ∀ l a w i, l.size = ops.size → ClosedL .any ops l → i ∈ Region.ready .any ops l → I l a w → wpOp P ops Q i (fun a' w' => I (l.setIfInBounds i true) a' w') a w)
    (hend : ∀ l a w, (∀ i, i < ops.size → l.getD i false = true) → I l a w → Q .normal a w) : (Code.region id ops true).wp P Q a w :=
  wp_region_inv (fun l a w => (l.size = ops.size ∧ ClosedL .any ops l) ∧ I l a w) hm ⟨⟨by simp, fun i oi hi hl => by
    rw [show (Array.replicate ops.size false).getD i false = false from by
      rcases Nat.lt_or_ge i ops.size with c | c
      · simp [c]
      · simp [Array.getElem?_eq_none (show (Array.replicate ops.size false).size ≤ i by simpa using c)]] at hl
    cases hl⟩, h0⟩
    (fun l a w i hi ⟨⟨hz, hc⟩, h⟩ => wpOp_mono (fun a' w' h' => ⟨⟨by simpa using hz, hc.set hi⟩, h'⟩) (hstep l a w i hz hc hi h))
    (fun l a w hr ⟨⟨hz, _⟩, h⟩ => hend l a w (fun i hi => ready_all hr hz (inOrder_spec ho) i i (Nat.le_refl _) hi) h)
section
variable {i : Nat} {oi : Oper} {a : Act} {w w' : World} {K : Act → World → Prop}
theorem wpOp_of {K : Act → World → Prop} (hi : ops[i]? = some oi) (hw : Region.wanted oi (yielded ops a.tmps) = true) (h : oi.wp P a w K Q) : wpOp P ops Q i K a w := by
  unfold Go.wpOp
  simp only [hi, hw, if_true]
  exact Or.inl h
theorem wpOp_value (hi : ops[i]? = some oi) (hw : Region.wanted oi (yielded ops a.tmps) = true) {v : Value} (hy : (execOp a.eval oi).run P w = .ok (.value v) w') (h : K (a.put oi.dst v) w') : wpOp P ops Q i K a w :=
  wpOp_of hi hw (by unfold Oper.wp; rw [hy, Oper.upon_value]; exact h)
theorem wpOp_store (hi : ops[i]? = some oi) (hw : Region.wanted oi (yielded ops a.tmps) = true) (hy : (execOp a.eval oi).run P w = .ok .skip w') (h : K (a.put oi.dst undef) w') : wpOp P ops Q i K a w :=
  wpOp_of hi hw (by unfold Oper.wp; rw [hy, Oper.upon_skip]; exact h)
theorem wpOp_call (hi : ops[i]? = some oi) (hw : Region.wanted oi (yielded ops a.tmps) = true) {f : FuncId} {args : Array Value} (hy : (execOp a.eval oi).run P w = .ok (.enter f args) w')
    (h : Calls P f args w' fun e w'' => ∃ v, e = .returned v ∧ K (a.put oi.dst v) w'') : wpOp P ops Q i K a w :=
  wpOp_of hi hw (by
    unfold Oper.wp
    rw [hy, Oper.upon_enter]
    refine h.mono ?_
    rintro e w'' ⟨v, rfl, hn⟩
    exact hn)
end
end
end Go.Proofs.YtdimgomigidbkaaGreatDoor
/- What holds between the operations of RecipeSwaps' drawn region, whatever order they come in. -/
namespace Go.Proofs.YtdimgomigidbkaaGreatDoor
open Go.RowKit

structure SwI (c d : Ch) (B b2 b3 : Nat) (W0 : World) (l : Array Bool) (w : World) (u5 u6 u14 u15 u16 u17 u18 u19 u20 u21 : Value) : Prop where
  bel : Below B W0 w
  bsz : B ≤ w.heap.size
  x2 : Has w b2 (chL c) 37
  x3 : Has w b3 (chL d) 37
  f0 : l.getD 0 false = true → u14 = chV c
  f1 : l.getD 1 false = true → l.getD 10 false = false → ReadsC w u15 [c]
  f2 : l.getD 2 false = true → l.getD 10 false = false → ∃ v, u16 = .agg #[v] ∧ ReadsC w v [c]
  f3 : l.getD 3 false = true → ∃ v, u17 = .agg #[v] ∧ CRow B v (fewC [c]) w
  f4 : l.getD 4 false = true → u18 = chV d
  f5 : l.getD 5 false = true → l.getD 10 false = false → ReadsC w u19 [d]
  f6 : l.getD 6 false = true → l.getD 10 false = false → ∃ v, u20 = .agg #[v] ∧ ReadsC w v [d]
  f7 : l.getD 7 false = true → ∃ v, u21 = .agg #[v] ∧ CRow B v (fewC [d]) w
  f8 : l.getD 8 false = true → ∃ g, u5 = .pointer (some ⟨g, 0, none⟩) ∧ B ≤ g ∧ g < w.heap.size ∧ (l.getD 10 false = false → Has w g [.slice none 0 0] 24) ∧ (l.getD 10 false = true → ∃ v, u17 = .agg #[v] ∧ Has w g [v] 24)
  f9 : l.getD 9 false = true → ∃ g, u6 = .pointer (some ⟨g, 0, none⟩) ∧ B ≤ g ∧ g < w.heap.size ∧ (l.getD 11 false = false → Has w g [.slice none 0 0] 24) ∧ (l.getD 11 false = true → ∃ v, u21 = .agg #[v] ∧ Has w g [v] 24)
  d38 : l.getD 3 false = true → l.getD 8 false = true → ∀ v g, u17 = .agg #[v] → u5 = .pointer (some ⟨g, 0, none⟩) → v.ownBlock ≠ some g
  d39 : l.getD 3 false = true → l.getD 9 false = true → ∀ v g, u17 = .agg #[v] → u6 = .pointer (some ⟨g, 0, none⟩) → v.ownBlock ≠ some g
  d78 : l.getD 7 false = true → l.getD 8 false = true → ∀ v g, u21 = .agg #[v] → u5 = .pointer (some ⟨g, 0, none⟩) → v.ownBlock ≠ some g
  d79 : l.getD 7 false = true → l.getD 9 false = true → ∀ v g, u21 = .agg #[v] → u6 = .pointer (some ⟨g, 0, none⟩) → v.ownBlock ≠ some g
  d89 : l.getD 8 false = true → l.getD 9 false = true → ∀ g g', u5 = .pointer (some ⟨g, 0, none⟩) → u6 = .pointer (some ⟨g', 0, none⟩) → g ≠ g'
theorem SwI.call {c d : Ch} {B b2 b3 : Nat} {W0 : World} {l : Array Bool} {w : World} {u5 u6 u14 u15 u16 u17 u18 u19 u20 u21 : Value} {w' : World} (h : SwI c d B b2 b3 W0 l w u5 u6 u14 u15 u16 u17 u18 u19 u20 u21) (hb : Below w.heap.size w w') : SwI c d B b2 b3 W0 l w' u5 u6 u14 u15 u16 u17 u18 u19 u20 u21 where
  bel := h.bel.trans (hb.mono h.bsz)
  bsz := Nat.le_trans h.bsz hb.size
  x2 := h.x2.call hb
  x3 := h.x3.call hb
  f0 := h.f0
  f1 p q := (h.f1 p q).below hb
  f2 p q := by obtain ⟨v, e, r⟩ := h.f2 p q; exact ⟨v, e, r.below hb⟩
  f3 p := by obtain ⟨v, e, r⟩ := h.f3 p; exact ⟨v, e, r.below hb⟩
  f4 := h.f4
  f5 p q := (h.f5 p q).below hb
  f6 p q := by obtain ⟨v, e, r⟩ := h.f6 p q; exact ⟨v, e, r.below hb⟩
  f7 p := by obtain ⟨v, e, r⟩ := h.f7 p; exact ⟨v, e, r.below hb⟩
  f8 p := by
    obtain ⟨g, e, h1, h2, h3, h4⟩ := h.f8 p
    exact ⟨g, e, h1, Nat.lt_of_lt_of_le h2 hb.size, fun q => (h3 q).call hb, fun q => by obtain ⟨v, e2, r⟩ := h4 q; exact ⟨v, e2, r.call hb⟩⟩
  f9 p := by
    obtain ⟨g, e, h1, h2, h3, h4⟩ := h.f9 p
    exact ⟨g, e, h1, Nat.lt_of_lt_of_le h2 hb.size, fun q => (h3 q).call hb, fun q => by obtain ⟨v, e2, r⟩ := h4 q; exact ⟨v, e2, r.call hb⟩⟩
  d38 := h.d38
  d39 := h.d39
  d78 := h.d78
  d79 := h.d79
  d89 := h.d89
theorem SwI.m0 {c d : Ch} {B b2 b3 : Nat} {W0 : World} {l : Array Bool} {w : World} {u5 u6 u14 u15 u16 u17 u18 u19 u20 u21 : Value} {u14' : Value} (h : SwI c d B b2 b3 W0 l w u5 u6 u14 u15 u16 u17 u18 u19 u20 u21) (hn : u14' = chV c) : SwI c d B b2 b3 W0 (l.setIfInBounds 0 true) w u5 u6 u14' u15 u16 u17 u18 u19 u20 u21 := by
  have e : ∀ k, k ≠ 0 → (l.setIfInBounds 0 true).getD k false = l.getD k false := fun k hk => set_else (Ne.symm hk)
  exact ⟨h.bel, h.bsz, h.x2, h.x3, fun _ => hn, by simp only [e 1 (by decide), e 10 (by decide)]; exact h.f1, by simp only [e 2 (by decide), e 10 (by decide)]; exact h.f2, by simp only [e 3 (by decide)]; exact h.f3, by simp only [e 4 (by decide)]; exact h.f4, by simp only [e 5 (by decide), e 10 (by decide)]; exact h.f5, by simp only [e 6 (by decide), e 10 (by decide)]; exact h.f6, by simp only [e 7 (by decide)]; exact h.f7, by simp only [e 8 (by decide), e 10 (by decide)]; exact h.f8, by simp only [e 9 (by decide), e 11 (by decide)]; exact h.f9, by simp only [e 3 (by decide), e 8 (by decide)]; exact h.d38, by simp only [e 3 (by decide), e 9 (by decide)]; exact h.d39, by simp only [e 7 (by decide), e 8 (by decide)]; exact h.d78, by simp only [e 7 (by decide), e 9 (by decide)]; exact h.d79, by simp only [e 8 (by decide), e 9 (by decide)]; exact h.d89⟩
theorem SwI.m1 {c d : Ch} {B b2 b3 : Nat} {W0 : World} {l : Array Bool} {w : World} {u5 u6 u14 u15 u16 u17 u18 u19 u20 u21 : Value} {u15' : Value} (h : SwI c d B b2 b3 W0 l w u5 u6 u14 u15 u16 u17 u18 u19 u20 u21) (hn : ReadsC w u15' [c]) : SwI c d B b2 b3 W0 (l.setIfInBounds 1 true) w u5 u6 u14 u15' u16 u17 u18 u19 u20 u21 := by
  have e : ∀ k, k ≠ 1 → (l.setIfInBounds 1 true).getD k false = l.getD k false := fun k hk => set_else (Ne.symm hk)
  exact ⟨h.bel, h.bsz, h.x2, h.x3, by simp only [e 0 (by decide)]; exact h.f0, fun _ _ => hn, by simp only [e 2 (by decide), e 10 (by decide)]; exact h.f2, by simp only [e 3 (by decide)]; exact h.f3, by simp only [e 4 (by decide)]; exact h.f4, by simp only [e 5 (by decide), e 10 (by decide)]; exact h.f5, by simp only [e 6 (by decide), e 10 (by decide)]; exact h.f6, by simp only [e 7 (by decide)]; exact h.f7, by simp only [e 8 (by decide), e 10 (by decide)]; exact h.f8, by simp only [e 9 (by decide), e 11 (by decide)]; exact h.f9, by simp only [e 3 (by decide), e 8 (by decide)]; exact h.d38, by simp only [e 3 (by decide), e 9 (by decide)]; exact h.d39, by simp only [e 7 (by decide), e 8 (by decide)]; exact h.d78, by simp only [e 7 (by decide), e 9 (by decide)]; exact h.d79, by simp only [e 8 (by decide), e 9 (by decide)]; exact h.d89⟩
theorem SwI.m2 {c d : Ch} {B b2 b3 : Nat} {W0 : World} {l : Array Bool} {w : World} {u5 u6 u14 u15 u16 u17 u18 u19 u20 u21 : Value} {u16' : Value} (h : SwI c d B b2 b3 W0 l w u5 u6 u14 u15 u16 u17 u18 u19 u20 u21) (hn : ∃ v, u16' = .agg #[v] ∧ ReadsC w v [c]) : SwI c d B b2 b3 W0 (l.setIfInBounds 2 true) w u5 u6 u14 u15 u16' u17 u18 u19 u20 u21 := by
  have e : ∀ k, k ≠ 2 → (l.setIfInBounds 2 true).getD k false = l.getD k false := fun k hk => set_else (Ne.symm hk)
  exact ⟨h.bel, h.bsz, h.x2, h.x3, by simp only [e 0 (by decide)]; exact h.f0, by simp only [e 1 (by decide), e 10 (by decide)]; exact h.f1, fun _ _ => hn, by simp only [e 3 (by decide)]; exact h.f3, by simp only [e 4 (by decide)]; exact h.f4, by simp only [e 5 (by decide), e 10 (by decide)]; exact h.f5, by simp only [e 6 (by decide), e 10 (by decide)]; exact h.f6, by simp only [e 7 (by decide)]; exact h.f7, by simp only [e 8 (by decide), e 10 (by decide)]; exact h.f8, by simp only [e 9 (by decide), e 11 (by decide)]; exact h.f9, by simp only [e 3 (by decide), e 8 (by decide)]; exact h.d38, by simp only [e 3 (by decide), e 9 (by decide)]; exact h.d39, by simp only [e 7 (by decide), e 8 (by decide)]; exact h.d78, by simp only [e 7 (by decide), e 9 (by decide)]; exact h.d79, by simp only [e 8 (by decide), e 9 (by decide)]; exact h.d89⟩
theorem SwI.m4 {c d : Ch} {B b2 b3 : Nat} {W0 : World} {l : Array Bool} {w : World} {u5 u6 u14 u15 u16 u17 u18 u19 u20 u21 : Value} {u18' : Value} (h : SwI c d B b2 b3 W0 l w u5 u6 u14 u15 u16 u17 u18 u19 u20 u21) (hn : u18' = chV d) : SwI c d B b2 b3 W0 (l.setIfInBounds 4 true) w u5 u6 u14 u15 u16 u17 u18' u19 u20 u21 := by
  have e : ∀ k, k ≠ 4 → (l.setIfInBounds 4 true).getD k false = l.getD k false := fun k hk => set_else (Ne.symm hk)
  exact ⟨h.bel, h.bsz, h.x2, h.x3, by simp only [e 0 (by decide)]; exact h.f0, by simp only [e 1 (by decide), e 10 (by decide)]; exact h.f1, by simp only [e 2 (by decide), e 10 (by decide)]; exact h.f2, by simp only [e 3 (by decide)]; exact h.f3, fun _ => hn, by simp only [e 5 (by decide), e 10 (by decide)]; exact h.f5, by simp only [e 6 (by decide), e 10 (by decide)]; exact h.f6, by simp only [e 7 (by decide)]; exact h.f7, by simp only [e 8 (by decide), e 10 (by decide)]; exact h.f8, by simp only [e 9 (by decide), e 11 (by decide)]; exact h.f9, by simp only [e 3 (by decide), e 8 (by decide)]; exact h.d38, by simp only [e 3 (by decide), e 9 (by decide)]; exact h.d39, by simp only [e 7 (by decide), e 8 (by decide)]; exact h.d78, by simp only [e 7 (by decide), e 9 (by decide)]; exact h.d79, by simp only [e 8 (by decide), e 9 (by decide)]; exact h.d89⟩
theorem SwI.m5 {c d : Ch} {B b2 b3 : Nat} {W0 : World} {l : Array Bool} {w : World} {u5 u6 u14 u15 u16 u17 u18 u19 u20 u21 : Value} {u19' : Value} (h : SwI c d B b2 b3 W0 l w u5 u6 u14 u15 u16 u17 u18 u19 u20 u21) (hn : ReadsC w u19' [d]) : SwI c d B b2 b3 W0 (l.setIfInBounds 5 true) w u5 u6 u14 u15 u16 u17 u18 u19' u20 u21 := by
  have e : ∀ k, k ≠ 5 → (l.setIfInBounds 5 true).getD k false = l.getD k false := fun k hk => set_else (Ne.symm hk)
  exact ⟨h.bel, h.bsz, h.x2, h.x3, by simp only [e 0 (by decide)]; exact h.f0, by simp only [e 1 (by decide), e 10 (by decide)]; exact h.f1, by simp only [e 2 (by decide), e 10 (by decide)]; exact h.f2, by simp only [e 3 (by decide)]; exact h.f3, by simp only [e 4 (by decide)]; exact h.f4, fun _ _ => hn, by simp only [e 6 (by decide), e 10 (by decide)]; exact h.f6, by simp only [e 7 (by decide)]; exact h.f7, by simp only [e 8 (by decide), e 10 (by decide)]; exact h.f8, by simp only [e 9 (by decide), e 11 (by decide)]; exact h.f9, by simp only [e 3 (by decide), e 8 (by decide)]; exact h.d38, by simp only [e 3 (by decide), e 9 (by decide)]; exact h.d39, by simp only [e 7 (by decide), e 8 (by decide)]; exact h.d78, by simp only [e 7 (by decide), e 9 (by decide)]; exact h.d79, by simp only [e 8 (by decide), e 9 (by decide)]; exact h.d89⟩
theorem SwI.m6 {c d : Ch} {B b2 b3 : Nat} {W0 : World} {l : Array Bool} {w : World} {u5 u6 u14 u15 u16 u17 u18 u19 u20 u21 : Value} {u20' : Value} (h : SwI c d B b2 b3 W0 l w u5 u6 u14 u15 u16 u17 u18 u19 u20 u21) (hn : ∃ v, u20' = .agg #[v] ∧ ReadsC w v [d]) : SwI c d B b2 b3 W0 (l.setIfInBounds 6 true) w u5 u6 u14 u15 u16 u17 u18 u19 u20' u21 := by
  have e : ∀ k, k ≠ 6 → (l.setIfInBounds 6 true).getD k false = l.getD k false := fun k hk => set_else (Ne.symm hk)
  exact ⟨h.bel, h.bsz, h.x2, h.x3, by simp only [e 0 (by decide)]; exact h.f0, by simp only [e 1 (by decide), e 10 (by decide)]; exact h.f1, by simp only [e 2 (by decide), e 10 (by decide)]; exact h.f2, by simp only [e 3 (by decide)]; exact h.f3, by simp only [e 4 (by decide)]; exact h.f4, by simp only [e 5 (by decide), e 10 (by decide)]; exact h.f5, fun _ _ => hn, by simp only [e 7 (by decide)]; exact h.f7, by simp only [e 8 (by decide), e 10 (by decide)]; exact h.f8, by simp only [e 9 (by decide), e 11 (by decide)]; exact h.f9, by simp only [e 3 (by decide), e 8 (by decide)]; exact h.d38, by simp only [e 3 (by decide), e 9 (by decide)]; exact h.d39, by simp only [e 7 (by decide), e 8 (by decide)]; exact h.d78, by simp only [e 7 (by decide), e 9 (by decide)]; exact h.d79, by simp only [e 8 (by decide), e 9 (by decide)]; exact h.d89⟩
theorem SwI.m3 {c d : Ch} {B b2 b3 : Nat} {W0 : World} {l : Array Bool} {w : World} {u5 u6 u14 u15 u16 u17 u18 u19 u20 u21 : Value} {u17' : Value} (h : SwI c d B b2 b3 W0 l w u5 u6 u14 u15 u16 u17 u18 u19 u20 u21) (hn : ∃ v, u17' = .agg #[v] ∧ CRow B v (fewC [c]) w) (h10 : l.getD 10 false = false) (k8 : l.getD 8 false = true → ∀ v g, u17' = .agg #[v] → u5 = .pointer (some ⟨g, 0, none⟩) → v.ownBlock ≠ some g) (k9 : l.getD 9 false = true → ∀ v g, u17' = .agg #[v] → u6 = .pointer (some ⟨g, 0, none⟩) → v.ownBlock ≠ some g) : SwI c d B b2 b3 W0 (l.setIfInBounds 3 true) w u5 u6 u14 u15 u16 u17' u18 u19 u20 u21 := by
  have e : ∀ k, k ≠ 3 → (l.setIfInBounds 3 true).getD k false = l.getD k false := fun k hk => set_else (Ne.symm hk)
  exact ⟨h.bel, h.bsz, h.x2, h.x3, by simp only [e 0 (by decide)]; exact h.f0, by simp only [e 1 (by decide), e 10 (by decide)]; exact h.f1, by simp only [e 2 (by decide), e 10 (by decide)]; exact h.f2, fun _ => hn, by simp only [e 4 (by decide)]; exact h.f4, by simp only [e 5 (by decide), e 10 (by decide)]; exact h.f5, by simp only [e 6 (by decide), e 10 (by decide)]; exact h.f6, by simp only [e 7 (by decide)]; exact h.f7, by
    simp only [e 8 (by decide), e 10 (by decide)]
    intro p
    obtain ⟨g, e1, h1, h2, h3, _⟩ := h.f8 p
    exact ⟨g, e1, h1, h2, h3, fun q => by rw [h10] at q; cases q⟩, by simp only [e 9 (by decide), e 11 (by decide)]; exact h.f9, fun _ => by simp only [e 8 (by decide)]; exact k8, fun _ => by simp only [e 9 (by decide)]; exact k9, by simp only [e 7 (by decide), e 8 (by decide)]; exact h.d78, by simp only [e 7 (by decide), e 9 (by decide)]; exact h.d79, by simp only [e 8 (by decide), e 9 (by decide)]; exact h.d89⟩
theorem SwI.m7 {c d : Ch} {B b2 b3 : Nat} {W0 : World} {l : Array Bool} {w : World} {u5 u6 u14 u15 u16 u17 u18 u19 u20 u21 : Value} {u21' : Value} (h : SwI c d B b2 b3 W0 l w u5 u6 u14 u15 u16 u17 u18 u19 u20 u21) (hn : ∃ v, u21' = .agg #[v] ∧ CRow B v (fewC [d]) w) (h11 : l.getD 11 false = false) (k8 : l.getD 8 false = true → ∀ v g, u21' = .agg #[v] → u5 = .pointer (some ⟨g, 0, none⟩) → v.ownBlock ≠ some g) (k9 : l.getD 9 false = true → ∀ v g, u21' = .agg #[v] → u6 = .pointer (some ⟨g, 0, none⟩) → v.ownBlock ≠ some g) : SwI c d B b2 b3 W0 (l.setIfInBounds 7 true) w u5 u6 u14 u15 u16 u17 u18 u19 u20 u21' := by
  have e : ∀ k, k ≠ 7 → (l.setIfInBounds 7 true).getD k false = l.getD k false := fun k hk => set_else (Ne.symm hk)
  exact ⟨h.bel, h.bsz, h.x2, h.x3, by simp only [e 0 (by decide)]; exact h.f0, by simp only [e 1 (by decide), e 10 (by decide)]; exact h.f1, by simp only [e 2 (by decide), e 10 (by decide)]; exact h.f2, by simp only [e 3 (by decide)]; exact h.f3, by simp only [e 4 (by decide)]; exact h.f4, by simp only [e 5 (by decide), e 10 (by decide)]; exact h.f5, by simp only [e 6 (by decide), e 10 (by decide)]; exact h.f6, fun _ => hn, by simp only [e 8 (by decide), e 10 (by decide)]; exact h.f8, by
    simp only [e 9 (by decide), e 11 (by decide)]
    intro p
    obtain ⟨g, e1, h1, h2, h3, _⟩ := h.f9 p
    exact ⟨g, e1, h1, h2, h3, fun q => by rw [h11] at q; cases q⟩, by simp only [e 3 (by decide), e 8 (by decide)]; exact h.d38, by simp only [e 3 (by decide), e 9 (by decide)]; exact h.d39, fun _ => by simp only [e 8 (by decide)]; exact k8, fun _ => by simp only [e 9 (by decide)]; exact k9, by simp only [e 8 (by decide), e 9 (by decide)]; exact h.d89⟩
theorem SwI.m8 {c d : Ch} {B b2 b3 : Nat} {W0 : World} {l : Array Bool} {w : World} {u5 u6 u14 u15 u16 u17 u18 u19 u20 u21 : Value} {u5' : Value} (h : SwI c d B b2 b3 W0 l w u5 u6 u14 u15 u16 u17 u18 u19 u20 u21) (hn : ∃ g, u5' = .pointer (some ⟨g, 0, none⟩) ∧ B ≤ g ∧ g < w.heap.size ∧ Has w g [.slice none 0 0] 24) (h10 : l.getD 10 false = false) (k3 : l.getD 3 false = true → ∀ v g, u17 = .agg #[v] → u5' = .pointer (some ⟨g, 0, none⟩) → v.ownBlock ≠ some g) (k7 : l.getD 7 false = true → ∀ v g, u21 = .agg #[v] → u5' = .pointer (some ⟨g, 0, none⟩) → v.ownBlock ≠ some g) (k9 : l.getD 9 false = true → ∀ g g', u5' = .pointer (some ⟨g, 0, none⟩) → u6 = .pointer (some ⟨g', 0, none⟩) → g ≠ g') : SwI c d B b2 b3 W0 (l.setIfInBounds 8 true) w u5' u6 u14 u15 u16 u17 u18 u19 u20 u21 := by
  have e : ∀ k, k ≠ 8 → (l.setIfInBounds 8 true).getD k false = l.getD k false := fun k hk => set_else (Ne.symm hk)
  exact ⟨h.bel, h.bsz, h.x2, h.x3, by simp only [e 0 (by decide)]; exact h.f0, by simp only [e 1 (by decide), e 10 (by decide)]; exact h.f1, by simp only [e 2 (by decide), e 10 (by decide)]; exact h.f2, by simp only [e 3 (by decide)]; exact h.f3, by simp only [e 4 (by decide)]; exact h.f4, by simp only [e 5 (by decide), e 10 (by decide)]; exact h.f5, by simp only [e 6 (by decide), e 10 (by decide)]; exact h.f6, by simp only [e 7 (by decide)]; exact h.f7, fun _ => by
    obtain ⟨g, e1, h1, h2, h3⟩ := hn
    exact ⟨g, e1, h1, h2, fun _ => h3, fun q => by rw [e 10 (by decide), h10] at q; cases q⟩, by simp only [e 9 (by decide), e 11 (by decide)]; exact h.f9, fun p _ => k3 (by rwa [e 3 (by decide)] at p), by simp only [e 3 (by decide), e 9 (by decide)]; exact h.d39, fun p _ => k7 (by rwa [e 7 (by decide)] at p), by simp only [e 7 (by decide), e 9 (by decide)]; exact h.d79, fun _ p => k9 (by rwa [e 9 (by decide)] at p)⟩
theorem SwI.m9 {c d : Ch} {B b2 b3 : Nat} {W0 : World} {l : Array Bool} {w : World} {u5 u6 u14 u15 u16 u17 u18 u19 u20 u21 : Value} {u6' : Value} (h : SwI c d B b2 b3 W0 l w u5 u6 u14 u15 u16 u17 u18 u19 u20 u21) (hn : ∃ g, u6' = .pointer (some ⟨g, 0, none⟩) ∧ B ≤ g ∧ g < w.heap.size ∧ Has w g [.slice none 0 0] 24) (h11 : l.getD 11 false = false) (k3 : l.getD 3 false = true → ∀ v g, u17 = .agg #[v] → u6' = .pointer (some ⟨g, 0, none⟩) → v.ownBlock ≠ some g) (k7 : l.getD 7 false = true → ∀ v g, u21 = .agg #[v] → u6' = .pointer (some ⟨g, 0, none⟩) → v.ownBlock ≠ some g) (k8 : l.getD 8 false = true → ∀ g g', u5 = .pointer (some ⟨g, 0, none⟩) → u6' = .pointer (some ⟨g', 0, none⟩) → g ≠ g') : SwI c d B b2 b3 W0 (l.setIfInBounds 9 true) w u5 u6' u14 u15 u16 u17 u18 u19 u20 u21 := by
  have e : ∀ k, k ≠ 9 → (l.setIfInBounds 9 true).getD k false = l.getD k false := fun k hk => set_else (Ne.symm hk)
  exact ⟨h.bel, h.bsz, h.x2, h.x3, by simp only [e 0 (by decide)]; exact h.f0, by simp only [e 1 (by decide), e 10 (by decide)]; exact h.f1, by simp only [e 2 (by decide), e 10 (by decide)]; exact h.f2, by simp only [e 3 (by decide)]; exact h.f3, by simp only [e 4 (by decide)]; exact h.f4, by simp only [e 5 (by decide), e 10 (by decide)]; exact h.f5, by simp only [e 6 (by decide), e 10 (by decide)]; exact h.f6, by simp only [e 7 (by decide)]; exact h.f7, by simp only [e 8 (by decide), e 10 (by decide)]; exact h.f8, fun _ => by
    obtain ⟨g, e1, h1, h2, h3⟩ := hn
    exact ⟨g, e1, h1, h2, fun _ => h3, fun q => by rw [e 11 (by decide), h11] at q; cases q⟩, by simp only [e 3 (by decide), e 8 (by decide)]; exact h.d38, fun p _ => k3 (by rwa [e 3 (by decide)] at p), by simp only [e 7 (by decide), e 8 (by decide)]; exact h.d78, fun p _ => k7 (by rwa [e 7 (by decide)] at p), fun p _ => k8 (by rwa [e 8 (by decide)] at p)⟩
theorem CRow.unlike {B g : Nat} {v u : Value} {l : List Ch} {w : World} (h : CRow B v l w) (hg : v.ownBlock ≠ some g) : CRow B v l (w.setCell ⟨g, 0, none⟩ u) := World.ownsRow.kept h (WB.set (b := g) w 0 u) (Or.inr hg)
/-- What is stored into the first one's box. -/
theorem SwI.m10 {c d : Ch} {B b2 b3 : Nat} {W0 : World} {l : Array Bool} {w : World} {u5 u6 u14 u15 u16 u17 u18 u19 u20 u21 : Value} (h : SwI c d B b2 b3 W0 l w u5 u6 u14 u15 u16 u17 u18 u19 u20 u21) (p3 : l.getD 3 false = true) (p7 : l.getD 7 false = true) (p8 : l.getD 8 false = true) (p10 : l.getD 10 false = false) (hz : l.size = 12) (hb2 : b2 < B) (hb3 : b3 < B) :
    ∃ g v, u5 = .pointer (some ⟨g, 0, none⟩) ∧ u17 = .agg #[v] ∧ Has w g [.slice none 0 0] 24 ∧ SwI c d B b2 b3 W0 (l.setIfInBounds 10 true) (w.setCell ⟨g, 0, none⟩ v) u5 u6 u14 u15 u16 u17 u18 u19 u20 u21 := by
  have e : ∀ k, k ≠ 10 → (l.setIfInBounds 10 true).getD k false = l.getD k false := fun k hk => set_else (Ne.symm hk)
  have e10 : (l.setIfInBounds 10 true).getD 10 false = true := set_here (by omega)
  obtain ⟨g, e1, h1, h2, h3, -⟩ := h.f8 p8
  obtain ⟨v, e2, h4⟩ := h.f3 p3
  obtain ⟨v', e3, h5⟩ := h.f7 p7
  have hne := h.d38 p3 p8 v g e2 e1
  have hne' := h.d78 p7 p8 v' g e3 e1
  have hx := h3 p10
  have hno : ∀ {α : Prop}, (l.setIfInBounds 10 true).getD 10 false = false → α := fun q => by rw [e10] at q; cases q
  refine ⟨g, v, e1, e2, hx, ?_⟩
  exact ⟨h.bel.setCell (p := ⟨g, 0, none⟩) h1 v, by simpa [World.setCell] using h.bsz, h.x2.other (p := ⟨g, 0, none⟩) (by show b2 ≠ g; omega) v, h.x3.other (p := ⟨g, 0, none⟩) (by show b3 ≠ g; omega) v,
    by simp only [e 0 (by decide)]; exact h.f0, fun _ q => hno q, fun _ q => hno q, fun _ => ⟨v, e2, h4.unlike hne⟩, by simp only [e 4 (by decide)]; exact h.f4, fun _ q => hno q, fun _ q => hno q, fun _ => ⟨v', e3, h5.unlike hne'⟩,
    fun _ => ⟨g, e1, h1, by simpa [World.setCell] using h2, fun q => hno q, fun _ => ⟨v, e2, hx.set 0 v⟩⟩,
    by
      simp only [e 9 (by decide), e 11 (by decide)]
      intro p9
      obtain ⟨g', i1, i2, i3, i4, i5⟩ := h.f9 p9
      have hgg := h.d89 p8 p9 g g' e1 i1
      exact ⟨g', i1, i2, by simpa [World.setCell] using i3, fun q => (i4 q).other (p := ⟨g, 0, none⟩) (Ne.symm hgg) v, fun q => by obtain ⟨v2, j1, j2⟩ := i5 q; exact ⟨v2, j1, j2.other (p := ⟨g, 0, none⟩) (Ne.symm hgg) v⟩⟩,
    by simp only [e 3 (by decide), e 8 (by decide)]; exact h.d38, by simp only [e 3 (by decide), e 9 (by decide)]; exact h.d39, by simp only [e 7 (by decide), e 8 (by decide)]; exact h.d78, by simp only [e 7 (by decide), e 9 (by decide)]; exact h.d79, by simp only [e 8 (by decide), e 9 (by decide)]; exact h.d89⟩
/-- What is stored into the second one's box. -/
theorem SwI.m11 {c d : Ch} {B b2 b3 : Nat} {W0 : World} {l : Array Bool} {w : World} {u5 u6 u14 u15 u16 u17 u18 u19 u20 u21 : Value} (h : SwI c d B b2 b3 W0 l w u5 u6 u14 u15 u16 u17 u18 u19 u20 u21) (p3 : l.getD 3 false = true) (p7 : l.getD 7 false = true) (p9 : l.getD 9 false = true) (p10 : l.getD 10 false = true) (p11 : l.getD 11 false = false) (hz : l.size = 12) (hb2 : b2 < B) (hb3 : b3 < B) :
    ∃ g v, u6 = .pointer (some ⟨g, 0, none⟩) ∧ u21 = .agg #[v] ∧ Has w g [.slice none 0 0] 24 ∧ SwI c d B b2 b3 W0 (l.setIfInBounds 11 true) (w.setCell ⟨g, 0, none⟩ v) u5 u6 u14 u15 u16 u17 u18 u19 u20 u21 := by
  have e : ∀ k, k ≠ 11 → (l.setIfInBounds 11 true).getD k false = l.getD k false := fun k hk => set_else (Ne.symm hk)
  have e11 : (l.setIfInBounds 11 true).getD 11 false = true := set_here (by omega)
  obtain ⟨g, e1, h1, h2, h3, -⟩ := h.f9 p9
  obtain ⟨v', e2, h4⟩ := h.f3 p3
  obtain ⟨v, e3, h5⟩ := h.f7 p7
  have hne := h.d39 p3 p9 v' g e2 e1
  have hne' := h.d79 p7 p9 v g e3 e1
  have hx := h3 p11
  have hno : ∀ {α : Prop}, (l.setIfInBounds 11 true).getD 10 false = false → α := fun q => by rw [e 10 (by decide), p10] at q; cases q
  have hno1 : ∀ {α : Prop}, (l.setIfInBounds 11 true).getD 11 false = false → α := fun q => by rw [e11] at q; cases q
  refine ⟨g, v, e1, e3, hx, ?_⟩
  exact ⟨h.bel.setCell (p := ⟨g, 0, none⟩) h1 v, by simpa [World.setCell] using h.bsz, h.x2.other (p := ⟨g, 0, none⟩) (by show b2 ≠ g; omega) v, h.x3.other (p := ⟨g, 0, none⟩) (by show b3 ≠ g; omega) v,
    by simp only [e 0 (by decide)]; exact h.f0, fun _ q => hno q, fun _ q => hno q, fun _ => ⟨v', e2, h4.unlike hne⟩, by simp only [e 4 (by decide)]; exact h.f4, fun _ q => hno q, fun _ q => hno q, fun _ => ⟨v, e3, h5.unlike hne'⟩,
    by
      simp only [e 8 (by decide), e 10 (by decide)]
      intro p8
      obtain ⟨g', i1, i2, i3, i4, i5⟩ := h.f8 p8
      have hgg := h.d89 p8 p9 g' g i1 e1
      exact ⟨g', i1, i2, by simpa [World.setCell] using i3, fun q => (i4 q).other (p := ⟨g, 0, none⟩) hgg v, fun q => by obtain ⟨v2, j1, j2⟩ := i5 q; exact ⟨v2, j1, j2.other (p := ⟨g, 0, none⟩) hgg v⟩⟩,
    fun _ => ⟨g, e1, h1, by simpa [World.setCell] using h2, fun q => hno1 q, fun _ => ⟨v, e3, hx.set 0 v⟩⟩,
    by simp only [e 3 (by decide), e 8 (by decide)]; exact h.d38, by simp only [e 3 (by decide), e 9 (by decide)]; exact h.d39, by simp only [e 7 (by decide), e 8 (by decide)]; exact h.d78, by simp only [e 7 (by decide), e 9 (by decide)]; exact h.d79, by simp only [e 8 (by decide), e 9 (by decide)]; exact h.d89⟩
def frS (A B p2 p3 u5 u6 u14 u15 u16 u17 u18 u19 u20 u21 : Value) : Act := ⟨#[A, B, p2, p3, .bool false, u5, u6, undef, undef, undef, undef, undef, undef, undef, u14, u15, u16, u17, u18, u19, u20, u21, undef, undef, undef, undef, undef, undef, undef, undef, undef, undef, undef, undef, undef, undef, undef, undef, undef, undef, undef, undef, undef, undef, undef, undef, undef, undef, undef, undef, undef, undef, undef, undef, undef, undef, undef, undef, undef, undef, undef, undef, undef, undef, undef, undef, undef, undef, undef, undef, undef, undef, undef, undef, undef, undef, undef, undef, undef, undef, undef, undef, undef, undef, undef, undef, undef, undef, undef, undef, undef, undef, undef, undef, undef, undef, undef, undef, undef, undef, undef, undef, undef, undef, undef, undef, undef, undef, undef, undef, undef], []⟩
end Go.Proofs.YtdimgomigidbkaaGreatDoor
/- The law of RecipeSwaps. -/
namespace Go.Proofs.YtdimgomigidbkaaGreatDoor
open Go.RowKit

theorem exec_mid {P : Program} {op : Oper} {a : Act} {w : World} (ty : TypeId) (x : Operand) (ho : op.op = .load ty x) (b o : Nat) (hx : a.eval x = .pointer (some ⟨b, o, none⟩)) (cs : List Value) (d : TypeDesc) (hc : w.rangeAt b o cs)
    (hu : P.underlying ty = some d) (hd : d.isRow = true) (hi : (P.info? ty).map (·.size) = some cs.length) : (execOp a.eval op).run P w = .ok (.value (.agg cs.toArray)) w := by
  unfold execOp
  simp only [ho, hx, Instr.loadAt, Instr.sureAddr, Sem.run_bind, Sem.run_pure, Result.andThen_ok, run_loadVar_mid w b o ty cs d hc hu hd hi]
theorem ReadsC.one {w : World} {c : Ch} : ReadsC (w.alloc (.cells #[.string (bs c.name), .int .i64 c.chart, .int .i64 (c.f 0), .int .i64 (c.f 1), .int .i64 (c.f 2), .int .i64 (c.f 3), .int .i64 (c.f 4), .int .i64 (c.f 5), .int .i64 (c.f 6), .int .i64 (c.f 7), .int .i64 (c.f 8), .int .i64 (c.f 9), .int .i64 (c.f 10), .int .i64 (c.f 11)] 37)) (.slice (some ⟨w.heap.size, 0, none⟩) 1 1) [c] := by
  have h := Has.new w (chL c) 37
  refine ⟨some ⟨w.heap.size, 0, none⟩, 1, rfl, Nat.le_refl _, by decide, fun i hi => ⟨w.heap.size, 0, rfl, by simp, ?_⟩⟩
  obtain rfl : i = 0 := by simpa using hi
  obtain ⟨x0, x1, x2, x3, x4, x5, x6, x7, x8, x9, x10, x11, x12, x13⟩ := h.chan
  exact ⟨x0, x1, x2, x3, x4, x5, x6, x7, x8, x9, x10, x11, x12, x13⟩
theorem ChAt.range {w : World} {b o : Nat} {c : Ch} (h : ChAt w b o c) : w.rangeAt b o (chL c) := fun j v hv => by
  have hj : j < 14 := (List.getElem?_eq_some_iff.1 hv).1
  obtain ⟨x0, x1, x2, x3, x4, x5, x6, x7, x8, x9, x10, x11, x12, x13⟩ := h
  have hc : j = 0 ∨ j = 1 ∨ j = 2 ∨ j = 3 ∨ j = 4 ∨ j = 5 ∨ j = 6 ∨ j = 7 ∨ j = 8 ∨ j = 9 ∨ j = 10 ∨ j = 11 ∨ j = 12 ∨ j = 13 := by omega
  rcases hc with rfl | rfl | rfl | rfl | rfl | rfl | rfl | rfl | rfl | rfl | rfl | rfl | rfl | rfl <;> cases hv <;> assumption
theorem ReadsC.two {w : World} {c d : Ch} : ReadsC (w.alloc (.cells #[.string (bs c.name), .int .i64 c.chart, .int .i64 (c.f 0), .int .i64 (c.f 1), .int .i64 (c.f 2), .int .i64 (c.f 3), .int .i64 (c.f 4), .int .i64 (c.f 5), .int .i64 (c.f 6), .int .i64 (c.f 7), .int .i64 (c.f 8), .int .i64 (c.f 9), .int .i64 (c.f 10), .int .i64 (c.f 11), .string (bs d.name), .int .i64 d.chart, .int .i64 (d.f 0), .int .i64 (d.f 1), .int .i64 (d.f 2), .int .i64 (d.f 3), .int .i64 (d.f 4), .int .i64 (d.f 5), .int .i64 (d.f 6), .int .i64 (d.f 7), .int .i64 (d.f 8), .int .i64 (d.f 9), .int .i64 (d.f 10), .int .i64 (d.f 11)] 37)) (.slice (some ⟨w.heap.size, 0, none⟩) 2 2) [c, d] := by
  have h := Has.new w (chL c ++ chL d) 37
  refine ⟨some ⟨w.heap.size, 0, none⟩, 2, rfl, Nat.le_refl _, by decide, fun i hi => ⟨w.heap.size, 0, rfl, by simp, ?_⟩⟩
  have hi : i = 0 ∨ i = 1 := by have : i < 2 := hi; omega
  rcases hi with rfl | rfl
  · exact ⟨h.cell 0, h.cell 1, h.cell 2, h.cell 3, h.cell 4, h.cell 5, h.cell 6, h.cell 7, h.cell 8, h.cell 9, h.cell 10, h.cell 11, h.cell 12, h.cell 13⟩
  · exact ⟨h.cell 14, h.cell 15, h.cell 16, h.cell 17, h.cell 18, h.cell 19, h.cell 20, h.cell 21, h.cell 22, h.cell 23, h.cell 24, h.cell 25, h.cell 26, h.cell 27⟩
theorem pair_rec {q m : Ch} (hq : recB [q] = true) (hm : recB [m] = true) (hn : q.name ≠ m.name) : recB [q, m] = true := by
  obtain ⟨-, h1, -⟩ := (recB_iff _).1 hq
  obtain ⟨-, h2, -⟩ := (recB_iff _).1 hm
  refine (recB_iff _).2 ⟨⟨by simp, by simp⟩, fun c hc => ?_, by simp [hn]⟩
  simp only [List.mem_cons, List.not_mem_nil, or_false] at hc
  rcases hc with rfl | rfl
  · exact h1 _ (by simp)
  · exact h2 _ (by simp)
theorem CRow.less {B B' : Nat} {v : Value} {l : List Ch} {w : World} (h : CRow B v l w) (hb : B' ≤ B) : CRow B' v l w := h.weak hb
set_option linter.unusedSimpArgs false in
set_option maxHeartbeats 0 in
set_option maxRecDepth 100000 in
theorem swaps_walk (c d : Ch) (w : World) (hna : c.name.length ≤ 9223372036854775807) (hnb : d.name.length ≤ 9223372036854775807) (hfa : c.fin) (hfb : d.fin) (hE : EnvR w) :
    Calls Tryz.prog 7 #[chV c, chV d] w fun e w' => e = .returned (.bool true) ∧ Below w.heap.size w w' := by
  have hB0 := ((Below.refl w.heap.size w).alloc (Nat.le_refl _) (.cells #[.string (bs c.name), .int .i64 c.chart, .int .i64 (c.f 0), .int .i64 (c.f 1), .int .i64 (c.f 2), .int .i64 (c.f 3), .int .i64 (c.f 4), .int .i64 (c.f 5), .int .i64 (c.f 6), .int .i64 (c.f 7), .int .i64 (c.f 8), .int .i64 (c.f 9), .int .i64 (c.f 10), .int .i64 (c.f 11)] 37)).alloc (by simp) (.cells #[.string (bs d.name), .int .i64 d.chart, .int .i64 (d.f 0), .int .i64 (d.f 1), .int .i64 (d.f 2), .int .i64 (d.f 3), .int .i64 (d.f 4), .int .i64 (d.f 5), .int .i64 (d.f 6), .int .i64 (d.f 7), .int .i64 (d.f 8), .int .i64 (d.f 9), .int .i64 (d.f 10), .int .i64 (d.f 11)] 37)
  have hx2 : Has ((w.alloc (.cells #[.string (bs c.name), .int .i64 c.chart, .int .i64 (c.f 0), .int .i64 (c.f 1), .int .i64 (c.f 2), .int .i64 (c.f 3), .int .i64 (c.f 4), .int .i64 (c.f 5), .int .i64 (c.f 6), .int .i64 (c.f 7), .int .i64 (c.f 8), .int .i64 (c.f 9), .int .i64 (c.f 10), .int .i64 (c.f 11)] 37)).alloc (.cells #[.string (bs d.name), .int .i64 d.chart, .int .i64 (d.f 0), .int .i64 (d.f 1), .int .i64 (d.f 2), .int .i64 (d.f 3), .int .i64 (d.f 4), .int .i64 (d.f 5), .int .i64 (d.f 6), .int .i64 (d.f 7), .int .i64 (d.f 8), .int .i64 (d.f 9), .int .i64 (d.f 10), .int .i64 (d.f 11)] 37)) w.heap.size (chL c) 37 := (Has.new w (chL c) 37).alloc _
  have hx3 : Has ((w.alloc (.cells #[.string (bs c.name), .int .i64 c.chart, .int .i64 (c.f 0), .int .i64 (c.f 1), .int .i64 (c.f 2), .int .i64 (c.f 3), .int .i64 (c.f 4), .int .i64 (c.f 5), .int .i64 (c.f 6), .int .i64 (c.f 7), .int .i64 (c.f 8), .int .i64 (c.f 9), .int .i64 (c.f 10), .int .i64 (c.f 11)] 37)).alloc (.cells #[.string (bs d.name), .int .i64 d.chart, .int .i64 (d.f 0), .int .i64 (d.f 1), .int .i64 (d.f 2), .int .i64 (d.f 3), .int .i64 (d.f 4), .int .i64 (d.f 5), .int .i64 (d.f 6), .int .i64 (d.f 7), .int .i64 (d.f 8), .int .i64 (d.f 9), .int .i64 (d.f 10), .int .i64 (d.f 11)] 37)) (w.alloc (.cells #[.string (bs c.name), .int .i64 c.chart, .int .i64 (c.f 0), .int .i64 (c.f 1), .int .i64 (c.f 2), .int .i64 (c.f 3), .int .i64 (c.f 4), .int .i64 (c.f 5), .int .i64 (c.f 6), .int .i64 (c.f 7), .int .i64 (c.f 8), .int .i64 (c.f 9), .int .i64 (c.f 10), .int .i64 (c.f 11)] 37)).heap.size (chL d) 37 := Has.new _ (chL d) 37
  have hs0 : ((w.alloc (.cells #[.string (bs c.name), .int .i64 c.chart, .int .i64 (c.f 0), .int .i64 (c.f 1), .int .i64 (c.f 2), .int .i64 (c.f 3), .int .i64 (c.f 4), .int .i64 (c.f 5), .int .i64 (c.f 6), .int .i64 (c.f 7), .int .i64 (c.f 8), .int .i64 (c.f 9), .int .i64 (c.f 10), .int .i64 (c.f 11)] 37)).alloc (.cells #[.string (bs d.name), .int .i64 d.chart, .int .i64 (d.f 0), .int .i64 (d.f 1), .int .i64 (d.f 2), .int .i64 (d.f 3), .int .i64 (d.f 4), .int .i64 (d.f 5), .int .i64 (d.f 6), .int .i64 (d.f 7), .int .i64 (d.f 8), .int .i64 (d.f 9), .int .i64 (d.f 10), .int .i64 (d.f 11)] 37)).heap.size = w.heap.size + 2 := by simp
  rw [show (w.alloc (.cells #[.string (bs c.name), .int .i64 c.chart, .int .i64 (c.f 0), .int .i64 (c.f 1), .int .i64 (c.f 2), .int .i64 (c.f 3), .int .i64 (c.f 4), .int .i64 (c.f 5), .int .i64 (c.f 6), .int .i64 (c.f 7), .int .i64 (c.f 8), .int .i64 (c.f 9), .int .i64 (c.f 10), .int .i64 (c.f 11)] 37)).heap.size = w.heap.size + 1 by simp] at hx3
  have HE := Lib.hid hE
  clear hE
  unfold chV
  go_enter Tryz.func7, Tryz.ntmps7
  go_upto_region 1 with fail
  refine wp_region_by (fun l a w' => ∃ u5 u6 u14 u15 u16 u17 u18 u19 u20 u21, a = frS (.agg #[.string (bs c.name), .int .i64 c.chart, .int .i64 (c.f 0), .int .i64 (c.f 1), .int .i64 (c.f 2), .int .i64 (c.f 3), .int .i64 (c.f 4), .int .i64 (c.f 5), .int .i64 (c.f 6), .int .i64 (c.f 7), .int .i64 (c.f 8), .int .i64 (c.f 9), .int .i64 (c.f 10), .int .i64 (c.f 11)]) (.agg #[.string (bs d.name), .int .i64 d.chart, .int .i64 (d.f 0), .int .i64 (d.f 1), .int .i64 (d.f 2), .int .i64 (d.f 3), .int .i64 (d.f 4), .int .i64 (d.f 5), .int .i64 (d.f 6), .int .i64 (d.f 7), .int .i64 (d.f 8), .int .i64 (d.f 9), .int .i64 (d.f 10), .int .i64 (d.f 11)]) (.pointer (some ⟨w.heap.size, 0, none⟩)) (.pointer (some ⟨w.heap.size + 1, 0, none⟩)) u5 u6 u14 u15 u16 u17 u18 u19 u20 u21 ∧ SwI c d (w.heap.size + 2) w.heap.size (w.heap.size + 1) ((w.alloc (.cells #[.string (bs c.name), .int .i64 c.chart, .int .i64 (c.f 0), .int .i64 (c.f 1), .int .i64 (c.f 2), .int .i64 (c.f 3), .int .i64 (c.f 4), .int .i64 (c.f 5), .int .i64 (c.f 6), .int .i64 (c.f 7), .int .i64 (c.f 8), .int .i64 (c.f 9), .int .i64 (c.f 10), .int .i64 (c.f 11)] 37)).alloc (.cells #[.string (bs d.name), .int .i64 d.chart, .int .i64 (d.f 0), .int .i64 (d.f 1), .int .i64 (d.f 2), .int .i64 (d.f 3), .int .i64 (d.f 4), .int .i64 (d.f 5), .int .i64 (d.f 6), .int .i64 (d.f 7), .int .i64 (d.f 8), .int .i64 (d.f 9), .int .i64 (d.f 10), .int .i64 (d.f 11)] 37)) l w' u5 u6 u14 u15 u16 u17 u18 u19 u20 u21) (by kernel_rfl) (by kernel_rfl) ?start ?step ?fin
  case start =>
    have hno : ∀ k, ¬ (Array.replicate 12 false).getD k false = true := fun k h => by
      rcases Nat.lt_or_ge k 12 with q | q
      · simp [q] at h
      · simp [Array.getElem?_eq_none (show (Array.replicate 12 false).size ≤ k by simpa using q)] at h
    exact ⟨undef, undef, undef, undef, undef, undef, undef, undef, undef, undef, rfl, (Below.refl _ _).drew, by rw [show ∀ W : World, W.drew.heap.size = W.heap.size from fun _ => rfl, hs0]; exact Nat.le_refl _, hx2.of rfl, hx3.of rfl,
      fun h => absurd h (hno 0), fun h => absurd h (hno 1), fun h => absurd h (hno 2), fun h => absurd h (hno 3), fun h => absurd h (hno 4), fun h => absurd h (hno 5), fun h => absurd h (hno 6), fun h => absurd h (hno 7), fun h => absurd h (hno 8), fun h => absurd h (hno 9),
      fun h => absurd h (hno 3), fun h => absurd h (hno 3), fun h => absurd h (hno 7), fun h => absurd h (hno 7), fun h => absurd h (hno 8)⟩
  case step =>
    have hfw := fun (x : Ch) (hx : x.name.length ≤ 9223372036854775807) (v : Value) (W : World) (h : ReadsC W v [x]) => few8_any [x] v W (fun i hi => by
      obtain rfl : i = 0 := by simpa using hi
      exact hx) h
    have HF := Lib.hid hfw
    clear hfw hx2 hx3 hB0
    rintro l _ W i hz hcl hi ⟨u5, u6, u14, u15, u16, u17, u18, u19, u20, u21, rfl, hI⟩
    have hz12 : l.size = 12 := hz
    have hn := ready_not hi
    have h10 : (l.getD 3 false = false ∨ l.getD 0 false = false ∨ l.getD 1 false = false ∨ l.getD 2 false = false ∨ l.getD 8 false = false ∨ l.getD 10 false = false) → l.getD 10 false = false := fun h => by
      cases q : l.getD 10 false with
      | false => rfl
      | true =>
        have k := fun e he hb => hcl 10 _ rfl q e he hb
        have k3 := k ⟨3, .data⟩ (by simp) rfl
        have k0 := k ⟨0, .phase⟩ (by simp) rfl
        have k1 := k ⟨1, .phase⟩ (by simp) rfl
        have k2 := k ⟨2, .phase⟩ (by simp) rfl
        have k8 := k ⟨8, .data⟩ (by simp) rfl
        rw [k3, k0, k1, k2, k8, q] at h
        simp at h
    have h11 : (l.getD 7 false = false ∨ l.getD 9 false = false ∨ l.getD 10 false = false) → l.getD 11 false = false := fun h => by
      cases q : l.getD 11 false with
      | false => rfl
      | true =>
        have k := fun e he hb => hcl 11 _ rfl q e he hb
        have k7 := k ⟨7, .data⟩ (by simp) rfl
        have k9 := k ⟨9, .data⟩ (by simp) rfl
        have k10 := k ⟨10, .chain⟩ (by simp) rfl
        rw [k7, k9, k10] at h
        simp at h
    have h7of : l.getD 10 false = true → l.getD 7 false = true := fun q => hcl 10 _ rfl q ⟨7, .chain⟩ (by simp) rfl
    have h6of : l.getD 7 false = true → l.getD 6 false = true := fun q => hcl 7 _ rfl q ⟨6, .data⟩ (by simp) rfl
    have h5of : l.getD 6 false = true → l.getD 5 false = true := fun q => hcl 6 _ rfl q ⟨5, .data⟩ (by simp) rfl
    have h10' : (l.getD 5 false = false ∨ l.getD 6 false = false ∨ l.getD 7 false = false) → l.getD 10 false = false := fun h => by
      cases q : l.getD 10 false with
      | false => rfl
      | true =>
        have k7 := h7of q
        have k6 := h6of k7
        have k5 := h5of k6
        rw [k7, k6, k5] at h
        simp at h
    have hlt : i < 12 := by
      have := (Array.getElem?_eq_some_iff.1 (mem_ready.1 hi).2.choose_spec.1).1
      simpa using this
    have hcase : i = 0 ∨ i = 1 ∨ i = 2 ∨ i = 3 ∨ i = 4 ∨ i = 5 ∨ i = 6 ∨ i = 7 ∨ i = 8 ∨ i = 9 ∨ i = 10 ∨ i = 11 := by omega
    clear hlt
    rcases hcase with rfl | rfl | rfl | rfl | rfl | rfl | rfl | rfl | rfl | rfl | rfl | rfl
    · refine wpOp_value rfl (by kernel_rfl) (exec_mid 37 (.tmp 2) rfl w.heap.size 0 rfl (chL c) _ hI.x2.range Tryz.underlying37 rfl size14) ?_
      exact ⟨u5, u6, _, u15, u16, u17, u18, u19, u20, u21, rfl, hI.m0 (u14' := .agg (chL c).toArray) rfl⟩
    · have e := hI.f0 (ready_on hi rfl (e := ⟨0, .data⟩) (by simp) rfl)
      subst e
      have hb := (Below.refl W.heap.size W).alloc (Nat.le_refl _) (.cells #[.string (bs c.name), .int .i64 c.chart, .int .i64 (c.f 0), .int .i64 (c.f 1), .int .i64 (c.f 2), .int .i64 (c.f 3), .int .i64 (c.f 4), .int .i64 (c.f 5), .int .i64 (c.f 6), .int .i64 (c.f 7), .int .i64 (c.f 8), .int .i64 (c.f 9), .int .i64 (c.f 10), .int .i64 (c.f 11)] 37)
      refine wpOp_value (w' := W.alloc (.cells #[.string (bs c.name), .int .i64 c.chart, .int .i64 (c.f 0), .int .i64 (c.f 1), .int .i64 (c.f 2), .int .i64 (c.f 3), .int .i64 (c.f 4), .int .i64 (c.f 5), .int .i64 (c.f 6), .int .i64 (c.f 7), .int .i64 (c.f 8), .int .i64 (c.f 9), .int .i64 (c.f 10), .int .i64 (c.f 11)] 37)) (v := .slice (some ⟨W.heap.size, 0, none⟩) 1 1) rfl (by kernel_rfl) (by unfold frS chV; go_simp) ?_
      exact ⟨u5, u6, _, _, u16, u17, u18, u19, u20, u21, rfl, (hI.call hb).m1 (u15' := .slice (some ⟨W.heap.size, 0, none⟩) 1 1) ReadsC.one⟩
    · have e := hI.f1 (ready_on hi rfl (e := ⟨1, .data⟩) (by simp) rfl) (h10 (Or.inr (Or.inr (Or.inr (Or.inl hn)))))
      obtain ⟨aa, pp, e0, -⟩ := id e
      subst e0
      refine wpOp_value (w' := W) (v := .agg #[.slice aa [c].length pp]) rfl (by kernel_rfl) (by unfold frS; go_simp) ?_
      exact ⟨u5, u6, u14, _, _, u17, u18, u19, u20, u21, rfl, hI.m2 (u16' := .agg #[.slice aa [c].length pp]) ⟨_, rfl, e⟩⟩
    · obtain ⟨v, e, hr⟩ := hI.f2 (ready_on hi rfl (e := ⟨2, .data⟩) (by simp) rfl) (h10 (Or.inl hn))
      subst e
      refine wpOp_call (f := 12) (args := #[.agg #[v]]) (w' := W) rfl (by kernel_rfl) (by unfold frS; go_simp) ?_
      refine (HF.out c hna v W hr).mono ?_
      rintro e W' ⟨v', rfl, hr', hb⟩
      have hbs := hI.bsz
      refine ⟨_, rfl, u5, u6, u14, u15, _, _, u18, u19, u20, u21, rfl, (hI.call hb).m3 (u17' := .agg #[v']) ⟨v', rfl, hr'.less hbs⟩ (h10 (Or.inl hn)) (fun p v2 g e1 e2 => ?_) (fun p v2 g e1 e2 => ?_)⟩
      · obtain ⟨g', i1, -, i3, -⟩ := hI.f8 p
        cases e1
        rw [i1] at e2
        cases e2
        intro q
        have := (World.ownsRow.lt hr' _ q).1
        omega
      · obtain ⟨g', i1, -, i3, -⟩ := hI.f9 p
        cases e1
        rw [i1] at e2
        cases e2
        intro q
        have := (World.ownsRow.lt hr' _ q).1
        omega
    · refine wpOp_value rfl (by kernel_rfl) (exec_mid 37 (.tmp 3) rfl (w.heap.size + 1) 0 rfl (chL d) _ hI.x3.range Tryz.underlying37 rfl size14) ?_
      exact ⟨u5, u6, u14, u15, u16, u17, _, u19, u20, u21, rfl, hI.m4 (u18' := .agg (chL d).toArray) rfl⟩
    · have e := hI.f4 (ready_on hi rfl (e := ⟨4, .data⟩) (by simp) rfl)
      subst e
      have hb := (Below.refl W.heap.size W).alloc (Nat.le_refl _) (.cells #[.string (bs d.name), .int .i64 d.chart, .int .i64 (d.f 0), .int .i64 (d.f 1), .int .i64 (d.f 2), .int .i64 (d.f 3), .int .i64 (d.f 4), .int .i64 (d.f 5), .int .i64 (d.f 6), .int .i64 (d.f 7), .int .i64 (d.f 8), .int .i64 (d.f 9), .int .i64 (d.f 10), .int .i64 (d.f 11)] 37)
      refine wpOp_value (w' := W.alloc (.cells #[.string (bs d.name), .int .i64 d.chart, .int .i64 (d.f 0), .int .i64 (d.f 1), .int .i64 (d.f 2), .int .i64 (d.f 3), .int .i64 (d.f 4), .int .i64 (d.f 5), .int .i64 (d.f 6), .int .i64 (d.f 7), .int .i64 (d.f 8), .int .i64 (d.f 9), .int .i64 (d.f 10), .int .i64 (d.f 11)] 37)) (v := .slice (some ⟨W.heap.size, 0, none⟩) 1 1) rfl (by kernel_rfl) (by unfold frS chV; go_simp) ?_
      exact ⟨u5, u6, u14, u15, u16, u17, _, _, u20, u21, rfl, (hI.call hb).m5 (u19' := .slice (some ⟨W.heap.size, 0, none⟩) 1 1) ReadsC.one⟩
    · have e := hI.f5 (ready_on hi rfl (e := ⟨5, .data⟩) (by simp) rfl) (h10' (Or.inr (Or.inl hn)))
      obtain ⟨aa, pp, e0, -⟩ := id e
      subst e0
      refine wpOp_value (w' := W) (v := .agg #[.slice aa [d].length pp]) rfl (by kernel_rfl) (by unfold frS; go_simp) ?_
      exact ⟨u5, u6, u14, u15, u16, u17, u18, _, _, u21, rfl, hI.m6 (u20' := .agg #[.slice aa [d].length pp]) ⟨_, rfl, e⟩⟩
    · obtain ⟨v, e, hr⟩ := hI.f6 (ready_on hi rfl (e := ⟨6, .data⟩) (by simp) rfl) (h10' (Or.inr (Or.inr hn)))
      subst e
      refine wpOp_call (f := 12) (args := #[.agg #[v]]) (w' := W) rfl (by kernel_rfl) (by unfold frS; go_simp) ?_
      refine (HF.out d hnb v W hr).mono ?_
      rintro e W' ⟨v', rfl, hr', hb⟩
      have hbs := hI.bsz
      refine ⟨_, rfl, u5, u6, u14, u15, u16, u17, u18, u19, _, _, rfl, (hI.call hb).m7 (u21' := .agg #[v']) ⟨v', rfl, hr'.less hbs⟩ (h11 (Or.inl hn)) (fun p v2 g e1 e2 => ?_) (fun p v2 g e1 e2 => ?_)⟩
      · obtain ⟨g', i1, -, i3, -⟩ := hI.f8 p
        cases e1
        rw [i1] at e2
        cases e2
        intro q
        have := (World.ownsRow.lt hr' _ q).1
        omega
      · obtain ⟨g', i1, -, i3, -⟩ := hI.f9 p
        cases e1
        rw [i1] at e2
        cases e2
        intro q
        have := (World.ownsRow.lt hr' _ q).1
        omega
    · have hb := (Below.refl W.heap.size W).alloc (Nat.le_refl _) (.cells #[.slice none 0 0] 24)
      have hbs := hI.bsz
      refine wpOp_value (w' := W.alloc (.cells #[.slice none 0 0] 24)) (v := .pointer (some ⟨W.heap.size, 0, none⟩)) rfl (by kernel_rfl) (by unfold frS; go_simp) ?_
      refine ⟨_, u6, u14, u15, u16, u17, u18, u19, u20, u21, rfl, (hI.call hb).m8 (u5' := .pointer (some ⟨W.heap.size, 0, none⟩)) ⟨W.heap.size, rfl, hbs, by simp, Has.new W [.slice none 0 0] 24⟩ (h10 (Or.inr (Or.inr (Or.inr (Or.inr (Or.inl hn)))))) (fun p v2 g e1 e2 => ?_) (fun p v2 g e1 e2 => ?_) (fun p g g' e1 e2 => ?_)⟩
      · obtain ⟨v3, i1, i2⟩ := hI.f3 p
        rw [i1] at e1
        cases e1
        cases e2
        intro q
        have := (World.ownsRow.lt i2 _ q).2
        omega
      · obtain ⟨v3, i1, i2⟩ := hI.f7 p
        rw [i1] at e1
        cases e1
        cases e2
        intro q
        have := (World.ownsRow.lt i2 _ q).2
        omega
      · obtain ⟨g3, i1, -, i3, -⟩ := hI.f9 p
        cases e1
        rw [i1] at e2
        cases e2
        intro q
        omega
    · have hb := (Below.refl W.heap.size W).alloc (Nat.le_refl _) (.cells #[.slice none 0 0] 24)
      have hbs := hI.bsz
      refine wpOp_value (w' := W.alloc (.cells #[.slice none 0 0] 24)) (v := .pointer (some ⟨W.heap.size, 0, none⟩)) rfl (by kernel_rfl) (by unfold frS; go_simp) ?_
      refine ⟨u5, _, u14, u15, u16, u17, u18, u19, u20, u21, rfl, (hI.call hb).m9 (u6' := .pointer (some ⟨W.heap.size, 0, none⟩)) ⟨W.heap.size, rfl, hbs, by simp, Has.new W [.slice none 0 0] 24⟩ (h11 (Or.inr (Or.inl hn))) (fun p v2 g e1 e2 => ?_) (fun p v2 g e1 e2 => ?_) (fun p g g' e1 e2 => ?_)⟩
      · obtain ⟨v3, i1, i2⟩ := hI.f3 p
        rw [i1] at e1
        cases e1
        cases e2
        intro q
        have := (World.ownsRow.lt i2 _ q).2
        omega
      · obtain ⟨v3, i1, i2⟩ := hI.f7 p
        rw [i1] at e1
        cases e1
        cases e2
        intro q
        have := (World.ownsRow.lt i2 _ q).2
        omega
      · obtain ⟨g3, i1, -, i3, -⟩ := hI.f8 p
        cases e2
        rw [i1] at e1
        cases e1
        intro q
        omega
    · obtain ⟨g, v, e1, e2, hx, hN⟩ := hI.m10 (ready_on hi rfl (e := ⟨3, .data⟩) (by simp) rfl) (ready_on hi rfl (e := ⟨7, .chain⟩) (by simp) rfl) (ready_on hi rfl (e := ⟨8, .data⟩) (by simp) rfl) hn hz12 (by omega) (by omega)
      obtain ⟨v3, i1, i2⟩ := hI.f3 (ready_on hi rfl (e := ⟨3, .data⟩) (by simp) rfl)
      rw [e2] at i1
      cases i1
      obtain ⟨aa, pp, hv, -⟩ := i2.reads
      subst hv e1 e2
      have c0 : W.cell? ⟨g, 0, none⟩ = some (.slice none 0 0) := hx.cell 0
      have f0 : W.frozen? ⟨g, 0, none⟩ = false := hx.frozen 0
      refine wpOp_store (w' := W.setCell ⟨g, 0, none⟩ (.slice aa (fewC [c]).length pp)) rfl (by kernel_rfl) (by unfold frS; go_simp) ?_
      exact ⟨_, u6, u14, u15, u16, _, u18, u19, u20, u21, rfl, hN⟩
    · obtain ⟨g, v, e1, e2, hx, hN⟩ := hI.m11 (hcl 10 _ rfl (ready_on hi rfl (e := ⟨10, .chain⟩) (by simp) rfl) ⟨3, .data⟩ (by simp) rfl) (ready_on hi rfl (e := ⟨7, .data⟩) (by simp) rfl) (ready_on hi rfl (e := ⟨9, .data⟩) (by simp) rfl) (ready_on hi rfl (e := ⟨10, .chain⟩) (by simp) rfl) hn hz12 (by omega) (by omega)
      obtain ⟨v3, i1, i2⟩ := hI.f7 (ready_on hi rfl (e := ⟨7, .data⟩) (by simp) rfl)
      rw [e2] at i1
      cases i1
      obtain ⟨aa, pp, hv, -⟩ := i2.reads
      subst hv e1 e2
      have c0 : W.cell? ⟨g, 0, none⟩ = some (.slice none 0 0) := hx.cell 0
      have f0 : W.frozen? ⟨g, 0, none⟩ = false := hx.frozen 0
      refine wpOp_store (w' := W.setCell ⟨g, 0, none⟩ (.slice aa (fewC [d]).length pp)) rfl (by kernel_rfl) (by unfold frS; go_simp) ?_
      exact ⟨u5, _, u14, u15, u16, u17, u18, u19, u20, _, rfl, hN⟩
  case fin =>
    rintro l _ W hall ⟨u5, u6, u14, u15, u16, u17, u18, u19, u20, u21, rfl, hI⟩
    have p := fun k (hk : k < 12) => hall k hk
    obtain ⟨v1, e17, hr1⟩ := hI.f3 (p 3 (by decide))
    obtain ⟨v2, e21, hr2⟩ := hI.f7 (p 7 (by decide))
    obtain ⟨g5, e5, h51, h52, -, h53⟩ := hI.f8 (p 8 (by decide))
    obtain ⟨v1', e17', hx5⟩ := h53 (p 10 (by decide))
    obtain ⟨g6, e6, h61, h62, -, h63⟩ := hI.f9 (p 9 (by decide))
    obtain ⟨v2', e21', hx6⟩ := h63 (p 11 (by decide))
    have hgg := hI.d89 (p 8 (by decide)) (p 9 (by decide)) g5 g6 e5 e6
    have hB1 := hB0.trans (hI.bel.mono (by omega))
    have hbs := hI.bsz
    rw [e17] at e17'
    cases e17'
    rw [e21] at e21'
    cases e21'
    subst e17 e21 e5 e6
    clear hI p hall h53 h63 hB0 hx2 hx3
    unfold frS
    rw [show fewC [c] = [cutC c] from rfl] at hr1
    rw [show fewC [d] = [cutC d] from rfl] at hr2
    have hm20 : (cutC c).name.length ≤ 100000 := by have := fewC_mem [c] (cutC c) (by rw [show fewC [c] = [cutC c] from rfl]; simp); omega
    have hq20 : (cutC d).name.length ≤ 100000 := by have := fewC_mem [d] (cutC d) (by rw [show fewC [d] = [cutC d] from rfl]; simp); omega
    have hmf : (cutC c).fin := hfa
    have hqf : (cutC d).fin := hfb
    generalize cutC c = m at *
    generalize cutC d = q at *
    clear hfa hfb hna hnb
    obtain ⟨ao1, p1, rfl, -, hp1, hc1⟩ := hr1.reads
    obtain ⟨gb1, go1, rfl, hlt1, hch1⟩ := hc1 0 (by simp)
    obtain ⟨ao2, p2, rfl, -, hp2, hc2⟩ := hr2.reads
    obtain ⟨gb2, go2, rfl, hlt2, hch2⟩ := hc2 0 (by simp)
    rw [Nat.zero_mul, Nat.add_zero, show nthC [m] 0 = m from rfl] at hch1
    rw [Nat.zero_mul, Nat.add_zero, show nthC [q] 0 = q from rfl] at hch2
    unfold maxLen at hp1 hp2
    have hx5' : Has W g5 [.slice (some ⟨gb1, go1, none⟩) 1 p1] 24 := hx5
    have hx6' : Has W g6 [.slice (some ⟨gb2, go2, none⟩) 1 p2] 24 := hx6
    have hrd1 : ReadsC W (.slice (some ⟨gb1, go1, none⟩) 1 p1) [m] := hr1.reads
    have hrd2 : ReadsC W (.slice (some ⟨gb2, go2, none⟩) 1 p2) [q] := hr2.reads
    have HA := Lib.hid (show ∀ W', Below W.heap.size W W' → (W'.cell? ⟨g5, 0, none⟩ = some (.slice (some ⟨gb1, go1, none⟩) 1 p1) ∧ W'.cell? ⟨g6, 0, none⟩ = some (.slice (some ⟨gb2, go2, none⟩) 1 p2)) ∧ (ReadsC W' (.slice (some ⟨gb1, go1, none⟩) 1 p1) [m] ∧ ReadsC W' (.slice (some ⟨gb2, go2, none⟩) 1 p2) [q]) ∧ (ChAt W' gb1 go1 m ∧ ChAt W' gb2 go2 q) ∧ Below w.heap.size w W' from
      fun W' h => ⟨⟨(hx5'.call h).cell 0, (hx6'.call h).cell 0⟩, ⟨hrd1.below h, hrd2.below h⟩, ⟨hch1.below h hlt1, hch2.below h hlt2⟩, hB1.trans (h.mono (by omega))⟩)
    have HP1 := Lib.hid (show ∀ W' v, ReadsC W' v [m] → EnvR W' → Calls Tryz.prog 13 #[.agg #[v]] W' fun e w' => e = .returned (print8 [m]) ∧ Below W'.heap.size W' w' from fun W' v hR hE => print8_any [m] v W' (by simp) hR (fun i hi => by
      obtain rfl : i = 0 := by simpa using hi
      exact hm20) hE.1)
    have HP2 := Lib.hid (show ∀ W' v, ReadsC W' v [q] → EnvR W' → Calls Tryz.prog 13 #[.agg #[v]] W' fun e w' => e = .returned (print8 [q]) ∧ Below W'.heap.size W' w' from fun W' v hR hE => print8_any [q] v W' (by simp) hR (fun i hi => by
      obtain rfl : i = 0 := by simpa using hi
      exact hq20) hE.1)
    have HAL := Lib.hid (show ∀ W', Below W.heap.size W W' → Calls Tryz.prog 10 #[] W' fun e w' => e = .returned (.bool true) ∧ Below W'.heap.size W' w' from fun W' h => alive8_any W' (HE.out.below (HA.out _ h).2.2.2))
    have HEB := Lib.hid (show ∀ W', Below W.heap.size W W' → EnvR W' from fun W' h => HE.out.below (HA.out _ h).2.2.2)
    have k0 := Below.refl W.heap.size W
    obtain ⟨⟨c5, c6⟩, ⟨r1, r2⟩, -, -⟩ := HA.out W k0
    have hn1 := HP1.out W _ r1 (HEB.out W k0)
    clear hr1 hr2 hx5 hx6 hx5' hx6' hrd1 hrd2 hc1 hc2 hch1 hch2 hB1 r1 r2 hm20 hq20 hs0
    unfold print8 at hn1
    cases hq1 : recB [m] with
    | false =>
      rw [hq1, if_neg (show ¬ (false = true) from by decide)] at hn1
      clear hq1
      go_wp2_with fail
      refine hn1.mono ?_
      rintro e w4 ⟨rfl, k4⟩
      obtain ⟨⟨c5', c6'⟩, ⟨-, r2⟩, -, -⟩ := HA.out w4 k4
      have hn2 := HP2.out w4 _ r2 (HEB.out w4 k4)
      clear hn1 c5 c6 r2
      unfold print8 at hn2
      cases hq2 : recB [q] with
      | false =>
        rw [hq2, if_neg (show ¬ (false = true) from by decide)] at hn2
        clear hq2
        go_wp2_with fail
        refine hn2.mono ?_
        rintro e w5 ⟨rfl, h5⟩
        have k5 := k4.trans (h5.mono k4.size)
        have hal := HAL.out w5 k5
        clear hn2 c5' c6' h5
        go_wp2_with fail
        refine hal.mono ?_
        rintro e w6 ⟨rfl, h6⟩
        have k6 := k5.trans (h6.mono k5.size)
        have hB6 := (HA.out w6 k6).2.2.2
        clear hal h6
        go_wp2
        go_ret
        exact ⟨rfl, hB6⟩
      | true =>
        rw [hq2, if_pos rfl] at hn2
        generalize printR [q] = ty at *
        clear hq2
        go_wp2_with fail
        refine hn2.mono ?_
        rintro e w5 ⟨rfl, h5⟩
        have k5 := k4.trans (h5.mono k4.size)
        have hal := HAL.out w5 k5
        clear hn2 c5' c6' h5
        go_wp2_with fail
        refine hal.mono ?_
        rintro e w6 ⟨rfl, h6⟩
        have k6 := k5.trans (h6.mono k5.size)
        have hB6 := (HA.out w6 k6).2.2.2
        clear hal h6
        go_wp2
        go_ret
        exact ⟨rfl, hB6⟩
    | true =>
      rw [hq1, if_pos rfl] at hn1
      generalize htx : printR [m] = tx at *
      have HTX := Lib.hid htx
      clear htx
      go_wp2_with fail
      refine hn1.mono ?_
      rintro e w4 ⟨rfl, k4⟩
      obtain ⟨⟨c5', c6'⟩, ⟨-, r2⟩, -, -⟩ := HA.out w4 k4
      have hn2 := HP2.out w4 _ r2 (HEB.out w4 k4)
      clear hn1 c5 c6 r2
      unfold print8 at hn2
      cases hq2 : recB [q] with
      | false =>
        rw [hq2, if_neg (show ¬ (false = true) from by decide)] at hn2
        clear hq2 hq1 HTX
        go_wp2_with fail
        refine hn2.mono ?_
        rintro e w5 ⟨rfl, h5⟩
        have k5 := k4.trans (h5.mono k4.size)
        have hal := HAL.out w5 k5
        clear hn2 c5' c6' h5
        go_wp2_with fail
        refine hal.mono ?_
        rintro e w6 ⟨rfl, h6⟩
        have k6 := k5.trans (h6.mono k5.size)
        have hB6 := (HA.out w6 k6).2.2.2
        clear hal h6
        go_wp2
        go_ret
        exact ⟨rfl, hB6⟩
      | true =>
        rw [hq2, if_pos rfl] at hn2
        generalize hty : printR [q] = ty at *
        have HTY := Lib.hid hty
        clear hty
        have hlx : tx.length ≤ 2132 := by rw [← HTX.out]; exact print_len [m] ((recB_iff _).1 hq1).2.1 (by simp)
        have hly : ty.length ≤ 2132 := by rw [← HTY.out]; exact print_len [q] ((recB_iff _).1 hq2).2.1 (by simp)
        have hadd : ∀ W, (Op.stringOp .add (bs ty) (bs tx)).run Tryz.prog W = .ok (.string (bs (printR [q, m]))) W := fun W => by
          have e : ty ++ tx = printR [q, m] := by rw [← HTX.out, ← HTY.out]; exact (printR_append [q] [m]).symm
          rw [← e]
          exact run_add_bs W ty tx (by omega)
        have hps := fun W' (h : Below W.heap.size W W') => parse_any (printR [q, m]) W' (HEB.out W' h)
        unfold ParseEnd at hps
        have hmq := ((recB_iff _).1 hq1).2.1 m (by simp)
        have hqq := ((recB_iff _).1 hq2).2.1 q (by simp)
        by_cases hnm : q.name = m.name
        · rw [read_twice q m hqq hmq hqf hnm, HTY.out] at hps
          dsimp only at hps
          rw [show (((ty.length + 8 : Nat)) : Int) = (ty.length : Int) + 8 from rfl] at hps
          have hsz := bs_size ty
          have qn := name_eq _ _ hnm.symm
          generalize printR [q, m] = tz at *
          clear hq1 hq2 hmq hqq hnm HTX HTY hmf hqf
          go_wp2_with fail
          refine hn2.mono ?_
          rintro e w5 ⟨rfl, h5⟩
          have k5 := k4.trans (h5.mono k4.size)
          have hn5 := hps w5 k5
          clear hn2 c5' c6' h5 hps
          go_wp2_with fail
          refine hn5.mono ?_
          rintro e w6 ⟨v3, rfl, hr6, h6⟩
          have k6 := k5.trans (h6.mono k5.size)
          clear hn5 h6
          obtain ⟨a3, p3, hv3, -⟩ := hr6.reads
          subst hv3
          have h7 := (Below.refl w6.heap.size w6).alloc (Nat.le_refl _) (.cells #[.slice a3 0 p3] 24)
          have k7 := k6.trans (h7.mono k6.size)
          have hx7 := Has.new w6 [.slice a3 0 p3] 24
          obtain ⟨⟨c5, c6⟩, -, ⟨x5, x6⟩, -⟩ := HA.out _ k7
          have y5 := x5.c0
          have y6 := x6.c0
          clear x5 x6 h7 hr6
          go_wp2
          go_region
          have k8 := k7.drew
          have hal := HAL.out _ k8
          have hx8 := hx7.of (w' := (w6.alloc (.cells #[.slice a3 0 p3] 24)).drew) rfl
          clear c5 c6 y5 y6 hx7
          go_wp2_with fail
          refine hal.mono ?_
          rintro e w8 ⟨rfl, h8⟩
          have k9 := k8.trans (h8.mono k8.size)
          have c8 : w8.cell? ⟨w6.heap.size, 0, none⟩ = some (.slice a3 0 p3) := (hx8.call h8).cell 0
          have hB9 := (HA.out _ k9).2.2.2
          clear hal hx8 h8
          go_wp2
          go_ret
          exact ⟨rfl, hB9⟩
        · rw [read_print [q, m] (pair_rec hq2 hq1 hnm) (fun c hc => by
            simp only [List.mem_cons, List.not_mem_nil, or_false] at hc
            rcases hc with rfl | rfl
            · exact hqf
            · exact hmf)] at hps
          dsimp only at hps
          have qn := name_ne _ _ (fun e => hnm e.symm)
          generalize printR [q, m] = tz at *
          clear hq1 hq2 hmq hqq hnm HTX HTY hmf hqf
          go_wp2_with fail
          refine hn2.mono ?_
          rintro e w5 ⟨rfl, h5⟩
          have k5 := k4.trans (h5.mono k4.size)
          have hn5 := hps w5 k5
          clear hn2 c5' c6' h5 hps
          go_wp2_with fail
          refine hn5.mono ?_
          rintro e w6 ⟨v3, rfl, hr6, h6⟩
          have k6 := k5.trans (h6.mono k5.size)
          clear hn5 h6
          obtain ⟨a3, p3, hv3, -⟩ := hr6.reads
          subst hv3
          have h7 := (Below.refl w6.heap.size w6).alloc (Nat.le_refl _) (.cells #[.slice a3 2 p3] 24)
          have k7 := k6.trans (h7.mono k6.size)
          have hx7 := Has.new w6 [.slice a3 2 p3] 24
          have hs7 : (w6.alloc (.cells #[.slice a3 2 p3] 24)).heap.size = w6.heap.size + 1 := by simp
          have hr7 : ReadsC (w6.alloc (.cells #[.slice a3 2 p3] 24)) (.slice a3 2 p3) [q, m] := hr6.reads.below h7
          obtain ⟨⟨c5, c6⟩, -, ⟨x5, x6⟩, -⟩ := HA.out _ k7
          have y5 := x5.c0
          have y6 := x6.c0
          clear x5 x6 h7 hr6
          go_wp2
          go_region
          replace k7 := k7.drew
          replace hr7 := hr7.below (Below.refl _ _).drew
          replace hx7 := hx7.of (w' := (w6.alloc (.cells #[.slice a3 2 p3] 24)).drew) rfl
          replace hs7 : (w6.alloc (.cells #[.slice a3 2 p3] 24)).drew.heap.size = w6.heap.size + 1 := hs7
          clear c5 c6 y5 y6
          go_upto_region 9 with fail
          refine wp_region_held_drew (S := (fun w' : World => w'.cell? ⟨g5, 0, none⟩ = some (.slice (some ⟨gb1, go1, none⟩) 1 p1) ∧ w'.cell? ⟨g6, 0, none⟩ = some (.slice (some ⟨gb2, go2, none⟩) 1 p2) ∧ w'.cell? ⟨w6.heap.size, 0, none⟩ = some (.slice a3 2 p3) ∧ w'.rangeAt gb1 go1 (chL m) ∧ w'.rangeAt gb2 go2 (chL q) ∧ Hid (Below W.heap.size W w' ∧ ReadsC w' (.slice a3 2 p3) [q, m] ∧ w6.heap.size < w'.heap.size ∧ Has w' w6.heap.size [.slice a3 2 p3] 24))) (by kernel_rfl) (⟨(HA.out _ (k7.drew)).1.1, (HA.out _ (k7.drew)).1.2, (hx7.of rfl).cell 0, ((HA.out _ (k7.drew)).2.2.1.1).range, ((HA.out _ (k7.drew)).2.2.1.2).range, Lib.hid ⟨k7.drew, hr7.below (Below.refl _ _).drew, (by rw [show ∀ W : World, W.drew.heap.size = W.heap.size from fun _ => rfl, hs7]; omega), hx7.of rfl⟩⟩) (fun hHeld => ?_)
          obtain ⟨z1, z2, z3, z4⟩ := hHeld.2.2.2.2.2.out
          refine regCall 0 (some 92) (f := 10) (args := ?_) rfl rfl (by kernel_rfl) (by kernel_rfl) ?_ ?_
          rotate_left 1
          · (go_simp; try with_reducible rfl)
          refine (HAL.out _ z1).mono ?_
          rintro e wx0 ⟨rfl, k1⟩
          refine ⟨_, rfl, ⟨(HA.out _ (z1.trans (k1.mono (z1.size)))).1.1, (HA.out _ (z1.trans (k1.mono (z1.size)))).1.2, (z4.call k1).cell 0, ((HA.out _ (z1.trans (k1.mono (z1.size)))).2.2.1.1).range, ((HA.out _ (z1.trans (k1.mono (z1.size)))).2.2.1.2).range, Lib.hid ⟨z1.trans (k1.mono (z1.size)), z2.below k1, Nat.lt_of_lt_of_le z3 k1.size, z4.call k1⟩⟩, fun hHeld => ?_⟩
          simp only [Act.put, List.setIfInBounds_toArray, List.set_cons_zero, List.set_cons_succ]
          clear z1 z2 z3 z4 k1
          refine regTake 1 (some 93) (v := ?_) rfl rfl (by kernel_rfl) (by kernel_rfl) (by kernel_rfl) (fun _ _ _ h => h) (by kernel_rfl) hHeld ?_ ?_
          rotate_left 1
          · (intro w hSw; (try dsimp only at hSw); go_simp; try with_reducible rfl)
          simp only [Act.put, List.setIfInBounds_toArray, List.set_cons_zero, List.set_cons_succ]
          refine regTake 2 (some 94) (v := ?_) rfl rfl (by kernel_rfl) (by kernel_rfl) (by kernel_rfl) (fun _ _ _ h => h) (by kernel_rfl) hHeld ?_ ?_
          rotate_left 1
          · (intro w hSw; (try dsimp only at hSw); go_simp; try with_reducible rfl)
          simp only [Act.put, List.setIfInBounds_toArray, List.set_cons_zero, List.set_cons_succ]
          refine regTake 3 (some 95) (v := ?_) rfl rfl (by kernel_rfl) (by kernel_rfl) (by kernel_rfl) (fun _ _ _ h => h) (by kernel_rfl) hHeld ?_ ?_
          rotate_left 1
          · (intro w hSw; (try dsimp only at hSw); go_simp; try with_reducible rfl)
          simp only [Act.put, List.setIfInBounds_toArray, List.set_cons_zero, List.set_cons_succ]
          refine regTake 4 (some 96) (v := ?_) rfl rfl (by kernel_rfl) (by kernel_rfl) (by kernel_rfl) (fun _ _ _ h => h) (by kernel_rfl) hHeld ?_ ?_
          rotate_left 1
          · (intro w hSw; (try dsimp only at hSw); go_simp; try with_reducible rfl)
          simp only [Act.put, List.setIfInBounds_toArray, List.set_cons_zero, List.set_cons_succ]
          refine regTake 5 (some 97) (v := ?_) rfl rfl (by kernel_rfl) (by kernel_rfl) (by kernel_rfl) (fun _ _ _ h => h) (by kernel_rfl) hHeld ?_ ?_
          rotate_left 1
          · (intro w hSw; (try dsimp only at hSw); go_simp; try with_reducible rfl)
          simp only [Act.put, List.setIfInBounds_toArray, List.set_cons_zero, List.set_cons_succ]
          refine regTake 6 (some 98) (v := ?_) rfl rfl (by kernel_rfl) (by kernel_rfl) (by kernel_rfl) (fun _ _ _ h => h) (by kernel_rfl) hHeld ?_ ?_
          rotate_left 1
          · (intro w hSw; (try dsimp only at hSw); go_simp; try with_reducible rfl)
          simp only [Act.put, List.setIfInBounds_toArray, List.set_cons_zero, List.set_cons_succ]
          refine regTake 7 (some 99) (v := ?_) rfl rfl (by kernel_rfl) (by kernel_rfl) (by kernel_rfl) (fun _ _ _ h => h) (by kernel_rfl) hHeld ?_ ?_
          rotate_left 1
          · (intro w hSw; (try dsimp only at hSw); go_simp; try with_reducible rfl)
          simp only [Act.put, List.setIfInBounds_toArray, List.set_cons_zero, List.set_cons_succ]
          refine regTake 8 (some 100) (v := ?_) rfl rfl (by kernel_rfl) (by kernel_rfl) (by kernel_rfl) (fun _ _ _ h => h) (by kernel_rfl) hHeld ?_ ?_
          rotate_left 1
          · (intro w hSw; (try dsimp only at hSw); go_simp; try with_reducible rfl)
          simp only [Act.put, List.setIfInBounds_toArray, List.set_cons_zero, List.set_cons_succ]
          refine regTake 9 (some 101) (v := ?_) rfl rfl (by kernel_rfl) (by kernel_rfl) (by kernel_rfl) (fun _ _ _ h => h) (by kernel_rfl) hHeld ?_ ?_
          rotate_left 1
          · (intro w hSw; (try dsimp only at hSw); go_simp; try with_reducible rfl)
          simp only [Act.put, List.setIfInBounds_toArray, List.set_cons_zero, List.set_cons_succ]
          refine regTake 10 (some 102) (v := .agg #[.string (bs q.name), .int .i64 q.chart, .int .i64 (q.f 0), .int .i64 (q.f 1), .int .i64 (q.f 2), .int .i64 (q.f 3), .int .i64 (q.f 4), .int .i64 (q.f 5), .int .i64 (q.f 6), .int .i64 (q.f 7), .int .i64 (q.f 8), .int .i64 (q.f 9), .int .i64 (q.f 10), .int .i64 (q.f 11)]) rfl rfl (by kernel_rfl) (by kernel_rfl) (by kernel_rfl) (fun _ _ _ h => h) (by kernel_rfl) hHeld ?_ ?_
          · exact fun w hSw => exec_mid 37 (.tmp 101) rfl gb2 go2 rfl (chL q) _ hSw.2.2.2.2.1 Tryz.underlying37 rfl size14
          simp only [Act.put, List.setIfInBounds_toArray, List.set_cons_zero, List.set_cons_succ]
          refine regTake 11 (some 103) (v := ?_) rfl rfl (by kernel_rfl) (by kernel_rfl) (by kernel_rfl) (fun _ _ _ h => h) (by kernel_rfl) hHeld ?_ ?_
          rotate_left 1
          · (intro w hSw; (try dsimp only at hSw); go_simp; try with_reducible rfl)
          simp only [Act.put, List.setIfInBounds_toArray, List.set_cons_zero, List.set_cons_succ]
          refine regTake 12 (some 104) (v := ?_) rfl rfl (by kernel_rfl) (by kernel_rfl) (by kernel_rfl) (fun _ _ _ h => h) (by kernel_rfl) hHeld ?_ ?_
          rotate_left 1
          · (intro w hSw; (try dsimp only at hSw); go_simp; try with_reducible rfl)
          simp only [Act.put, List.setIfInBounds_toArray, List.set_cons_zero, List.set_cons_succ]
          refine regTake 13 (some 105) (v := ?_) rfl rfl (by kernel_rfl) (by kernel_rfl) (by kernel_rfl) (fun _ _ _ h => h) (by kernel_rfl) hHeld ?_ ?_
          rotate_left 1
          · (intro w hSw; (try dsimp only at hSw); go_simp; try with_reducible rfl)
          simp only [Act.put, List.setIfInBounds_toArray, List.set_cons_zero, List.set_cons_succ]
          refine regTake 14 (some 106) (v := .agg #[.string (bs m.name), .int .i64 m.chart, .int .i64 (m.f 0), .int .i64 (m.f 1), .int .i64 (m.f 2), .int .i64 (m.f 3), .int .i64 (m.f 4), .int .i64 (m.f 5), .int .i64 (m.f 6), .int .i64 (m.f 7), .int .i64 (m.f 8), .int .i64 (m.f 9), .int .i64 (m.f 10), .int .i64 (m.f 11)]) rfl rfl (by kernel_rfl) (by kernel_rfl) (by kernel_rfl) (fun _ _ _ h => h) (by kernel_rfl) hHeld ?_ ?_
          · exact fun w hSw => exec_mid 37 (.tmp 105) rfl gb1 go1 rfl (chL m) _ hSw.2.2.2.1 Tryz.underlying37 rfl size14
          simp only [Act.put, List.setIfInBounds_toArray, List.set_cons_zero, List.set_cons_succ]
          obtain ⟨z1, z2, z3, z4⟩ := hHeld.2.2.2.2.2.out
          refine regDo 15 (some 107) (v := ?_) (w' := ?_) rfl rfl (by kernel_rfl) (by kernel_rfl) ?_ ?_ (fun hHeld => ?_)
          rotate_left 2
          · (go_simp; refine ⟨?_, ?_⟩ <;> with_reducible rfl)
          · exact ⟨(HA.out _ (z1.alloc z1.size _)).1.1, (HA.out _ (z1.alloc z1.size _)).1.2, (z4.alloc _).cell 0, ((HA.out _ (z1.alloc z1.size _)).2.2.1.1).range, ((HA.out _ (z1.alloc z1.size _)).2.2.1.2).range, Lib.hid ⟨z1.alloc z1.size _, z2.below ((Below.refl _ _).alloc (Nat.le_refl _) _), Nat.lt_of_lt_of_le z3 (by simp), z4.alloc _⟩⟩
          simp only [Act.put, List.setIfInBounds_toArray, List.set_cons_zero, List.set_cons_succ]
          refine regTake 16 (some 108) (v := ?_) rfl rfl (by kernel_rfl) (by kernel_rfl) (by kernel_rfl) (fun _ _ _ h => h) (by kernel_rfl) hHeld ?_ ?_
          rotate_left 1
          · (intro w hSw; (try dsimp only at hSw); go_simp; try with_reducible rfl)
          simp only [Act.put, List.setIfInBounds_toArray, List.set_cons_zero, List.set_cons_succ]
          obtain ⟨y1, y2, y3, y4⟩ := hHeld.2.2.2.2.2.out
          refine regCall 17 (some 109) (f := 11) (args := ?_) rfl rfl (by kernel_rfl) (by kernel_rfl) ?_ ?_
          rotate_left 1
          · (go_simp; try with_reducible rfl)
          refine (sameC_any [q, m] (.slice a3 2 p3) (.slice (some ⟨wx0.heap.size, 0, none⟩) 2 2) _ (by simp) y2 ReadsC.two).mono ?_
          rintro e wx17 ⟨rfl, k2⟩
          refine ⟨_, rfl, ⟨(HA.out _ (y1.trans (k2.mono (y1.size)))).1.1, (HA.out _ (y1.trans (k2.mono (y1.size)))).1.2, (y4.call k2).cell 0, ((HA.out _ (y1.trans (k2.mono (y1.size)))).2.2.1.1).range, ((HA.out _ (y1.trans (k2.mono (y1.size)))).2.2.1.2).range, Lib.hid ⟨y1.trans (k2.mono (y1.size)), y2.below k2, Nat.lt_of_lt_of_le y3 k2.size, y4.call k2⟩⟩, fun hHeld => ?_⟩
          simp only [Act.put, List.setIfInBounds_toArray, List.set_cons_zero, List.set_cons_succ]
          refine regTake 18 (some 110) (v := ?_) rfl rfl (by kernel_rfl) (by kernel_rfl) (by kernel_rfl) (fun _ _ _ h => h) (by kernel_rfl) hHeld ?_ ?_
          rotate_left 1
          · (intro w hSw; (try dsimp only at hSw); go_simp; try with_reducible rfl)
          simp only [Act.put, List.setIfInBounds_toArray, List.set_cons_zero, List.set_cons_succ]
          refine regTake 19 (some 4) (v := ?_) rfl rfl (by kernel_rfl) (by kernel_rfl) (by kernel_rfl) (fun _ _ _ h => h) (by kernel_rfl) hHeld ?_ ?_
          rotate_left 1
          · (intro w hSw; (try dsimp only at hSw); go_simp; try with_reducible rfl)
          simp only [Act.put, List.setIfInBounds_toArray, List.set_cons_zero, List.set_cons_succ]
          refine wpAnyH_done (by kernel_rfl) ?_ _
          have hB9 := (HA.out _ (hHeld.2.2.2.2.2.out).1).2.2.2
          clear hHeld z1 z2 z3 z4 y1 y2 y3 y4 k2
          go_wp2
          go_ret
          exact ⟨rfl, hB9⟩
end Go.Proofs.YtdimgomigidbkaaGreatDoor
namespace Go.Proofs.YtdimgomigidbkaaGreatDoor.lawRecipeSwaps
open Go.ChangeShapes Go.WideShapes Go.ChangeAt Go.RowKit Go.Joins
open Go.ChangeMaps (open_string shut_string)

set_option maxRecDepth 100000 in
theorem lifted (os : Os) (started : os.Started) (H : Type) (enc : TypeId × Value → H) :
    ReturnsInHanded {} Tryz.checked os 7 .any (fun w args => (Rows.recipeSwapsSpec.pre enc Tryz.prog Tryz.f7 [] false w args ∧ laidMetH Tryz.prog Rows.recipeSwapsRow.laid w) ∧ sizedMet enc Tryz.prog Tryz.f7 (OpenSpec.ofChange Rows.recipeSwapsSpec) false w args)
      (Rows.recipeSwapsSpec.post enc Tryz.prog Tryz.f7 false true false false) := by
  refine returnsInHanded_of_change_and (C := Tryz.checked) (X := fun w _ => laidMetH Tryz.prog Rows.recipeSwapsRow.laid w) (fun _ _ _ hh h => h.of_heap hh) own started (by kernel_rfl) Tryz.func7
    (ChangeSpec.witness_shaped (enc := enc) (C := Tryz.checked) (os := os) (X := fun w _ => laidMetH Tryz.prog Rows.recipeSwapsRow.laid w) false (World.doorLaid Tryz.prog 400 os) #[.agg #[.string ⟨#[]⟩, .int .i64 0, .int .i64 0, .int .i64 0, .int .i64 0, .int .i64 0, .int .i64 0, .int .i64 0, .int .i64 0, .int .i64 0, .int .i64 0, .int .i64 0, .int .i64 0, .int .i64 0], .agg #[.string ⟨#[]⟩, .int .i64 0, .int .i64 0, .int .i64 0, .int .i64 0, .int .i64 0, .int .i64 0, .int .i64 0, .int .i64 0, .int .i64 0, .int .i64 0, .int .i64 0, .int .i64 0, .int .i64 0]] 8 rfl (World.shaped_of_RefB (by kernel_rfl) (by kernel_rfl)) (by kernel_rfl) (by kernel_rfl) (by kernel_rfl) (door8_met os _)) ?_
  intro W base args ds gs before hval0 hW _ hsz0 hL _
  have hsz : (DataW.weightsEach Tryz.prog (Tryz.f7.params.toList ++ Rows.recipeSwapsSpec.plain.varTypes Tryz.prog) (ds ++ gs)).all (· ≤ reachBytes) = true := hsz0
  clear hsz0
  have hval : ∀ (j : Nat) t v, Tryz.f7.params[j]? = some t → args[j]? = some v → Value.okWide Tryz.prog W .any base t v := hval0
  have hW' := hW
  obtain ⟨p, q, hA0, hV, rfl, _, _⟩ := hW
  have hA : DataW.TrodAll enc Tryz.prog W 0 (fun _ => true) true Tryz.f7.params.toList args.toList ds p := hA0
  rw [Tryz.params7] at hA hval hsz
  obtain ⟨v0, v1, d0, d1, p0, p1, rfl, rfl, rfl, h0, h1⟩ := trodAll_two hA
  obtain ⟨rfl, rfl⟩ := trodVars_none hV
  clear hA0 hval0
  simp only [List.append_nil] at hW'
  have hlt0 : ∀ x ∈ p0, x.block < W.heap.size := fun x hx => by simpa using hW'.lt x (by simp [hx])
  have hlt1 : ∀ x ∈ p1, x.block < W.heap.size := fun x hx => by simpa using hW'.lt x (by simp [hx])
  have ag0 := fun W' hb' => again (W' := W') (by kernel_rfl) (of_decide_eq_true (by kernel_rfl)) h0 hb' hlt0
  have ag1 := fun W' hb' => again (W' := W') (by kernel_rfl) (of_decide_eq_true (by kernel_rfl)) h1 hb' hlt1
  obtain ⟨a, rfl, hna, hfa⟩ := openChan (hval 0 37 v0 rfl rfl) h0
  obtain ⟨b, rfl, hnb, hfb⟩ := openChan (hval 1 37 v1 rfl rfl) h1
  have hE := env8_of (show laidMetH Tryz.prog laid8 W from hL)
  refine (swaps_walk a b W hna hnb hfa hfb hE).mono fun e W' ⟨he, hb'⟩ => ?_
  subst he
  exact ⟨_, rfl, lawPost _ _ hW' (trodAll_mk1 (shut_bool Tryz.underlying4 _)) (trodAll_mk2 (ag0 W' hb') (ag1 W' hb')) rfl hb'⟩
theorem said : Rows.RecipeSwapsSaid :=
  OpenClaim.holds_of_wide 7 Tryz.f7 rfl rfl rfl rfl rfl rfl rfl ⟨rfl, rfl, rfl, rfl, rfl⟩ rfl rfl rfl rfl rfl (by kernel_rfl) Tryz.func7 (by kernel_rfl)
    (of_decide_eq_true (by kernel_rfl)) (by unfold Func.isWrapper; first | (rw [if_pos (by decide +kernel)]; kernel_rfl) | (rw [if_neg (by decide +kernel)]; exact ⟨rfl, rfl⟩))
    (fun os started H enc _ => lifted os started H enc)
theorem holds : Rows.RecipeSwapsCardSaid :=
  Claim7.holds_tied_plain_at .later [] Rows.recipeSwapsCard.laidKinds true Rows.recipeSwapsCard.stood.harness true
    said (fun _ h => by cases h) (by kernel_rfl) (fun _ h => by cases h) recipeSwaps_row_tie rfl ⟨rfl, rfl⟩ (by kernel_rfl) rfl
    (fun f fn hf hfn => by
      obtain rfl : f = 7 := Option.some.inj ((show Tryz.prog.funcNamed "datum/datumlaw08.RecipeSwaps" = some 7 by kernel_rfl).symm.trans hf) |>.symm
      obtain rfl : fn = Tryz.f7 := (Option.some.inj (Tryz.func7.symm.trans hfn)).symm
      exact ⟨by kernel_rfl, fun j t ht => by
        rw [Tryz.params7] at ht
        have hm : t ∈ [37, 37] := by simpa using Array.mem_of_getElem? ht
        have hall : ([37, 37].all fun u => !(Tryz.prog).wantsStandIn u) = true := by kernel_rfl
        exact (show (Tryz.prog).wantsStandIn t = false by simpa using List.all_eq_true.1 hall t hm)⟩)
    (by kernel_rfl)
#print axioms holds
end Go.Proofs.YtdimgomigidbkaaGreatDoor.lawRecipeSwaps
