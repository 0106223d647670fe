/- For the law of CollectParts: a slice from a place on; rows put behind rows, where an operation is guarded. -/
import Derived.Test.YtnpgofkdfckioaaColS
namespace Go.Proofs.Ytnpgofkdfckioaa
open Go.RowKit

theorem slice_lo (ao : Option Addr) (n cap k : Nat) (hk : k ≤ n) (hn : n ≤ cap) :
    ∃ ao', (∀ w, (Instr.slice 22 (.slice ao n cap) (some (.int .i64 (k : Int))) none none).run Try.prog w = .ok (.slice ao' (n - k) (cap - k)) w) ∧ ∀ w xs, ReadsI w (.slice ao n cap) xs → ReadsI w (.slice ao' (n - k) (cap - k)) (xs.drop k) := by
  refine ⟨if cap = k then ao else ao.map (·.add (k * 1)), fun w => ?_, fun w xs h => ?_⟩
  · have h := run_slice_l (P := Try.prog) w 22 ao n cap (by rw [elemInts]; exact Try.underlying22) .i64 (k : Int) (by omega) (by omega)
    rw [h, elemInts, sizeInt]
    simp only [Result.andThen, sliced, Int.toNat_natCast]
  · obtain ⟨ao1, cap1, e, h2, h3, h4⟩ := h
    injection e with e1 e2 e3
    subst e1 e2 e3
    refine ⟨_, cap - k, by rw [List.length_drop], by rw [List.length_drop]; omega, by omega, fun i hi => ?_⟩
    rw [List.length_drop] at hi
    obtain ⟨b, off, rfl, h6, h7⟩ := h4 (k + i) (by omega)
    refine ⟨b, off + k, ?_, h6, ?_⟩
    · rw [if_neg (by omega)]
      simp only [Option.map_some, Nat.mul_one]
      unfold Addr.add
      split <;> simp_all
    · rw [Nat.add_assoc, h7, List.getD_eq_getElem?_getD, List.getD_eq_getElem?_getD, List.getElem?_drop]
/-- Rows that were read in the world w0, in a row of the call's own. -/
def PRows (w0 : World) (B : Nat) (rv : Value) (w : World) (L : List (List Int)) : Prop :=
  ∃ vs : List Value, w.ownsRow B 22 1 rv L.length vs ∧ ∀ (i : Nat) (row : List Int), L[i]? = some row → ∃ u, vs[i]? = some u ∧ ReadsI w0 u row
theorem PRows.reads {w0 w : World} {B : Nat} {rv : Value} {L : List (List Int)} (h : PRows w0 B rv w L) (hb : Below w0.heap.size w0 w) : ReadsR w rv L := by
  obtain ⟨vs, h2, h3⟩ := h
  rcases id h2.2 with ⟨rfl, h0⟩ | ⟨g, cap, cur, rfl, hB, hg, hn, hm, hs, ht⟩
  · have : L = [] := List.eq_nil_of_length_eq_zero h0
    subst this
    exact ReadsR.nil w
  · refine ⟨_, cap, rfl, hn, hm, fun i hi => ?_⟩
    obtain ⟨u, h4, h5⟩ := h3 i _ (List.getElem?_eq_getElem hi)
    have hc := h2.cells (g := g) rfl i _ h4
    have e : (⟨g, 0, none⟩ : Addr).add i = ⟨g, 0 + i, none⟩ := by unfold Addr.add; split <;> simp_all
    rw [e] at hc
    refine ⟨g, 0, u, rfl, (Array.getElem?_eq_some_iff.1 hg).1, hc, ?_⟩
    rw [List.getD_eq_getElem?_getD, List.getElem?_eq_getElem hi]
    exact h5.below hb
theorem PRows.made (w0 w : World) : PRows w0 w.heap.size (.slice (some ⟨w.heap.size, 0, none⟩) 0 0) (w.alloc (.cells #[] 22)) [] :=
  ⟨[], World.ownsRow_made w #[] 0 (Nat.le_refl _) (Nat.zero_le _) rfl, fun i row hi => by cases hi⟩
theorem wpList_wanted {P : Program} {w : World} {ops : Array Oper} {rest : List Oper} {o : Oper} {a : Act} {Q : Exit → Act → World → Prop} (hw : Region.wanted o (yielded ops a.tmps) = true)
    (h : ∀ K : Act → World → Prop, (∀ a w, wpList P ops Q rest a w → K a w) → o.wp P a w K Q) : wpList P ops Q (o :: rest) a w :=
  wpList_step fun K hK => by rw [if_pos hw]; exact h K hK
theorem vals_of {w : World} {ao : Option Addr} {n c : Nat} {L : List (List Int)} (h : ReadsR w (.slice ao n c) L) : n = L.length ∧ ∃ vs : List Value, vs.length = L.length ∧ (∀ (i : Nat) (row : List Int), L[i]? = some row → ∃ u, vs[i]? = some u ∧ ReadsI w u row) ∧ (L = [] ∨ ∃ b off, ao = some ⟨b, off, none⟩ ∧ b < w.heap.size ∧ ∀ j u, vs[j]? = some u → w.cell? ⟨b, off + j, none⟩ = some u) := by
  obtain ⟨ao', c', e, h2, h3, h4⟩ := h
  injection e with e1 e2 e3
  subst e1 e2 e3
  refine ⟨rfl, ?_⟩
  by_cases hL : L = []
  · subst hL
    exact ⟨[], rfl, fun i row hi => (by cases hi), .inl rfl⟩
  · have hp : 0 < L.length := List.length_pos_iff.2 hL
    obtain ⟨b, off, _, rfl, hlt, _⟩ := h4 0 hp
    have hall : ∀ i, i < L.length → ∃ u, w.cell? ⟨b, off + i, none⟩ = some u ∧ ReadsI w u (L.getD i []) := fun i hi => by
      obtain ⟨b', off', u, e, _, h6, h7⟩ := h4 i hi
      injection e with e
      injection e with e1 e2 _
      subst e1 e2
      exact ⟨u, h6, h7⟩
    refine ⟨(List.range L.length).map fun i => (w.cell? ⟨b, off + i, none⟩).getD undef, by simp, fun i row hi => ?_, .inr ⟨b, off, rfl, hlt, fun j u hj => ?_⟩⟩
    · have hil := (List.getElem?_eq_some_iff.1 hi).1
      obtain ⟨u, h6, h7⟩ := hall i hil
      refine ⟨u, ?_, ?_⟩
      · rw [List.getElem?_map, List.getElem?_range hil]
        simp [h6]
      · rw [List.getD_eq_getElem?_getD, hi] at h7
        exact h7
    · have hjl : j < L.length := by
        have := (List.getElem?_eq_some_iff.1 hj).1
        simpa using this
      obtain ⟨u', h6, _⟩ := hall j hjl
      rw [List.getElem?_map, List.getElem?_range hjl] at hj
      simp only [Option.map_some, h6, Option.getD_some] at hj
      rw [h6]
      exact hj
theorem ReadsI.one' {w : World} {u : Value} {row : List Int} (h : ReadsI w u row) : u.oneCell' = true := by
  obtain ⟨ao, cap, rfl, _⟩ := h
  rfl
/-- Rows of a slice are put behind rows of the call's own. -/
theorem wpList_append_rows {w0 w : World} {ops : Array Oper} {rest : List Oper} {o : Oper} {a : Act} {Q : Exit → Act → World → Prop} (hwt : Region.wanted o (yielded ops a.tmps) = true) (s x : Operand)
    (ho : o.op = .call { callee := .builtin .append, args := #[s, x], argTypes := #[42, 42] }) (B : Nat) (v : Value) (L1 L2 : List (List Int)) (hs : a.eval s = v) (hown : PRows w0 B v w L1)
    (ao : Option Addr) (n c : Nat) (hx : a.eval x = .slice ao n c) (hr : ReadsR w0 (.slice ao n c) L2) (hb : Below w0.heap.size w0 w) (hl : L1.length + L2.length ≤ 100000) (hB : B ≤ w.heap.size)
    (h : ∀ v' w', PRows w0 B v' w' (L1 ++ L2) → w.grownBy w' v.ownBlock → wpList Try.prog ops Q rest (a.put o.dst v') w') : wpList Try.prog ops Q (o :: rest) a w := by
  obtain ⟨i0, hi, hz0, hz1, hz2⟩ := info_parts infoRow
  obtain ⟨vs, h1, h2⟩ := hown
  obtain ⟨rfl, us, hul, hu, hc⟩ := vals_of hr
  refine wpList_wanted hwt fun K hK => ?_
  rcases hc with rfl | ⟨b, off, rfl, hlt, hcell⟩
  · have hrun : (Builtin.append_ #[42, 42] o.type #[v, .slice ao 0 c]).run Try.prog w = .ok v w := by
      rcases h1.2 with ⟨rfl, _⟩ | ⟨g, cap, cur, rfl, _, _, hnc, _⟩ <;> cases ao <;> simp [Builtin.append_, run_underlying Try.underlying42, sizeOf, typeInfo, Builtin.lenOf, Builtin.firstCells, loadCells, loadCellsFrom, storeCells, *]
    unfold Oper.wp execOp
    simp only [ho, resolve, invoke, builtin, Sem.run_bind, Sem.run_pure, Result.andThen_ok, List.map_toArray, List.map_cons, List.map_nil, hs, hx, List.length_nil, hrun]
    exact hK _ _ (h v w (by rw [List.append_nil]; exact ⟨vs, h1, h2⟩) ⟨rfl, rfl, rfl, Nat.le_refl _, fun _ _ _ => rfl⟩)
  · obtain ⟨v', w', hrun, h3, h4, _⟩ := run_append_own (P := Try.prog) w B 42 o.type 22 i0 (.slice none 0 0) 1 24 Try.underlying42 hi hz0 hz1 hz2 rfl (by decide) v L1.length vs h1 ⟨b, off, none⟩ L2.length c us (by rw [hul, Nat.mul_one])
      (fun j u hj => by
        have e : (⟨b, off, none⟩ : Addr).add j = ⟨b, off + j, none⟩ := by unfold Addr.add; split <;> simp_all
        rw [e]
        exact (hb.cell (p := ⟨b, off + j, none⟩) hlt).trans (hcell j u hj))
      (fun u hu' => by
        obtain ⟨j, hj, rfl⟩ := List.getElem_of_mem hu'
        obtain ⟨q, h5, h6⟩ := hu j _ (List.getElem?_eq_getElem (by omega))
        rw [List.getElem?_eq_getElem hj] at h5
        injection h5 with h5
        rw [h5]
        exact h6.one') (by unfold maxLen; omega) (by omega) hB
    unfold Oper.wp execOp
    simp only [ho, resolve, invoke, builtin, Sem.run_bind, Sem.run_pure, Result.andThen_ok, List.map_toArray, List.map_cons, List.map_nil, hs, hx, hrun]
    refine hK _ _ (h v' w' ⟨vs ++ us, by rw [List.length_append]; exact h3, fun i r hi => ?_⟩ h4)
    have hvl := h1.1
    rw [Nat.mul_one] at hvl
    rcases Nat.lt_or_ge i L1.length with hl | hl
    · rw [List.getElem?_append_left hl] at hi
      obtain ⟨q, h5, h6⟩ := h2 i r hi
      exact ⟨q, by rw [List.getElem?_append_left (by omega)]; exact h5, h6⟩
    · rw [List.getElem?_append_right hl] at hi
      obtain ⟨q, h5, h6⟩ := hu _ r hi
      exact ⟨q, by rw [List.getElem?_append_right (by omega), hvl]; exact h5, h6⟩
end Go.Proofs.Ytnpgofkdfckioaa
