/- Ints put behind a row of the call's own; the first few of a slice (as XColF, XColG, XColQ have it, for seats without collect). -/
import Derived.Test.YtgmifimpeefpcaaIRow
import Derived.Test.YtgmifimpeefpcaaHas
import Derived.OwnWalk
import Derived.Laws.Slices
namespace Go.Proofs.Ytgmifimpeefpcaa
open Go.RowKit

def intsV (xs : List Int) : List Value := xs.map (Value.int .i64)
theorem intsV_len (xs : List Int) : (intsV xs).length = xs.length := by unfold intsV; rw [List.length_map]
theorem intsV_one (xs : List Int) : ∀ u ∈ intsV xs, u.oneCell' = true := fun u hu => by
  obtain ⟨z, _, rfl⟩ := List.mem_map.1 hu
  rfl
theorem ReadsI.src {w : World} {ao : Option Addr} {n cap : Nat} {xs : List Int} (h : ReadsI w (.slice ao n cap) xs) : 0 < (intsV xs).length → ∃ ad, ao = some ad ∧ ∀ j v, (intsV xs)[j]? = some v → w.cell? (ad.add j) = some v := by
  intro hp
  rw [intsV_len] at hp
  obtain ⟨ao', cap', h1, h2, h3, h4⟩ := h
  injection h1 with e1 e2 e3
  subst e1 e2 e3
  obtain ⟨b, off, rfl, -, -⟩ := h4 0 hp
  refine ⟨_, rfl, fun j v hj => ?_⟩
  have hjl : j < xs.length := by
    have := (List.getElem?_eq_some_iff.1 hj).1
    rwa [intsV_len] at this
  obtain ⟨b', off', e, -, hc⟩ := h4 j hjl
  injection e with e
  injection e with e1 e2 _
  subst e1 e2
  have e3 : (⟨b, off, none⟩ : Addr).add j = ⟨b, off + j, none⟩ := by unfold Addr.add; split <;> simp_all
  rw [e3, hc]
  unfold intsV at hj
  rw [List.getElem?_map, List.getElem?_eq_getElem hjl] at hj
  rw [List.getD_eq_getElem?_getD, List.getElem?_eq_getElem hjl]
  exact hj
theorem ReadsI.take {w : World} {ao : Option Addr} {n cap : Nat} {xs : List Int} (h : ReadsI w (.slice ao n cap) xs) (k : Nat) (hk : k ≤ n) : ReadsI w (.slice ao k cap) (xs.take k) := by
  obtain ⟨ao', cap', h1, h2, h3, h4⟩ := h
  injection h1 with e1 e2 e3
  subst e1 e2 e3
  have hl : (xs.take k).length = k := by rw [List.length_take]; omega
  refine ⟨ao, cap, by rw [hl], by omega, h3, fun i hi => ?_⟩
  rw [hl] at hi
  obtain ⟨b, off, h5, h6, h7⟩ := h4 i (by omega)
  refine ⟨b, off, h5, h6, ?_⟩
  rw [h7, List.getD_eq_getElem?_getD, List.getD_eq_getElem?_getD, List.getElem?_take_of_lt hi]
theorem sizeInt (w : World) : (sizeOf 3).run Try.prog w = .ok 1 w := by
  obtain ⟨i, hi, h0, h1, h2⟩ := info_parts infoInt
  simp [sizeOf, typeInfo, hi, h1]
theorem elemInts : (Try.prog).elem 42 = 3 := by kernel_rfl
theorem slice_hi (ao : Option Addr) (n cap k : Nat) (hk : k ≤ cap) (w : World) : (Instr.slice 42 (.slice ao n cap) none (some (.int .i64 (k : Int))) none).run Try.prog w = .ok (.slice ao k cap) w := by
  have h := run_slice_h (P := Try.prog) w 42 ao n cap (by rw [elemInts]; exact Try.underlying42) .i64 (k : Int) (by omega) (by omega)
  rw [h, elemInts, sizeInt]
  simp only [Result.andThen, sliced, Int.toNat_natCast, Nat.sub_zero]
  cases ao with
  | none => simp
  | some a => simp; intro _; rfl

theorem ReadsI.few {w : World} {ao : Option Addr} {n cap : Nat} {xs : List Int} (h : ReadsI w (.slice ao n cap) xs) (N k : Nat) (hk : k = min n N) : ReadsI w (.slice ao k cap) (xs.take N) := by
  have hn : n = xs.length := by
    obtain ⟨_, _, e, _⟩ := h
    injection e
  have e : xs.take k = xs.take N := by rw [hk, hn, Nat.min_comm, ← List.take_eq_take_min]
  rw [← e]
  exact h.take k (by omega)
theorem Has.grown {w w' : World} {b : Nat} {cs : List Value} {T : TypeId} {row : Option Nat} (h : Has w b cs T) (hg : w.grownBy w' row) (hb : row ≠ some b) : Has w' b cs T := h.of (hg.block b h.lt (fun e => hb e.symm))
theorem IRow.ne {B b : Nat} {v : Value} {l : List Int} {w : World} (h : IRow B v l w) (hb : b < B) : v.ownBlock ≠ some b := fun e => by
  have h0 : w.ownsRow B 3 1 v l.length (l.map (Value.int .i64)) := h
  have := (h0.lt _ e).1
  omega
theorem IRow.lt' {B : Nat} {v : Value} {l : List Int} {w : World} (h : IRow B v l w) : ∀ k, v.ownBlock = some k → B ≤ k ∧ k < w.heap.size := fun k e => by
  have h0 : w.ownsRow B 3 1 v l.length (l.map (Value.int .i64)) := h
  exact h0.lt _ e
theorem IRow.frame {B : Nat} {v : Value} {l : List Int} {w w' : World} (h : IRow B v l w) (hk : ∀ k, B ≤ k → k < w.heap.size → w'.heap[k]? = w.heap[k]?) : IRow B v l w' := by
  refine ⟨h.1, ?_⟩
  rcases h.2 with hn | ⟨g, cap, cur, h3, h4, h5, h6⟩
  · exact .inl hn
  · exact .inr ⟨g, cap, cur, h3, h4, (hk g h4 (Array.getElem?_eq_some_iff.1 h5).1).trans h5, h6⟩
theorem IRow.mono {B B' : Nat} {v : Value} {l : List Int} {w : World} (h : IRow B v l w) (hb : B' ≤ B) : IRow B' v l w := by
  refine ⟨h.1, ?_⟩
  rcases h.2 with hn | ⟨g, cap, cur, h3, h4, h5⟩
  · exact .inl hn
  · exact .inr ⟨g, cap, cur, h3, by omega, h5⟩
set_option maxRecDepth 100000 in
/-- Ints of a slice are put behind a row of the call's own. -/
theorem wpList_append_ints {w : World} {ops : Array Oper} {rest : List Oper} {o : Oper} {a : Act} {Q : Exit → Act → World → Prop} (hgd : o.guard = none) (s x : Operand)
    (ho : o.op = .call { callee := .builtin .append, args := #[s, x], argTypes := #[42, 42] }) (B : Nat) (v : Value) (l ys : List Int) (hs : a.eval s = v) (hown : IRow B v l w)
    (ao : Option Addr) (n c : Nat) (hx : a.eval x = .slice ao n c) (hr : ReadsI w (.slice ao n c) ys) (hl : l.length + ys.length ≤ 1000000) (hB : B ≤ w.heap.size)
    (h : ∀ v' w', IRow B v' (l ++ ys) w' → w.grownBy w' v.ownBlock → wpList Try.prog ops Q rest (a.put o.dst v') w') : wpList Try.prog ops Q (o :: rest) a w := by
  obtain ⟨i0, hi, hz0, hz1, hz2⟩ := info_parts infoInt
  have h0 : w.ownsRow B 3 1 v l.length (l.map (Value.int .i64)) := hown
  have hn : n = ys.length := by
    obtain ⟨_, _, e, _⟩ := hr
    injection e
  subst hn
  cases ao with
  | some ad =>
    refine wpList_append_own w hgd s x 42 ho B 3 i0 (.int .i64 0) 1 8 Try.underlying42 hi hz0 hz1 hz2 rfl (by decide) v l.length _ hs h0 ad ys.length c (intsV ys) hx (by rw [intsV_len, Nat.mul_one]) ?_ (intsV_one ys) (by unfold maxLen; omega) (by omega) hB ?_
    · intro j u hj
      have hp : 0 < (intsV ys).length := by
        exact Nat.lt_of_le_of_lt (Nat.zero_le _) (List.getElem?_eq_some_iff.1 hj).1
      obtain ⟨ad', e, hc⟩ := hr.src hp
      injection e with e
      subst e
      exact hc j u hj
    · intro v' w' h1 h2 _
      refine h v' w' ?_ h2
      unfold IRow
      rw [List.map_append, List.length_append]
      exact h1
  | none =>
    have hy : ys = [] := by
      cases ys with
      | nil => rfl
      | cons y ys =>
        obtain ⟨_, _, e, _, _, h4⟩ := hr
        injection e with e1 _ _
        obtain ⟨b, off, e2, _⟩ := h4 0 (Nat.succ_pos _)
        rw [← e1] at e2
        cases e2
    subst hy
    refine wpList_plain hgd fun K hK => ?_
    have hrun : (Builtin.append_ #[42, 42] o.type #[v, .slice none 0 c]).run Try.prog w = .ok v w := by
      rcases h0.2 with ⟨rfl, _⟩ | ⟨g, cap, cur, rfl, _, _, hnc, _⟩
      · simp [Builtin.append_, run_underlying Try.underlying42, sizeOf, typeInfo, hi, Builtin.lenOf, Builtin.firstCells]
      · simp [Builtin.append_, run_underlying Try.underlying42, sizeOf, typeInfo, hi, Builtin.lenOf, Builtin.firstCells, hnc, storeCells]
    unfold Oper.wp execOp
    simp only [ho, resolve, invoke, builtin, Sem.run_bind, Sem.run_pure, Result.andThen_ok, List.map_toArray, List.map_cons, List.map_nil, hs, hx, List.length_nil, hrun]
    exact hK _ _ (h v w (by rw [List.append_nil]; exact hown) ⟨rfl, rfl, rfl, Nat.le_refl _, fun _ _ _ => rfl⟩)
theorem ReadsI.one (w : World) (x : Int) : ReadsI (w.alloc (.cells #[.int .i64 x] 3)) (.slice (some ⟨w.heap.size, 0, none⟩) 1 1) [x] := by
  refine ⟨_, 1, rfl, Nat.le_refl _, by unfold maxLen; omega, fun i hi => ⟨w.heap.size, 0, rfl, by simp, ?_⟩⟩
  have : i = 0 := by have : i < 1 := hi; omega
  subst this
  exact (Has.new w [.int .i64 x] 3).cell 0
/-- What stands first in a block of ints, read. -/
theorem Has.readsI {w : World} {g n cap : Nat} {cs : List Value} {ys : List Int} {T : TypeId} (h : Has w g cs T) (hc : cs.length = cap) (hy : ys.length = n) (hn : n ≤ cap) (hm : cap ≤ 100000) (ht : cs.take n = intsV ys) : ReadsI w (.slice (some ⟨g, 0, none⟩) n cap) ys := by
  refine ⟨_, cap, by rw [hy], by omega, by unfold maxLen; omega, fun i hi => ⟨g, 0, rfl, h.lt, ?_⟩⟩
  rw [Nat.zero_add, h.cell]
  have e : cs[i]? = (cs.take n)[i]? := by rw [List.getElem?_take_of_lt (by omega)]
  rw [e, ht]
  unfold intsV
  rw [List.getElem?_map, List.getElem?_eq_getElem hi, List.getD_eq_getElem?_getD, List.getElem?_eq_getElem hi]
  rfl
theorem slice_lo (ao : Option Addr) (n cap k : Nat) (hk : k ≤ n) (hn : n ≤ cap) :
    ∃ ao', (∀ w, (Instr.slice 42 (.slice ao n cap) (some (.int .i64 (k : Int))) none none).run Try.prog w = .ok (.slice ao' (n - k) (cap - k)) w) ∧ ∀ w xs, ReadsI w (.slice ao n cap) xs → ReadsI w (.slice ao' (n - k) (cap - k)) (xs.drop k) := by
  refine ⟨if cap = k then ao else ao.map (·.add (k * 1)), fun w => ?_, fun w xs h => ?_⟩
  · have h := run_slice_l (P := Try.prog) w 42 ao n cap (by rw [elemInts]; exact Try.underlying42) .i64 (k : Int) (by omega) (by omega)
    rw [h, elemInts, sizeInt]
    simp only [Result.andThen, sliced, Int.toNat_natCast]
  · obtain ⟨ao1, cap1, e, h2, h3, h4⟩ := h
    injection e with e1 e2 e3
    subst e1 e2 e3
    refine ⟨_, cap - k, by rw [List.length_drop], by rw [List.length_drop]; omega, by omega, fun i hi => ?_⟩
    rw [List.length_drop] at hi
    obtain ⟨b, off, rfl, h6, h7⟩ := h4 (k + i) (by omega)
    refine ⟨b, off + k, ?_, h6, ?_⟩
    · rw [if_neg (by omega)]
      simp only [Option.map_some, Nat.mul_one]
      unfold Addr.add
      split <;> simp_all
    · rw [Nat.add_assoc, h7, List.getD_eq_getElem?_getD, List.getD_eq_getElem?_getD, List.getElem?_drop]
end Go.Proofs.Ytgmifimpeefpcaa
