/- Memory of a call that gathers by a closure: a row that is filled in its place; what a closure leaves as it was. -/
import Derived.Test.YtnpgofkdfckioaaColG
import Derived.OwnWalk
namespace Go.Proofs.Ytnpgofkdfckioaa
open Go.RowKit

/-- Below block N all is as it was, but for block c. -/
structure Kept (c N : Nat) (w w' : World) : Prop where
  os : w'.os = w.os
  tape : w'.tape = w.tape
  output : w'.output = w.output
  size : w.heap.size ≤ w'.heap.size
  block : ∀ k, k < N → k ≠ c → w'.heap[k]? = w.heap[k]?
theorem Kept.refl (c N : Nat) (w : World) : Kept c N w w := ⟨rfl, rfl, rfl, Nat.le_refl _, fun _ _ _ => rfl⟩
theorem Kept.trans {c N : Nat} {x y z : World} (h : Kept c N x y) (k : Kept c N y z) : Kept c N x z :=
  ⟨k.os.trans h.os, k.tape.trans h.tape, k.output.trans h.output, Nat.le_trans h.size k.size, fun i hi hc => (k.block i hi hc).trans (h.block i hi hc)⟩
theorem Kept.mono {c N N' : Nat} {x y : World} (h : Kept c N x y) (hn : N' ≤ N) : Kept c N' x y := ⟨h.os, h.tape, h.output, h.size, fun i hi hc => h.block i (by omega) hc⟩
theorem Kept.of {c N : Nat} {x y : World} (h : Below N x y) : Kept c N x y := ⟨h.os, h.tape, h.output, h.size, fun i hi _ => h.block i hi⟩
theorem Kept.below {c N : Nat} {x y z : World} (h : Kept c N x y) (k : Below y.heap.size y z) (hn : N ≤ y.heap.size) : Kept c N x z := h.trans (Kept.of (k.mono hn))
theorem Kept.alloc {c N : Nat} {x y : World} (h : Kept c N x y) (hn : N ≤ y.heap.size) (o : Obj) : Kept c N x (y.alloc o) := h.trans (Kept.of ((Below.refl N y).alloc hn o))
theorem Kept.only {c N b : Nat} {x y z : World} (h : Kept c N x y) (k : Only b y z) (hb : N ≤ b) : Kept c N x z := h.trans (Kept.of (k.below hb))
theorem Kept.setCell {c N : Nat} {x y : World} (h : Kept c N x y) {p : Addr} (hp : N ≤ p.block) (v : Value) : Kept c N x (y.setCell p v) := h.trans (Kept.of ((Below.refl N y).setCell hp v))
theorem Kept.sets {c N b : Nat} {x y : World} (h : Kept c N x y) (hb : N ≤ b) (o : Nat) (vs : List Value) : Kept c N x (y.setCells b o vs) := h.trans (Kept.of (Below.sets (Below.refl N y) hb o vs))
theorem Kept.has {c N b : Nat} {x y : World} {cs : List Value} {T : TypeId} (h : Kept c N x y) (hh : Has x b cs T) (hb : b < N) (hc : b ≠ c) : Has y b cs T := hh.of (h.block b hb hc)
theorem only_setCell (w : World) (b i : Nat) (v : Value) : Only b w (w.setCell ⟨b, i, none⟩ v) := ⟨rfl, rfl, rfl, by simp, fun k hk => Below.heap_setCell _ _ _ _ hk⟩
/-- The closure's own block behind, all others as they were: what lies below the call is kept. -/
theorem Kept.toBelow {c N : Nat} {x y : World} (h : Kept c N x y) (hc : N ≤ c) : Below N x y := ⟨h.os, h.tape, h.output, h.size, fun k hk => h.block k hk (by omega)⟩

/-- One more in a row that has room for it. -/
theorem wpList_append_in {P : Program} {w : World} {ops : Array Oper} {rest : List Oper} {o : Oper} {a : Act} {Q : Exit → Act → World → Prop} (hgd : o.guard = none) (s x : Operand) (t : TypeId)
    (ho : o.op = .call { callee := .builtin .append, args := #[s, x], argTypes := #[t, t] }) (e : TypeId) (i : TypeInfo) (ht : P.underlying t = some (.slice e)) (hi : P.info? e = some i) (hsize : i.size = 1)
    (g n cap : Nat) (cs : List Value) (hs : a.eval s = .slice (some ⟨g, 0, none⟩) n cap) (hh : Has w g cs e) (hn : n < cap) (hc : cs.length = cap)
    (ad : Addr) (c : Nat) (z : Value) (hx : a.eval x = .slice (some ad) 1 c) (hz : w.cell? ad = some z) (h1 : z.oneCell' = true)
    (h : ∀ w', Has w' g (cs.set n z) e → Only g w w' → wpList P ops Q rest (a.put o.dst (.slice (some ⟨g, 0, none⟩) (n + 1) cap)) w') : wpList P ops Q (o :: rest) a w := by
  refine wpList_plain hgd fun K hK => ?_
  have hr := run_append_room (P := P) w t o.type e i ht hi g n cap cs.toArray hh ad 1 c [z] (by rw [hsize]; rfl)
    (fun j u hj => by
      cases j with
      | zero => cases hj; exact hz
      | succ j => cases hj) (fun u hu => by rw [List.mem_singleton.1 hu]; exact h1) (by omega) (by rw [hsize]; simp; omega)
  unfold Oper.wp execOp
  simp only [ho, resolve, invoke, builtin, Sem.run_bind, Sem.run_pure, Result.andThen_ok, List.map_toArray, List.map_cons, List.map_nil, hs, hx, hr]
  refine hK _ _ (h _ ?_ ⟨rfl, rfl, rfl, by simp, fun k hk => setRow_other w g k _ hk⟩)
  have := setRow_heap w g cs.toArray (cs.take n ++ [z] ++ cs.drop (n + 1)).toArray e (0, 0) hh
  rw [hsize]
  simp only [Nat.mul_one, List.length_singleton]
  rw [List.set_eq_take_append_cons_drop, if_pos (by omega)]
  unfold Has
  simpa using this
/-- What stands first in a block of ints, read. -/
theorem Has.readsI {w : World} {g n cap : Nat} {cs : List Value} {ys : List Int} {T : TypeId} (h : Has w g cs T) (hc : cs.length = cap) (hy : ys.length = n) (hn : n ≤ cap) (hm : cap ≤ 100000) (ht : cs.take n = intsV ys) : ReadsI w (.slice (some ⟨g, 0, none⟩) n cap) ys := by
  refine ⟨_, cap, by rw [hy], by omega, by unfold maxLen; omega, fun i hi => ⟨g, 0, rfl, h.lt, ?_⟩⟩
  rw [Nat.zero_add, h.cell]
  have e : cs[i]? = (cs.take n)[i]? := by rw [List.getElem?_take_of_lt (by omega)]
  rw [e, ht]
  unfold intsV
  rw [List.getElem?_map, List.getElem?_eq_getElem hi, List.getD_eq_getElem?_getD, List.getElem?_eq_getElem hi]
  rfl
theorem take_set (cs : List Value) (ys : List Int) (x : Int) (hn : ys.length < cs.length) (ht : cs.take ys.length = intsV ys) : (cs.set ys.length (.int .i64 x)).take (ys.length + 1) = intsV (ys ++ [x]) := by
  rw [List.take_add_one, List.take_set_of_le (Nat.le_refl _), ht]
  rw [List.getElem?_set_self hn]
  unfold intsV
  rw [List.map_append]
  rfl
/-! ### One more sample -/
theorem feedN_one (g : Grp) (l : List Int) (k : Nat) (hk : k < l.length) : feedN g (l.take (k + 1)) = ((feedN (feedN g (l.take k)).1 [l.getD k 0]).1, (feedN g (l.take k)).2.1 ++ (feedN (feedN g (l.take k)).1 [l.getD k 0]).2.1, (feedN g (l.take k)).2.2 + (feedN (feedN g (l.take k)).1 [l.getD k 0]).2.2) := by
  have e : l.take (k + 1) = l.take k ++ [l.getD k 0] := by
    rw [List.take_add_one, List.getElem?_eq_getElem hk, List.getD_eq_getElem?_getD, List.getElem?_eq_getElem hk]
    rfl
  rw [e, feedN_parts]
section
variable {g : Grp} {l : List Int} {k : Nat} {s lo hi x : Int} {ys : List Int} {L : List (List Int)} {r : Nat}
theorem feed_yes (hk : k < l.length) (hx : l.getD k 0 = x) (h : feedN g (l.take k) = (⟨s, lo, hi, ys⟩, L, r)) (hf : lo ≤ x ∧ x ≤ hi) (hn : ¬ (ys.length : Int) + 1 = s) : feedN g (l.take (k + 1)) = (⟨s, lo, hi, ys ++ [x]⟩, L, r) := by
  rw [feedN_one g l k hk, h, hx]
  dsimp only
  have hr : addR ⟨s, lo, hi, ys⟩ x = [] := (addR_some _ _).2 hn
  rw [feedN_yes (g := ⟨s, lo, hi, ys⟩) [] (decide_eq_true hf) hr]
  unfold addG
  dsimp only
  rw [if_neg hn]
  simp [feedN]
theorem feed_full (hk : k < l.length) (hx : l.getD k 0 = x) (h : feedN g (l.take k) = (⟨s, lo, hi, ys⟩, L, r)) (hf : lo ≤ x ∧ x ≤ hi) (hn : (ys.length : Int) + 1 = s) : feedN g (l.take (k + 1)) = (⟨s, lo, hi, []⟩, L ++ [ys ++ [x]], r) := by
  rw [feedN_one g l k hk, h, hx]
  dsimp only
  have hr : ¬ addR ⟨s, lo, hi, ys⟩ x = [] := fun e => (addR_some _ _).1 e hn
  rw [feedN_row (g := ⟨s, lo, hi, ys⟩) [] (decide_eq_true hf) hr]
  unfold addG addR
  dsimp only
  rw [if_pos hn, if_pos hn]
  simp [feedN]
theorem feed_not (hk : k < l.length) (hx : l.getD k 0 = x) (h : feedN g (l.take k) = (⟨s, lo, hi, ys⟩, L, r)) (hf : ¬ (lo ≤ x ∧ x ≤ hi)) : feedN g (l.take (k + 1)) = (⟨s, lo, hi, ys⟩, L, r + 1) := by
  rw [feedN_one g l k hk, h, hx]
  dsimp only
  have hq : ¬ fitsB ⟨s, lo, hi, ys⟩ x = true := fun h => hf (of_decide_eq_true h)
  rw [feedN_no (g := ⟨s, lo, hi, ys⟩) [] hq]
  simp [feedN]
end
end Go.Proofs.Ytnpgofkdfckioaa
