/- Rows of ints that the call makes itself. -/
import Derived.Test.YtgmifimpeefpcaaInts
import Derived.Laws.AppendOwn
namespace Go.Proofs.Ytgmifimpeefpcaa
open Go.RowKit

def IRow (B : Nat) (v : Value) (l : List Int) (w : World) : Prop := w.ownsRow B 3 1 v l.length (l.map (Value.int .i64))
theorem IRow.below {B : Nat} {v : Value} {l : List Int} {w w' : World} (h : IRow B v l w) (hb : Below w.heap.size w w') : IRow B v l w' :=
  h.kept (show w.grownBy w' none from ⟨hb.os, hb.tape, hb.output, hb.size, fun k hk _ => hb.block k hk⟩) (by cases v.ownBlock <;> simp)
theorem IRow.alloc {B : Nat} {v : Value} {l : List Int} {w : World} (h : IRow B v l w) (o : Obj) : IRow B v l (w.alloc o) := h.below ((Below.refl _ w).alloc (Nat.le_refl _) o)
theorem IRow.nil (B : Nat) (w : World) : IRow B (.slice none 0 0) [] w := World.ownsRow_nil w B _ 1
theorem IRow.made (w : World) : IRow w.heap.size (.slice (some ⟨w.heap.size, 0, none⟩) 0 0) [] (w.alloc (.cells #[] 3)) := World.ownsRow_made w #[] 0 (Nat.le_refl _) (Nat.zero_le _) rfl
theorem IRow.snoc {B : Nat} {v : Value} {l : List Int} {z : Int} {w : World} (h : w.ownsRow B 3 1 v (l.length + 1) (l.map (Value.int .i64) ++ [.int .i64 z])) : IRow B v (l ++ [z]) w := by
  unfold IRow
  rw [List.map_append, List.length_append]
  exact h
theorem IRow.reads {B : Nat} {v : Value} {l : List Int} {w : World} (h : IRow B v l w) : ReadsI w v l := by
  have h0 : w.ownsRow B 3 1 v l.length (l.map (Value.int .i64)) := h
  rcases h0.2 with ⟨h1, h2⟩ | ⟨g, cap, cur, hv, hB, hg, hl, hc, hs, ht⟩
  · have hl : l = [] := List.eq_nil_of_length_eq_zero h2
    subst hl
    exact ⟨none, 0, h1, Nat.le_refl _, Nat.zero_le _, fun i hi => absurd hi (Nat.not_lt_zero _)⟩
  · refine ⟨_, cap, hv, hl, hc, fun i hi => ⟨g, 0, rfl, (Array.getElem?_eq_some_iff.1 hg).1, ?_⟩⟩
    have := h0.cells (g := g) (by rw [hv]; rfl) i (.int .i64 (l[i]'hi)) (by rw [List.getElem?_map, List.getElem?_eq_getElem hi]; rfl)
    have e : (⟨g, 0, none⟩ : Addr).add i = ⟨g, 0 + i, none⟩ := by unfold Addr.add; split <;> simp_all
    rw [e] at this
    rw [this, List.getD_eq_getElem?_getD, List.getElem?_eq_getElem hi]
    rfl
theorem infoInt : ((Try.prog).info? 3).map (fun i => (i.zero, i.size, i.bytes)) = some (some (.int .i64 0), 1, 8) := by kernel_rfl
/-- An int that was laid in a block of its own. -/
theorem int_at (w : World) (z : Int) {b : Nat} (hb : w.heap.size = b) (T : TypeId) (j : Nat) (u : Value) (h : ([Value.int .i64 z] : List Value)[j]? = some u) : (w.alloc (.cells #[.int .i64 z] T)).cell? ((⟨b, 0, none⟩ : Addr).add j) = some u := by
  subst hb
  have e : (⟨w.heap.size, 0, none⟩ : Addr).add j = ⟨w.heap.size, j, none⟩ := by unfold Addr.add; split <;> simp_all
  rw [e]
  have hn : (w.alloc (.cells #[.int .i64 z] T)).heap[w.heap.size]? = some (.cells #[.int .i64 z] T) := heap_alloc_new w _
  have : (w.alloc (.cells #[.int .i64 z] T)).cell? ⟨w.heap.size, j, none⟩ = ([Value.int .i64 z] : List Value)[j]? := by
    unfold World.cell?
    rw [hn]
    cases j <;> rfl
  rw [this, h]
end Go.Proofs.Ytgmifimpeefpcaa
