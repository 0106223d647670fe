/- A block of cells that may be written, known whole: what leaves it as it is, and a store into it. -/
import Derived.Test.YtacnaencmbnjpaaRange
namespace Go.Proofs.Ytacnaencmbnjpaa
open Go.RowKit

structure Blk (W : World) (b : Nat) (vs : Array Value) : Prop where
  heap : ∃ t, W.heap[b]? = some (.cells vs t (0, 0))
theorem Blk.cell {W : World} {b i : Nat} {vs : Array Value} {v : Value} (h : Blk W b vs) (hi : vs[i]? = some v) : W.cell? ⟨b, i, none⟩ = some v := by
  obtain ⟨t, e⟩ := h.heap
  simp [World.cell?, e, hi]
theorem Blk.free {W : World} {b : Nat} {vs : Array Value} (h : Blk W b vs) (i : Nat) : W.frozen? ⟨b, i, none⟩ = false := by
  obtain ⟨t, e⟩ := h.heap
  simp [World.frozen?, e]
theorem Blk.lt {W : World} {b : Nat} {vs : Array Value} (h : Blk W b vs) : b < W.heap.size := by
  obtain ⟨t, e⟩ := h.heap
  exact (Array.getElem?_eq_some_iff.1 e).1
theorem Blk.block {W W' : World} {b : Nat} {vs : Array Value} (h : Blk W b vs) (e : W'.heap[b]? = W.heap[b]?) : Blk W' b vs := by
  obtain ⟨t, k⟩ := h.heap
  exact ⟨t, e.trans k⟩
theorem Blk.below {B : Nat} {W W' : World} {b : Nat} {vs : Array Value} (h : Blk W b vs) (hb : Below B W W') (hB : b < B) : Blk W' b vs := h.block (hb.block b hB)
theorem Blk.call {W W' : World} {b : Nat} {vs : Array Value} (h : Blk W b vs) (hb : Below W.heap.size W W') : Blk W' b vs := h.below hb h.lt
theorem Blk.alloc {W : World} {b : Nat} {vs : Array Value} (h : Blk W b vs) (o : Obj) : Blk (W.alloc o) b vs := h.call ((Below.refl _ _).alloc (Nat.le_refl _) _)
theorem Blk.drew {W : World} {b : Nat} {vs : Array Value} (h : Blk W b vs) : Blk W.drew b vs := h.block rfl
theorem Blk.put {W : World} {b l : Nat} {vs : Array Value} (h : Blk W b vs) (o : Obj) (hl : b ≠ l) : Blk (W.putObj l o) b vs := h.block (World.putObj_heap_other hl)
theorem Blk.other {W : World} {b : Nat} {vs : Array Value} {p : Addr} (h : Blk W b vs) (hp : b ≠ p.block) (u : Value) : Blk (W.setCell p u) b vs := h.block (Below.heap_setCell _ _ _ _ hp)
theorem Blk.new (W : World) (vs : Array Value) (t : TypeId) : Blk (W.alloc (.cells vs t)) W.heap.size vs := ⟨t, World.alloc_heap_new _ _⟩
theorem Blk.newAt {W : World} {vs : Array Value} {t : TypeId} {b : Nat} (h : W.heap.size = b) : Blk (W.alloc (.cells vs t)) b vs := h ▸ Blk.new W vs t
theorem Blk.set {W : World} {b : Nat} {vs : Array Value} (h : Blk W b vs) (i : Nat) (u : Value) : Blk (W.setCell ⟨b, i, none⟩ u) b (vs.setIfInBounds i u) := by
  obtain ⟨t, e⟩ := h.heap
  have hlt := h.lt
  have h' : W.heap[b] = .cells vs t (0, 0) := by simpa [Array.getElem?_eq_getElem hlt] using e
  refine ⟨t, ?_⟩
  show (W.heap.modify b _)[b]? = _
  rw [Array.getElem?_eq_getElem (by simpa using hlt), Array.getElem_modify_self, h']
  rfl
theorem Blk.local (vs : Array Value) : ∀ (w w' : World) (b : Nat), w'.heap[b]? = w.heap[b]? → Blk w b vs → Blk w' b vs := fun _ _ _ e h => h.block e
end Go.Proofs.Ytacnaencmbnjpaa
