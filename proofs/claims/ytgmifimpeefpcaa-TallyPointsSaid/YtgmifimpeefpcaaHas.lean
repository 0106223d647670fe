/- A block of a call's own, known whole by the list of its cells: what a load, a store (of one cell, of many), an alloc and a call leave of it. -/
import Derived.Test.YtgmifimpeefpcaaGen
import Derived.Deep.MidRow
namespace Go.Proofs.Ytgmifimpeefpcaa
open Go.RowKit

/-! ### A block of cells -/
def Has (w : World) (b : Nat) (cs : List Value) (T : TypeId) : Prop := w.heap[b]? = some (.cells cs.toArray T (0, 0))
theorem Has.lt {w : World} {b : Nat} {cs : List Value} {T : TypeId} (h : Has w b cs T) : b < w.heap.size := (Array.getElem?_eq_some_iff.1 h).1
theorem Has.cell {w : World} {b : Nat} {cs : List Value} {T : TypeId} (h : Has w b cs T) (i : Nat) : w.cell? ⟨b, i, none⟩ = cs[i]? := by
  have h' : w.heap[b]? = _ := h
  simp [World.cell?, h']
theorem Has.frozen {w : World} {b : Nat} {cs : List Value} {T : TypeId} (h : Has w b cs T) (i : Nat) : w.frozen? ⟨b, i, none⟩ = false := by
  have h' : w.heap[b]? = _ := h
  simp [World.frozen?, h']
theorem Has.of {w w' : World} {b : Nat} {cs : List Value} {T : TypeId} (h : Has w b cs T) (e : w'.heap[b]? = w.heap[b]?) : Has w' b cs T := e.trans h
theorem Has.below {w w' : World} {b B : Nat} {cs : List Value} {T : TypeId} (h : Has w b cs T) (hb : Below B w w') (hB : b < B) : Has w' b cs T := h.of (hb.block b hB)
theorem Has.call {w w' : World} {b : Nat} {cs : List Value} {T : TypeId} (h : Has w b cs T) (hb : Below w.heap.size w w') : Has w' b cs T := h.below hb h.lt
theorem Has.new (w : World) (cs : List Value) (T : TypeId) : Has (w.alloc (.cells cs.toArray T)) w.heap.size cs T := heap_alloc_new w _
theorem Has.alloc {w : World} {b : Nat} {cs : List Value} {T : TypeId} (h : Has w b cs T) (o : Obj) : Has (w.alloc o) b cs T := h.call ((Below.refl _ _).alloc (Nat.le_refl _) _)
theorem Has.set {w : World} {b : Nat} {cs : List Value} {T : TypeId} (h : Has w b cs T) (i : Nat) (v : Value) : Has (w.setCell ⟨b, i, none⟩ v) b (cs.set i v) T := by
  have h' : w.heap[b]? = _ := h
  show (w.setCell ⟨b, i, none⟩ v).heap[b]? = _
  simp [World.setCell, Array.getElem?_modify, h']
theorem Has.other {w : World} {b : Nat} {cs : List Value} {T : TypeId} (h : Has w b cs T) {p : Addr} (hp : b ≠ p.block) (v : Value) : Has (w.setCell p v) b cs T := h.of (Below.heap_setCell _ _ _ _ hp)
theorem Has.step {w W w' : World} {b : Nat} {cs : List Value} {T : TypeId} (h : Has w b cs T) (k : Below W.heap.size W w') (e : W.heap = w.heap) : Has w' b cs T :=
  h.of ((k.block b (by rw [e]; exact h.lt)).trans (by rw [e]))
/-- One block alone was written. -/
structure Only (b : Nat) (w w' : World) : Prop where
  os : w'.os = w.os
  tape : w'.tape = w.tape
  output : w'.output = w.output
  size : w'.heap.size = w.heap.size
  block : ∀ k, k ≠ b → w'.heap[k]? = w.heap[k]?
theorem Only.below {b B : Nat} {w w' : World} (h : Only b w w') (hB : B ≤ b) : Below B w w' := ⟨h.os, h.tape, h.output, by rw [h.size]; exact Nat.le_refl _, fun k hk => h.block k (by omega)⟩
theorem Only.has {b k : Nat} {w w' : World} {cs : List Value} {T : TypeId} (h : Only b w w') (hk : k ≠ b) (hh : Has w k cs T) : Has w' k cs T := hh.of (h.block k hk)

theorem sets_other (b : Nat) : ∀ (vs : List Value) (o : Nat) (w : World) (k : Nat), k ≠ b → (w.setCells b o vs).heap[k]? = w.heap[k]?
  | [], _, _, _, _ => rfl
  | v :: r, o, w, k, hk => by
    rw [World.setCells, sets_other b r (o + 1) _ k hk]
    exact Below.heap_setCell _ _ _ _ hk
theorem sets_has (b : Nat) (T : TypeId) : ∀ (vs : List Value) (o : Nat) (w : World) (cs : List Value), Has w b cs T → ∃ cs', cs'.length = cs.length ∧ Has (w.setCells b o vs) b cs' T
  | [], _, _, cs, h => ⟨cs, rfl, h⟩
  | v :: r, o, w, cs, h => by
    obtain ⟨cs', h1, h2⟩ := sets_has b T r (o + 1) _ _ (h.set o v)
    exact ⟨cs', by rw [h1, List.length_set], h2⟩
theorem sets_same (b : Nat) : ∀ (vs : List Value) (o : Nat) (w : World), (w.setCells b o vs).os = w.os ∧ (w.setCells b o vs).tape = w.tape ∧ (w.setCells b o vs).output = w.output ∧ (w.setCells b o vs).heap.size = w.heap.size
  | [], _, _ => ⟨rfl, rfl, rfl, rfl⟩
  | v :: r, o, w => by
    rw [World.setCells]
    obtain ⟨h1, h2, h3, h4⟩ := sets_same b r (o + 1) (w.setCell ⟨b, o, none⟩ v)
    exact ⟨h1, h2, h3, by rw [h4]; simp⟩
/-! ### Whole structs, loaded and stored -/
theorem Has.range {w : World} {b : Nat} {cs : List Value} {T : TypeId} (h : Has w b cs T) : w.rangeAt b 0 cs := fun j v hv => by rw [Nat.zero_add, h.cell, hv]
theorem Has.there {w : World} {b : Nat} {cs : List Value} {T : TypeId} (h : Has w b cs T) : w.there b 0 cs.length := fun j hj => by
  rw [Nat.zero_add, h.cell, List.getElem?_eq_getElem hj]
  exact ⟨rfl, h.frozen j⟩
theorem sets_list (b : Nat) (T : TypeId) : ∀ (vs : List Value) (w : World) (pre post : List Value), post.length = vs.length → Has w b (pre ++ post) T → Has (w.setCells b pre.length vs) b (pre ++ vs) T
  | [], _, _, [], _, h => h
  | v :: r, w, pre, u :: post, hl, h => by
    have h1 := h.set pre.length v
    have e : (pre ++ u :: post).set pre.length v = (pre ++ [v]) ++ post := by
      rw [List.set_append_right _ _ (Nat.le_refl _), Nat.sub_self]
      simp
    rw [e] at h1
    have h2 := sets_list b T r _ (pre ++ [v]) post (by simpa using hl) h1
    rw [List.length_append, List.append_assoc] at h2
    exact h2
/-- The whole block is stored. -/
theorem Has.sets {w : World} {b : Nat} {cs : List Value} {T : TypeId} (h : Has w b cs T) (vs : List Value) (hl : cs.length = vs.length) : Has (w.setCells b 0 vs) b vs T :=
  sets_list b T vs w [] cs hl h
theorem Has.setsO {w : World} {b b' : Nat} {cs : List Value} {T : TypeId} (h : Has w b cs T) (hb : b ≠ b') (o : Nat) (vs : List Value) : Has (w.setCells b' o vs) b cs T := h.of (sets_other b' vs o w b hb)
theorem Below.sets {B b : Nat} {x y : World} (h : Below B x y) (hb : B ≤ b) (o : Nat) (vs : List Value) : Below B x (y.setCells b o vs) := by
  obtain ⟨h1, h2, h3, h4⟩ := sets_same b vs o y
  exact ⟨h1.trans h.os, h2.trans h.tape, h3.trans h.output, by rw [h4]; exact h.size, fun k hk => (sets_other b vs o y k (by omega)).trans (h.block k hk)⟩
theorem Has.mid {w : World} {b : Nat} {T : TypeId} {pre old post : List Value} (h : Has w b (pre ++ old ++ post) T) (vs : List Value) (hl : old.length = vs.length) : Has (w.setCells b pre.length vs) b (pre ++ vs ++ post) T := by
  have : ∀ (vs old : List Value) (w : World) (pre : List Value), old.length = vs.length → Has w b (pre ++ old ++ post) T → Has (w.setCells b pre.length vs) b (pre ++ vs ++ post) T := by
    intro vs
    induction vs with
    | nil => intro old w pre hl h; cases old with | nil => exact h | cons _ _ => cases hl
    | cons v r ih =>
      intro old w pre hl h
      cases old with
      | nil => cases hl
      | cons u old =>
        have h1 := h.set pre.length v
        have e : (pre ++ u :: old ++ post).set pre.length v = (pre ++ [v]) ++ old ++ post := by
          rw [List.append_assoc, List.set_append_right _ _ (Nat.le_refl _), Nat.sub_self]
          simp
        rw [e] at h1
        have h2 := ih old _ (pre ++ [v]) (by simpa using hl) h1
        rw [List.length_append] at h2
        rw [World.setCells]
        simpa using h2
  exact this vs old w pre hl h
/-- So many cells of a block, from an offset on, may be written. -/
theorem Has.midThere {w : World} {b : Nat} {T : TypeId} {cs : List Value} (h : Has w b cs T) (o n : Nat) (hn : o + n ≤ cs.length) : w.there b o n := fun j hj => by
  rw [h.cell, List.getElem?_eq_getElem (by omega)]
  exact ⟨rfl, h.frozen _⟩
/-- A result in a block of its own, and one in a slot. -/
theorem results_cell_tmp {P : Program} {fn : Func} {tmps : Array Value} {w : World} {a e : Nat} {t : TypeId} {ad : Addr} {v : Value} (h : fn.results = #[.cell a t, .tmp e]) (ha : tmps.getD a undef = .pointer (some ad)) (hl : (loadVar t ad).run P w = .ok v w) :
    (results fn tmps).run P w = .ok (.tuple #[v, tmps.getD e undef]) w := by
  have ha' : tmps[a]?.getD undef = .pointer (some ad) := by simpa using ha
  simp [results, h, ha', hl, asAddr]
theorem results_cell_tmp2 {P : Program} {fn : Func} {tmps : Array Value} {w : World} {a e f : Nat} {t : TypeId} {ad : Addr} {v : Value} (h : fn.results = #[.cell a t, .tmp e, .tmp f]) (ha : tmps.getD a undef = .pointer (some ad)) (hl : (loadVar t ad).run P w = .ok v w) :
    (results fn tmps).run P w = .ok (.tuple #[v, tmps.getD e undef, tmps.getD f undef]) w := by
  have ha' : tmps[a]?.getD undef = .pointer (some ad) := by simpa using ha
  simp [results, h, ha', hl, asAddr]
end Go.Proofs.Ytgmifimpeefpcaa
