/- Memory of a call that keeps all but one older block as it was. -/
import Derived.Test.YtgmifimpeefpcaaHas
namespace Go.Proofs.Ytgmifimpeefpcaa
open Go.RowKit

/-- Below block N all is as it was, but for block c. -/
structure Kept (c N : Nat) (w w' : World) : Prop where
  os : w'.os = w.os
  tape : w'.tape = w.tape
  output : w'.output = w.output
  size : w.heap.size ≤ w'.heap.size
  block : ∀ k, k < N → k ≠ c → w'.heap[k]? = w.heap[k]?
theorem Kept.refl (c N : Nat) (w : World) : Kept c N w w := ⟨rfl, rfl, rfl, Nat.le_refl _, fun _ _ _ => rfl⟩
theorem Kept.trans {c N : Nat} {x y z : World} (h : Kept c N x y) (k : Kept c N y z) : Kept c N x z :=
  ⟨k.os.trans h.os, k.tape.trans h.tape, k.output.trans h.output, Nat.le_trans h.size k.size, fun i hi hc => (k.block i hi hc).trans (h.block i hi hc)⟩
theorem Kept.mono {c N N' : Nat} {x y : World} (h : Kept c N x y) (hn : N' ≤ N) : Kept c N' x y := ⟨h.os, h.tape, h.output, h.size, fun i hi hc => h.block i (by omega) hc⟩
theorem Kept.of {c N : Nat} {x y : World} (h : Below N x y) : Kept c N x y := ⟨h.os, h.tape, h.output, h.size, fun i hi _ => h.block i hi⟩
theorem Kept.below {c N : Nat} {x y z : World} (h : Kept c N x y) (k : Below y.heap.size y z) (hn : N ≤ y.heap.size) : Kept c N x z := h.trans (Kept.of (k.mono hn))
theorem Kept.alloc {c N : Nat} {x y : World} (h : Kept c N x y) (hn : N ≤ y.heap.size) (o : Obj) : Kept c N x (y.alloc o) := h.trans (Kept.of ((Below.refl N y).alloc hn o))
theorem Kept.only {c N b : Nat} {x y z : World} (h : Kept c N x y) (k : Only b y z) (hb : N ≤ b) : Kept c N x z := h.trans (Kept.of (k.below hb))
theorem Kept.setCell {c N : Nat} {x y : World} (h : Kept c N x y) {p : Addr} (hp : N ≤ p.block) (v : Value) : Kept c N x (y.setCell p v) := h.trans (Kept.of ((Below.refl N y).setCell hp v))
theorem Kept.sets {c N b : Nat} {x y : World} (h : Kept c N x y) (hb : N ≤ b) (o : Nat) (vs : List Value) : Kept c N x (y.setCells b o vs) := h.trans (Kept.of (Below.sets (Below.refl N y) hb o vs))
theorem Kept.has {c N b : Nat} {x y : World} {cs : List Value} {T : TypeId} (h : Kept c N x y) (hh : Has x b cs T) (hb : b < N) (hc : b ≠ c) : Has y b cs T := hh.of (h.block b hb hc)
theorem only_setCell (w : World) (b i : Nat) (v : Value) : Only b w (w.setCell ⟨b, i, none⟩ v) := ⟨rfl, rfl, rfl, by simp, fun k hk => Below.heap_setCell _ _ _ _ hk⟩
/-- The closure's own block behind, all others as they were: what lies below the call is kept. -/
theorem Kept.toBelow {c N : Nat} {x y : World} (h : Kept c N x y) (hc : N ≤ c) : Below N x y := ⟨h.os, h.tape, h.output, h.size, fun k hk => h.block k hk (by omega)⟩
end Go.Proofs.Ytgmifimpeefpcaa
