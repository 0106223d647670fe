/- A wide number in a block of a call's own, and what leaves it as it is; Add, Times and Less where nothing goes round. -/
import Derived.Test.YtjnebbjjabnipaaGen
import Derived.Test.YtjnebbjjabnipaaWAdd
import Derived.Test.YtjnebbjjabnipaaWTimes
import Derived.Test.YtjnebbjjabnipaaNum
namespace Go.Proofs.Ytjnebbjjabnipaa
open Go.RowKit

/-- A wide number in a block. -/
def Holds (W : World) (b n : Nat) : Prop := W.cell? ⟨b, 0, none⟩ = some (.int .u64 (hi n : Nat)) ∧ W.cell? ⟨b, 1, none⟩ = some (.int .u64 (lo n : Nat))
/-- wide.Times where the product fits. -/
theorem times_fit (x y : Nat) (hx : x < M128) (hy : y < M128) (h : x * y < M128) (w : World) :
    Calls Try.prog 53 #[.agg #[.int .u64 (hi x : Nat), .int .u64 (lo x : Nat)], .agg #[.int .u64 (hi y : Nat), .int .u64 (lo y : Nat)]] w fun e w' => e = .returned (.tuple #[.agg #[.int .u64 (hi (x * y) : Nat), .int .u64 (lo (x * y) : Nat)], .bool false]) ∧ Below w.heap.size w w' := by
  have := times_num x y hx hy w
  rw [mulW_fit _ _ h, mulO_fit _ _ h] at this
  exact this
theorem add_fit (x y : Nat) (h : x + y < M128) (w : World) :
    Calls Try.prog 54 #[.agg #[.int .u64 (hi x : Nat), .int .u64 (lo x : Nat)], .agg #[.int .u64 (hi y : Nat), .int .u64 (lo y : Nat)]] w fun e w' => e = .returned (.tuple #[.agg #[.int .u64 (hi (x + y) : Nat), .int .u64 (lo (x + y) : Nat)], .bool false]) ∧ Below w.heap.size w w' := by
  have := add_num x y w
  rw [addW_fit _ _ h, addO_fit _ _ h] at this
  exact this
theorem less_yes (x y : Nat) (hx : x < M128) (hy : y < M128) (h : x < y) (w : World) :
    Calls Try.prog 55 #[.agg #[.int .u64 (hi x : Nat), .int .u64 (lo x : Nat)], .agg #[.int .u64 (hi y : Nat), .int .u64 (lo y : Nat)]] w fun e w' => e = .returned (.bool true) ∧ Below w.heap.size w w' := by
  have := less_num x y hx hy w
  rw [show ltW x y = true from decide_eq_true h] at this
  exact this

/-- A wide number in a block that may be written. -/
structure Box (W : World) (b n : Nat) : Prop where
  c0 : W.cell? ⟨b, 0, none⟩ = some (.int .u64 (hi n : Nat))
  c1 : W.cell? ⟨b, 1, none⟩ = some (.int .u64 (lo n : Nat))
  f0 : W.frozen? ⟨b, 0, none⟩ = false
  f1 : W.frozen? ⟨b, 1, none⟩ = false
theorem Box.holds {W : World} {b n : Nat} (h : Box W b n) : Holds W b n := ⟨h.c0, h.c1⟩
theorem Box.lt {W : World} {b n : Nat} (h : Box W b n) : b < W.heap.size := lt_of_cell h.c0
theorem Box.block {W W' : World} {b n : Nat} (h : Box W b n) (e : W'.heap[b]? = W.heap[b]?) : Box W' b n :=
  ⟨(World.cell?_of_block (w := W) e).trans h.c0, (World.cell?_of_block (w := W) e).trans h.c1, (World.frozen?_of_block (w := W) e).trans h.f0, (World.frozen?_of_block (w := W) e).trans h.f1⟩
theorem Box.below {B : Nat} {W W' : World} {b n : Nat} (h : Box W b n) (hb : Below B W W') (hB : b < B) : Box W' b n := h.block (hb.block b hB)
theorem Box.call {W W' : World} {b n : Nat} (h : Box W b n) (hb : Below W.heap.size W W') : Box W' b n := h.below hb h.lt
theorem Box.alloc {W : World} {b n : Nat} (h : Box W b n) (o : Obj) : Box (W.alloc o) b n := h.call ((Below.refl _ _).alloc (Nat.le_refl _) _)
theorem Box.new (W : World) (n : Nat) (t : TypeId) : Box (W.alloc (.cells #[.int .u64 (hi n : Nat), .int .u64 (lo n : Nat)] t)) W.heap.size n :=
  ⟨by simp [go_sem], by simp [go_sem], by simp [go_sem], by simp [go_sem]⟩
theorem Box.new0 (W : World) (t : TypeId) : Box (W.alloc (.cells #[.int .u64 0, .int .u64 0] t)) W.heap.size 0 := Box.new W 0 t
theorem Box.newAt {W : World} {n : Nat} {t : TypeId} {b : Nat} (h : W.heap.size = b) : Box (W.alloc (.cells #[.int .u64 (hi n : Nat), .int .u64 (lo n : Nat)] t)) b n := h ▸ Box.new W n t
theorem Box.new0At {W : World} {t : TypeId} {b : Nat} (h : W.heap.size = b) : Box (W.alloc (.cells #[.int .u64 0, .int .u64 0] t)) b 0 := h ▸ Box.new0 W t
theorem Box.put {W : World} {b n l : Nat} (h : Box W b n) (o : Obj) (hl : b ≠ l) : Box (W.putObj l o) b n := h.block (World.putObj_heap_other hl)
theorem Box.other {W : World} {b n : Nat} {p : Addr} (h : Box W b n) (hp : b ≠ p.block) (u : Value) : Box (W.setCell p u) b n := h.block (Below.heap_setCell _ _ _ _ hp)
theorem Box.drew {W : World} {b n : Nat} (h : Box W b n) : Box W.drew b n := h.block rfl
/-- Both words written. -/
theorem Box.set {W : World} {b n : Nat} (h : Box W b n) (m : Nat) : Box ((W.setCell ⟨b, 0, none⟩ (.int .u64 (hi m : Nat))).setCell ⟨b, 1, none⟩ (.int .u64 (lo m : Nat))) b m := by
  obtain ⟨c0, c1, f0, f1⟩ := h
  exact ⟨by simp [go_sem, *], by simp [go_sem, *], by simp [go_sem, *], by simp [go_sem, *]⟩
theorem alloc_other {W : World} {o o' : Obj} {b : Nat} (h : b ≠ W.heap.size) : (W.alloc o').heap[b]? = (W.alloc o).heap[b]? := by
  rcases Nat.lt_or_ge b W.heap.size with c | c
  · rw [Below.heap_alloc _ _ _ c, Below.heap_alloc _ _ _ c]
  · rw [Array.getElem?_eq_none (by simp; omega), Array.getElem?_eq_none (by simp; omega)]
/-- The newest block laid with another content. -/
theorem Box.swap {W : World} {b n : Nat} {o : Obj} (o' : Obj) (h : Box (W.alloc o) b n) (hb : b ≠ W.heap.size) : Box (W.alloc o') b n := h.block (alloc_other hb)
theorem Below.swap {B : Nat} {w W : World} {o : Obj} (o' : Obj) (h : Below B w (W.alloc o)) (hb : B ≤ W.heap.size) : Below B w (W.alloc o') :=
  ⟨h.os, h.tape, h.output, by have := h.size; simp at this ⊢; exact this, fun k hk => (alloc_other (by omega)).trans (h.block k hk)⟩
/-- Its one object alone was written, besides new ones. -/
structure But (g k : Nat) (w0 W : World) : Prop where
  os : W.os = w0.os
  tape : W.tape = w0.tape
  output : W.output = w0.output
  size : w0.heap.size ≤ W.heap.size
  block : ∀ j, j < w0.heap.size → j ≠ g → j ≠ k → W.heap[j]? = w0.heap[j]?
theorem But.refl (g k : Nat) (w : World) : But g k w w := ⟨rfl, rfl, rfl, Nat.le_refl _, fun _ _ _ _ => rfl⟩
theorem But.step {g k : Nat} {w0 A B : World} (h : But g k w0 A) (hb : Below w0.heap.size A B) : But g k w0 B :=
  ⟨hb.os.trans h.os, hb.tape.trans h.tape, hb.output.trans h.output, Nat.le_trans h.size hb.size, fun j h1 h2 h3 => (hb.block j h1).trans (h.block j h1 h2 h3)⟩
theorem But.call {g k : Nat} {w0 A B : World} (h : But g k w0 A) (hb : Below A.heap.size A B) : But g k w0 B := h.step (hb.mono h.size)
theorem But.set {g k : Nat} {w0 A : World} (h : But g k w0 A) {p : Addr} (hp : p.block = g ∨ p.block = k) (u : Value) : But g k w0 (A.setCell p u) :=
  ⟨h.os, h.tape, h.output, by simpa [World.setCell] using h.size, fun j h1 h2 h3 => (Below.heap_setCell _ _ _ _ (by rcases hp with e | e <;> rw [e] <;> assumption)).trans (h.block j h1 h2 h3)⟩
theorem But.below {g k B : Nat} {w0 W : World} (h : But g k w0 W) (h1 : B ≤ w0.heap.size) (h2 : B ≤ g) (h3 : B ≤ k) : Below B w0 W :=
  ⟨h.os, h.tape, h.output, h.size, fun j hj => h.block j (by omega) (by omega) (by omega)⟩
theorem But.box {g k j n : Nat} {w0 W : World} (h : But g k w0 W) (hb : Box w0 j n) (h1 : j ≠ g) (h2 : j ≠ k) : Box W j n := hb.block (h.block j hb.lt h1 h2)
theorem box_ne2 (b : Nat) (h : b ≠ 0) : (((hi b : Int) == 0) = false) ∨ (((hi b : Int) == 0) = true ∧ ((lo b : Int) == 0) = false) := by
  have e := vw_hi_lo b
  unfold vw at e
  by_cases c : hi b = 0
  · have : lo b ≠ 0 := by intro d; rw [c, d] at e; omega
    exact .inr ⟨by simp [c], by simp; omega⟩
  · exact .inl (by simp; omega)
end Go.Proofs.Ytjnebbjjabnipaa
