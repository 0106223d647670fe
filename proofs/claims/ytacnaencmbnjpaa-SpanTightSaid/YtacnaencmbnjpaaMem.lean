/- All blocks of a walk in one word: what each holds, that no two are one, and that what lay before lies as it lay. -/
import Derived.Test.YtacnaencmbnjpaaBlk
namespace Go.Proofs.Ytacnaencmbnjpaa
open Go.RowKit

structure Mem (w W : World) (l : List (Nat × Array Value)) : Prop where
  blk : ∀ e ∈ l, Blk W e.1 e.2
  low : Below w.heap.size w W
  ge : ∀ e ∈ l, w.heap.size ≤ e.1
  ne : l.Pairwise (fun e f => e.1 ≠ f.1)
theorem Mem.start (w : World) : Mem w w [] := ⟨fun _ h => (by cases h), Below.refl _ _, fun _ h => (by cases h), .nil⟩
theorem Mem.lts {w W : World} {l : List (Nat × Array Value)} (h : Mem w W l) : ∀ e ∈ l, e.1 < W.heap.size := fun e he => (h.blk e he).lt
theorem Mem.step {w W W' : World} {l : List (Nat × Array Value)} {B : Nat} (h : Mem w W l) (hb : Below B W W') (hB : ∀ e ∈ l, e.1 < B) (hl : w.heap.size ≤ B) : Mem w W' l :=
  ⟨fun e he => (h.blk e he).below hb (hB e he), h.low.trans (hb.mono hl), h.ge, h.ne⟩
theorem Mem.call {w W W' : World} {l : List (Nat × Array Value)} (h : Mem w W l) (hb : Below W.heap.size W W') : Mem w W' l := h.step hb h.lts h.low.size
theorem Mem.alloc {w W : World} {l : List (Nat × Array Value)} (h : Mem w W l) (o : Obj) : Mem w (W.alloc o) l := h.call ((Below.refl _ _).alloc (Nat.le_refl _) _)
theorem Mem.drew {w W : World} {l : List (Nat × Array Value)} (h : Mem w W l) : Mem w W.drew l := h.call ((Below.refl _ _).drew)
theorem Mem.new {w W : World} {l : List (Nat × Array Value)} (h : Mem w W l) (b : Nat) (vs : Array Value) (t : TypeId) (hb : W.heap.size = b) : Mem w (W.alloc (.cells vs t)) ((b, vs) :: l) := by
  have h' := h.alloc (.cells vs t)
  have hl := h.lts
  have hs := h.low.size
  subst hb
  refine ⟨fun e he => ?_, h'.low, fun e he => ?_, List.pairwise_cons.2 ⟨fun e he => Nat.ne_of_gt (hl e he), h.ne⟩⟩
  · rcases List.mem_cons.1 he with rfl | he
    · exact Blk.new _ _ _
    · exact h'.blk e he
  · rcases List.mem_cons.1 he with rfl | he
    · exact hs
    · exact h.ge e he
theorem Mem.mem {l : List (Nat × Array Value)} {k : Nat} {e : Nat × Array Value} (hk : l[k]? = some e) : e ∈ l := List.mem_of_getElem? hk
theorem Mem.at {w W : World} {l : List (Nat × Array Value)} (h : Mem w W l) (k : Nat) {b : Nat} {vs : Array Value} (hk : l[k]? = some (b, vs)) : Blk W b vs := h.blk _ (Mem.mem hk)
theorem Mem.cell {w W : World} {l : List (Nat × Array Value)} (h : Mem w W l) (k : Nat) {b i : Nat} {vs : Array Value} {v : Value} (hk : l[k]? = some (b, vs)) (hi : vs[i]? = some v) : W.cell? ⟨b, i, none⟩ = some v := (h.at k hk).cell hi
theorem Mem.free {w W : World} {l : List (Nat × Array Value)} (h : Mem w W l) (k : Nat) {b : Nat} {vs : Array Value} (hk : l[k]? = some (b, vs)) (i : Nat) : W.frozen? ⟨b, i, none⟩ = false := (h.at k hk).free i
theorem Mem.lt {w W : World} {l : List (Nat × Array Value)} (h : Mem w W l) (k : Nat) {b : Nat} {vs : Array Value} (hk : l[k]? = some (b, vs)) : b < W.heap.size := (h.at k hk).lt
theorem Mem.apart {w W : World} {l : List (Nat × Array Value)} (h : Mem w W l) (j k : Nat) {b c : Nat} {us vs : Array Value} (hj : l[j]? = some (b, us)) (hk : l[k]? = some (c, vs)) (hjk : j ≠ k) : b ≠ c := by
  have p := List.pairwise_iff_getElem.1 h.ne
  obtain ⟨h1, e1⟩ := List.getElem?_eq_some_iff.1 hj
  obtain ⟨h2, e2⟩ := List.getElem?_eq_some_iff.1 hk
  rcases Nat.lt_or_gt_of_ne hjk with c | c
  · have := p j k h1 h2 c; rw [e1, e2] at this; exact this
  · have := p k j h2 h1 c; rw [e1, e2] at this; exact Ne.symm this
theorem Mem.set {w W : World} {l : List (Nat × Array Value)} (h : Mem w W l) (k i : Nat) (v : Value) {b : Nat} {vs : Array Value} (hk : l[k]? = some (b, vs)) : Mem w (W.setCell ⟨b, i, none⟩ v) (l.set k (b, vs.setIfInBounds i v)) := by
  obtain ⟨hlt, hbe⟩ := List.getElem?_eq_some_iff.1 hk
  have hge : w.heap.size ≤ b := h.ge _ (Mem.mem hk)
  refine ⟨fun e he => ?_, h.low.setCell (p := ⟨b, i, none⟩) hge v, fun e he => ?_, ?_⟩
  · obtain ⟨j, hj, rfl⟩ := List.mem_iff_getElem.1 he
    rw [List.length_set] at hj
    rw [List.getElem_set]
    split
    · exact (h.at k hk).set i v
    · rename_i hne
      refine (h.blk _ (List.getElem_mem hj)).other (p := ⟨b, i, none⟩) ?_ v
      exact h.apart j k (List.getElem?_eq_getElem hj) hk (Ne.symm hne)
  · rcases List.mem_or_eq_of_mem_set he with he | rfl
    · exact h.ge e he
    · exact hge
  · refine List.pairwise_iff_getElem.2 fun i' j' h1 h2 hij => ?_
    rw [List.length_set] at h1 h2
    have p := List.pairwise_iff_getElem.1 h.ne i' j' h1 h2 hij
    rw [List.getElem_set, List.getElem_set]
    split
    · rename_i e1; subst e1
      split
      · omega
      · simpa [hbe] using p
    · split
      · rename_i e2; subst e2; simpa [hbe] using p
      · exact p
theorem Mem.drop {w W : World} {l : List (Nat × Array Value)} {e : Nat × Array Value} (h : Mem w W (e :: l)) : Mem w W l :=
  ⟨fun f hf => h.blk f (List.mem_cons_of_mem _ hf), h.low, fun f hf => h.ge f (List.mem_cons_of_mem _ hf), (List.pairwise_cons.1 h.ne).2⟩
/-- A block that a region made, known behind it. -/
theorem Mem.join {w W : World} {l : List (Nat × Array Value)} (h : Mem w W l) {B b : Nat} {vs : Array Value} (hb : Blk W b vs) (hB : B ≤ b) (hlt : ∀ e ∈ l, e.1 < B) (hl : w.heap.size ≤ B) : Mem w W ((b, vs) :: l) := by
  refine ⟨fun e he => ?_, h.low, fun e he => ?_, List.pairwise_cons.2 ⟨fun e he => ?_, h.ne⟩⟩
  · rcases List.mem_cons.1 he with rfl | he
    · exact hb
    · exact h.blk e he
  · rcases List.mem_cons.1 he with rfl | he
    · exact Nat.le_trans hl hB
    · exact h.ge e he
  · have := hlt e he; simp; omega
theorem Mem.join2 {w W : World} {l : List (Nat × Array Value)} (h : Mem w W l) {B b c : Nat} {us vs : Array Value} (hb : Blk W b us) (hB : B ≤ b) (hc : Blk W c vs) (hC : B ≤ c) (hbc : b ≠ c) (hlt : ∀ e ∈ l, e.1 < B) (hl : w.heap.size ≤ B) : Mem w W ((c, vs) :: (b, us) :: l) := by
  have h' := h.join hb hB hlt hl
  refine ⟨fun e he => ?_, h.low, fun e he => ?_, List.pairwise_cons.2 ⟨fun e he => ?_, h'.ne⟩⟩
  · rcases List.mem_cons.1 he with rfl | he
    · exact hc
    · exact h'.blk e he
  · rcases List.mem_cons.1 he with rfl | he
    · exact Nat.le_trans hl hC
    · exact h'.ge e he
  · rcases List.mem_cons.1 he with rfl | he
    · exact Ne.symm hbc
    · have := hlt e he; simp; omega
theorem Mem.to {w W : World} {l l' : List (Nat × Array Value)} (h : Mem w W l) (e : l = l') : Mem w W l' := e ▸ h
end Go.Proofs.Ytacnaencmbnjpaa
