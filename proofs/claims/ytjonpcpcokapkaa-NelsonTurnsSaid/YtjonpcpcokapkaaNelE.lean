/- The reference's Rule: its numbers, what holds in its loops. -/
import Derived.Test.YtjonpcpcokapkaaNelD
import Derived.Test.YtjonpcpcokapkaaZonC
namespace Go.Proofs.Ytjonpcpcokapkaa
open Go.RowKit

theorem ReadsI.spot {w : World} {ao : Option Addr} {n cap : Nat} {xs : List Int} (h : ReadsI w (.slice ao n cap) xs) {i : Nat} {z : Int} (hz : xs[i]? = some z) :
    ∃ b off, ao = some ⟨b, off, none⟩ ∧ b < w.heap.size ∧ w.cell? ⟨b, off + i, none⟩ = some (.int .i64 z) := by
  obtain ⟨ao', cap', h1, h2, h3, h4⟩ := h
  injection h1 with e1 e2 e3
  subst e1 e3
  have hi : i < xs.length := (List.getElem?_eq_some_iff.1 hz).1
  obtain ⟨b, off, h5, h6, h7⟩ := h4 i hi
  refine ⟨b, off, h5, h6, ?_⟩
  rw [h7, List.getD_eq_getElem?_getD, hz]
  rfl
theorem ReadsI.shape {w : World} {v : Value} {xs : List Int} (h : ReadsI w v xs) : ∃ ao cap, v = .slice ao xs.length cap := by
  obtain ⟨ao, cap, h1, _⟩ := h
  exact ⟨ao, cap, h1⟩
theorem ReadsI.frameS {w w' : World} {v : Value} {xs : List Int} (h : ReadsI w v xs) (hs : w.heap.size ≤ w'.heap.size) (hk : ∀ k, k < w.heap.size → v.ownBlock = some k → w'.heap[k]? = w.heap[k]?) : ReadsI w' v xs := by
  obtain ⟨ao, cap, rfl, h2, h3, h4⟩ := h
  refine ⟨ao, cap, rfl, h2, h3, fun i hi => ?_⟩
  obtain ⟨b, off, rfl, h6, h7⟩ := h4 i hi
  exact ⟨b, off, rfl, Nat.lt_of_lt_of_le h6 hs, (World.cell?_of_block (w := w) (hk b h6 rfl)).trans h7⟩
theorem RowS.shape {B : Nat} {v : Value} {l : List Seen} {w : World} (h : RowS B v l w) : ∃ ao cap, v = .slice ao l.length cap := by
  have h0 : w.ownsRow B 64 4 v l.length (cellsS l) := h
  rcases h0.2 with ⟨h1, h2⟩ | ⟨g, cap, cur, hv, _⟩
  · exact ⟨none, 0, by rw [h1, h2]⟩
  · exact ⟨_, cap, hv⟩
theorem RowS.mono {B B' : Nat} {v : Value} {l : List Seen} {w : World} (h : RowS B v l w) (hB : B' ≤ B) : RowS B' v l w := by
  refine ⟨h.1, ?_⟩
  have h0 : w.ownsRow B 64 4 v l.length (cellsS l) := h
  rcases h0.2 with hn | ⟨g, cap, cur, h3, h4, h5⟩
  · exact .inl hn
  · exact .inr ⟨g, cap, cur, h3, by omega, h5⟩
theorem RowS.zero (w : World) : RowS w.heap.size (.slice (some ⟨w.heap.size, 0, none⟩) 1 1) [seen0] (w.alloc (.cells #[.int .i64 0, .int .i64 0, .int .i64 0, .int .i64 0] 64)) :=
  ⟨rfl, .inr ⟨w.heap.size, 1, _, rfl, Nat.le_refl _, heap_alloc_new w _, Nat.le_refl _, by unfold maxLen; omega, rfl, rfl⟩⟩
/-- However far a round has come, there are few states. -/
theorem inter_few (r i : Nat) (all : List Seen) (hall : ∀ s ∈ all, StB i s) (hi : i + 1 ≤ 15) (m : Int) (j k : Nat) (s : Seen) (hs : s ∈ all) : (innerN r s (midN r m [] (all.take j)) ((classesN m).take k)).length ≤ 2304 := by
  refine states_few hi (nodup_innerN r s _ (nodup_midN r m _ List.nodup_nil)) fun x hx => ?_
  rw [mem_innerN, mem_midN] at hx
  rcases hx with (hx | ⟨t, ht, c, hc, rfl⟩) | ⟨c, hc, rfl⟩
  · cases hx
  · exact nextN_bounds (hall t (List.mem_of_mem_take ht)) (classes_range hc)
  · exact nextN_bounds (hall s hs) (classes_range (List.mem_of_mem_take hc))
theorem all_bounds (r : Nat) (ms : List Int) : ∀ s ∈ allN r [seen0] ms, StB ms.length s := by
  have := allN_bounds r ms 0 [seen0] (fun s hs => by
    obtain rfl : s = seen0 := by simpa using hs
    unfold StB seen0
    dsimp only
    omega)
  rwa [Nat.zero_add] at this
theorem all_nodup (r : Nat) : ∀ (ms : List Int) (all : List Seen), all.Nodup → (allN r all ms).Nodup
  | [], _, h => h
  | m :: ms, all, _ => all_nodup r ms _ (nodup_midN r m all List.nodup_nil)
theorem all_few (r : Nat) (ms : List Int) (h : ms.length ≤ 15) : (allN r [seen0] ms).length ≤ 2304 := states_few h (all_nodup r ms [seen0] (by simp)) (all_bounds r ms)
theorem all_some (r : Nat) {ms : List Int} (h : okM ms) : allN r [seen0] ms ≠ [] := by
  obtain ⟨row, hr⟩ := List.exists_mem_of_ne_nil _ (rowsN_some h)
  exact List.ne_nil_of_mem ((mem_allN r _ ms _).2 ⟨seen0, by simp, row, (mem_rowsN _ _).1 hr, rfl⟩)
/-- What is told by how many hold. -/
theorem tellG_count {α : Type} (H : α → Bool) (R : List α) : tellG H R = if R.countP H = 0 then 0 else if R.countP H < R.length then 1 else 2 := by
  have e1 : (R.any H = false) ↔ R.countP H = 0 := by
    rw [List.countP_eq_zero]
    constructor
    · intro h x hx hh
      have : R.any H = true := List.any_eq_true.2 ⟨x, hx, hh⟩
      rw [h] at this
      cases this
    · intro h
      cases hh : R.any H with
      | false => rfl
      | true =>
        obtain ⟨x, hx, hx2⟩ := List.any_eq_true.1 hh
        exact absurd hx2 (h x hx)
  have e2 : (R.all H = true) ↔ R.countP H = R.length := by
    rw [List.countP_eq_length, List.all_eq_true]
  have e3 : R.countP H ≤ R.length := List.countP_le_length
  unfold tellG
  by_cases c : R.any H = false
  · rw [if_pos c, if_pos (e1.1 c)]
  · rw [if_neg c, if_neg (fun h => c (e1.2 h))]
    by_cases d : R.all H = true
    · rw [if_pos d, if_neg (by rw [e2.1 d]; omega)]
    · rw [if_neg d, if_pos (by have : ¬ R.countP H = R.length := fun h => d (e2.2 h); omega)]
/-! ### What holds in the loops -/
def RulI (r : Nat) (w : World) (l : List Int) (tv : Value) (av iv : Value) (wr : World) : Prop :=
  ∃ i : Nat, i ≤ l.length ∧ iv = .int .i64 (i : Nat) ∧ RowS w.heap.size av (allN r [seen0] (l.take i)) wr ∧ ReadsI wr tv l ∧ Below w.heap.size w wr
def RulJ (r : Nat) (m : Int) (all : List Seen) (W1 : World) (mv jv : Value) (wr : World) : Prop :=
  ∃ j : Nat, j ≤ all.length ∧ jv = .int .i64 (j : Nat) ∧ RowS W1.heap.size mv (midN r m [] (all.take j)) wr ∧ Below W1.heap.size W1 wr
def RulK (r : Nat) (s : Seen) (M0 : List Seen) (cs : List Int) (W1 : World) (cv : Value) (bx : Nat) (mv kv : Value) (wr : World) : Prop :=
  ∃ k : Nat, k ≤ cs.length ∧ kv = .int .i64 (k : Nat) ∧ RowS W1.heap.size mv (innerN r s M0 (cs.take k)) wr ∧ ReadsI wr cv cs ∧ Has wr bx [.int .i64 s.n, .int .i64 s.a, .int .i64 s.b, .int .i64 s.last] 64 ∧ Below W1.heap.size W1 wr ∧
    ∀ b, mv.ownBlock = some b → cv.ownBlock ≠ some b ∧ b ≠ bx
/-- Behind one more class. -/
theorem RulK.step {r : Nat} {s : Seen} {M0 : List Seen} {cs : List Int} {W1 wr w8 w9 : World} {cv mv v' : Value} {bx k : Nat} {c : Int} (hk : k < cs.length) (hc : cs[k]? = some c)
    (h1 : RowS W1.heap.size mv (innerN r s M0 (cs.take k)) wr) (h2 : ReadsI wr cv cs) (h3 : Has wr bx [.int .i64 s.n, .int .i64 s.a, .int .i64 s.b, .int .i64 s.last] 64) (h4 : Below W1.heap.size W1 wr)
    (h5 : ∀ b, mv.ownBlock = some b → cv.ownBlock ≠ some b ∧ b ≠ bx) (k8 : Below wr.heap.size wr w8) (h6 : RowS W1.heap.size v' (addN (innerN r s M0 (cs.take k)) (nextN r s c)) w9) (h7 : Grew w8 w9 mv v') :
    RulK r s M0 cs W1 cv bx v' (.int .i64 ((k : Int) + 1)) w9 := by
  have hown := World.ownsRow.lt h1
  have hsz := k8.size
  have hkeep : ∀ b, b < wr.heap.size → mv.ownBlock ≠ some b → w9.heap[b]? = wr.heap[b]? := fun b hb hne => (h7.grown.block b (by omega) (fun e => hne e.symm)).trans (k8.block b hb)
  refine ⟨k + 1, hk, by first | rfl | go_num, ?_, ?_, ?_, ?_, ?_⟩
  · have e : cs.take (k + 1) = cs.take k ++ [c] := by rw [List.take_add_one, hc]; rfl
    rw [e, innerN_snoc]
    exact h6
  · exact h2.frameS (Nat.le_trans hsz h7.grown.size) fun b hb hv => hkeep b hb fun hm => (h5 b hm).1 hv
  · exact h3.of (hkeep bx h3.lt fun hm => (h5 bx hm).2 rfl)
  · exact (h4.trans (k8.mono h4.size)).trans (h7.below (Nat.le_trans h4.size hsz) fun b hb => (hown b hb).1)
  · intro b hb
    rcases h7.own b hb with h | h
    · exact h5 b h
    · refine ⟨fun hv => ?_, fun e => ?_⟩
      · obtain ⟨ao, cap, rfl, _, _, h9⟩ := h2
        obtain ⟨b', off, rfl, hlt, _⟩ := h9 k hk
        injection hv with hv
        have hv2 : b' = b := hv
        omega
      · have := h3.lt
        omega
end Go.Proofs.Ytjonpcpcokapkaa
