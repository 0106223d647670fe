/- A slice of tokens, and a token, among a law's arguments: opened; and any argument read again. -/
import Derived.Test.YticgmbhdcegoeaaDoorTokM
import Derived.Test.YticgmbhdcegoeaaDoorFrame
import Derived.Carry
import Derived.Deep.Slices
import Derived.Deep.Fields
import Derived.ChangeMaps5
import Derived.Lib.SmallJoins
namespace Go.Proofs.YticgmbhdcegoeaaDoor
open Go.RowKit Go.ChangeShapes Go.WideShapes Go.Deep Go.Joins
open Go.ChangeMaps (open_string)

set_option maxRecDepth 100000
theorem cellsTok : (Tryd.prog).cellsOf 30 = 4 := by kernel_rfl
theorem laidOut : laidOutB Tryd.prog = true := by kernel_rfl
/-- Any argument reads behind the call as it read before. -/
theorem again {H : Type} {enc : TypeId × Value → H} {t : TypeId} (hr : (Tryd.prog).readableRec t = true) (hrow : t < (Tryd.prog).types.size) {W W' : World} {v : Value} {d : DataW H} {ps : List MemPlace}
    (h : DataW.Trod enc Tryd.prog W 0 (fun _ => true) true t v d ps) (hb : Below W.heap.size W W') (hlt : ∀ x ∈ ps, x.block < W.heap.size) :
    DataW.Trod enc Tryd.prog W' 0 (fun b => decide (b < W.heap.size)) true t v d ps := Below.trod laidOut hr hrow h hb hlt
section
variable {H : Type} {enc : TypeId × Value → H} {W : World} {base : Nat}
/-- One element of the slice. -/
theorem tokElem {n : Nat} {a : Addr} {cs : List Value} {x : DataW H × List MemPlace} (hc : W.cells? 0 a 4 = some cs) (h : DataW.trod enc Tryd.prog W 0 (fun _ => true) true n 30 cs = some x) :
    ∃ t : Tok, t.text.length ≤ 9223372036854775807 ∧ a.spot = none ∧ a.block < W.heap.size ∧ TokAt W a.block a.off t := by
  obtain ⟨_, hcl, hat⟩ := World.cells?_some hc
  obtain ⟨ys, n', _, _, hlen, hyl, hf⟩ := DataW.trod_struct Tryd.underlying30 h
  have hcell : ∀ j, (hj : j < 4) → W.cell? (a.add j) = some (cs[j]'(by omega)) := fun j hj => by rw [hat j hj, List.getElem?_eq_getElem (by omega)]
  have hy4 : ys.length = 4 := hyl
  have c3 : (Tryd.prog).cellsOf 3 = 1 := by kernel_rfl
  have c9 : (Tryd.prog).cellsOf 9 = 1 := by kernel_rfl
  match cs, hcl, hf, hcell with
  | [v0, v1, v2, v3], _, hf, hcell =>
    have h0 : DataW.trod enc Tryd.prog W 0 (fun _ => true) true n' 3 (([v0, v1, v2, v3].drop 0).take ((Tryd.prog).cellsOf 3)) = ys[0]? := hf 0 _ rfl
    have h1 : DataW.trod enc Tryd.prog W 0 (fun _ => true) true n' 9 (([v0, v1, v2, v3].drop 1).take ((Tryd.prog).cellsOf 9)) = ys[1]? := hf 1 _ rfl
    have h2 : DataW.trod enc Tryd.prog W 0 (fun _ => true) true n' 3 (([v0, v1, v2, v3].drop 2).take ((Tryd.prog).cellsOf 3)) = ys[2]? := hf 2 _ rfl
    have h3 : DataW.trod enc Tryd.prog W 0 (fun _ => true) true n' 3 (([v0, v1, v2, v3].drop 3).take ((Tryd.prog).cellsOf 3)) = ys[3]? := hf 3 _ rfl
    rw [c3, List.getElem?_eq_getElem (by omega)] at h0 h2 h3
    rw [c9, List.getElem?_eq_getElem (by omega)] at h1
    obtain ⟨k, e0, -, -⟩ := DataW.trod_int Tryd.underlying3 h0
    obtain ⟨s, e1, -, hs⟩ := DataW.trod_string Tryd.underlying9 h1
    obtain ⟨v, e2, -, -⟩ := DataW.trod_int Tryd.underlying3 h2
    obtain ⟨p, e3, -, -⟩ := DataW.trod_int Tryd.underlying3 h3
    injection e0 with e0 _
    injection e1 with e1 _
    injection e2 with e2 _
    injection e3 with e3 _
    have k0 := hcell 0 (by omega)
    have k1 := hcell 1 (by omega)
    have k2 := hcell 2 (by omega)
    have k3 := hcell 3 (by omega)
    have hsp : a.spot = none := World.cell?_spot (by rw [show a.add 0 = a from rfl] at k0; exact k0)
    have hlt : a.block < W.heap.size := World.block_lt_of_cell? W a (by rw [show a.add 0 = a from rfl] at k0; exact k0)
    obtain ⟨b, off, sp⟩ := a
    obtain rfl : sp = none := hsp
    refine ⟨⟨k, s.data.toList, v, p⟩, ?_, rfl, hlt, ?_, ?_, ?_, ?_⟩
    · have : s.data.toList.length = s.size := Array.length_toList
      unfold maxLen at hs
      show s.data.toList.length ≤ _
      omega
    · exact k0.trans (congrArg some e0)
    · exact k1.trans (congrArg some e1)
    · exact k2.trans (congrArg some e2)
    · exact k3.trans (congrArg some e3)
/-- Elements by elements. -/
theorem toks_of {b off : Nat} (P : Tok → Prop) : ∀ n : Nat, (∀ i, i < n → ∃ t : Tok, P t ∧ TokAt W b (off + i * 4) t) → ∃ l : List Tok, l.length = n ∧ ∀ i, i < n → P (nth l i) ∧ TokAt W b (off + i * 4) (nth l i)
  | 0, _ => ⟨[], rfl, fun i hi => absurd hi (Nat.not_lt_zero _)⟩
  | n + 1, h => by
    obtain ⟨l, hl, hi⟩ := toks_of P n fun i hi => h i (by omega)
    obtain ⟨t, ht1, ht2⟩ := h n (by omega)
    refine ⟨l ++ [t], by rw [List.length_append, hl]; rfl, fun i hlt => ?_⟩
    rcases Nat.lt_or_ge i n with c | c
    · have e : nth (l ++ [t]) i = nth l i := by
        unfold nth
        rw [List.getD_eq_getElem?_getD, List.getD_eq_getElem?_getD, List.getElem?_append_left (by omega)]
      rw [e]
      exact hi i c
    · obtain rfl : i = n := by omega
      have e : nth (l ++ [t]) i = t := by
        unfold nth
        rw [List.getD_eq_getElem?_getD, List.getElem?_append_right (by omega), hl, Nat.sub_self]
        rfl
      rw [e]
      exact ⟨ht1, ht2⟩
theorem openToks {v : Value} {d : DataW H} {p : List MemPlace} (hv : Value.okWide Tryd.prog W .any base 22 v) (h : DataW.Trod enc Tryd.prog W 0 (fun _ => true) true 22 v d p) :
    ∃ l : List Tok, Reads W v l ∧ ∀ i, i < l.length → (nth l i).text.length ≤ 9223372036854775807 := by
  obtain ⟨a0, len, cap, rfl⟩ := okWide_slice Tryd.underlying22 hv
  obtain ⟨fuel, hf⟩ := h
  rcases open_slice Tryd.underlying22 hf with ⟨hcs, _⟩ | ⟨a, len', cap', m, n, D, Pl, hcs, _, hl, hm, hmm, _, hi⟩
  · simp [Value.cells] at hcs
    obtain ⟨rfl, rfl, rfl⟩ := hcs
    exact ⟨[], Reads.nil W, fun i hi => absurd hi (Nat.not_lt_zero _)⟩
  · simp [Value.cells] at hcs
    obtain ⟨rfl, rfl, rfl⟩ := hcs
    have hmc : m = cap := by simpa using hmm
    rw [cellsTok] at hi
    by_cases h0 : len = 0
    · subst h0
      exact ⟨[], ⟨some a, cap, rfl, Nat.zero_le _, hm, fun i hi => absurd hi (Nat.not_lt_zero _)⟩, fun i hi => absurd hi (Nat.not_lt_zero _)⟩
    · obtain ⟨cs0, hc0, hd0⟩ := hi 0 (by omega)
      obtain ⟨_, _, hsp, hlt, _⟩ := tokElem hc0 hd0
      rw [Nat.zero_mul] at hsp hlt
      obtain ⟨b, off, sp⟩ := a
      obtain rfl : sp = none := hsp
      obtain ⟨l, hl1, hl2⟩ := toks_of (W := W) (b := b) (off := off) (fun t => t.text.length ≤ 9223372036854775807) len fun i hil => by
        obtain ⟨cs, hc, hd⟩ := hi i (by omega)
        obtain ⟨t, ht1, _, _, ht2⟩ := tokElem hc hd
        refine ⟨t, ht1, ?_⟩
        have e : (⟨b, off, none⟩ : Addr).add (i * 4) = ⟨b, off + i * 4, none⟩ := by unfold Addr.add; split <;> simp_all
        rw [e] at ht2
        exact ht2
      subst hl1
      exact ⟨l, ⟨_, cap, rfl, hl, hm, fun i hil => ⟨b, off, rfl, hlt, (hl2 i hil).2⟩⟩, fun i hil => (hl2 i hil).1⟩
theorem openTok {v : Value} {d : DataW H} {p : List MemPlace} (hv : Value.okWide Tryd.prog W .any base 30 v) (h : DataW.Trod enc Tryd.prog W 0 (fun _ => true) true 30 v d p) :
    ∃ (k n q : Int) (t : List UInt8), v = .agg #[.int .i64 k, .string (bs t), .int .i64 n, .int .i64 q] ∧ t.length ≤ 9223372036854775807 := by
  obtain ⟨c0, c1, c2, c3, y0, y1, y2, y3, m, rfl, -, -, h0, h1, h2, h3⟩ := open_agg4 Tryd.underlying30 (by kernel_rfl) cellsTok hv h
  obtain ⟨k, e0, -, -⟩ := DataW.trod_int Tryd.underlying3 h0
  obtain ⟨s, e1, -, hs⟩ := DataW.trod_string Tryd.underlying9 h1
  obtain ⟨n, e2, -, -⟩ := DataW.trod_int Tryd.underlying3 h2
  obtain ⟨q, e3, -, -⟩ := DataW.trod_int Tryd.underlying3 h3
  injection e0 with e0 _
  injection e1 with e1 _
  injection e2 with e2 _
  injection e3 with e3 _
  subst e0 e1 e2 e3
  refine ⟨k, n, q, s.data.toList, rfl, ?_⟩
  have : s.data.toList.length = s.size := Array.length_toList
  unfold maxLen at hs
  omega
end
end Go.Proofs.YticgmbhdcegoeaaDoor
