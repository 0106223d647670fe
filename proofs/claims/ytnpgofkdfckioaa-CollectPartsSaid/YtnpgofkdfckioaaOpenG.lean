/- A group among a law's arguments: opened; and any argument read again. -/
import Derived.Test.YtnpgofkdfckioaaInts
import Derived.Test.YtnpgofkdfckioaaFrame
import Derived.Carry
import Derived.Deep.Slices
import Derived.Deep.Fields
import Derived.ChangeMaps5
import Derived.Lib.SmallJoins
namespace Go.Proofs.Ytnpgofkdfckioaa
open Go.RowKit Go.ChangeShapes Go.WideShapes Go.Deep Go.Joins

set_option maxRecDepth 100000
theorem cellsGrp : (Try.prog).cellsOf 24 = 4 := by kernel_rfl
theorem laidOut : laidOutB Try.prog = true := by kernel_rfl
/-- Any argument reads behind the call as it read before. -/
theorem again {H : Type} {enc : TypeId × Value → H} {t : TypeId} (hr : (Try.prog).readableRec t = true) (hrow : t < (Try.prog).types.size) {W W' : World} {v : Value} {d : DataW H} {ps : List MemPlace}
    (h : DataW.Trod enc Try.prog W 0 (fun _ => true) true t v d ps) (hb : Below W.heap.size W W') (hlt : ∀ x ∈ ps, x.block < W.heap.size) :
    DataW.Trod enc Try.prog W' 0 (fun b => decide (b < W.heap.size)) true t v d ps := Below.trod laidOut hr hrow h hb hlt
section
variable {H : Type} {enc : TypeId × Value → H} {W : World} {base : Nat}
theorem ints_of {m : Nat} {c : Value} {y : DataW H × List MemPlace} (h : DataW.trod enc Try.prog W 0 (fun _ => true) true m 22 [c] = some y) : ∃ zs : List Int, ReadsI W c zs := by
  have hc1 : (Try.prog).cellsOf 3 = 1 := by kernel_rfl
  rcases open_ints Try.underlying22 Try.underlying3 hc1 h with ⟨hcs, _⟩ | ⟨a, len, cap, zs, hcs, _, hl, hm, hlen, _, hcell, _⟩
  · injection hcs with hcs _
    subst hcs
    exact ⟨[], none, 0, rfl, Nat.le_refl _, Nat.zero_le _, fun i hi => absurd hi (Nat.not_lt_zero _)⟩
  · injection hcs with hcs _
    subst hcs
    have hzc : zs.length = cap := by simpa using hlen
    have hle : (zs.take len).length = len := by rw [List.length_take]; omega
    have hget : ∀ i, i < len → (zs.take len).getD i 0 = zs.getD i 0 := fun i hi => by
      rw [List.getD_eq_getElem?_getD, List.getD_eq_getElem?_getD, List.getElem?_take_of_lt hi]
    refine ⟨zs.take len, some a, cap, by rw [hle], by omega, hm, fun i hi => ?_⟩
    have hcl := hcell i (by omega)
    have h0 := hcell 0 (by omega)
    have hsp : a.spot = none := World.cell?_spot (by rw [show a.add 0 = a from rfl] at h0; exact h0)
    have hlt : a.block < W.heap.size := World.block_lt_of_cell? W a (by rw [show a.add 0 = a from rfl] at h0; exact h0)
    obtain ⟨b, off, sp⟩ := a
    obtain rfl : sp = none := hsp
    refine ⟨b, off, rfl, hlt, ?_⟩
    have e : (⟨b, off, none⟩ : Addr).add i = ⟨b, off + i, none⟩ := by unfold Addr.add; split <;> simp_all
    rw [e] at hcl
    rw [hcl, hget i (by omega)]
theorem openGroup {v : Value} {d : DataW H} {p : List MemPlace} (hv : Value.okWide Try.prog W .any base 24 v) (h : DataW.Trod enc Try.prog W 0 (fun _ => true) true 24 v d p) :
    ∃ (s lo hi : Int) (u : Value) (xs : List Int), v = .agg #[.int .i64 s, .int .i64 lo, .int .i64 hi, u] ∧ ReadsI W u xs := by
  obtain ⟨c0, c1, c2, c3, y0, y1, y2, y3, m, rfl, -, -, h0, h1, h2, h3⟩ := open_agg4 Try.underlying24 (by kernel_rfl) cellsGrp hv h
  obtain ⟨s, e0, -, -⟩ := DataW.trod_int Try.underlying3 h0
  obtain ⟨lo, e1, -, -⟩ := DataW.trod_int Try.underlying3 h1
  obtain ⟨hi, e2, -, -⟩ := DataW.trod_int Try.underlying3 h2
  injection e0 with e0 _
  injection e1 with e1 _
  injection e2 with e2 _
  subst e0 e1 e2
  obtain ⟨zs, hz⟩ := ints_of h3
  exact ⟨s, lo, hi, c3, zs, rfl, hz⟩
end
end Go.Proofs.Ytnpgofkdfckioaa
