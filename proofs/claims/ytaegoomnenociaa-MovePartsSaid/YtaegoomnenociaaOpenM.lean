/- A Move among a law's arguments: opened. -/
import Derived.Test.YtaegoomnenociaaAgain
import Derived.Test.YtaegoomnenociaaMovA
namespace Go.Proofs.Ytaegoomnenociaa
open Go.RowKit Go.ChangeShapes Go.WideShapes Go.Deep Go.Joins

def IsI (z : Int) : Prop := -9223372036854775808 ≤ z ∧ z ≤ 9223372036854775807
set_option maxRecDepth 100000
section
variable {H : Type} {enc : TypeId × Value → H} {W : World} {base : Nat}
theorem openMov {v : Value} {d : DataW H} {p : List MemPlace} (hv : Value.okWide Try.prog W .any base 23 v) (h : DataW.Trod enc Try.prog W 0 (fun _ => true) true 23 v d p) :
    ∃ m : Mov, v = movV m ∧ IsI m.n ∧ IsI m.last ∧ IsI m.sum := by
  have s_tint : (Try.prog).cellsOf 3 = 1 := by kernel_rfl
  have sT : (Try.prog).cellsOf 23 = 3 := by kernel_rfl
  obtain ⟨cs, rfl, hsz⟩ := okWide_struct Try.underlying23 hv
  rw [sT] at hsz
  obtain ⟨cs⟩ := cs
  have hcl : cs.length = 3 := hsz
  match cs, hcl with
  | [v0, v1, v2], _ =>
    obtain ⟨fuel, hf0⟩ := h
    obtain ⟨ys, n', _, _, _, hyl, hf1⟩ := DataW.trod_struct Try.underlying23 hf0
    have hy : ys.length = 3 := hyl
    have hf : ∀ (i : Nat) (f : Field), _ → DataW.trod enc Try.prog W 0 (fun _ => true) true n' f.type (([v0, v1, v2].drop f.offset).take ((Try.prog).cellsOf f.type)) = ys[i]? := fun i f hi => by simpa [Value.cells] using hf1 i f hi
    have h0 : DataW.trod enc Try.prog W 0 (fun _ => true) true n' 3 (([v0, v1, v2].drop 0).take ((Try.prog).cellsOf 3)) = ys[0]? := hf 0 _ rfl
    rw [s_tint, List.getElem?_eq_getElem (by omega)] at h0
    obtain ⟨x0, e0, -, w0⟩ := DataW.trod_int Try.underlying3 h0
    injection e0 with e0 _
    have v0e := e0
    clear e0
    have h1 : DataW.trod enc Try.prog W 0 (fun _ => true) true n' 3 (([v0, v1, v2].drop 1).take ((Try.prog).cellsOf 3)) = ys[1]? := hf 1 _ rfl
    rw [s_tint, List.getElem?_eq_getElem (by omega)] at h1
    obtain ⟨x1, e1, -, w1⟩ := DataW.trod_int Try.underlying3 h1
    injection e1 with e1 _
    have v1e := e1
    clear e1
    have h2 : DataW.trod enc Try.prog W 0 (fun _ => true) true n' 3 (([v0, v1, v2].drop 2).take ((Try.prog).cellsOf 3)) = ys[2]? := hf 2 _ rfl
    rw [s_tint, List.getElem?_eq_getElem (by omega)] at h2
    obtain ⟨x2, e2, -, w2⟩ := DataW.trod_int Try.underlying3 h2
    injection e2 with e2 _
    have v2e := e2
    clear e2
    obtain ⟨nb0, nb1⟩ := bounds_i64 w0
    obtain ⟨zb0, zb1⟩ := bounds_i64 w1
    obtain ⟨sb0, sb1⟩ := bounds_i64 w2
    subst v0e v1e v2e
    exact ⟨⟨x0, x1, x2⟩, rfl, ⟨nb0, nb1⟩, ⟨zb0, zb1⟩, ⟨sb0, sb1⟩⟩
end
end Go.Proofs.Ytaegoomnenociaa
