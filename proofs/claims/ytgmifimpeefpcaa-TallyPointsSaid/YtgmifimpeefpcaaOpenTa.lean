/- A tally among a law's arguments: opened. -/
import Derived.Test.YtgmifimpeefpcaaAgain
import Derived.Test.YtgmifimpeefpcaaTalE
namespace Go.Proofs.Ytgmifimpeefpcaa
open Go.RowKit Go.ChangeShapes Go.WideShapes Go.Deep Go.Joins

set_option maxRecDepth 100000
section
variable {H : Type} {enc : TypeId × Value → H} {W : World} {base : Nat}
theorem openTal {v : Value} {d : DataW H} {p : List MemPlace} (hv : Value.okWide Try.prog W .any base 23 v) (h : DataW.Trod enc Try.prog W 0 (fun _ => true) true 23 v d p) :
    ∃ t : Tal, v = talV t ∧ talI t := by
  have s_tint : (Try.prog).cellsOf 3 = 1 := by kernel_rfl
  have sT : (Try.prog).cellsOf 23 = 4 := by kernel_rfl
  obtain ⟨cs, rfl, hsz⟩ := okWide_struct Try.underlying23 hv
  rw [sT] at hsz
  obtain ⟨cs⟩ := cs
  have hcl : cs.length = 4 := hsz
  match cs, hcl with
  | [v0, v1, v2, v3], _ =>
    obtain ⟨fuel, hf0⟩ := h
    obtain ⟨ys, n', _, _, _, hyl, hf1⟩ := DataW.trod_struct Try.underlying23 hf0
    have hy : ys.length = 4 := hyl
    have hf : ∀ (i : Nat) (f : Field), _ → DataW.trod enc Try.prog W 0 (fun _ => true) true n' f.type (([v0, v1, v2, v3].drop f.offset).take ((Try.prog).cellsOf f.type)) = ys[i]? := fun i f hi => by simpa [Value.cells] using hf1 i f hi
    have h0 : DataW.trod enc Try.prog W 0 (fun _ => true) true n' 3 (([v0, v1, v2, v3].drop 0).take ((Try.prog).cellsOf 3)) = ys[0]? := hf 0 _ rfl
    rw [s_tint, List.getElem?_eq_getElem (by omega)] at h0
    obtain ⟨x0, e0, -, w0⟩ := DataW.trod_int Try.underlying3 h0
    injection e0 with e0 _
    have v0e := e0
    clear e0
    have h1 : DataW.trod enc Try.prog W 0 (fun _ => true) true n' 3 (([v0, v1, v2, v3].drop 1).take ((Try.prog).cellsOf 3)) = ys[1]? := hf 1 _ rfl
    rw [s_tint, List.getElem?_eq_getElem (by omega)] at h1
    obtain ⟨x1, e1, -, w1⟩ := DataW.trod_int Try.underlying3 h1
    injection e1 with e1 _
    have v1e := e1
    clear e1
    have h2 : DataW.trod enc Try.prog W 0 (fun _ => true) true n' 3 (([v0, v1, v2, v3].drop 2).take ((Try.prog).cellsOf 3)) = ys[2]? := hf 2 _ rfl
    rw [s_tint, List.getElem?_eq_getElem (by omega)] at h2
    obtain ⟨x2, e2, -, w2⟩ := DataW.trod_int Try.underlying3 h2
    injection e2 with e2 _
    have v2e := e2
    clear e2
    have h3 : DataW.trod enc Try.prog W 0 (fun _ => true) true n' 3 (([v0, v1, v2, v3].drop 3).take ((Try.prog).cellsOf 3)) = ys[3]? := hf 3 _ rfl
    rw [s_tint, List.getElem?_eq_getElem (by omega)] at h3
    obtain ⟨x3, e3, -, w3⟩ := DataW.trod_int Try.underlying3 h3
    injection e3 with e3 _
    have v3e := e3
    clear e3
    obtain ⟨kb0, kb1⟩ := bounds_i64 w0
    obtain ⟨nb0, nb1⟩ := bounds_i64 w1
    obtain ⟨mb0, mb1⟩ := bounds_i64 w2
    obtain ⟨zb0, zb1⟩ := bounds_i64 w3
    subst v0e v1e v2e v3e
    exact ⟨⟨x0, x1, x2, x3⟩, rfl, ⟨kb0, kb1⟩, ⟨nb0, nb1⟩, ⟨mb0, mb1⟩, ⟨zb0, zb1⟩⟩
end
end Go.Proofs.Ytgmifimpeefpcaa
