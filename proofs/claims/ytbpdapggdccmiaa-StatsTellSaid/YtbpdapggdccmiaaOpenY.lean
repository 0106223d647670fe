/- Stats among a law's arguments: opened. -/
import Derived.Test.YtbpdapggdccmiaaAgain
import Derived.Test.YtbpdapggdccmiaaStaB
import Derived.Test.YtbpdapggdccmiaaNum
namespace Go.Proofs.Ytbpdapggdccmiaa
open Go.RowKit Go.ChangeShapes Go.WideShapes Go.Deep Go.Joins

set_option maxRecDepth 100000
section
variable {H : Type} {enc : TypeId × Value → H} {W : World} {base : Nat}
theorem openSta {v : Value} {d : DataW H} {p : List MemPlace} (hv : Value.okWide Try.prog W .any base 27 v) (h : DataW.Trod enc Try.prog W 0 (fun _ => true) true 27 v d p) :
    ∃ s : Sta, v = staV s ∧ s.sq < M128 ∧ IsInt s.n ∧ IsInt s.sum ∧ IsInt s.lo ∧ IsInt s.hi := by
  have s_tint : (Try.prog).cellsOf 3 = 1 := by kernel_rfl
  have s_tapi_W : (Try.prog).cellsOf 25 = 2 := by kernel_rfl
  have s_tuint64 : (Try.prog).cellsOf 23 = 1 := by kernel_rfl
  have sT : (Try.prog).cellsOf 27 = 6 := by kernel_rfl
  obtain ⟨cs, rfl, hsz⟩ := okWide_struct Try.underlying27 hv
  rw [sT] at hsz
  obtain ⟨cs⟩ := cs
  have hcl : cs.length = 6 := hsz
  match cs, hcl with
  | [v0, v1, v2, v3, v4, v5], _ =>
    obtain ⟨fuel, hf0⟩ := h
    obtain ⟨ys, n', _, _, _, hyl, hf1⟩ := DataW.trod_struct Try.underlying27 hf0
    have hy : ys.length = 5 := hyl
    have hf : ∀ (i : Nat) (f : Field), _ → DataW.trod enc Try.prog W 0 (fun _ => true) true n' f.type (([v0, v1, v2, v3, v4, v5].drop f.offset).take ((Try.prog).cellsOf f.type)) = ys[i]? := fun i f hi => by simpa [Value.cells] using hf1 i f hi
    have h0 : DataW.trod enc Try.prog W 0 (fun _ => true) true n' 3 (([v0, v1, v2, v3, v4, v5].drop 0).take ((Try.prog).cellsOf 3)) = ys[0]? := hf 0 _ rfl
    rw [s_tint, List.getElem?_eq_getElem (by omega)] at h0
    obtain ⟨x0, e0, -, w0⟩ := DataW.trod_int Try.underlying3 h0
    injection e0 with e0 _
    have v0e := e0
    clear e0
    have h1 : DataW.trod enc Try.prog W 0 (fun _ => true) true n' 3 (([v0, v1, v2, v3, v4, v5].drop 1).take ((Try.prog).cellsOf 3)) = ys[1]? := hf 1 _ rfl
    rw [s_tint, List.getElem?_eq_getElem (by omega)] at h1
    obtain ⟨x1, e1, -, w1⟩ := DataW.trod_int Try.underlying3 h1
    injection e1 with e1 _
    have v1e := e1
    clear e1
    have h2 : DataW.trod enc Try.prog W 0 (fun _ => true) true n' 25 (([v0, v1, v2, v3, v4, v5].drop 2).take ((Try.prog).cellsOf 25)) = ys[2]? := hf 2 _ rfl
    rw [s_tapi_W, List.getElem?_eq_getElem (by omega)] at h2
    obtain ⟨ys2, m2, _, _, _, hyl2, hf2⟩ := DataW.trod_struct Try.underlying25 h2
    have hy2 : ys2.length = 2 := hyl2
    have h3 : DataW.trod enc Try.prog W 0 (fun _ => true) true m2 23 (([v2, v3].drop 0).take ((Try.prog).cellsOf 23)) = ys2[0]? := hf2 0 _ rfl
    rw [s_tuint64, List.getElem?_eq_getElem (by omega)] at h3
    obtain ⟨x3, e3, -, w3⟩ := DataW.trod_int Try.underlying23 h3
    injection e3 with e3 _
    have v2e := e3
    clear e3
    have h4 : DataW.trod enc Try.prog W 0 (fun _ => true) true m2 23 (([v2, v3].drop 1).take ((Try.prog).cellsOf 23)) = ys2[1]? := hf2 1 _ rfl
    rw [s_tuint64, List.getElem?_eq_getElem (by omega)] at h4
    obtain ⟨x4, e4, -, w4⟩ := DataW.trod_int Try.underlying23 h4
    injection e4 with e4 _
    have v3e := e4
    clear e4
    have h5 : DataW.trod enc Try.prog W 0 (fun _ => true) true n' 3 (([v0, v1, v2, v3, v4, v5].drop 4).take ((Try.prog).cellsOf 3)) = ys[3]? := hf 3 _ rfl
    rw [s_tint, List.getElem?_eq_getElem (by omega)] at h5
    obtain ⟨x5, e5, -, w5⟩ := DataW.trod_int Try.underlying3 h5
    injection e5 with e5 _
    have v4e := e5
    clear e5
    have h6 : DataW.trod enc Try.prog W 0 (fun _ => true) true n' 3 (([v0, v1, v2, v3, v4, v5].drop 5).take ((Try.prog).cellsOf 3)) = ys[4]? := hf 4 _ rfl
    rw [s_tint, List.getElem?_eq_getElem (by omega)] at h6
    obtain ⟨x6, e6, -, w6⟩ := DataW.trod_int Try.underlying3 h6
    injection e6 with e6 _
    have v5e := e6
    clear e6
    obtain ⟨nb0, nb1⟩ := bounds_i64 w0
    obtain ⟨zb0, zb1⟩ := bounds_i64 w1
    obtain ⟨hb0, hb1⟩ := bounds_u64 w3
    obtain ⟨ob0, ob1⟩ := bounds_u64 w4
    obtain ⟨lb0, lb1⟩ := bounds_i64 w5
    obtain ⟨gb0, gb1⟩ := bounds_i64 w6
    subst v0e v1e v2e v3e v4e v5e
    obtain ⟨x3, rfl⟩ := Int.eq_ofNat_of_zero_le hb0
    obtain ⟨x4, rfl⟩ := Int.eq_ofNat_of_zero_le ob0
    have ho : x4 < B64 := by unfold B64; omega
    have hh : x3 < B64 := by unfold B64; omega
    refine ⟨⟨x0, x1, vw x3 x4, x5, x6⟩, ?_, vw_lt _ _ hh ho, ⟨nb0, nb1⟩, ⟨zb0, zb1⟩, ⟨lb0, lb1⟩, ⟨gb0, gb1⟩⟩
    show Value.agg _ = .agg _
    rw [hi_vw _ _ ho, lo_vw _ _ ho]
end
end Go.Proofs.Ytbpdapggdccmiaa
