/- DivideCommon: for every three numbers a, b, k (a and b cut to 31 bits, k to one from 1 to 2^32): what divides k times a and k times b is k times what divides a and b, in either order; it divides both, and nothing but 1 divides both quotients; where it is 0 both are 0. No condition. -/
import Derived.Test.YtjebdahdpjfinaaDCommon
import Derived.Test.YtjebdahdpjfinaaFrame
namespace Go.Proofs.Ytjebdahdpjfinaa.lawDCommon
open Go.ChangeShapes Go.WideShapes Go.ChangeAt Go.RowKit Go.Joins

/-- A word among the arguments, opened. -/
theorem openU {H : Type} {enc : TypeId × Value → H} {W : World} {base : Nat} {v : Value} {d : DataW H} {p : List MemPlace} (hv : Value.okWide Try.prog W .any base 22 v) (h : DataW.Trod enc Try.prog W 0 (fun _ => true) true 22 v d p) :
    ∃ n : Nat, n < B64 ∧ v = .int .u64 (n : Nat) ∧ d = .lit (.int .u64 (n : Nat)) ∧ p = [] := by
  obtain ⟨a, rfl, rfl, rfl, wa⟩ := open_int Try.underlying22 hv h
  obtain ⟨a0, a1⟩ := bounds_u64 wa
  obtain ⟨a, rfl⟩ := Int.eq_ofNat_of_zero_le a0
  exact ⟨a, by unfold B64; omega, rfl, rfl, rfl⟩

set_option maxRecDepth 100000 in
theorem lifted (os : Os) (started : os.Started) (H : Type) (enc : TypeId × Value → H) :
    ReturnsInHanded {} Try.checked os 6 .any (Rows.divideCommonSpec.pre6 enc Try.prog Try.f6 Rows.divideCommonRow.domain false) (Rows.divideCommonSpec.post enc Try.prog Try.f6 false true false false) := by
  refine returnsInHanded_of_change (C := Try.checked) own started (by kernel_rfl) Try.func6
    (ChangeSpec.witness6 (enc := enc) (C := Try.checked) false ⟨#[], #[.int .u64 0, .int .u64 0, .int .u64 0], []⟩ 8 (by kernel_rfl) (by kernel_rfl) (by kernel_rfl) (by kernel_rfl)) ?_
  intro W base args ds gs before hval0 hW _ _
  have hval : ∀ (j : Nat) t v, Try.f6.params[j]? = some t → args[j]? = some v → Value.okWide Try.prog W .any base t v := hval0
  have hW' := hW
  obtain ⟨p, q, hA0, hV, rfl, _, _⟩ := hW
  have hA : DataW.TrodAll enc Try.prog W 0 (fun _ => true) true Try.f6.params.toList args.toList ds p := hA0
  rw [Try.params6] at hA hval
  obtain ⟨v0, v1, v2, d0, d1, d2, p0, p1, p2, rfl, rfl, rfl, h0, h1, h2⟩ := trodAll_three hA
  obtain ⟨rfl, rfl⟩ := trodVars_none hV
  obtain ⟨a, ha, rfl, rfl, rfl⟩ := openU (hval 0 22 v0 rfl rfl) h0
  obtain ⟨b, hb, rfl, rfl, rfl⟩ := openU (hval 1 22 v1 rfl rfl) h1
  obtain ⟨c, hc, rfl, rfl, rfl⟩ := openU (hval 2 22 v2 rfl rfl) h2
  clear hA0 hval0
  simp only [List.append_nil] at hW'
  refine (dcommon_walk a b c ha hb hc W).mono fun e W' ⟨he, hb'⟩ => ?_
  subst he
  exact ⟨_, rfl, lawPost [] [] hW' (trodAll_mk1 (shut_bool Try.underlying4 _)) (trodAll_mk3 (shut_int Try.underlying22 (wf64 _ ha)) (shut_int Try.underlying22 (wf64 _ hb)) (shut_int Try.underlying22 (wf64 _ hc))) rfl hb'⟩

theorem holds : Rows.DivideCommonSaid :=
  OpenClaim.holds_of_wide 6 Try.f6 rfl rfl rfl rfl rfl rfl rfl ⟨rfl, rfl, rfl, rfl, rfl⟩ rfl rfl rfl rfl rfl (by kernel_rfl) Try.func6 (by kernel_rfl)
    (of_decide_eq_true (by kernel_rfl)) (by unfold Func.isWrapper; rw [if_neg (of_decide_eq_false (by kernel_rfl))]; exact ⟨rfl, rfl⟩)
    (fun os started H enc _ => lifted os started H enc)
#print axioms holds
end Go.Proofs.Ytjebdahdpjfinaa.lawDCommon
