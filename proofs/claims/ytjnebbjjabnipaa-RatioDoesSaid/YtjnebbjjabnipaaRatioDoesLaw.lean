/- RatioDoes: for every two ratios, right or not, and every scale: held against one another, added, multiplied, and what encloses the first one, is as the reference has it, or refused as it is. No condition. -/
import Derived.Test.YtjnebbjjabnipaaRatioDoes
import Derived.Test.YtjnebbjjabnipaaOpenI
import Derived.Test.YtjnebbjjabnipaaOpenR
namespace Go.Proofs.Ytjnebbjjabnipaa.lawRDoes
open Go.ChangeShapes Go.WideShapes Go.ChangeAt Go.RowKit Go.Joins

set_option maxRecDepth 100000 in
theorem lifted (os : Os) (started : os.Started) (H : Type) (enc : TypeId × Value → H) :
    ReturnsInHanded {} Try.checked os 4 .any (Rows.ratioDoesSpec.pre6 enc Try.prog Try.f4 Rows.ratioDoesRow.domain false) (Rows.ratioDoesSpec.post enc Try.prog Try.f4 false true false false) := by
  refine returnsInHanded_of_change (C := Try.checked) own started (by kernel_rfl) Try.func4
    (ChangeSpec.witness6 (enc := enc) (C := Try.checked) false ⟨#[], #[.agg #[.int .i64 0, .int .i64 0], .agg #[.int .i64 0, .int .i64 0], .int .i64 0], []⟩ 8 (by kernel_rfl) (by kernel_rfl) (by kernel_rfl) (by kernel_rfl)) ?_
  intro W base args ds gs before hval0 hW _ _
  have hval : ∀ (j : Nat) t v, Try.f4.params[j]? = some t → args[j]? = some v → Value.okWide Try.prog W .any base t v := hval0
  have hW' := hW
  obtain ⟨p, q, hA0, hV, rfl, _, _⟩ := hW
  have hA : DataW.TrodAll enc Try.prog W 0 (fun _ => true) true Try.f4.params.toList args.toList ds p := hA0
  rw [Try.params4] at hA hval
  obtain ⟨v0, v1, v2, d0, d1, d2, p0, p1, p2, rfl, rfl, rfl, h0, h1, h2⟩ := trodAll_three hA
  obtain ⟨rfl, rfl⟩ := trodVars_none hV
  obtain ⟨a, b, ha, hb, rfl, rfl, rfl⟩ := openR (hval 0 23 v0 rfl rfl) h0
  obtain ⟨c, d, hc, hd, rfl, rfl, rfl⟩ := openR (hval 1 23 v1 rfl rfl) h1
  obtain ⟨e, he, rfl, rfl, rfl⟩ := openI (hval 2 3 v2 rfl rfl) h2
  clear hA0 hval0
  simp only [List.append_nil] at hW'
  refine (rdoes_walk a b c d e ha hb hc hd he W).mono fun e W' ⟨he, hb'⟩ => ?_
  subst he
  exact ⟨_, rfl, lawPost [] [] hW' (trodAll_mk1 (shut_bool Try.underlying4 _)) (trodAll_mk3 (shutR a b ha hb W' _) (shutR c d hc hd W' _) (shut_int Try.underlying3 (WalkArith.wf_i64 he))) rfl hb'⟩

theorem holds : Rows.RatioDoesSaid :=
  OpenClaim.holds_of_wide 4 Try.f4 rfl rfl rfl rfl rfl rfl rfl ⟨rfl, rfl, rfl, rfl, rfl⟩ rfl rfl rfl rfl rfl (by kernel_rfl) Try.func4 (by kernel_rfl)
    (of_decide_eq_true (by kernel_rfl)) (by unfold Func.isWrapper; rw [if_neg (of_decide_eq_false (by kernel_rfl))]; exact ⟨rfl, rfl⟩)
    (fun os started H enc _ => lifted os started H enc)
#print axioms holds
end Go.Proofs.Ytjnebbjjabnipaa.lawRDoes
