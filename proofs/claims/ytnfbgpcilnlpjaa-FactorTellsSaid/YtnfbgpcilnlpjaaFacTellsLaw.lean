/- FactorTells: for every three ints: the factor of that kind and size, all factors of that size, and the size at which the factor is nearest to the third int, are as the reference has them, or refused as it does. No condition. -/
import Derived.Test.YtnfbgpcilnlpjaaFacTells
import Derived.Test.YtnfbgpcilnlpjaaOpenI
namespace Go.Proofs.Ytnfbgpcilnlpjaa.lawFactorTells
open Go.ChangeShapes Go.WideShapes Go.ChangeAt Go.RowKit Go.Joins

set_option maxRecDepth 100000 in
theorem lifted (os : Os) (started : os.Started) (H : Type) (enc : TypeId × Value → H) :
    ReturnsInHanded {} Try.checked os 3 .any (Rows.factorTellsSpec.pre6 enc Try.prog Try.f3 Rows.factorTellsRow.domain false) (Rows.factorTellsSpec.post enc Try.prog Try.f3 false true false false) := by
  refine returnsInHanded_of_change (C := Try.checked) own started (by kernel_rfl) Try.func3
    (ChangeSpec.witness6 (enc := enc) (C := Try.checked) false ⟨#[], #[.int .i64 0, .int .i64 0, .int .i64 0], []⟩ 8 (by kernel_rfl) (by kernel_rfl) (by kernel_rfl) (by kernel_rfl)) ?_
  intro W base args ds gs before hval0 hW _ _
  have hval : ∀ (j : Nat) t v, Try.f3.params[j]? = some t → args[j]? = some v → Value.okWide Try.prog W .any base t v := hval0
  have hW' := hW
  obtain ⟨p, q, hA0, hV, rfl, _, _⟩ := hW
  have hA : DataW.TrodAll enc Try.prog W 0 (fun _ => true) true Try.f3.params.toList args.toList ds p := hA0
  rw [Try.params3] at hA hval
  obtain ⟨v0, v1, v2, d0, d1, d2, p0, p1, p2, rfl, rfl, rfl, h0, h1, h2⟩ := trodAll_three hA
  obtain ⟨rfl, rfl⟩ := trodVars_none hV
  obtain ⟨a, ha, rfl, rfl, rfl⟩ := openI (hval 0 3 v0 rfl rfl) h0
  obtain ⟨b, hb, rfl, rfl, rfl⟩ := openI (hval 1 3 v1 rfl rfl) h1
  obtain ⟨c, hc, rfl, rfl, rfl⟩ := openI (hval 2 3 v2 rfl rfl) h2
  clear hA0 hval0
  simp only [List.append_nil] at hW'
  refine (ftells_walk a b c ha hb hc W).mono fun e W' ⟨he, hb'⟩ => ?_
  subst he
  exact ⟨_, rfl, lawPost [] [] hW' (trodAll_mk1 (shut_bool Try.underlying4 _)) (trodAll_mk3 (shut_int Try.underlying3 (WalkArith.wf_i64 ha)) (shut_int Try.underlying3 (WalkArith.wf_i64 hb)) (shut_int Try.underlying3 (WalkArith.wf_i64 hc))) rfl hb'⟩

theorem holds : Rows.FactorTellsSaid :=
  OpenClaim.holds_of_wide 3 Try.f3 rfl rfl rfl rfl rfl rfl rfl ⟨rfl, rfl, rfl, rfl, rfl⟩ rfl rfl rfl rfl rfl (by kernel_rfl) Try.func3 (by kernel_rfl)
    (of_decide_eq_true (by kernel_rfl)) (by unfold Func.isWrapper; rw [if_neg (of_decide_eq_false (by kernel_rfl))]; exact ⟨rfl, rfl⟩)
    (fun os started H enc _ => lifted os started H enc)
#print axioms holds
end Go.Proofs.Ytnfbgpcilnlpjaa.lawFactorTells
