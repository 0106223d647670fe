/- NelsonExact: for every row of ints (cut to seventeen): which rules hold of it is as the reference has it, or refused as it does. No condition. -/
import Derived.Test.YtjonpcpcokapkaaNelW
import Derived.Test.YtjonpcpcokapkaaNelK
import Derived.Test.YtjonpcpcokapkaaInts
import Derived.Test.YtjonpcpcokapkaaAgain
namespace Go.Proofs.Ytjonpcpcokapkaa.lawNelsonExact
open Go.ChangeShapes Go.WideShapes Go.ChangeAt Go.RowKit Go.Joins

set_option maxRecDepth 100000 in
theorem lifted (os : Os) (started : os.Started) (H : Type) (enc : TypeId × Value → H) :
    ReturnsInHanded {} Try.checked os 3 .any (Rows.nelsonExactSpec.pre6 enc Try.prog Try.f3 Rows.nelsonExactRow.domain false) (Rows.nelsonExactSpec.post enc Try.prog Try.f3 false true false false) := by
  refine returnsInHanded_of_change (C := Try.checked) own started (by kernel_rfl) Try.func3
    (ChangeSpec.witness6 (enc := enc) (C := Try.checked) false ⟨#[], #[.slice none 0 0], []⟩ 8 (by kernel_rfl) (by kernel_rfl) (by kernel_rfl) (by kernel_rfl)) ?_
  intro W base args ds gs before hval0 hW _ _
  have hval : ∀ (j : Nat) t v, Try.f3.params[j]? = some t → args[j]? = some v → Value.okWide Try.prog W .any base t v := hval0
  have hW' := hW
  obtain ⟨p, q, hA0, hV, rfl, _, _⟩ := hW
  have hA : DataW.TrodAll enc Try.prog W 0 (fun _ => true) true Try.f3.params.toList args.toList ds p := hA0
  rw [Try.params3] at hA hval
  obtain ⟨v0, d0, rfl, rfl, h0⟩ := trodAll_one hA
  obtain ⟨rfl, rfl⟩ := trodVars_none hV
  clear hA0 hval0
  simp only [List.append_nil] at hW'
  have hlt0 : ∀ x ∈ p, x.block < W.heap.size := fun x hx => by simpa using hW'.lt x (by simp [hx])
  have ag0 := fun W' hb' => again (W' := W') (by kernel_rfl) (of_decide_eq_true (by kernel_rfl)) h0 hb' hlt0
  obtain ⟨l0, hl0, -⟩ := openInts (hval 0 22 v0 rfl rfl) h0
  refine (exact14_walk nel_code l0 v0 W hl0).mono fun e W' ⟨he, hb'⟩ => ?_
  subst he
  exact ⟨_, rfl, lawPost _ _ hW' (trodAll_mk1 (shut_bool Try.underlying4 _)) (trodAll_mk1 (ag0 W' hb')) rfl hb'⟩

theorem holds : Rows.NelsonExactSaid :=
  OpenClaim.holds_of_wide 3 Try.f3 rfl rfl rfl rfl rfl rfl rfl ⟨rfl, rfl, rfl, rfl, rfl⟩ rfl rfl rfl rfl rfl (by kernel_rfl) Try.func3 (by kernel_rfl)
    (of_decide_eq_true (by kernel_rfl)) (by unfold Func.isWrapper; rw [if_neg (of_decide_eq_false (by kernel_rfl))]; exact ⟨rfl, rfl⟩)
    (fun os started H enc _ => lifted os started H enc)
#print axioms holds
end Go.Proofs.Ytjonpcpcokapkaa.lawNelsonExact
