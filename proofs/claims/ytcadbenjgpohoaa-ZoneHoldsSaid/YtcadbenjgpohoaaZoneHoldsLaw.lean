/- ZoneHolds: for every three ints and every three wide numbers: the one in the middle, with the number in the middle, has a class that the hull of the outer ones has; of one deviation and one variance the hull has its class alone. No condition. -/
import Derived.Test.YtcadbenjgpohoaaZonT
import Derived.Test.YtcadbenjgpohoaaOpenI
import Derived.Test.YtcadbenjgpohoaaOpenW
import Derived.Test.YtcadbenjgpohoaaTrod
namespace Go.Proofs.Ytcadbenjgpohoaa.lawZoneHolds
open Go.ChangeShapes Go.WideShapes Go.ChangeAt Go.RowKit Go.Joins

set_option maxRecDepth 100000 in
theorem lifted (os : Os) (started : os.Started) (H : Type) (enc : TypeId × Value → H) :
    ReturnsInHanded {} Try.checked os 5 .any (Rows.zoneHoldsSpec.pre6 enc Try.prog Try.f5 Rows.zoneHoldsRow.domain false) (Rows.zoneHoldsSpec.post enc Try.prog Try.f5 false true false false) := by
  refine returnsInHanded_of_change (C := Try.checked) own started (by kernel_rfl) Try.func5
    (ChangeSpec.witness6 (enc := enc) (C := Try.checked) false ⟨#[], #[.int .i64 0, .int .i64 0, .int .i64 0, .agg #[.int .u64 0, .int .u64 0], .agg #[.int .u64 0, .int .u64 0], .agg #[.int .u64 0, .int .u64 0]], []⟩ 8 (by kernel_rfl) (by kernel_rfl) (by kernel_rfl) (by kernel_rfl)) ?_
  intro W base args ds gs before hval0 hW _ _
  have hval : ∀ (j : Nat) t v, Try.f5.params[j]? = some t → args[j]? = some v → Value.okWide Try.prog W .any base t v := hval0
  have hW' := hW
  obtain ⟨p, q, hA0, hV, rfl, _, _⟩ := hW
  have hA : DataW.TrodAll enc Try.prog W 0 (fun _ => true) true Try.f5.params.toList args.toList ds p := hA0
  rw [Try.params5] at hA hval
  obtain ⟨v0, v1, v2, v3, v4, v5, d0, d1, d2, d3, d4, d5, p0, p1, p2, p3, p4, p5, rfl, rfl, rfl, h0, h1, h2, h3, h4, h5⟩ := trodAll_six hA
  obtain ⟨rfl, rfl⟩ := trodVars_none hV
  obtain ⟨a, ha, rfl, rfl, rfl⟩ := openI (hval 0 3 v0 rfl rfl) h0
  obtain ⟨b, hb, rfl, rfl, rfl⟩ := openI (hval 1 3 v1 rfl rfl) h1
  obtain ⟨c, hc, rfl, rfl, rfl⟩ := openI (hval 2 3 v2 rfl rfl) h2
  obtain ⟨d, hd, rfl, rfl, rfl⟩ := openW (hval 3 24 v3 rfl rfl) h3
  obtain ⟨e, he, rfl, rfl, rfl⟩ := openW (hval 4 24 v4 rfl rfl) h4
  obtain ⟨f, hf, rfl, rfl, rfl⟩ := openW (hval 5 24 v5 rfl rfl) h5
  clear hA0 hval0
  simp only [List.append_nil] at hW'
  refine (holds13_walk a b c d e f ha hb hc hd he hf W).mono fun e W' ⟨he, hb'⟩ => ?_
  subst he
  exact ⟨_, rfl, lawPost [] [] hW' (trodAll_mk1 (shut_bool Try.underlying4 _)) (trodAll_mk6 (shut_int Try.underlying3 (WalkArith.wf_i64 ha)) (shut_int Try.underlying3 (WalkArith.wf_i64 hb)) (shut_int Try.underlying3 (WalkArith.wf_i64 hc)) (shutW d hd W' _) (shutW e he W' _) (shutW f hf W' _)) rfl hb'⟩

theorem holds : Rows.ZoneHoldsSaid :=
  OpenClaim.holds_of_wide 5 Try.f5 rfl rfl rfl rfl rfl rfl rfl ⟨rfl, rfl, rfl, rfl, rfl⟩ rfl rfl rfl rfl rfl (by kernel_rfl) Try.func5 (by kernel_rfl)
    (of_decide_eq_true (by kernel_rfl)) (by unfold Func.isWrapper; rw [if_neg (of_decide_eq_false (by kernel_rfl))]; exact ⟨rfl, rfl⟩)
    (fun os started H enc _ => lifted os started H enc)
#print axioms holds
end Go.Proofs.Ytcadbenjgpohoaa.lawZoneHolds
