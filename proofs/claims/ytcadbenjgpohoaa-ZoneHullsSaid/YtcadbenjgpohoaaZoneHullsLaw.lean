/- ZoneHulls: for every span and any two wide numbers: the mask of all classes between is as the reference has it, or refused as it does. No condition. -/
import Derived.Test.YtcadbenjgpohoaaZonQ
import Derived.Test.YtcadbenjgpohoaaOpenI
import Derived.Test.YtcadbenjgpohoaaOpenW
import Derived.Test.YtcadbenjgpohoaaOpenS
namespace Go.Proofs.Ytcadbenjgpohoaa.lawZoneHulls
open Go.ChangeShapes Go.WideShapes Go.ChangeAt Go.RowKit Go.Joins

set_option maxRecDepth 100000 in
theorem lifted (os : Os) (started : os.Started) (H : Type) (enc : TypeId × Value → H) :
    ReturnsInHanded {} Try.checked os 4 .any (Rows.zoneHullsSpec.pre6 enc Try.prog Try.f4 Rows.zoneHullsRow.domain false) (Rows.zoneHullsSpec.post enc Try.prog Try.f4 false true false false) := by
  refine returnsInHanded_of_change (C := Try.checked) own started (by kernel_rfl) Try.func4
    (ChangeSpec.witness6 (enc := enc) (C := Try.checked) false ⟨#[], #[.agg #[.int .i64 0, .int .i64 0], .agg #[.int .u64 0, .int .u64 0], .agg #[.int .u64 0, .int .u64 0]], []⟩ 8 (by kernel_rfl) (by kernel_rfl) (by kernel_rfl) (by kernel_rfl)) ?_
  intro W base args ds gs before hval0 hW _ _
  have hval : ∀ (j : Nat) t v, Try.f4.params[j]? = some t → args[j]? = some v → Value.okWide Try.prog W .any base t v := hval0
  have hW' := hW
  obtain ⟨p, q, hA0, hV, rfl, _, _⟩ := hW
  have hA : DataW.TrodAll enc Try.prog W 0 (fun _ => true) true Try.f4.params.toList args.toList ds p := hA0
  rw [Try.params4] at hA hval
  obtain ⟨v0, v1, v2, d0, d1, d2, p0, p1, p2, rfl, rfl, rfl, h0, h1, h2⟩ := trodAll_three hA
  obtain ⟨rfl, rfl⟩ := trodVars_none hV
  obtain ⟨a, b, ha, hb, rfl, rfl, rfl⟩ := openS (hval 0 39 v0 rfl rfl) h0
  obtain ⟨c, hc, rfl, rfl, rfl⟩ := openW (hval 1 24 v1 rfl rfl) h1
  obtain ⟨d, hd, rfl, rfl, rfl⟩ := openW (hval 2 24 v2 rfl rfl) h2
  clear hA0 hval0
  simp only [List.append_nil] at hW'
  refine (hulls13_walk a b c d ha hb hc hd W).mono fun e W' ⟨he, hb'⟩ => ?_
  subst he
  exact ⟨_, rfl, lawPost [] [] hW' (trodAll_mk1 (shut_bool Try.underlying4 _)) (trodAll_mk3 (shutS a b ha hb W' _) (shutW c hc W' _) (shutW d hd W' _)) rfl hb'⟩

theorem holds : Rows.ZoneHullsSaid :=
  OpenClaim.holds_of_wide 4 Try.f4 rfl rfl rfl rfl rfl rfl rfl ⟨rfl, rfl, rfl, rfl, rfl⟩ rfl rfl rfl rfl rfl (by kernel_rfl) Try.func4 (by kernel_rfl)
    (of_decide_eq_true (by kernel_rfl)) (by unfold Func.isWrapper; rw [if_neg (of_decide_eq_false (by kernel_rfl))]; exact ⟨rfl, rfl⟩)
    (fun os started H enc _ => lifted os started H enc)
#print axioms holds
end Go.Proofs.Ytcadbenjgpohoaa.lawZoneHulls
