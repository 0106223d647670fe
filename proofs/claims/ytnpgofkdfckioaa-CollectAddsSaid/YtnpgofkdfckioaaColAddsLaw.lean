/- CollectAdds: for every three ints, every group (its samples cut to twelve) and every int: a new group of these ints, whether the group may be, the group behind the sample and behind a flush are as the reference has them, or refused as it does. No condition. -/
import Derived.Test.YtnpgofkdfckioaaColW
import Derived.Test.YtnpgofkdfckioaaTrod
import Derived.Test.YtnpgofkdfckioaaOpenG
namespace Go.Proofs.Ytnpgofkdfckioaa.lawCollectAdds
open Go.ChangeShapes Go.WideShapes Go.ChangeAt Go.RowKit Go.Joins

set_option maxRecDepth 100000 in
theorem lifted (os : Os) (started : os.Started) (H : Type) (enc : TypeId × Value → H) :
    ReturnsInHanded {} Try.checked os 3 .any (Rows.collectAddsSpec.pre6 enc Try.prog Try.f3 Rows.collectAddsRow.domain false) (Rows.collectAddsSpec.post enc Try.prog Try.f3 false true false false) := by
  refine returnsInHanded_of_change (C := Try.checked) own started (by kernel_rfl) Try.func3
    (ChangeSpec.witness6 (enc := enc) (C := Try.checked) false ⟨#[], #[.int .i64 0, .int .i64 0, .int .i64 0, .agg #[.int .i64 0, .int .i64 0, .int .i64 0, .slice none 0 0], .int .i64 0], []⟩ 8 (by kernel_rfl) (by kernel_rfl) (by kernel_rfl) (by kernel_rfl)) ?_
  intro W base args ds gs before hval0 hW _ _
  have hval : ∀ (j : Nat) t v, Try.f3.params[j]? = some t → args[j]? = some v → Value.okWide Try.prog W .any base t v := hval0
  have hW' := hW
  obtain ⟨p, q, hA0, hV, rfl, _, _⟩ := hW
  have hA : DataW.TrodAll enc Try.prog W 0 (fun _ => true) true Try.f3.params.toList args.toList ds p := hA0
  rw [Try.params3] at hA hval
  obtain ⟨v0, v1, v2, v3, v4, d0, d1, d2, d3, d4, p0, p1, p2, p3, p4, rfl, rfl, rfl, h0, h1, h2, h3, h4⟩ := trodAll_five hA
  obtain ⟨rfl, rfl⟩ := trodVars_none hV
  clear hA0 hval0
  simp only [List.append_nil] at hW'
  have hlt0 : ∀ x ∈ p0, x.block < W.heap.size := fun x hx => by simpa using hW'.lt x (by simp [hx])
  have hlt1 : ∀ x ∈ p1, x.block < W.heap.size := fun x hx => by simpa using hW'.lt x (by simp [hx])
  have hlt2 : ∀ x ∈ p2, x.block < W.heap.size := fun x hx => by simpa using hW'.lt x (by simp [hx])
  have hlt3 : ∀ x ∈ p3, x.block < W.heap.size := fun x hx => by simpa using hW'.lt x (by simp [hx])
  have hlt4 : ∀ x ∈ p4, x.block < W.heap.size := fun x hx => by simpa using hW'.lt x (by simp [hx])
  have ag0 := fun W' hb' => again (W' := W') (by kernel_rfl) (of_decide_eq_true (by kernel_rfl)) h0 hb' hlt0
  have ag1 := fun W' hb' => again (W' := W') (by kernel_rfl) (of_decide_eq_true (by kernel_rfl)) h1 hb' hlt1
  have ag2 := fun W' hb' => again (W' := W') (by kernel_rfl) (of_decide_eq_true (by kernel_rfl)) h2 hb' hlt2
  have ag3 := fun W' hb' => again (W' := W') (by kernel_rfl) (of_decide_eq_true (by kernel_rfl)) h3 hb' hlt3
  have ag4 := fun W' hb' => again (W' := W') (by kernel_rfl) (of_decide_eq_true (by kernel_rfl)) h4 hb' hlt4
  obtain ⟨a, rfl, rfl, rfl, -⟩ := open_int Try.underlying3 (hval 0 3 v0 rfl rfl) h0
  obtain ⟨b, rfl, rfl, rfl, -⟩ := open_int Try.underlying3 (hval 1 3 v1 rfl rfl) h1
  obtain ⟨c, rfl, rfl, rfl, -⟩ := open_int Try.underlying3 (hval 2 3 v2 rfl rfl) h2
  obtain ⟨s, lo, hi, u, xs, rfl, hxs⟩ := openGroup (hval 3 24 v3 rfl rfl) h3
  obtain ⟨x, rfl, rfl, rfl, -⟩ := open_int Try.underlying3 (hval 4 3 v4 rfl rfl) h4
  refine (adds_walk a b c s lo hi x xs u W hxs).mono fun e W' ⟨he, hb'⟩ => ?_
  subst he
  exact ⟨_, rfl, lawPost _ _ hW' (trodAll_mk1 (shut_bool Try.underlying4 _)) (trodAll_mk5 (ag0 W' hb') (ag1 W' hb') (ag2 W' hb') (ag3 W' hb') (ag4 W' hb')) rfl hb'⟩

theorem holds : Rows.CollectAddsSaid :=
  OpenClaim.holds_of_wide 3 Try.f3 rfl rfl rfl rfl rfl rfl rfl ⟨rfl, rfl, rfl, rfl, rfl⟩ rfl rfl rfl rfl rfl (by kernel_rfl) Try.func3 (by kernel_rfl)
    (of_decide_eq_true (by kernel_rfl)) (by unfold Func.isWrapper; rw [if_neg (of_decide_eq_false (by kernel_rfl))]; exact ⟨rfl, rfl⟩)
    (fun os started H enc _ => lifted os started H enc)
#print axioms holds
end Go.Proofs.Ytnpgofkdfckioaa.lawCollectAdds
