/- TokenBlanks: for every row of tokens, every row of ints that tells which blanks stand between two, and every text that a remark has: what stands between the tokens does not matter to what is scanned. No condition but that the library's variables that the row lists hold what the program's own text lays in them (the card ties that). -/
import Derived.Test.YticgmbhdcegoeaaDoorTokY
import Derived.Test.YticgmbhdcegoeaaDoorInts
import Derived.Test.YticgmbhdcegoeaaDoorEnv7
import Derived.Test.YticgmbhdcegoeaaDoorOpenT
import Derived.Test.YticgmbhdcegoeaaDoorCards
import Derived.Test.YticgmbhdcegoeaaDoorTie
namespace Go.Proofs.YticgmbhdcegoeaaDoor.lawTokenBlanks
open Go.ChangeShapes Go.WideShapes Go.ChangeAt Go.RowKit Go.Joins
open Go.ChangeMaps (open_string shut_string)

set_option maxRecDepth 100000 in
theorem lifted (os : Os) (started : os.Started) (H : Type) (enc : TypeId × Value → H) :
    ReturnsInHanded {} Tryd.checked os 6 .any (fun w args => (Rows.tokenBlanksSpec.pre enc Tryd.prog Tryd.f6 [] false w args ∧ laidMetH Tryd.prog Rows.tokenBlanksRow.laid w) ∧ sizedMet enc Tryd.prog Tryd.f6 (OpenSpec.ofChange Rows.tokenBlanksSpec) false w args)
      (Rows.tokenBlanksSpec.post enc Tryd.prog Tryd.f6 false true false false) := by
  refine returnsInHanded_of_change_and (C := Tryd.checked) (X := fun w _ => laidMetH Tryd.prog Rows.tokenBlanksRow.laid w) (fun _ _ _ hh h => h.of_heap hh) own started (by kernel_rfl) Tryd.func6
    (ChangeSpec.witness_shaped (enc := enc) (C := Tryd.checked) (os := os) (X := fun w _ => laidMetH Tryd.prog Rows.tokenBlanksRow.laid w) false (World.doorLaid Tryd.prog 400 os) #[.slice none 0 0, .slice none 0 0, .string ⟨#[]⟩] 8 rfl (World.shaped_of_RefB (by kernel_rfl) (by kernel_rfl)) (by kernel_rfl) (by kernel_rfl) (by kernel_rfl) (door_met os _)) ?_
  intro W base args ds gs before hval0 hW _ hsz0 hL _
  have hsz : (DataW.weightsEach Tryd.prog (Tryd.f6.params.toList ++ Rows.tokenBlanksSpec.plain.varTypes Tryd.prog) (ds ++ gs)).all (· ≤ reachBytes) = true := hsz0
  clear hsz0
  have hval : ∀ (j : Nat) t v, Tryd.f6.params[j]? = some t → args[j]? = some v → Value.okWide Tryd.prog W .any base t v := hval0
  have hW' := hW
  obtain ⟨p, q, hA0, hV, rfl, _, _⟩ := hW
  have hA : DataW.TrodAll enc Tryd.prog W 0 (fun _ => true) true Tryd.f6.params.toList args.toList ds p := hA0
  rw [Tryd.params6] at hA hval hsz
  obtain ⟨v0, v1, v2, d0, d1, d2, p0, p1, p2, rfl, rfl, rfl, h0, h1, h2⟩ := trodAll_three hA
  obtain ⟨rfl, rfl⟩ := trodVars_none hV
  clear hA0 hval0
  simp only [List.append_nil] at hW'
  have hlt0 : ∀ x ∈ p0, x.block < W.heap.size := fun x hx => by simpa using hW'.lt x (by simp [hx])
  have hlt1 : ∀ x ∈ p1, x.block < W.heap.size := fun x hx => by simpa using hW'.lt x (by simp [hx])
  have hlt2 : ∀ x ∈ p2, x.block < W.heap.size := fun x hx => by simpa using hW'.lt x (by simp [hx])
  have ag0 := fun W' hb' => again (W' := W') (by kernel_rfl) (of_decide_eq_true (by kernel_rfl)) h0 hb' hlt0
  have ag1 := fun W' hb' => again (W' := W') (by kernel_rfl) (of_decide_eq_true (by kernel_rfl)) h1 hb' hlt1
  have ag2 := fun W' hb' => again (W' := W') (by kernel_rfl) (of_decide_eq_true (by kernel_rfl)) h2 hb' hlt2
  obtain ⟨l, hrd, ht⟩ := openToks (hval 0 22 v0 rfl rfl) h0
  obtain ⟨zs, hzs, -⟩ := openInts (hval 1 38 v1 rfl rfl) h1
  obtain ⟨s2, rfl, -, -, hs2⟩ := open_string Tryd.underlying9 (hval 2 9 v2 rfl rfl) h2
  have hlim : s2.data.toList.length ≤ 9223372036854775807 := by
    have : s2.data.toList.length = s2.size := Array.length_toList
    unfold maxLen at hs2
    omega
  have hE := env_of (show laidMetH Tryd.prog laid7 W from hL)
  refine (blanks_walk l zs s2.data.toList v0 v1 W ht hlim hrd hzs hE).mono fun e W' ⟨he, hb'⟩ => ?_
  subst he
  exact ⟨_, rfl, lawPost _ _ hW' (trodAll_mk1 (shut_bool Tryd.underlying4 _)) (trodAll_mk3 (ag0 W' hb') (ag1 W' hb') (ag2 W' hb')) rfl hb'⟩
theorem said : Rows.TokenBlanksSaid :=
  OpenClaim.holds_of_wide 6 Tryd.f6 rfl rfl rfl rfl rfl rfl rfl ⟨rfl, rfl, rfl, rfl, rfl⟩ rfl rfl rfl rfl rfl (by kernel_rfl) Tryd.func6 (by kernel_rfl)
    (of_decide_eq_true (by kernel_rfl)) (by unfold Func.isWrapper; first | (rw [if_pos (by decide +kernel)]; kernel_rfl) | (rw [if_neg (by decide +kernel)]; exact ⟨rfl, rfl⟩))
    (fun os started H enc _ => lifted os started H enc)
theorem holds : Rows.TokenBlanksCardSaid :=
  Claim7.holds_tied_plain_at .later [] Rows.tokenBlanksCard.laidKinds true Rows.tokenBlanksCard.stood.harness true
    said (fun _ h => by cases h) (by kernel_rfl) (fun _ h => by cases h) tokenBlanks_row_tie rfl ⟨rfl, rfl⟩ (by kernel_rfl) rfl
    (fun f fn hf hfn => by
      obtain rfl : f = 6 := Option.some.inj ((show Tryd.prog.funcNamed "datum/datumlaw07.TokenBlanks" = some 6 by kernel_rfl).symm.trans hf) |>.symm
      obtain rfl : fn = Tryd.f6 := (Option.some.inj (Tryd.func6.symm.trans hfn)).symm
      exact ⟨by kernel_rfl, fun j t ht => by
        rw [Tryd.params6] at ht
        have hm : t ∈ [22, 38, 9] := by simpa using Array.mem_of_getElem? ht
        have hall : ([22, 38, 9].all fun u => !(Tryd.prog).wantsStandIn u) = true := by kernel_rfl
        exact (show (Tryd.prog).wantsStandIn t = false by simpa using List.all_eq_true.1 hall t hm)⟩)
    (by kernel_rfl)
#print axioms holds
end Go.Proofs.YticgmbhdcegoeaaDoor.lawTokenBlanks
