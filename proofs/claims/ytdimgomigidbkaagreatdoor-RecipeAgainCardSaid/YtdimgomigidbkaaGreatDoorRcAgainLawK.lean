/- RecipeAgain: for every text: what is parsed of it may be, is printed, and parsed again it is the same; another place is told only beside an error, and it is one of the text. No condition but that the library's variables that the row lists hold what the program's own text lays in them (the card ties that). -/
import Derived.Test.YtdimgomigidbkaaGreatDoorPk9
import Derived.Test.YtdimgomigidbkaaGreatDoorCards
import Derived.Test.YtdimgomigidbkaaGreatDoorTie
/- The law of RecipeAgain. -/
namespace Go.Proofs.YtdimgomigidbkaaGreatDoor
open Go.RowKit

set_option linter.unusedSimpArgs false in
set_option maxHeartbeats 0 in
set_option maxRecDepth 100000 in
theorem again_walk (l : List UInt8) (w : World) (hl : l.length ≤ 9223372036854775807) (hE : EnvR w) :
    Calls Tryz.prog 6 #[.string (bs l)] w fun e w' => e = .returned (.bool true) ∧ Below w.heap.size w w' := by
  have hs := bs_size l
  have hcut : ∀ w, (Instr.slice 9 (.string (bs l)) none (some (.int .i64 (min (l.length : Int) 4100))) none).run Tryz.prog w = .ok (.string (bs (l.take (min l.length 4100)))) w := fun w => by
    have := run_slice_hi (P := Tryz.prog) w 9 l .i64 (min l.length 4100) Tryz.underlying9 (Nat.min_le_left _ _)
    rw [show ((min l.length 4100 : Nat) : Int) = min (l.length : Int) 4100 by omega] at this
    exact this
  generalize l.take (min l.length 4100) = m at hcut
  have hms := bs_size m
  have hps := parse_any m w hE
  obtain ⟨ht1, ht2⟩ := parse_told m
  unfold ParseEnd at hps
  obtain ⟨A, hA⟩ : ∃ A, parseAns m = A := ⟨_, rfl⟩
  rw [hA] at hps ht1 ht2
  clear hA
  obtain ⟨pl, er, cs⟩ := A
  dsimp only at hps ht1 ht2
  by_cases hc : er = 0
  · subst hc
    obtain ⟨h0, hrec, hfin⟩ := ht2 rfl
    subst h0
    have hrb := (recB_iff cs).1 hrec
    have hlen : cs.length ≤ 4 := hrb.1.2
    have hnm : ∀ i, i < cs.length → (nthC cs i).name.length ≤ 100000 := fun i hi => Nat.le_trans (may_name (hrb.2.1 _ (by rw [nthC_get cs i hi]; exact List.getElem_mem hi))) (by decide)
    have hpr := fun W v (hR : ReadsC W v cs) (hE : Env W) => print8_any cs v W (by omega) hR hnm hE
    have hrt := fun W v (hR : ReadsC W v cs) => rec8_any cs v W (by omega) hR hnm
    have hsm := fun W v u (h1 : ReadsC W v cs) (h2 : ReadsC W u cs) => sameC_any cs v u W (by omega) h1 h2
    have hp2 := fun W (hE : EnvR W) => parse_any (printR cs) W hE
    unfold ParseEnd at hp2
    rw [read_print cs hrec hfin] at hp2
    dsimp only at hp2
    unfold print8 at hpr
    rw [hrec] at hpr hrt
    rw [if_pos rfl] at hpr
    generalize printR cs = tx at *
    clear ht1 ht2 hrb hnm hrec hfin
    go_enter Tryz.func6, Tryz.ntmps6
    go_wp2_with fail
    refine hps.mono ?_
    rintro e w2 ⟨v1, rfl, hr2, hB2⟩
    obtain ⟨a1, p1, hv1, -⟩ := hr2.reads
    subst hv1
    have hb3 := (Below.refl w2.heap.size w2).alloc (Nat.le_refl _) (.cells #[.slice a1 cs.length p1] 24)
    have hs2 := hB2.size
    have hB3 := hB2.trans (hb3.mono hB2.size)
    have hr3 := hr2.below hb3
    have hx3 := Has.new w2 [.slice a1 cs.length p1] 24
    have hs3 : (w2.alloc (.cells #[.slice a1 cs.length p1] 24)).heap.size = w2.heap.size + 1 := by simp
    have hn3 := hpr _ _ hr3.reads (hE.below hB3).1
    clear hps hr2 hb3 hB2 hpr
    go_wp2_with fail
    refine hn3.mono ?_
    rintro e w4 ⟨rfl, k4⟩
    have hs4 := k4.size
    rw [hs3] at hs4
    have hB4 := hB3.trans (k4.mono (by rw [hs3]; omega))
    have hr4 := hr3.below k4
    have hx4 := hx3.call k4
    have hn4 := hp2 _ (hE.below hB4)
    clear hn3 hB3 k4 hr3 hx3 hp2
    go_wp2_with fail
    refine hn4.mono ?_
    rintro e w5 ⟨v2, rfl, hr5, k5⟩
    obtain ⟨a2, p2, hv2, -⟩ := hr5.reads
    subst hv2
    have hb6 := (Below.refl w5.heap.size w5).alloc (Nat.le_refl _) (.cells #[.slice a2 cs.length p2] 24)
    have hs5 := k5.size
    have hB6 := (hB4.trans (k5.mono (by omega))).trans (hb6.mono (by omega))
    have hx6 := (hx4.call k5).call hb6
    have hr6 := (hr4.below k5).below hb6
    have hq6 := hr5.below hb6
    have hy6 := Has.new w5 [.slice a2 cs.length p2] 24
    have hs6 : (w5.alloc (.cells #[.slice a2 cs.length p2] 24)).heap.size = w5.heap.size + 1 := by simp
    have hal := alive8_any _ (hE.below hB6)
    clear hn4 hB4 k5 hb6 hx4 hr4 hr5
    go_wp2_with fail
    refine hal.mono ?_
    rintro e w7 ⟨rfl, k7⟩
    have hs7 := k7.size
    rw [hs6] at hs7
    have hx7 := hx6.call k7
    have hy7 := hy6.call k7
    have hr7 := hr6.below k7
    have hq7 := hq6.below k7
    have hB7 := hB6.trans (k7.mono (by rw [hs6]; omega))
    have c7 : w7.cell? ⟨w2.heap.size, 0, none⟩ = some (.slice a1 cs.length p1) := hx7.cell 0
    have hn7 := hrt w7 _ hr7.reads
    clear hal hB6 k7 hx6 hr6 hq6 hy6 hrt
    go_wp2_with fail
    refine hn7.mono ?_
    rintro e w8 ⟨rfl, k8⟩
    have hx8 := hx7.call k8
    have hy8 := hy7.call k8
    have hB8 := hB7.trans (k8.mono (by omega))
    have c8 : w8.cell? ⟨w2.heap.size, 0, none⟩ = some (.slice a1 cs.length p1) := hx8.cell 0
    have d8 : w8.cell? ⟨w5.heap.size, 0, none⟩ = some (.slice a2 cs.length p2) := hy8.cell 0
    have hn8 := hsm w8 _ _ (hq7.below k8).reads (hr7.below k8).reads
    have hs8 := k8.size
    clear hn7 hB7 k8 hx7 hr7 hq7 hy7 hx8 hy8 c7 hsm
    go_wp2_with fail
    refine hn8.mono ?_
    rintro e w9 ⟨rfl, k9⟩
    have hB9 := hB8.trans (k9.mono (by omega))
    go_wp2
    go_ret
    exact ⟨rfl, hB9⟩
  · obtain ⟨h1, h2, h3⟩ := ht1 hc
    subst h3
    have hcb : (er != 0) = true := bne_iff_ne.2 hc
    clear ht1 ht2 hc
    go_enter Tryz.func6, Tryz.ntmps6
    go_wp2_with fail
    refine hps.mono ?_
    rintro e w2 ⟨v1, rfl, hr2, hB2⟩
    obtain ⟨a1, p1, hv1, -⟩ := hr2.reads
    subst hv1
    have hx3 := Has.new w2 [.slice a1 0 p1] 24
    have hB3 := hB2.alloc hB2.size (.cells #[.slice a1 0 p1] 24)
    have hal := alive8_any _ (hE.below hB3)
    clear hps hr2 hB2
    go_wp2_with fail
    refine hal.mono ?_
    rintro e w4 ⟨rfl, k4⟩
    have hB4 := hB3.trans (k4.mono hB3.size)
    have c4 : w4.cell? ⟨w2.heap.size, 0, none⟩ = some (.slice a1 0 p1) := (hx3.call k4).cell 0
    clear hal hB3 k4 hx3
    go_wp2
    go_ret
    exact ⟨rfl, hB4⟩
end Go.Proofs.YtdimgomigidbkaaGreatDoor
namespace Go.Proofs.YtdimgomigidbkaaGreatDoor.lawRecipeAgain
open Go.ChangeShapes Go.WideShapes Go.ChangeAt Go.RowKit Go.Joins
open Go.ChangeMaps (open_string shut_string)

set_option maxRecDepth 100000 in
theorem lifted (os : Os) (started : os.Started) (H : Type) (enc : TypeId × Value → H) :
    ReturnsInHanded {} Tryz.checked os 6 .any (fun w args => (Rows.recipeAgainSpec.pre enc Tryz.prog Tryz.f6 [] false w args ∧ laidMetH Tryz.prog Rows.recipeAgainRow.laid w) ∧ sizedMet enc Tryz.prog Tryz.f6 (OpenSpec.ofChange Rows.recipeAgainSpec) false w args)
      (Rows.recipeAgainSpec.post enc Tryz.prog Tryz.f6 false true false false) := by
  refine returnsInHanded_of_change_and (C := Tryz.checked) (X := fun w _ => laidMetH Tryz.prog Rows.recipeAgainRow.laid w) (fun _ _ _ hh h => h.of_heap hh) own started (by kernel_rfl) Tryz.func6
    (ChangeSpec.witness_shaped (enc := enc) (C := Tryz.checked) (os := os) (X := fun w _ => laidMetH Tryz.prog Rows.recipeAgainRow.laid w) false (World.doorLaid Tryz.prog 400 os) #[.string ⟨#[]⟩] 8 rfl (World.shaped_of_RefB (by kernel_rfl) (by kernel_rfl)) (by kernel_rfl) (by kernel_rfl) (by kernel_rfl) (door8_met os _)) ?_
  intro W base args ds gs before hval0 hW _ hsz0 hL _
  have hsz : (DataW.weightsEach Tryz.prog (Tryz.f6.params.toList ++ Rows.recipeAgainSpec.plain.varTypes Tryz.prog) (ds ++ gs)).all (· ≤ reachBytes) = true := hsz0
  clear hsz0
  have hval : ∀ (j : Nat) t v, Tryz.f6.params[j]? = some t → args[j]? = some v → Value.okWide Tryz.prog W .any base t v := hval0
  have hW' := hW
  obtain ⟨p, q, hA0, hV, rfl, _, _⟩ := hW
  have hA : DataW.TrodAll enc Tryz.prog W 0 (fun _ => true) true Tryz.f6.params.toList args.toList ds p := hA0
  rw [Tryz.params6] at hA hval hsz
  obtain ⟨v0, d0, rfl, rfl, h0⟩ := trodAll_one hA
  obtain ⟨rfl, rfl⟩ := trodVars_none hV
  clear hA0 hval0
  simp only [List.append_nil] at hW'
  have hlt0 : ∀ x ∈ p, x.block < W.heap.size := fun x hx => by simpa using hW'.lt x (by simp [hx])
  have ag0 := fun W' hb' => again (W' := W') (by kernel_rfl) (of_decide_eq_true (by kernel_rfl)) h0 hb' hlt0
  obtain ⟨s0, rfl, -, -, hs0⟩ := open_string Tryz.underlying9 (hval 0 9 v0 rfl rfl) h0
  have hlim : s0.data.toList.length ≤ 9223372036854775807 := by
    have : s0.data.toList.length = s0.size := Array.length_toList
    unfold maxLen at hs0
    omega
  have hE := env8_of (show laidMetH Tryz.prog laid8 W from hL)
  refine (again_walk s0.data.toList W hlim hE).mono fun e W' ⟨he, hb'⟩ => ?_
  subst he
  exact ⟨_, rfl, lawPost _ _ hW' (trodAll_mk1 (shut_bool Tryz.underlying4 _)) (trodAll_mk1 (ag0 W' hb')) rfl hb'⟩
theorem said : Rows.RecipeAgainSaid :=
  OpenClaim.holds_of_wide 6 Tryz.f6 rfl rfl rfl rfl rfl rfl rfl ⟨rfl, rfl, rfl, rfl, rfl⟩ rfl rfl rfl rfl rfl (by kernel_rfl) Tryz.func6 (by kernel_rfl)
    (of_decide_eq_true (by kernel_rfl)) (by unfold Func.isWrapper; first | (rw [if_pos (by decide +kernel)]; kernel_rfl) | (rw [if_neg (by decide +kernel)]; exact ⟨rfl, rfl⟩))
    (fun os started H enc _ => lifted os started H enc)
theorem holds : Rows.RecipeAgainCardSaid :=
  Claim7.holds_tied_plain_at .later [] Rows.recipeAgainCard.laidKinds true Rows.recipeAgainCard.stood.harness true
    said (fun _ h => by cases h) (by kernel_rfl) (fun _ h => by cases h) recipeAgain_row_tie rfl ⟨rfl, rfl⟩ (by kernel_rfl) rfl
    (fun f fn hf hfn => by
      obtain rfl : f = 6 := Option.some.inj ((show Tryz.prog.funcNamed "datum/datumlaw08.RecipeAgain" = some 6 by kernel_rfl).symm.trans hf) |>.symm
      obtain rfl : fn = Tryz.f6 := (Option.some.inj (Tryz.func6.symm.trans hfn)).symm
      exact ⟨by kernel_rfl, fun j t ht => by
        rw [Tryz.params6] at ht
        have hm : t ∈ [9] := by simpa using Array.mem_of_getElem? ht
        have hall : ([9].all fun u => !(Tryz.prog).wantsStandIn u) = true := by kernel_rfl
        exact (show (Tryz.prog).wantsStandIn t = false by simpa using List.all_eq_true.1 hall t hm)⟩)
    (by kernel_rfl)
#print axioms holds
end Go.Proofs.YtdimgomigidbkaaGreatDoor.lawRecipeAgain
