/- RecipeBack: for every recipe: what is printed of it is parsed as it was. No condition but that the library's variables that the row lists hold what the program's own text lays in them (the card ties that). -/
import Derived.Test.YtdimgomigidbkaaGreatDoorPk9
import Derived.Test.YtdimgomigidbkaaGreatDoorCards
import Derived.Test.YtdimgomigidbkaaGreatDoorTie
/- The law of RecipeBack. -/
namespace Go.Proofs.YtdimgomigidbkaaGreatDoor
open Go.RowKit

theorem fewC_fin {l : List Ch} (hf : ∀ c ∈ l, c.fin) : ∀ c ∈ fewC l, c.fin := fun c hc => by
  obtain ⟨u, hu, rfl⟩ := List.mem_map.1 hc
  exact hf u (List.mem_of_mem_take hu)
theorem CRow.own {B b : Nat} {v u : Value} {l : List Ch} {w : World} (h : CRow B v l w) (hb : b < B) : CRow B v l (w.setCell ⟨b, 0, none⟩ u) := h.kept (WB.set (b := b) w 0 u) hb
set_option linter.unusedSimpArgs false in
set_option maxHeartbeats 0 in
set_option maxRecDepth 100000 in
theorem back_walk (l : List Ch) (va : Value) (w : World) (ht : ∀ i, i < l.length → (nthC l i).name.length ≤ 9223372036854775807) (hf : ∀ c ∈ l, c.fin) (ha : ReadsC w va l) (hE : EnvR w) :
    Calls Tryz.prog 5 #[.agg #[va]] w fun e w' => e = .returned (.bool true) ∧ Below w.heap.size w w' := by
  have hB := (Below.refl w.heap.size w).alloc (Nat.le_refl _) (.cells #[va] 24)
  have hx := Has.new w [va] 24
  have hfw := few8_any l va _ ht (ha.below hB)
  have hE1 := hE.below hB
  have hlen := fewC_len l
  have hnm := fun i hi => Nat.le_trans (fewC_name l i hi) (show 20 ≤ 100000 by decide)
  have hpr := fun W v (hR : ReadsC W v (fewC l)) (hE : Env W) => print8_any (fewC l) v W (by omega) hR hnm hE
  have hsm := fun W v u (h1 : ReadsC W v (fewC l)) (h2 : ReadsC W u (fewC l)) => sameC_any (fewC l) v u W (by omega) h1 h2
  have hrp := fun h => read_print (fewC l) h (fewC_fin hf)
  have HLEN := Lib.hid hlen
  have hs1 : (w.alloc (.cells #[va] 24)).heap.size = w.heap.size + 1 := by simp
  rw [hs1] at hfw
  obtain ⟨a0, p0, rfl, -⟩ := ha
  clear ht hf hE1 hnm hlen
  unfold print8 at hpr
  generalize fewC l = m at *
  go_enter Tryz.func5, Tryz.ntmps5
  go_wp2_with fail
  refine hfw.mono ?_
  rintro e w2 ⟨v1, rfl, hr2, k2⟩
  have hs2 := k2.size
  have hx2 := hx.of (k2.block w.heap.size (by omega))
  have hB2 := hB.trans (k2.mono (by omega))
  rw [hs1] at hs2
  obtain ⟨a1, p1, hv1, -⟩ := hr2.reads
  subst hv1
  have c0 : w2.cell? ⟨w.heap.size, 0, none⟩ = some (.slice a0 l.length p0) := hx2.cell 0
  have f0 : w2.frozen? ⟨w.heap.size, 0, none⟩ = false := hx2.frozen 0
  have hx3 := hx2.set 0 (.slice a1 m.length p1)
  have hr3 := hr2.own (b := w.heap.size) (u := .slice a1 m.length p1) (by omega)
  have hB3 := hB2.setCell (p := ⟨w.heap.size, 0, none⟩) (Nat.le_refl _) (.slice a1 m.length p1)
  have hs3 : (w2.setCell ⟨w.heap.size, 0, none⟩ (.slice a1 m.length p1)).heap.size = w2.heap.size := by simp
  clear hfw hr2 k2 hx hB hx2 hB2
  have hn3 := hpr _ _ hr3.reads (hE.below hB3).1
  cases hq : recB m with
  | false =>
    rw [hq, if_neg (show ¬ (false = true) from by decide)] at hn3
    clear hr3 hx3 hpr hsm hrp hq
    go_wp2_with fail
    refine hn3.mono ?_
    rintro e w4 ⟨rfl, k4⟩
    have hB4 := hB3.trans (k4.mono (by rw [hs3]; omega))
    have hal := alive8_any w4 (hE.below hB4)
    clear hn3 hB3 k4
    go_wp2_with fail
    refine hal.mono ?_
    rintro e w5 ⟨rfl, k5⟩
    have hB5 := hB4.trans (k5.mono hB4.size)
    go_wp2
    go_ret
    exact ⟨rfl, hB5⟩
  | true =>
    rw [hq, if_pos rfl] at hn3
    have hps := fun W (hE : EnvR W) => parse_any (printR m) W hE
    unfold ParseEnd at hps
    rw [hrp hq] at hps
    dsimp only at hps
    generalize printR m = tx at *
    clear hpr hrp hq
    go_wp2_with fail
    refine hn3.mono ?_
    rintro e w4 ⟨rfl, k4⟩
    have hB4 := hB3.trans (k4.mono (by rw [hs3]; omega))
    have hs4 := k4.size
    rw [hs3] at hs4
    have hx4 := hx3.call k4
    have hr4 := hr3.below k4
    have hn4 := hps _ (hE.below hB4)
    clear hn3 hB3 k4 hx3 hr3 hps
    go_wp2_with fail
    refine hn4.mono ?_
    rintro e w5 ⟨v2, rfl, hr5, k5⟩
    obtain ⟨a2, p2, hv2, -⟩ := hr5.reads
    subst hv2
    have hb6 := (Below.refl w5.heap.size w5).alloc (Nat.le_refl _) (.cells #[.slice a2 m.length p2] 24)
    have hs5 := k5.size
    have hB6 := (hB4.trans (k5.mono (by omega))).trans (hb6.mono (by omega))
    have hx6 := (hx4.call k5).call hb6
    have hr6 := (hr4.below k5).below hb6
    have hq6 := hr5.below hb6
    have hy6 := Has.new w5 [.slice a2 m.length p2] 24
    have hs6 : (w5.alloc (.cells #[.slice a2 m.length p2] 24)).heap.size = w5.heap.size + 1 := by simp
    have hal := alive8_any _ (hE.below hB6)
    clear hn4 hB4 k5 hb6 hx4 hr4 hr5
    go_wp2_with fail
    refine hal.mono ?_
    rintro e w7 ⟨rfl, k7⟩
    have hs7 := k7.size
    rw [hs6] at hs7
    have hx7 := hx6.call k7
    have hy7 := hy6.call k7
    have hB7 := hB6.trans (k7.mono (by rw [hs6]; omega))
    have c7 : w7.cell? ⟨w.heap.size, 0, none⟩ = some (.slice a1 m.length p1) := hx7.cell 0
    have d7 : w7.cell? ⟨w5.heap.size, 0, none⟩ = some (.slice a2 m.length p2) := hy7.cell 0
    have hn7 := hsm w7 _ _ (hq6.below k7).reads (hr6.below k7).reads
    clear hal hB6 k7 hx6 hr6 hq6 hy6 hx7 hy7 hsm
    go_wp2_with fail
    refine hn7.mono ?_
    rintro e w8 ⟨rfl, k8⟩
    have hB8 := hB7.trans (k8.mono (by omega))
    go_wp2
    go_ret
    exact ⟨rfl, hB8⟩
end Go.Proofs.YtdimgomigidbkaaGreatDoor
namespace Go.Proofs.YtdimgomigidbkaaGreatDoor.lawRecipeBack
open Go.ChangeShapes Go.WideShapes Go.ChangeAt Go.RowKit Go.Joins
open Go.ChangeMaps (open_string shut_string)

set_option maxRecDepth 100000 in
theorem lifted (os : Os) (started : os.Started) (H : Type) (enc : TypeId × Value → H) :
    ReturnsInHanded {} Tryz.checked os 5 .any (fun w args => (Rows.recipeBackSpec.pre enc Tryz.prog Tryz.f5 [] false w args ∧ laidMetH Tryz.prog Rows.recipeBackRow.laid w) ∧ sizedMet enc Tryz.prog Tryz.f5 (OpenSpec.ofChange Rows.recipeBackSpec) false w args)
      (Rows.recipeBackSpec.post enc Tryz.prog Tryz.f5 false true false false) := by
  refine returnsInHanded_of_change_and (C := Tryz.checked) (X := fun w _ => laidMetH Tryz.prog Rows.recipeBackRow.laid w) (fun _ _ _ hh h => h.of_heap hh) own started (by kernel_rfl) Tryz.func5
    (ChangeSpec.witness_shaped (enc := enc) (C := Tryz.checked) (os := os) (X := fun w _ => laidMetH Tryz.prog Rows.recipeBackRow.laid w) false (World.doorLaid Tryz.prog 400 os) #[.agg #[.slice none 0 0]] 8 rfl (World.shaped_of_RefB (by kernel_rfl) (by kernel_rfl)) (by kernel_rfl) (by kernel_rfl) (by kernel_rfl) (door8_met os _)) ?_
  intro W base args ds gs before hval0 hW _ hsz0 hL _
  have hsz : (DataW.weightsEach Tryz.prog (Tryz.f5.params.toList ++ Rows.recipeBackSpec.plain.varTypes Tryz.prog) (ds ++ gs)).all (· ≤ reachBytes) = true := hsz0
  clear hsz0
  have hval : ∀ (j : Nat) t v, Tryz.f5.params[j]? = some t → args[j]? = some v → Value.okWide Tryz.prog W .any base t v := hval0
  have hW' := hW
  obtain ⟨p, q, hA0, hV, rfl, _, _⟩ := hW
  have hA : DataW.TrodAll enc Tryz.prog W 0 (fun _ => true) true Tryz.f5.params.toList args.toList ds p := hA0
  rw [Tryz.params5] at hA hval hsz
  obtain ⟨v0, d0, rfl, rfl, h0⟩ := trodAll_one hA
  obtain ⟨rfl, rfl⟩ := trodVars_none hV
  clear hA0 hval0
  simp only [List.append_nil] at hW'
  have hlt0 : ∀ x ∈ p, x.block < W.heap.size := fun x hx => by simpa using hW'.lt x (by simp [hx])
  have ag0 := fun W' hb' => again (W' := W') (by kernel_rfl) (of_decide_eq_true (by kernel_rfl)) h0 hb' hlt0
  obtain ⟨va, l, rfl, hrd, hnl, hfin⟩ := openRec (hval 0 24 v0 rfl rfl) h0
  have hE := env8_of (show laidMetH Tryz.prog laid8 W from hL)
  refine (back_walk l va W hnl hfin hrd hE).mono fun e W' ⟨he, hb'⟩ => ?_
  subst he
  exact ⟨_, rfl, lawPost _ _ hW' (trodAll_mk1 (shut_bool Tryz.underlying4 _)) (trodAll_mk1 (ag0 W' hb')) rfl hb'⟩
theorem said : Rows.RecipeBackSaid :=
  OpenClaim.holds_of_wide 5 Tryz.f5 rfl rfl rfl rfl rfl rfl rfl ⟨rfl, rfl, rfl, rfl, rfl⟩ rfl rfl rfl rfl rfl (by kernel_rfl) Tryz.func5 (by kernel_rfl)
    (of_decide_eq_true (by kernel_rfl)) (by unfold Func.isWrapper; first | (rw [if_pos (by decide +kernel)]; kernel_rfl) | (rw [if_neg (by decide +kernel)]; exact ⟨rfl, rfl⟩))
    (fun os started H enc _ => lifted os started H enc)
theorem holds : Rows.RecipeBackCardSaid :=
  Claim7.holds_tied_plain_at .later [] Rows.recipeBackCard.laidKinds true Rows.recipeBackCard.stood.harness true
    said (fun _ h => by cases h) (by kernel_rfl) (fun _ h => by cases h) recipeBack_row_tie rfl ⟨rfl, rfl⟩ (by kernel_rfl) rfl
    (fun f fn hf hfn => by
      obtain rfl : f = 5 := Option.some.inj ((show Tryz.prog.funcNamed "datum/datumlaw08.RecipeBack" = some 5 by kernel_rfl).symm.trans hf) |>.symm
      obtain rfl : fn = Tryz.f5 := (Option.some.inj (Tryz.func5.symm.trans hfn)).symm
      exact ⟨by kernel_rfl, fun j t ht => by
        rw [Tryz.params5] at ht
        have hm : t ∈ [24] := by simpa using Array.mem_of_getElem? ht
        have hall : ([24].all fun u => !(Tryz.prog).wantsStandIn u) = true := by kernel_rfl
        exact (show (Tryz.prog).wantsStandIn t = false by simpa using List.all_eq_true.1 hall t hm)⟩)
    (by kernel_rfl)
#print axioms holds
end Go.Proofs.YtdimgomigidbkaaGreatDoor.lawRecipeBack
