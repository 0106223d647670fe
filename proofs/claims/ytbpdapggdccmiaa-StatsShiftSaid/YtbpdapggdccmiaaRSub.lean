/- datumref01.Sub answers one wide number without the other, round at 2^128, and whether that went round; nothing that was in memory before is changed. -/
import Derived.Test.YtbpdapggdccmiaaRow
import Derived.Test.YtbpdapggdccmiaaFrame
import Derived.Test.YtbpdapggdccmiaaRLess
namespace Go.Proofs.Ytbpdapggdccmiaa
open Go.RowKit

set_option maxHeartbeats 4000000 in
theorem rsub_walk (a b : Nat) (F G : Nat → Nat) (hF : ∀ j, F j = pc a j + 65535 - pc b j) (hG : ∀ j, G j = if j = 0 then F 0 + 1 else F j) (w : World) :
    Calls Try.prog 32 #[.agg #[.int .u64 (hi a : Nat), .int .u64 (lo a : Nat)], .agg #[.int .u64 (hi b : Nat), .int .u64 (lo b : Nat)]] w fun e w' => e = .returned (.tuple #[.agg #[.int .u64 (hi (vTo (carL G 8) 8) : Nat), .int .u64 (lo (vTo (carL G 8) 8) : Nat)], .bool (ltW a b)]) ∧ Below w.heap.size w w' := by
  have HF := Lib.hid hF; have HG := Lib.hid hG; clear hF hG
  have HX : Hid (∀ j, F j < 1000000) := Lib.hid (fun j => by have := pc_lt a j; have := pc_lt b j; rw [HF.out j]; omega)
  have HY : Hid (∀ j, G j < 1099511627776) := Lib.hid (fun j => by have := HX.out j; have := HX.out 0; rw [HG.out j]; split <;> omega)
  go_enter Try.func32, Try.ntmps32
  go_wp2_with fail
  refine (pieces_any a _).mono ?_
  rintro e w1 ⟨g, cap, rfl, hg0, hg1, hcap, hcx, _, hb1⟩
  have L1 : Below (w.heap.size + 3) (((w.alloc (.cells #[.int .u64 (hi a : Nat), .int .u64 (lo a : Nat)] 25)).alloc (.cells #[.int .u64 (hi b : Nat), .int .u64 (lo b : Nat)] 25)).alloc (.cells #[.int .u64 0, .int .u64 0] 25)) w1 := hb1.mono (by simp)
  have K1 := keep2 (b := w.heap.size + 1) (x := .int .u64 (hi b : Nat)) (y := .int .u64 (lo b : Nat)) hb1 (by simp) (by simp [go_sem])
  have HC1 := Lib.hid hcx
  have hz1 := hb1.size
  simp at hz1 hg0
  clear hcx hb1 hcap
  have HL1 := Lib.hid L1; clear L1
  go_wp2_with fail
  refine (pieces_any b _).mono ?_
  rintro e w2 ⟨g', cap', rfl, hg0', hg1', _, hcy, _, hb2⟩
  have L2 : Below (w.heap.size + 3) (((w.alloc (.cells #[.int .u64 (hi a : Nat), .int .u64 (lo a : Nat)] 25)).alloc (.cells #[.int .u64 (hi b : Nat), .int .u64 (lo b : Nat)] 25)).alloc (.cells #[.int .u64 0, .int .u64 0] 25)) w2 := HL1.out.trans (hb2.mono (by omega))
  have HCX : Hid (∀ j, j < 8 → w2.cell? ⟨g, j, none⟩ = some (.int .u64 (pc a j : Nat))) := Lib.hid (fun j hj => (hb2.cell (p := ⟨g, j, none⟩) hg1).trans (HC1.out j hj))
  have HCY := Lib.hid hcy
  have hz2 := hb2.size
  have hgx : g < w2.heap.size := by omega
  have own0 : (w2.alloc (.cells #[] 23)).ownsRow w2.heap.size 23 1 (.slice (some ⟨w2.heap.size, 0, none⟩) 0 0) 0 (u64s (fl F 0)) := by
    exact World.ownsRow_made (base := w2.heap.size) (e := 23) (size := 1) w2 #[] 0 (Nat.le_refl _) (by unfold maxLen; omega) (by simp)
  have O0 := Lib.hid own0
  have HL2 := Lib.hid L2
  clear hcy hb2 HC1 HL1 K1 own0 L2
  go_wp2_with fail
  go_loopw [8, 17] (fun v i wr => ∃ k : Nat, k ≤ 8 ∧ i = .int .i64 k ∧ Hid (wr.ownsRow w2.heap.size 23 1 v k (u64s (fl F k))) ∧ Hid (Below w2.heap.size w2 wr)) (fun _ i _ => 8 - (intOf i).toNat)
  case atStart => exact ⟨0, Nat.zero_le _, rfl, O0, Lib.hid ((Below.refl _ _).alloc (Nat.le_refl _) _)⟩
  case round =>
    clear O0
    obtain ⟨k, hk, rfl, O, BR⟩ := hrel
    have zr := BR.out.size
    by_cases hlt : k < 8
    · have cx : wr.cell? ⟨g, k, none⟩ = some (.int .u64 (pc a k : Nat)) := (BR.out.cell (p := ⟨g, k, none⟩) hgx).trans (HCX.out k hlt)
      have cy : wr.cell? ⟨g', k, none⟩ = some (.int .u64 (pc b k : Nat)) := (BR.out.cell (p := ⟨g', k, none⟩) hg1').trans (HCY.out k hlt)
      have bx := pc_lt a k
      have by' := pc_lt b k
      have Ho : Hid (u64s (fl F (k + 1)) = u64s (fl F k) ++ [.int .u64 ((pc a k + 65535 - pc b k : Nat) : Int)]) := Lib.hid (by rw [u64s_snoc, HF.out k])
      generalize pc a k = x at *
      generalize pc b k = y at *
      generalize u64s (fl F k) = out at *
      have hw : IntKind.u64.wrap ((x : Int) + 65535) = (x : Int) + 65535 := by rw [IntKind.wrap_u64]; omega
      have hw2 : IntKind.u64.wrap ((x : Int) + 65535 - (y : Int)) = (x : Int) + 65535 - (y : Int) := by rw [IntKind.wrap_u64]; omega
      have k0 : (0 : Int) ≤ (k : Int) := by omega
      have k8 : (k : Int) < 8 := by omega
      have gr : g < wr.heap.size := by omega
      have gr' : g' < wr.heap.size := by omega
      go_wp2_with fail
      refine wp_region_held_drew (S := (fun w' => w'.cell? ⟨g, k, none⟩ = some (.int .u64 x) ∧ w'.cell? ⟨g', k, none⟩ = some (.int .u64 y))) (by kernel_rfl) (by simp [go_sem, *]) (fun hHeld => ?_)
      refine regTake 0 (some 20) (v := ?_) rfl rfl (by kernel_rfl) (by kernel_rfl) (by kernel_rfl) (fun _ _ _ h => h) (by rfl) hHeld ?_ ?_
      rotate_left 1
      · (intro w hSw; (try dsimp only at hSw); go_simp; try with_reducible rfl)
      simp only [Act.put, List.setIfInBounds_toArray, List.set_cons_zero, List.set_cons_succ]
      refine regTake 1 (some 21) (v := ?_) rfl rfl (by kernel_rfl) (by kernel_rfl) (by kernel_rfl) (fun _ _ _ h => h) (by rfl) hHeld ?_ ?_
      rotate_left 1
      · (intro w hSw; (try dsimp only at hSw); go_simp; try with_reducible rfl)
      simp only [Act.put, List.setIfInBounds_toArray, List.set_cons_zero, List.set_cons_succ]
      refine regTake 2 (some 22) (v := ?_) rfl rfl (by kernel_rfl) (by kernel_rfl) (by kernel_rfl) (fun _ _ _ h => h) (by rfl) hHeld ?_ ?_
      rotate_left 1
      · (intro w hSw; (try dsimp only at hSw); go_simp; try with_reducible rfl)
      simp only [Act.put, List.setIfInBounds_toArray, List.set_cons_zero, List.set_cons_succ]
      refine regTake 3 (some 23) (v := ?_) rfl rfl (by kernel_rfl) (by kernel_rfl) (by kernel_rfl) (fun _ _ _ h => h) (by rfl) hHeld ?_ ?_
      rotate_left 1
      · (intro w hSw; (try dsimp only at hSw); go_simp; try with_reducible rfl)
      simp only [Act.put, List.setIfInBounds_toArray, List.set_cons_zero, List.set_cons_succ]
      refine regTake 4 (some 24) (v := ?_) rfl rfl (by kernel_rfl) (by kernel_rfl) (by kernel_rfl) (fun _ _ _ h => h) (by rfl) hHeld ?_ ?_
      rotate_left 1
      · (intro w hSw; (try dsimp only at hSw); go_simp; try with_reducible rfl)
      simp only [Act.put, List.setIfInBounds_toArray, List.set_cons_zero, List.set_cons_succ]
      refine regTake 5 (some 25) (v := ?_) rfl rfl (by kernel_rfl) (by kernel_rfl) (by kernel_rfl) (fun _ _ _ h => h) (by rfl) hHeld ?_ ?_
      rotate_left 1
      · (intro w hSw; (try dsimp only at hSw); go_simp; try with_reducible rfl)
      simp only [Act.put, List.setIfInBounds_toArray, List.set_cons_zero, List.set_cons_succ]
      refine regTake 6 (some 26) (v := ?_) rfl rfl (by kernel_rfl) (by kernel_rfl) (by kernel_rfl) (fun _ _ _ h => h) (by rfl) hHeld ?_ ?_
      rotate_left 1
      · (intro w hSw; (try dsimp only at hSw); go_simp; try with_reducible rfl)
      simp only [Act.put, List.setIfInBounds_toArray, List.set_cons_zero, List.set_cons_succ]
      refine regTake 7 (some 27) (v := ?_) rfl rfl (by kernel_rfl) (by kernel_rfl) (by kernel_rfl) (fun _ _ _ h => h) (by rfl) hHeld ?_ ?_
      rotate_left 1
      · (intro w hSw; (try dsimp only at hSw); go_simp; try with_reducible rfl)
      simp only [Act.put, List.setIfInBounds_toArray, List.set_cons_zero, List.set_cons_succ]
      refine regTake 8 (some 28) (v := ?_) rfl rfl (by kernel_rfl) (by kernel_rfl) (by kernel_rfl) (fun _ _ _ h => h) (by rfl) hHeld ?_ ?_
      rotate_left 1
      · (intro w hSw; (try dsimp only at hSw); go_simp; try with_reducible rfl)
      simp only [Act.put, List.setIfInBounds_toArray, List.set_cons_zero, List.set_cons_succ]
      refine regTake 9 (some 29) (v := ?_) rfl rfl (by kernel_rfl) (by kernel_rfl) (by kernel_rfl) (fun _ _ _ h => h) (by rfl) hHeld ?_ ?_
      rotate_left 1
      · (intro w hSw; (try dsimp only at hSw); go_simp; try with_reducible rfl)
      simp only [Act.put, List.setIfInBounds_toArray, List.set_cons_zero, List.set_cons_succ]
      refine regTake 10 (some 30) (v := ?_) rfl rfl (by kernel_rfl) (by kernel_rfl) (by kernel_rfl) (fun _ _ _ h => h) (by rfl) hHeld ?_ ?_
      rotate_left 1
      · (intro w hSw; (try dsimp only at hSw); go_simp; try with_reducible rfl)
      simp only [Act.put, List.setIfInBounds_toArray, List.set_cons_zero, List.set_cons_succ]
      refine regDo 11 (some 31) (v := ?_) (w' := ?_) rfl rfl (by kernel_rfl) (by rfl) ?_ ?_ (fun hHeld => ?_)
      rotate_left 2
      · (go_simp; refine ⟨?_, ?_⟩ <;> with_reducible rfl)
      · (simp [go_sem, *]; done)
      simp only [Act.put, List.setIfInBounds_toArray, List.set_cons_zero, List.set_cons_succ]
      refine regAppend1 12 (some 32) rfl rfl (by kernel_rfl) (by rfl) _ _ rfl w2.heap.size _ k out rfl (O.out.alloc _).drew wr.heap.size ((x : Int) + 65535 - (y : Int)) rfl ?_ (by omega) ?_ ?_
      · simp [go_sem]
      · (simp; omega)
      intro v1 w3 O1 G1
      have B1 := Lib.hid ((BR.out.alloc (by omega) _).drew.grown G1 (by simp; omega) (fun k hk => (O.out.lt k hk).1))
      have HO := Lib.hid O1; clear O1 G1
      refine ⟨⟨(B1.out.cell (p := ⟨g, k, none⟩) hgx).trans ((BR.out.cell (p := ⟨g, k, none⟩) hgx).symm.trans cx), (B1.out.cell (p := ⟨g', k, none⟩) hg1').trans ((BR.out.cell (p := ⟨g', k, none⟩) hg1').symm.trans cy)⟩, fun hHeld => ?_⟩
      simp only [Act.put, List.setIfInBounds_toArray, List.set_cons_zero, List.set_cons_succ]
      refine regTake 13 (some 8) (v := ?_) rfl rfl (by kernel_rfl) (by kernel_rfl) (by kernel_rfl) (fun _ _ _ h => h) (by rfl) hHeld ?_ ?_
      rotate_left 1
      · (intro w hSw; (try dsimp only at hSw); go_simp; try with_reducible rfl)
      simp only [Act.put, List.setIfInBounds_toArray, List.set_cons_zero, List.set_cons_succ]
      clear hHeld
      refine wpAnyH_done (by kernel_rfl) ?_ _
      go_wp2_with fail
      go_roundw
      case rel =>
        refine ⟨k + 1, by omega, by go_num, ?_, B1⟩
        have h := HO.out
        have e : ((x : Int) + 65535 - (y : Int)) = ((x + 65535 - y : Nat) : Int) := by omega
        rw [e, ← Ho.out] at h
        exact Lib.hid h
      case measure => simp [intOf]; omega
    · obtain rfl : k = 8 := by omega
      obtain ⟨gl, capl, rfl, l0, l1, _, lc, lf⟩ := row_cells (by omega) O.out
      have LC := Lib.hid lc
      have LF := Lib.hid lf
      have l0c := lc 0 (by omega)
      have l0f := lf 0
      have x0 := HX.out 0
      have hw : IntKind.u64.wrap ((F 0 : Int) + 1) = (F 0 : Int) + 1 := by rw [IntKind.wrap_u64]; omega
      have SC : Hid (∀ j, j < 8 → ((wr.setCell ⟨gl, 0, none⟩ (.int .u64 ((F 0 : Int) + 1))).drew).cell? ⟨gl, j, none⟩ = some (.int .u64 (G j : Nat))) := by
        refine Lib.hid (fun j hj => ?_)
        rw [HG.out j]
        by_cases hj0 : j = 0
        · subst hj0
          simp [go_sem, l0c]
        · rw [if_neg hj0]
          refine Eq.trans ?_ (lc j hj)
          exact World.cell?_setCell_other wr _ _ _ (fun e => hj0 (by injection e with _ e2; exact e2.symm))
      clear O lc lf
      go_wp2_with fail
      have RW : Hid (Below (w.heap.size + 3) (((w.alloc (.cells #[.int .u64 (hi a : Nat), .int .u64 (lo a : Nat)] 25)).alloc (.cells #[.int .u64 (hi b : Nat), .int .u64 (lo b : Nat)] 25)).alloc (.cells #[.int .u64 0, .int .u64 0] 25)) wr) := Lib.hid (HL2.out.trans (BR.out.mono (by omega)))
      have a0 := RW.out.cell (p := ⟨w.heap.size, 0, none⟩) (by simp)
      have a1 := RW.out.cell (p := ⟨w.heap.size, 1, none⟩) (by simp)
      have b0 := RW.out.cell (p := ⟨w.heap.size + 1, 0, none⟩) (by simp)
      have b1 := RW.out.cell (p := ⟨w.heap.size + 1, 1, none⟩) (by simp)
      simp [go_sem] at a0 a1 b0 b1
      have n0 : gl ≠ w.heap.size := by omega
      have n1 : gl ≠ w.heap.size + 1 := by omega
      have s0 : w.heap.size < wr.heap.size := by omega
      have s1 : w.heap.size + 1 < wr.heap.size := by omega
      refine wp_region_held_drew (S := (fun w' => (w.heap.size < w'.heap.size ∧ w'.cell? ⟨w.heap.size, 0, none⟩ = some (.int .u64 (hi a : Nat)) ∧ w'.cell? ⟨w.heap.size, 1, none⟩ = some (.int .u64 (lo a : Nat))) ∧ (w.heap.size + 1 < w'.heap.size ∧ w'.cell? ⟨w.heap.size + 1, 0, none⟩ = some (.int .u64 (hi b : Nat)) ∧ w'.cell? ⟨w.heap.size + 1, 1, none⟩ = some (.int .u64 (lo b : Nat))))) (by kernel_rfl) (by simp [go_sem, *]) (fun hHeld => ?_)
      refine regTake 0 (some 40) (v := ?_) rfl rfl (by kernel_rfl) (by kernel_rfl) (by kernel_rfl) (fun _ _ _ h => h) (by rfl) hHeld ?_ ?_
      rotate_left 1
      · (intro w hSw; (try dsimp only at hSw); go_simp; try with_reducible rfl)
      simp only [Act.put, List.setIfInBounds_toArray, List.set_cons_zero, List.set_cons_succ]
      refine regTake 3 (some 43) (v := ?_) rfl rfl (by kernel_rfl) (by kernel_rfl) (by kernel_rfl) (fun _ _ _ h => h) (by rfl) hHeld ?_ ?_
      rotate_left 1
      · (intro w hSw; (try dsimp only at hSw); go_simp; try with_reducible rfl)
      simp only [Act.put, List.setIfInBounds_toArray, List.set_cons_zero, List.set_cons_succ]
      refine regTake 4 (some 44) (v := ?_) rfl rfl (by kernel_rfl) (by kernel_rfl) (by kernel_rfl) (fun _ _ _ h => h) (by rfl) hHeld ?_ ?_
      rotate_left 1
      · (intro w hSw; (try dsimp only at hSw); go_simp; try with_reducible rfl)
      simp only [Act.put, List.setIfInBounds_toArray, List.set_cons_zero, List.set_cons_succ]
      refine regCall 1 (some 41) (f := 46) (args := ?_) rfl rfl (by kernel_rfl) (by rfl) ?_ ?_
      rotate_left 1
      · (go_simp; try with_reducible rfl)
      refine (carried_any G gl 8 capl ((wr.setCell ⟨gl, 0, none⟩ (.int .u64 ((F 0 : Int) + 1))).drew) (by omega) HY.out (by simpa using l1) SC.out).mono ?_
      rintro e w4 ⟨g4, cap4, rfl, q0, q1, _, qc, _, hb4⟩
      have QC := Lib.hid qc
      have RW4 : Hid (Below (w.heap.size + 3) (((w.alloc (.cells #[.int .u64 (hi a : Nat), .int .u64 (lo a : Nat)] 25)).alloc (.cells #[.int .u64 (hi b : Nat), .int .u64 (lo b : Nat)] 25)).alloc (.cells #[.int .u64 0, .int .u64 0] 25)) w4) := Lib.hid ((RW.out.setCell (by simp; omega) _).drew.trans (hb4.mono (by simp; omega)))
      clear qc RW LC LF SC
      refine ⟨_, rfl, ⟨keep2 hb4 hHeld.1.1 hHeld.1.2, keep2 hb4 hHeld.2.1 hHeld.2.2⟩, fun hHeld => ?_⟩
      simp only [Act.put, List.setIfInBounds_toArray, List.set_cons_zero, List.set_cons_succ]
      refine regCall 2 (some 42) (f := 47) (args := ?_) rfl rfl (by kernel_rfl) (by rfl) ?_ ?_
      rotate_left 1
      · (go_simp; try with_reducible rfl)
      refine (wholeR_any (carL G 8) g4 9 cap4 _ (by omega) (fun j hj => by rw [carL_lt _ _ _ hj]; exact carM_lt _ _) q1 QC.out).mono ?_
      rintro e w5 ⟨rfl, hb5⟩
      have RW5 : Hid (Below (w.heap.size + 3) (((w.alloc (.cells #[.int .u64 (hi a : Nat), .int .u64 (lo a : Nat)] 25)).alloc (.cells #[.int .u64 (hi b : Nat), .int .u64 (lo b : Nat)] 25)).alloc (.cells #[.int .u64 0, .int .u64 0] 25)) w5) := Lib.hid (RW4.out.trans (hb5.mono (by have := RW4.out.size; simp at this; omega)))
      clear RW4
      refine ⟨_, rfl, ⟨keep2 hb5 hHeld.1.1 hHeld.1.2, keep2 hb5 hHeld.2.1 hHeld.2.2⟩, fun hHeld => ?_⟩
      simp only [Act.put, List.setIfInBounds_toArray, List.set_cons_zero, List.set_cons_succ]
      refine regCall 5 (some 45) (f := 27) (args := ?_) rfl rfl (by kernel_rfl) (by rfl) ?_ ?_
      rotate_left 1
      · (go_simp; try with_reducible rfl)
      refine (rless_any a b _).mono ?_
      rintro e w6 ⟨rfl, hb6⟩
      have RW6 : Hid (Below (w.heap.size + 3) (((w.alloc (.cells #[.int .u64 (hi a : Nat), .int .u64 (lo a : Nat)] 25)).alloc (.cells #[.int .u64 (hi b : Nat), .int .u64 (lo b : Nat)] 25)).alloc (.cells #[.int .u64 0, .int .u64 0] 25)) w6) := Lib.hid (RW5.out.trans (hb6.mono (by have := RW5.out.size; simp at this; omega)))
      have r0 := RW6.out.cell (p := ⟨w.heap.size + 1 + 1, 0, none⟩) (by simp)
      have r1 := RW6.out.cell (p := ⟨w.heap.size + 1 + 1, 1, none⟩) (by simp)
      have f0 := RW6.out.frozen (p := ⟨w.heap.size + 1 + 1, 0, none⟩) (by simp)
      have f1 := RW6.out.frozen (p := ⟨w.heap.size + 1 + 1, 1, none⟩) (by simp)
      simp [go_sem] at r0 r1 f0 f1
      clear RW5
      refine ⟨_, rfl, ⟨keep2 hb6 hHeld.1.1 hHeld.1.2, keep2 hb6 hHeld.2.1 hHeld.2.2⟩, fun hHeld => ?_⟩
      simp only [Act.put, List.setIfInBounds_toArray, List.set_cons_zero, List.set_cons_succ]
      refine regStore 6 (w' := ?_) rfl rfl (by kernel_rfl) (by rfl) ?_ ?_ (fun hHeld => ?_)
      rotate_left 1
      · (go_simp; try with_reducible rfl)
      · (simp [go_sem, *]; done)
      refine regTake 7 (some 5) (v := ?_) rfl rfl (by kernel_rfl) (by kernel_rfl) (by kernel_rfl) (fun _ _ _ h => h) (by rfl) hHeld ?_ ?_
      rotate_left 1
      · (intro w hSw; (try dsimp only at hSw); go_simp; try with_reducible rfl)
      simp only [Act.put, List.setIfInBounds_toArray, List.set_cons_zero, List.set_cons_succ]
      clear hHeld
      refine wpAnyH_done (by kernel_rfl) ?_ _
      go_wp2_with fail
      refine bodyPost_ret (v := .tuple #[.agg #[.int .u64 (hi (vTo (carL G 8) 8) : Nat), .int .u64 (lo (vTo (carL G 8) 8) : Nat)], .bool (ltW a b)]) (by simp [results, Try.results32, go_sem, *]) rfl ⟨rfl, ?_⟩
      have hb' : Below w.heap.size w w6 := ((((Below.refl _ _).alloc (Nat.le_refl _) _).alloc (by simp) _).alloc (by simp; omega) _).trans (RW6.out.mono (by omega))
      repeat first | exact hb' | refine Below.drew ?_ | refine Below.alloc ?_ (by first | omega | (simp; omega)) _ | refine Below.setCell ?_ (by first | omega | (simp; omega)) _

theorem vTo_sub (a b : Nat) (ha : a < M128) (hb : b < M128) : vTo (fun j => if j = 0 then pc a 0 + 65535 - pc b 0 + 1 else pc a j + 65535 - pc b j) 8 = a + 340282366920938463463374607431768211456 - b := by
  have h1 := vTo_pc a ha
  have h2 := vTo_pc b hb
  have p0 := pc_lt b 0; have p1 := pc_lt b 1; have p2 := pc_lt b 2; have p3 := pc_lt b 3
  have p4 := pc_lt b 4; have p5 := pc_lt b 5; have p6 := pc_lt b 6; have p7 := pc_lt b 7
  unfold M128 at hb
  simp only [vTo, Nat.reducePow] at h1 h2 ⊢
  generalize pc a 0 = a0 at *; generalize pc a 1 = a1 at *; generalize pc a 2 = a2 at *; generalize pc a 3 = a3 at *
  generalize pc a 4 = a4 at *; generalize pc a 5 = a5 at *; generalize pc a 6 = a6 at *; generalize pc a 7 = a7 at *
  generalize pc b 0 = b0 at *; generalize pc b 1 = b1 at *; generalize pc b 2 = b2 at *; generalize pc b 3 = b3 at *
  generalize pc b 4 = b4 at *; generalize pc b 5 = b5 at *; generalize pc b 6 = b6 at *; generalize pc b 7 = b7 at *
  simp +decide only [↓reduceIte] at *
  omega
theorem rsub_any (a b : Nat) (ha : a < M128) (hb : b < M128) (w : World) :
    Calls Try.prog 32 #[.agg #[.int .u64 (hi a : Nat), .int .u64 (lo a : Nat)], .agg #[.int .u64 (hi b : Nat), .int .u64 (lo b : Nat)]] w fun e w' => e = .returned (.tuple #[.agg #[.int .u64 (hi (subW a b) : Nat), .int .u64 (lo (subW a b) : Nat)], .bool (ltW a b)]) ∧ Below w.heap.size w w' := by
  let G : Nat → Nat := fun j => if j = 0 then pc a 0 + 65535 - pc b 0 + 1 else pc a j + 65535 - pc b j
  have h := rsub_walk a b (fun j => pc a j + 65535 - pc b j) G (fun _ => rfl) (fun _ => rfl) w
  have s := carry_vTo G 8
  have t : vTo G 8 = a + 340282366920938463463374607431768211456 - b := vTo_sub a b ha hb
  rw [t] at s
  have e := vTo_congr (carL G 8) (carM G) 8 (fun j hj => carL_lt _ _ _ hj)
  have l := vTo_lt (carM G) (carM_lt _) 8
  simp only [Nat.reducePow] at s l
  have e1 : vTo (carL G 8) 8 = subW a b := by
    rw [e]; unfold subW; omega
  rw [e1] at h
  exact h
end Go.Proofs.Ytbpdapggdccmiaa
