/- datumref01.Add answers what two wide numbers are together, round at 2^128, and whether that went round; nothing that was in memory before is changed. -/
import Derived.Test.YtfafkdbflmennaaRow
import Derived.Test.YtfafkdbflmennaaFrame
namespace Go.Proofs.Ytfafkdbflmennaa
open Go.RowKit

set_option maxHeartbeats 4000000 in
theorem radd_walk (a b : Nat) (F : Nat → Nat) (hF : ∀ j, F j = pc a j + pc b j) (w : World) :
    Calls Try.prog 34 #[.agg #[.int .u64 (hi a : Nat), .int .u64 (lo a : Nat)], .agg #[.int .u64 (hi b : Nat), .int .u64 (lo b : Nat)]] w fun e w' => e = .returned (.tuple #[.agg #[.int .u64 (hi (vTo (carL F 8) 8) : Nat), .int .u64 (lo (vTo (carL F 8) 8) : Nat)], .bool (decide (0 < carC F 8))]) ∧ Below w.heap.size w w' := by
  have HF := Lib.hid hF; clear hF
  have HX : Hid (∀ j, F j < 1099511627776) := Lib.hid (fun j => by have := pc_lt a j; have := pc_lt b j; rw [HF.out j]; omega)
  go_enter Try.func34, Try.ntmps34
  go_wp2_with fail
  refine (pieces_any a _).mono ?_
  rintro e w1 ⟨g, cap, rfl, hg0, hg1, hcap, hcx, _, hb1⟩
  have L1 : Below (w.heap.size + 3) (((w.alloc (.cells #[.int .u64 (hi a : Nat), .int .u64 (lo a : Nat)] 36)).alloc (.cells #[.int .u64 (hi b : Nat), .int .u64 (lo b : Nat)] 36)).alloc (.cells #[.int .u64 0, .int .u64 0] 36)) w1 := hb1.mono (by simp)
  have K1 := keep2 (b := w.heap.size + 1) (x := .int .u64 (hi b : Nat)) (y := .int .u64 (lo b : Nat)) hb1 (by simp) (by simp [go_sem])
  have HC1 := Lib.hid hcx
  have hz1 := hb1.size
  simp at hz1 hg0
  clear hcx hb1 hcap
  have HL1 := Lib.hid L1; clear L1
  go_wp2_with fail
  refine (pieces_any b _).mono ?_
  rintro e w2 ⟨g', cap', rfl, hg0', hg1', _, hcy, _, hb2⟩
  have L2 : Below (w.heap.size + 3) (((w.alloc (.cells #[.int .u64 (hi a : Nat), .int .u64 (lo a : Nat)] 36)).alloc (.cells #[.int .u64 (hi b : Nat), .int .u64 (lo b : Nat)] 36)).alloc (.cells #[.int .u64 0, .int .u64 0] 36)) w2 := HL1.out.trans (hb2.mono (by omega))
  have HCX : Hid (∀ j, j < 8 → w2.cell? ⟨g, j, none⟩ = some (.int .u64 (pc a j : Nat))) := Lib.hid (fun j hj => (hb2.cell (p := ⟨g, j, none⟩) hg1).trans (HC1.out j hj))
  have HCY := Lib.hid hcy
  have hz2 := hb2.size
  have hgx : g < w2.heap.size := by omega
  have own0 : (w2.alloc (.cells #[] 34)).ownsRow w2.heap.size 34 1 (.slice (some ⟨w2.heap.size, 0, none⟩) 0 0) 0 (u64s (fl F 0)) := by
    exact World.ownsRow_made (base := w2.heap.size) (e := 34) (size := 1) w2 #[] 0 (Nat.le_refl _) (by unfold maxLen; omega) (by simp)
  have O0 := Lib.hid own0
  have HL2 := Lib.hid L2
  clear hcy hb2 HC1 HL1 K1 own0 L2
  go_wp2_with fail
  go_loopw [8, 17] (fun v i wr => ∃ k : Nat, k ≤ 8 ∧ i = .int .i64 k ∧ Hid (wr.ownsRow w2.heap.size 34 1 v k (u64s (fl F k))) ∧ Hid (Below w2.heap.size w2 wr)) (fun _ i _ => 8 - (intOf i).toNat)
  case atStart => exact ⟨0, Nat.zero_le _, rfl, O0, Lib.hid ((Below.refl _ _).alloc (Nat.le_refl _) _)⟩
  case round =>
    clear O0
    obtain ⟨k, hk, rfl, O, BR⟩ := hrel
    have zr := BR.out.size
    by_cases hlt : k < 8
    · have cx : wr.cell? ⟨g, k, none⟩ = some (.int .u64 (pc a k : Nat)) := (BR.out.cell (p := ⟨g, k, none⟩) hgx).trans (HCX.out k hlt)
      have cy : wr.cell? ⟨g', k, none⟩ = some (.int .u64 (pc b k : Nat)) := (BR.out.cell (p := ⟨g', k, none⟩) hg1').trans (HCY.out k hlt)
      have bx := pc_lt a k
      have by' := pc_lt b k
      have Ho : Hid (u64s (fl F (k + 1)) = u64s (fl F k) ++ [.int .u64 ((pc a k + pc b k : Nat) : Int)]) := Lib.hid (by rw [u64s_snoc, HF.out k])
      generalize pc a k = x at *
      generalize pc b k = y at *
      generalize u64s (fl F k) = out at *
      have hw : IntKind.u64.wrap ((x : Int) + (y : Int)) = ((x + y : Nat) : Int) := addU x y (by unfold B64; omega)
      have k0 : (0 : Int) ≤ (k : Int) := by omega
      have k8 : (k : Int) < 8 := by omega
      have gr : g < wr.heap.size := by omega
      have gr' : g' < wr.heap.size := by omega
      go_wp2_with fail
      refine wp_region_held_drew (S := (fun w' => w'.cell? ⟨g, k, none⟩ = some (.int .u64 x) ∧ w'.cell? ⟨g', k, none⟩ = some (.int .u64 y))) (by kernel_rfl) (by simp [go_sem, *]) (fun hHeld => ?_)
      refine regTake 0 (some 20) (v := ?_) rfl rfl (by kernel_rfl) (by kernel_rfl) (by kernel_rfl) (fun _ _ _ h => h) (by rfl) hHeld ?_ ?_
      rotate_left 1
      · (intro w hSw; (try dsimp only at hSw); go_simp; try with_reducible rfl)
      simp only [Act.put, List.setIfInBounds_toArray, List.set_cons_zero, List.set_cons_succ]
      refine regTake 1 (some 21) (v := ?_) rfl rfl (by kernel_rfl) (by kernel_rfl) (by kernel_rfl) (fun _ _ _ h => h) (by rfl) hHeld ?_ ?_
      rotate_left 1
      · (intro w hSw; (try dsimp only at hSw); go_simp; try with_reducible rfl)
      simp only [Act.put, List.setIfInBounds_toArray, List.set_cons_zero, List.set_cons_succ]
      refine regTake 2 (some 22) (v := ?_) rfl rfl (by kernel_rfl) (by kernel_rfl) (by kernel_rfl) (fun _ _ _ h => h) (by rfl) hHeld ?_ ?_
      rotate_left 1
      · (intro w hSw; (try dsimp only at hSw); go_simp; try with_reducible rfl)
      simp only [Act.put, List.setIfInBounds_toArray, List.set_cons_zero, List.set_cons_succ]
      refine regTake 3 (some 23) (v := ?_) rfl rfl (by kernel_rfl) (by kernel_rfl) (by kernel_rfl) (fun _ _ _ h => h) (by rfl) hHeld ?_ ?_
      rotate_left 1
      · (intro w hSw; (try dsimp only at hSw); go_simp; try with_reducible rfl)
      simp only [Act.put, List.setIfInBounds_toArray, List.set_cons_zero, List.set_cons_succ]
      refine regTake 4 (some 24) (v := ?_) rfl rfl (by kernel_rfl) (by kernel_rfl) (by kernel_rfl) (fun _ _ _ h => h) (by rfl) hHeld ?_ ?_
      rotate_left 1
      · (intro w hSw; (try dsimp only at hSw); go_simp; try with_reducible rfl)
      simp only [Act.put, List.setIfInBounds_toArray, List.set_cons_zero, List.set_cons_succ]
      refine regTake 5 (some 25) (v := ?_) rfl rfl (by kernel_rfl) (by kernel_rfl) (by kernel_rfl) (fun _ _ _ h => h) (by rfl) hHeld ?_ ?_
      rotate_left 1
      · (intro w hSw; (try dsimp only at hSw); go_simp; try with_reducible rfl)
      simp only [Act.put, List.setIfInBounds_toArray, List.set_cons_zero, List.set_cons_succ]
      refine regTake 6 (some 26) (v := ?_) rfl rfl (by kernel_rfl) (by kernel_rfl) (by kernel_rfl) (fun _ _ _ h => h) (by rfl) hHeld ?_ ?_
      rotate_left 1
      · (intro w hSw; (try dsimp only at hSw); go_simp; try with_reducible rfl)
      simp only [Act.put, List.setIfInBounds_toArray, List.set_cons_zero, List.set_cons_succ]
      refine regTake 7 (some 27) (v := ?_) rfl rfl (by kernel_rfl) (by kernel_rfl) (by kernel_rfl) (fun _ _ _ h => h) (by rfl) hHeld ?_ ?_
      rotate_left 1
      · (intro w hSw; (try dsimp only at hSw); go_simp; try with_reducible rfl)
      simp only [Act.put, List.setIfInBounds_toArray, List.set_cons_zero, List.set_cons_succ]
      refine regTake 8 (some 28) (v := ?_) rfl rfl (by kernel_rfl) (by kernel_rfl) (by kernel_rfl) (fun _ _ _ h => h) (by rfl) hHeld ?_ ?_
      rotate_left 1
      · (intro w hSw; (try dsimp only at hSw); go_simp; try with_reducible rfl)
      simp only [Act.put, List.setIfInBounds_toArray, List.set_cons_zero, List.set_cons_succ]
      refine regTake 9 (some 29) (v := ?_) rfl rfl (by kernel_rfl) (by kernel_rfl) (by kernel_rfl) (fun _ _ _ h => h) (by rfl) hHeld ?_ ?_
      rotate_left 1
      · (intro w hSw; (try dsimp only at hSw); go_simp; try with_reducible rfl)
      simp only [Act.put, List.setIfInBounds_toArray, List.set_cons_zero, List.set_cons_succ]
      refine regDo 10 (some 30) (v := ?_) (w' := ?_) rfl rfl (by kernel_rfl) (by rfl) ?_ ?_ (fun hHeld => ?_)
      rotate_left 2
      · (go_simp; refine ⟨?_, ?_⟩ <;> with_reducible rfl)
      · (simp [go_sem, *]; done)
      simp only [Act.put, List.setIfInBounds_toArray, List.set_cons_zero, List.set_cons_succ]
      refine regAppend1 11 (some 31) rfl rfl (by kernel_rfl) (by rfl) _ _ rfl w2.heap.size _ k out rfl (O.out.alloc _).drew wr.heap.size ((x : Int) + (y : Int)) rfl ?_ (by omega) ?_ ?_
      · simp [go_sem]
      · (simp; omega)
      intro v1 w3 O1 G1
      have B1 := Lib.hid ((BR.out.alloc (by omega) _).drew.grown G1 (by simp; omega) (fun k hk => (O.out.lt k hk).1))
      have HO := Lib.hid O1; clear O1 G1
      refine ⟨⟨(B1.out.cell (p := ⟨g, k, none⟩) hgx).trans ((BR.out.cell (p := ⟨g, k, none⟩) hgx).symm.trans cx), (B1.out.cell (p := ⟨g', k, none⟩) hg1').trans ((BR.out.cell (p := ⟨g', k, none⟩) hg1').symm.trans cy)⟩, fun hHeld => ?_⟩
      simp only [Act.put, List.setIfInBounds_toArray, List.set_cons_zero, List.set_cons_succ]
      refine regTake 12 (some 8) (v := ?_) rfl rfl (by kernel_rfl) (by kernel_rfl) (by kernel_rfl) (fun _ _ _ h => h) (by rfl) hHeld ?_ ?_
      rotate_left 1
      · (intro w hSw; (try dsimp only at hSw); go_simp; try with_reducible rfl)
      simp only [Act.put, List.setIfInBounds_toArray, List.set_cons_zero, List.set_cons_succ]
      clear hHeld
      refine wpAnyH_done (by kernel_rfl) ?_ _
      go_wp2_with fail
      go_roundw
      case rel =>
        refine ⟨k + 1, by omega, by go_num, ?_, B1⟩
        have h := HO.out
        have e : ((x : Int) + (y : Int)) = ((x + y : Nat) : Int) := by omega
        rw [e, ← Ho.out] at h
        exact Lib.hid h
      case measure => simp [intOf]; omega
    · obtain rfl : k = 8 := by omega
      obtain ⟨gl, capl, rfl, l0, l1, _, lc, _⟩ := row_cells (by omega) O.out
      have LC := Lib.hid lc
      clear O lc
      go_wp2_with fail
      refine (carried_any F gl 8 capl _ (by omega) HX.out l1 LC.out).mono ?_
      rintro e w4 ⟨g4, cap4, rfl, q0, q1, _, qc, _, hb4⟩
      have L4 : Below (w.heap.size + 3) (((w.alloc (.cells #[.int .u64 (hi a : Nat), .int .u64 (lo a : Nat)] 36)).alloc (.cells #[.int .u64 (hi b : Nat), .int .u64 (lo b : Nat)] 36)).alloc (.cells #[.int .u64 0, .int .u64 0] 36)) w4 := HL2.out.trans ((BR.out.trans (hb4.mono (by omega))).mono (by omega))
      have QC := Lib.hid qc
      have q8 := qc 8 (by omega)
      rw [carL_end] at q8
      have r0 := L4.cell (p := ⟨w.heap.size + 1 + 1, 0, none⟩) (by simp)
      have r1 := L4.cell (p := ⟨w.heap.size + 1 + 1, 1, none⟩) (by simp)
      have f0 := L4.frozen (p := ⟨w.heap.size + 1 + 1, 0, none⟩) (by simp)
      have f1 := L4.frozen (p := ⟨w.heap.size + 1 + 1, 1, none⟩) (by simp)
      have hz4 := L4.size
      simp [go_sem] at r0 r1 f0 f1 hz4
      have HL4 := Lib.hid L4
      clear qc L4 hb4 LC
      have z2 : w.heap.size + 1 + 1 < w4.heap.size := by omega
      go_wp2_with fail
      refine wp_region_held_drew (S := (fun w' => w'.cell? ⟨g4, 8, none⟩ = some (.int .u64 (carC F 8 : Nat)))) (by kernel_rfl) (by simp [go_sem, *]) (fun hHeld => ?_)
      refine regTake 0 (some 35) (v := ?_) rfl rfl (by kernel_rfl) (by kernel_rfl) (by kernel_rfl) (fun _ _ _ h => h) (by rfl) hHeld ?_ ?_
      rotate_left 1
      · (intro w hSw; (try dsimp only at hSw); go_simp; try with_reducible rfl)
      simp only [Act.put, List.setIfInBounds_toArray, List.set_cons_zero, List.set_cons_succ]
      refine regTake 2 (some 37) (v := ?_) rfl rfl (by kernel_rfl) (by kernel_rfl) (by kernel_rfl) (fun _ _ _ h => h) (by rfl) hHeld ?_ ?_
      rotate_left 1
      · (intro w hSw; (try dsimp only at hSw); go_simp; try with_reducible rfl)
      simp only [Act.put, List.setIfInBounds_toArray, List.set_cons_zero, List.set_cons_succ]
      refine regTake 3 (some 38) (v := ?_) rfl rfl (by kernel_rfl) (by kernel_rfl) (by kernel_rfl) (fun _ _ _ h => h) (by rfl) hHeld ?_ ?_
      rotate_left 1
      · (intro w hSw; (try dsimp only at hSw); go_simp; try with_reducible rfl)
      simp only [Act.put, List.setIfInBounds_toArray, List.set_cons_zero, List.set_cons_succ]
      refine regTake 4 (some 39) (v := ?_) rfl rfl (by kernel_rfl) (by kernel_rfl) (by kernel_rfl) (fun _ _ _ h => h) (by rfl) hHeld ?_ ?_
      rotate_left 1
      · (intro w hSw; (try dsimp only at hSw); go_simp; try with_reducible rfl)
      simp only [Act.put, List.setIfInBounds_toArray, List.set_cons_zero, List.set_cons_succ]
      refine regTake 5 (some 40) (v := ?_) rfl rfl (by kernel_rfl) (by kernel_rfl) (by kernel_rfl) (fun _ _ _ h => h) (by rfl) hHeld ?_ ?_
      rotate_left 1
      · (intro w hSw; (try dsimp only at hSw); go_simp; try with_reducible rfl)
      simp only [Act.put, List.setIfInBounds_toArray, List.set_cons_zero, List.set_cons_succ]
      refine regCall 1 (some 36) (f := 43) (args := ?_) rfl rfl (by kernel_rfl) (by rfl) ?_ ?_
      rotate_left 1
      · (go_simp; try with_reducible rfl)
      refine (wholeR_any (carL F 8) g4 9 cap4 w4.drew (by omega) (fun j hj => by rw [carL_lt _ _ _ hj]; exact carM_lt _ _) q1 QC.out).mono ?_
      rintro e w5 ⟨rfl, hb5⟩
      have c5 := (hb5.cell (p := ⟨g4, 8, none⟩) q1).trans hHeld
      have r05 := (hb5.cell (p := ⟨w.heap.size + 1 + 1, 0, none⟩) z2).trans r0
      have r15 := (hb5.cell (p := ⟨w.heap.size + 1 + 1, 1, none⟩) z2).trans r1
      have f05 := (hb5.frozen (p := ⟨w.heap.size + 1 + 1, 0, none⟩) z2).trans f0
      have f15 := (hb5.frozen (p := ⟨w.heap.size + 1 + 1, 1, none⟩) z2).trans f1
      have L5 := HL4.out.drew.trans (hb5.mono (by simp; omega))
      have HL5 := Lib.hid L5; clear L5 hb5 r0 r1 f0 f1 HL4
      have g42 : w.heap.size + 1 + 1 ≠ g4 := by omega
      refine ⟨_, rfl, c5, fun hHeld => ?_⟩
      simp only [Act.put, List.setIfInBounds_toArray, List.set_cons_zero, List.set_cons_succ]
      refine regStore 6 (w' := ?_) rfl rfl (by kernel_rfl) (by rfl) ?_ ?_ (fun hHeld => ?_)
      rotate_left 1
      · (go_simp; try with_reducible rfl)
      · (simp [go_sem, *]; done)
      refine regTake 7 (some 5) (v := ?_) rfl rfl (by kernel_rfl) (by kernel_rfl) (by kernel_rfl) (fun _ _ _ h => h) (by rfl) hHeld ?_ ?_
      rotate_left 1
      · (intro w hSw; (try dsimp only at hSw); go_simp; try with_reducible rfl)
      simp only [Act.put, List.setIfInBounds_toArray, List.set_cons_zero, List.set_cons_succ]
      clear hHeld
      refine wpAnyH_done (by kernel_rfl) ?_ _
      go_wp2_with fail
      refine bodyPost_ret (v := .tuple #[.agg #[.int .u64 (hi (vTo (carL F 8) 8) : Nat), .int .u64 (lo (vTo (carL F 8) 8) : Nat)], .bool (decide (0 < carC F 8))]) (by simp [results, Try.results34, go_sem, *]) rfl ⟨rfl, ?_⟩
      have hb' : Below w.heap.size w w5 := ((((Below.refl _ _).alloc (Nat.le_refl _) _).alloc (by simp) _).alloc (by simp; omega) _).trans (HL5.out.mono (by omega))
      repeat first | exact hb' | refine Below.drew ?_ | refine Below.alloc ?_ (by first | omega | (simp; omega)) _ | refine Below.setCell ?_ (by first | omega | (simp; omega)) _

theorem radd_any (a b : Nat) (ha : a < M128) (hb : b < M128) (w : World) :
    Calls Try.prog 34 #[.agg #[.int .u64 (hi a : Nat), .int .u64 (lo a : Nat)], .agg #[.int .u64 (hi b : Nat), .int .u64 (lo b : Nat)]] w fun e w' => e = .returned (.tuple #[.agg #[.int .u64 (hi (addW a b) : Nat), .int .u64 (lo (addW a b) : Nat)], .bool (addO a b)]) ∧ Below w.heap.size w w' := by
  have h := radd_walk a b (fun j => pc a j + pc b j) (fun _ => rfl) w
  have s := carry_vTo (fun j => pc a j + pc b j) 8
  rw [vTo_add, vTo_pc a ha, vTo_pc b hb] at s
  have e := vTo_congr (carL (fun j => pc a j + pc b j) 8) (carM (fun j => pc a j + pc b j)) 8 (fun j hj => carL_lt _ _ _ hj)
  have l := vTo_lt (carM (fun j => pc a j + pc b j)) (carM_lt _) 8
  simp only [Nat.reducePow] at s l
  have e1 : vTo (carL (fun j => pc a j + pc b j) 8) 8 = addW a b := by
    rw [e]; unfold addW; omega
  have e2 : decide (0 < carC (fun j => pc a j + pc b j) 8) = addO a b := by
    unfold addO; rw [decide_eq_decide]; omega
  rw [e1, e2] at h
  exact h
end Go.Proofs.Ytfafkdbflmennaa
