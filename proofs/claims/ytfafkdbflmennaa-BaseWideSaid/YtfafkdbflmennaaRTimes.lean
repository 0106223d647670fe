/- datumref01.Times answers the product of two wide numbers, round at 2^128, and whether that went round; nothing that was in memory before is changed. -/
import Derived.Test.YtfafkdbflmennaaRow
import Derived.Test.YtfafkdbflmennaaFrame
namespace Go.Proofs.Ytfafkdbflmennaa
open Go.RowKit

set_option maxHeartbeats 8000000 in
theorem rtimes_walk (a b : Nat) (F : Nat → Nat) (hF : ∀ K, F K = cvTo (pc a) (pc b) K 8) (w : World) :
    Calls Try.prog 38 #[.agg #[.int .u64 (hi a : Nat), .int .u64 (lo a : Nat)], .agg #[.int .u64 (hi b : Nat), .int .u64 (lo b : Nat)]] w fun e w' => e = .returned (.tuple #[.agg #[.int .u64 (hi (vTo (carL F 16) 8) : Nat), .int .u64 (lo (vTo (carL F 16) 8) : Nat)], .bool (anyB (carL F 16) 9)]) ∧ Below w.heap.size w w' := by
  have HF := Lib.hid hF; clear hF
  have HX : Hid (∀ j, F j < 1099511627776) := Lib.hid (fun j => by have := cvTo_le (pc a) (pc b) (pc_lt a) (pc_lt b) j 8; rw [HF.out j]; omega)
  go_enter Try.func38, Try.ntmps38
  go_wp2_with fail
  refine (pieces_any a _).mono ?_
  rintro e w1 ⟨g, cap, rfl, hg0, hg1, hcap, hcx, _, hb1⟩
  have L1 : Below (w.heap.size + 3) (((w.alloc (.cells #[.int .u64 (hi a : Nat), .int .u64 (lo a : Nat)] 36)).alloc (.cells #[.int .u64 (hi b : Nat), .int .u64 (lo b : Nat)] 36)).alloc (.cells #[.int .u64 0, .int .u64 0] 36)) w1 := hb1.mono (by simp)
  have K1 := keep2 (b := w.heap.size + 1) (x := .int .u64 (hi b : Nat)) (y := .int .u64 (lo b : Nat)) hb1 (by simp) (by simp [go_sem])
  have HC1 := Lib.hid hcx
  have hz1 := hb1.size
  simp at hz1 hg0
  clear hcx hb1 hcap
  have HL1 := Lib.hid L1; clear L1
  go_wp2_with fail
  refine (pieces_any b _).mono ?_
  rintro e w2 ⟨g', cap', rfl, hg0', hg1', _, hcy, _, hb2⟩
  have L2 : Below (w.heap.size + 3) (((w.alloc (.cells #[.int .u64 (hi a : Nat), .int .u64 (lo a : Nat)] 36)).alloc (.cells #[.int .u64 (hi b : Nat), .int .u64 (lo b : Nat)] 36)).alloc (.cells #[.int .u64 0, .int .u64 0] 36)) w2 := HL1.out.trans (hb2.mono (by omega))
  have HCX : Hid (∀ j, j < 8 → w2.cell? ⟨g, j, none⟩ = some (.int .u64 (pc a j : Nat))) := Lib.hid (fun j hj => (hb2.cell (p := ⟨g, j, none⟩) hg1).trans (HC1.out j hj))
  have HCY := Lib.hid hcy
  have hz2 := hb2.size
  have hgx : g < w2.heap.size := by omega
  have own0 : (w2.alloc (.cells #[] 34)).ownsRow w2.heap.size 34 1 (.slice (some ⟨w2.heap.size, 0, none⟩) 0 0) 0 (u64s (fl F 0)) := by
    exact World.ownsRow_made (base := w2.heap.size) (e := 34) (size := 1) w2 #[] 0 (Nat.le_refl _) (by unfold maxLen; omega) (by simp)
  have O0 := Lib.hid own0
  have HL2 := Lib.hid L2
  clear hcy hb2 HC1 HL1 K1 own0 L2
  go_wp2_with fail
  go_loopw [8, 9] (fun v i wr => ∃ K : Nat, K ≤ 16 ∧ i = .int .i64 K ∧ Hid (wr.ownsRow w2.heap.size 34 1 v K (u64s (fl F K))) ∧ Hid (Below w2.heap.size w2 wr)) (fun _ i _ => 16 - (intOf i).toNat)
  case atStart => exact ⟨0, Nat.zero_le _, rfl, O0, Lib.hid ((Below.refl _ _).alloc (Nat.le_refl _) _)⟩
  case round =>
    clear O0
    obtain ⟨K, hK, rfl, O, BR⟩ := hrel
    by_cases hlt : K < 16
    · have d16 : decide ((K : Int) < 16) = true := by simp; omega
      go_wp2_with fail
      obtain ⟨wo, hwo⟩ : ∃ wo : World, wo = wr := ⟨_, rfl⟩
      rw [← hwo] at O BR ⊢
      clear hwo
      go_loopw [10, 26] (fun n i wi => ∃ k : Nat, k ≤ 8 ∧ i = .int .i64 k ∧ n = .int .u64 (cvTo (pc a) (pc b) K k : Nat) ∧ Hid (wi.ownsRow w2.heap.size 34 1 u8 K (u64s (fl F K))) ∧ Hid (Below w2.heap.size w2 wi)) (fun _ i _ => 8 - (intOf i).toNat)
      case atStart => exact ⟨0, Nat.zero_le _, rfl, rfl, O, BR⟩
      case round =>
        clear O BR
        obtain ⟨k, hk, rfl, rfl, O, BR⟩ := hrel
        have zr := BR.out.size
        by_cases hlt8 : k < 8
        · have d8 : decide ((k : Int) < 8) = true := by simp; omega
          have bn := cvTo_le (pc a) (pc b) (pc_lt a) (pc_lt b) K k
          have Hn : Hid (cvTo (pc a) (pc b) K (k + 1) = cvTo (pc a) (pc b) K k + cvT (pc a) (pc b) k K) := rfl
          by_cases hB : k ≤ K ∧ K - k < 8
          · obtain ⟨j, hj, hj8⟩ : ∃ j, K = k + j ∧ j < 8 := ⟨K - k, by omega, hB.2⟩
            have Ht : Hid (cvT (pc a) (pc b) k K = pc a k * pc b j) := Lib.hid (by unfold cvT; rw [if_pos hB, show K - k = j by omega])
            have cx : wr.cell? ⟨g, k, none⟩ = some (.int .u64 (pc a k : Nat)) := (BR.out.cell (p := ⟨g, k, none⟩) hgx).trans (HCX.out k hlt8)
            have cy : wr.cell? ⟨g', j, none⟩ = some (.int .u64 (pc b j : Nat)) := (BR.out.cell (p := ⟨g', j, none⟩) hg1').trans (HCY.out j hj8)
            have bx := pc_lt a k
            have by' := pc_lt b j
            have bm := Nat.mul_le_mul (show pc a k ≤ 65535 by omega) (show pc b j ≤ 65535 by omega)
            have hj' : (K : Int) - (k : Int) = (j : Int) := by omega
            have HJ := Lib.hid hj; clear hj hB
            generalize pc a k = x at *
            generalize pc b j = y at *
            generalize cvTo (pc a) (pc b) K k = n at *
            have hw : IntKind.u64.wrap ((x : Int) * (y : Int)) = ((x * y : Nat) : Int) := shl16 x y (by unfold B64; omega)
            have hw2 : IntKind.u64.wrap ((n : Int) + ((x * y : Nat) : Int)) = ((n + x * y : Nat) : Int) := addU n (x * y) (by unfold B64; omega)
            generalize x * y = m at *
            have k0 : (0 : Int) ≤ (k : Int) := by omega
            have k8 : (k : Int) < 8 := by omega
            have j0 : (0 : Int) ≤ (j : Int) := by omega
            have j8 : (j : Int) < 8 := by omega
            have wj : IntKind.i64.wrap (j : Int) = (j : Int) := IntWalk.i64_in _ (by omega)
            have gr : g < wr.heap.size := by omega
            have gr' : g' < wr.heap.size := by omega
            go_wp2_with fail
            refine wp_region_held_drew (S := (fun w' => w'.cell? ⟨g, k, none⟩ = some (.int .u64 x) ∧ w'.cell? ⟨g', j, none⟩ = some (.int .u64 y))) (by kernel_rfl) (by simp [go_sem, *]) (fun hHeld => ?_)
            refine regTake 0 (some 39) (v := ?_) rfl rfl (by kernel_rfl) (by kernel_rfl) (by kernel_rfl) (fun _ _ _ h => h) (by rfl) hHeld ?_ ?_
            rotate_left 1
            · (intro w hSw; (try dsimp only at hSw); go_simp; try with_reducible rfl)
            simp only [Act.put, List.setIfInBounds_toArray, List.set_cons_zero, List.set_cons_succ]
            refine regTake 1 (some 40) (v := ?_) rfl rfl (by kernel_rfl) (by kernel_rfl) (by kernel_rfl) (fun _ _ _ h => h) (by rfl) hHeld ?_ ?_
            rotate_left 1
            · (intro w hSw; (try dsimp only at hSw); go_simp; try with_reducible rfl)
            simp only [Act.put, List.setIfInBounds_toArray, List.set_cons_zero, List.set_cons_succ]
            refine regTake 2 (some 41) (v := ?_) rfl rfl (by kernel_rfl) (by kernel_rfl) (by kernel_rfl) (fun _ _ _ h => h) (by rfl) hHeld ?_ ?_
            rotate_left 1
            · (intro w hSw; (try dsimp only at hSw); go_simp; try with_reducible rfl)
            simp only [Act.put, List.setIfInBounds_toArray, List.set_cons_zero, List.set_cons_succ]
            refine regTake 3 (some 42) (v := ?_) rfl rfl (by kernel_rfl) (by kernel_rfl) (by kernel_rfl) (fun _ _ _ h => h) (by rfl) hHeld ?_ ?_
            rotate_left 1
            · (intro w hSw; (try dsimp only at hSw); go_simp; try with_reducible rfl)
            simp only [Act.put, List.setIfInBounds_toArray, List.set_cons_zero, List.set_cons_succ]
            refine regTake 4 (some 43) (v := ?_) rfl rfl (by kernel_rfl) (by kernel_rfl) (by kernel_rfl) (fun _ _ _ h => h) (by rfl) hHeld ?_ ?_
            rotate_left 1
            · (intro w hSw; (try dsimp only at hSw); go_simp; try with_reducible rfl)
            simp only [Act.put, List.setIfInBounds_toArray, List.set_cons_zero, List.set_cons_succ]
            refine regTake 5 (some 44) (v := ?_) rfl rfl (by kernel_rfl) (by kernel_rfl) (by kernel_rfl) (fun _ _ _ h => h) (by rfl) hHeld ?_ ?_
            rotate_left 1
            · (intro w hSw; (try dsimp only at hSw); go_simp; try with_reducible rfl)
            simp only [Act.put, List.setIfInBounds_toArray, List.set_cons_zero, List.set_cons_succ]
            refine regTake 6 (some 45) (v := ?_) rfl rfl (by kernel_rfl) (by kernel_rfl) (by kernel_rfl) (fun _ _ _ h => h) (by rfl) hHeld ?_ ?_
            rotate_left 1
            · (intro w hSw; (try dsimp only at hSw); go_simp; try with_reducible rfl)
            simp only [Act.put, List.setIfInBounds_toArray, List.set_cons_zero, List.set_cons_succ]
            refine regTake 7 (some 46) (v := ?_) rfl rfl (by kernel_rfl) (by kernel_rfl) (by kernel_rfl) (fun _ _ _ h => h) (by rfl) hHeld ?_ ?_
            rotate_left 1
            · (intro w hSw; (try dsimp only at hSw); go_simp; try with_reducible rfl)
            simp only [Act.put, List.setIfInBounds_toArray, List.set_cons_zero, List.set_cons_succ]
            refine regTake 8 (some 47) (v := ?_) rfl rfl (by kernel_rfl) (by kernel_rfl) (by kernel_rfl) (fun _ _ _ h => h) (by rfl) hHeld ?_ ?_
            rotate_left 1
            · (intro w hSw; (try dsimp only at hSw); go_simp; try with_reducible rfl)
            simp only [Act.put, List.setIfInBounds_toArray, List.set_cons_zero, List.set_cons_succ]
            refine regTake 9 (some 48) (v := ?_) rfl rfl (by kernel_rfl) (by kernel_rfl) (by kernel_rfl) (fun _ _ _ h => h) (by rfl) hHeld ?_ ?_
            rotate_left 1
            · (intro w hSw; (try dsimp only at hSw); go_simp; try with_reducible rfl)
            simp only [Act.put, List.setIfInBounds_toArray, List.set_cons_zero, List.set_cons_succ]
            refine regTake 10 (some 49) (v := ?_) rfl rfl (by kernel_rfl) (by kernel_rfl) (by kernel_rfl) (fun _ _ _ h => h) (by rfl) hHeld ?_ ?_
            rotate_left 1
            · (intro w hSw; (try dsimp only at hSw); go_simp; try with_reducible rfl)
            simp only [Act.put, List.setIfInBounds_toArray, List.set_cons_zero, List.set_cons_succ]
            refine regTake 11 (some 50) (v := ?_) rfl rfl (by kernel_rfl) (by kernel_rfl) (by kernel_rfl) (fun _ _ _ h => h) (by rfl) hHeld ?_ ?_
            rotate_left 1
            · (intro w hSw; (try dsimp only at hSw); go_simp; try with_reducible rfl)
            simp only [Act.put, List.setIfInBounds_toArray, List.set_cons_zero, List.set_cons_succ]
            refine regTake 12 (some 51) (v := ?_) rfl rfl (by kernel_rfl) (by kernel_rfl) (by kernel_rfl) (fun _ _ _ h => h) (by rfl) hHeld ?_ ?_
            rotate_left 1
            · (intro w hSw; (try dsimp only at hSw); go_simp; try with_reducible rfl)
            simp only [Act.put, List.setIfInBounds_toArray, List.set_cons_zero, List.set_cons_succ]
            refine regTake 13 (some 10) (v := ?_) rfl rfl (by kernel_rfl) (by kernel_rfl) (by kernel_rfl) (fun _ _ _ h => h) (by rfl) hHeld ?_ ?_
            rotate_left 1
            · (intro w hSw; (try dsimp only at hSw); go_simp; try with_reducible rfl)
            simp only [Act.put, List.setIfInBounds_toArray, List.set_cons_zero, List.set_cons_succ]
            clear hHeld
            refine wpAnyH_done (by kernel_rfl) ?_ _
            go_wp2_with fail
            go_roundw
            case rel => exact ⟨k + 1, by omega, by go_num, congrArg (Value.int .u64) (by rw [Hn.out, Ht.out]; omega), O, Lib.hid BR.out.drew⟩
            case measure => simp [intOf]; omega
          · have Ht : Hid (cvT (pc a) (pc b) k K = 0) := Lib.hid (by unfold cvT; rw [if_neg hB])
            generalize cvTo (pc a) (pc b) K k = n at *
            by_cases hA : K < k
            · clear hB
              go_wp2_with fail
              go_roundw
              case rel => exact ⟨k + 1, by omega, by go_num, congrArg (Value.int .u64) (by rw [Hn.out, Ht.out]; omega), O, BR⟩
              case measure => simp [intOf]; omega
            · have hC : 8 ≤ K - k := by omega
              have hC' : (8 : Int) ≤ (K : Int) - (k : Int) := by omega
              clear hB
              go_wp2_with fail
              go_roundw
              case rel => exact ⟨k + 1, by omega, by go_num, congrArg (Value.int .u64) (by rw [Hn.out, Ht.out]; omega), O, BR⟩
              case measure => simp [intOf]; omega
        · obtain rfl : k = 8 := by omega
          have Ho : Hid (u64s (fl F (K + 1)) = u64s (fl F K) ++ [.int .u64 ((cvTo (pc a) (pc b) K 8 : Nat) : Int)]) := Lib.hid (by rw [u64s_snoc, HF.out K])
          generalize cvTo (pc a) (pc b) K 8 = n at *
          generalize u64s (fl F K) = out at *
          go_wp2_with (at_builtin; refine append1 rfl _ _ rfl w2.heap.size _ K _ rfl (O.out.alloc _) wr.heap.size (n : Int) rfl ?c1 ?c2 ?c3 ?_)
          case c1 => simp [go_sem]
          case c2 => omega
          case c3 => (simp; omega)
          intro v1 w3 O1 G1
          have B1 := Lib.hid ((BR.out.alloc (by omega) _).grown G1 (by simp; omega) (fun k hk => (O.out.lt k hk).1))
          have HO := Lib.hid O1; clear O1 G1 zr
          go_wp2_with fail
          go_roundw
          case rel =>
            refine ⟨K + 1, by omega, by go_num, ?_, B1⟩
            have h := HO.out
            rw [← Ho.out] at h
            exact Lib.hid h
          case measure => simp [intOf]; omega
    · obtain rfl : K = 16 := by omega
      obtain ⟨gl, capl, rfl, l0, l1, _, lc, _⟩ := row_cells (by omega) O.out
      have LC := Lib.hid lc
      clear O lc
      go_wp2_with fail
      refine (carried_any F gl 16 capl _ (by omega) HX.out l1 LC.out).mono ?_
      rintro e w4 ⟨g4, cap4, rfl, q0, q1, qcap, qc, _, hb4⟩
      have zr := BR.out.size
      have L4 : Below (w.heap.size + 3) (((w.alloc (.cells #[.int .u64 (hi a : Nat), .int .u64 (lo a : Nat)] 36)).alloc (.cells #[.int .u64 (hi b : Nat), .int .u64 (lo b : Nat)] 36)).alloc (.cells #[.int .u64 0, .int .u64 0] 36)) w4 := HL2.out.trans ((BR.out.trans (hb4.mono (by omega))).mono (by omega))
      have QC := Lib.hid qc
      have HL4 := Lib.hid L4
      clear qc L4 hb4 LC
      go_wp2_with fail
      go_loop [12, 62] (fun v i => ∃ k : Nat, k ≤ 9 ∧ i = .int .i64 k ∧ v = .bool (anyB (carL F 16) k)) (fun _ i => 9 - (intOf i).toNat)
      case atStart => exact ⟨0, Nat.zero_le _, rfl, rfl⟩
      case round =>
        obtain ⟨k, hk, rfl, rfl⟩ := hrel
        by_cases hlt9 : k < 9
        · have cx : w4.cell? ⟨g4, 8 + k, none⟩ = some (.int .u64 (carL F 16 (8 + k) : Nat)) := QC.out (8 + k) (by omega)
          have Ha : Hid (anyB (carL F 16) (k + 1) = (anyB (carL F 16) k || decide (0 < carL F 16 (8 + k)))) := rfl
          generalize carL F 16 (8 + k) = x at *
          generalize anyB (carL F 16) k = q at *
          by_cases hx : 0 < x
          · have Hq : Hid (anyB (carL F 16) (k + 1) = true) := Lib.hid (by rw [Ha.out]; simp [hx])
            go_wp2_with fail
            go_round
            case rel => exact ⟨k + 1, by omega, by go_num, by rw [Hq.out]⟩
            case measure => simp [intOf]; omega
          · have Hq : Hid (anyB (carL F 16) (k + 1) = q) := Lib.hid (by rw [Ha.out]; simp [hx])
            go_wp2_with fail
            go_round
            case rel => exact ⟨k + 1, by omega, by go_num, by rw [Hq.out]⟩
            case measure => simp [intOf]; omega
        · obtain rfl : k = 9 := by omega
          go_wp2_with fail
          refine (wholeR_any (carL F 16) g4 17 cap4 _ (by omega) (fun j hj => by rw [carL_lt _ _ _ (by omega)]; exact carM_lt _ _) q1 QC.out).mono ?_
          rintro e w5 ⟨rfl, hb5⟩
          have L5 : Below (w.heap.size + 3) (((w.alloc (.cells #[.int .u64 (hi a : Nat), .int .u64 (lo a : Nat)] 36)).alloc (.cells #[.int .u64 (hi b : Nat), .int .u64 (lo b : Nat)] 36)).alloc (.cells #[.int .u64 0, .int .u64 0] 36)) w5 := HL4.out.trans (hb5.mono (by omega))
          have r0 := L5.cell (p := ⟨w.heap.size + 1 + 1, 0, none⟩) (by simp)
          have r1 := L5.cell (p := ⟨w.heap.size + 1 + 1, 1, none⟩) (by simp)
          have f0 := L5.frozen (p := ⟨w.heap.size + 1 + 1, 0, none⟩) (by simp)
          have f1 := L5.frozen (p := ⟨w.heap.size + 1 + 1, 1, none⟩) (by simp)
          have hz5 := L5.size
          simp [go_sem] at r0 r1 f0 f1 hz5
          have HL5 := Lib.hid L5
          clear L5 hb5 HL4
          go_wp2_with fail
          refine bodyPost_ret (v := .tuple #[.agg #[.int .u64 (hi (vTo (carL F 16) 8) : Nat), .int .u64 (lo (vTo (carL F 16) 8) : Nat)], .bool (anyB (carL F 16) 9)]) (by simp [results, Try.results38, go_sem, *]) rfl ⟨rfl, ?_⟩
          have hb' : Below w.heap.size w w5 := ((((Below.refl _ _).alloc (Nat.le_refl _) _).alloc (by simp) _).alloc (by simp; omega) _).trans (HL5.out.mono (by omega))
          repeat first | exact hb' | refine Below.drew ?_ | refine Below.alloc ?_ (by first | omega | (simp; omega)) _ | refine Below.setCell ?_ (by first | omega | (simp; omega)) _
theorem rtimes_any (a b : Nat) (ha : a < M128) (hb : b < M128) (w : World) :
    Calls Try.prog 38 #[.agg #[.int .u64 (hi a : Nat), .int .u64 (lo a : Nat)], .agg #[.int .u64 (hi b : Nat), .int .u64 (lo b : Nat)]] w fun e w' => e = .returned (.tuple #[.agg #[.int .u64 (hi (mulW a b) : Nat), .int .u64 (lo (mulW a b) : Nat)], .bool (mulO a b)]) ∧ Below w.heap.size w w' := by
  have h := rtimes_walk a b (fun K => cvTo (pc a) (pc b) K 8) (fun _ => rfl) w
  obtain ⟨e1, e2⟩ := rtimes_nums a b ha hb
  rw [e1, e2] at h
  exact h
end Go.Proofs.Ytfafkdbflmennaa
