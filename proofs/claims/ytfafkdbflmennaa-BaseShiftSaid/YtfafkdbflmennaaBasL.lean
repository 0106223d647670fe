/- The law of BaseShift: its walk. -/
import Derived.Test.YtfafkdbflmennaaBasK
import Derived.Test.YtfafkdbflmennaaBasJ
namespace Go.Proofs.Ytfafkdbflmennaa
open Go.RowKit

def ShA (L : List (List Int)) (W : World) (tv iv : Value) (wr : World) : Prop :=
  ∃ k : Nat, k ≤ L.length ∧ iv = .int .i64 ((L.length : Int) - 1 - (k : Int)) ∧ OwnRows W.heap.size tv wr ((L.reverse.take k).map List.reverse) ∧ Below W.heap.size W wr
def ShB (row : List Int) (W : World) (rv jv : Value) (wr : World) : Prop :=
  ∃ j : Nat, j ≤ row.length ∧ jv = .int .i64 ((row.length : Int) - 1 - (j : Int)) ∧ IRow W.heap.size rv (row.reverse.take j) wr ∧ Below W.heap.size W wr
def ShC (c : Int) (L : List (List Int)) (W : World) (mv iv : Value) (wr : World) : Prop :=
  ∃ i : Nat, i ≤ L.length ∧ iv = .int .i64 (i : Nat) ∧ OwnRows W.heap.size mv wr (addR c (L.take i)) ∧ Below W.heap.size W wr
def ShD (c : Int) (row : List Int) (W : World) (rv kv : Value) (wr : World) : Prop :=
  ∃ k : Nat, k ≤ row.length ∧ kv = .int .i64 (k : Nat) ∧ IRow W.heap.size rv ((row.take k).map (· + c)) wr ∧ Below W.heap.size W wr
theorem rev_at {α : Type} (l : List α) (k : Nat) (hk : k < l.length) : l.reverse[k]? = l[l.length - 1 - k]? := List.getElem?_reverse hk
theorem OwnRows.nil (B : Nat) (w : World) : OwnRows B (.slice none 0 0) w [] := ⟨[], World.ownsRow_nil w B _ 1, fun i row hi => by cases hi⟩
theorem OwnRows.mono {B B' : Nat} {rv : Value} {w : World} {L : List (List Int)} (h : OwnRows B rv w L) (hb : B' ≤ B) : OwnRows B' rv w L := by
  obtain ⟨vs, h1, h2⟩ := h
  refine ⟨vs, ⟨h1.1, ?_⟩, fun i row hi => ?_⟩
  · rcases h1.2 with hn | ⟨g, cap, cur, h3, h4, h5⟩
    · exact .inl hn
    · exact .inr ⟨g, cap, cur, h3, by omega, h5⟩
  · obtain ⟨u, h3, h4⟩ := h2 i row hi
    exact ⟨u, h3, h4.mono hb⟩
/-- Rows that were turned, and moved, are rows. -/
theorem turn_good {sz : Nat} {most : Int} {L : List (List Int)} (h : goodRows sz most L) : goodRows sz most (turnR L) := by
  refine ⟨by unfold turnR; rw [List.length_map, List.length_reverse]; exact h.1, fun r hr => ?_⟩
  obtain ⟨q, hq, rfl⟩ := List.mem_map.1 hr
  obtain ⟨h1, h2⟩ := h.2 q (by simpa using hq)
  exact ⟨by rw [List.length_reverse]; exact h1, fun x hx => h2 x (by simpa using hx)⟩
theorem add_good {sz : Nat} {L : List (List Int)} {c : Int} (h : goodRows sz 500000 L) (hc : -400000 ≤ c ∧ c ≤ 400000) : goodRows sz 1000000 (addR c L) := by
  refine ⟨by unfold addR; rw [List.length_map]; exact h.1, fun r hr => ?_⟩
  obtain ⟨q, hq, rfl⟩ := List.mem_map.1 hr
  obtain ⟨h1, h2⟩ := h.2 q hq
  refine ⟨by rw [List.length_map]; exact h1, fun x hx => ?_⟩
  obtain ⟨y, hy, rfl⟩ := List.mem_map.1 hx
  have := h2 y hy
  omega
/-- All that the law compares, of both points and both ways. -/
theorem shift_nums {sz : Nat} {L : List (List Int)} {c s r : Int} (h1 : 1 ≤ sz) (h2 : sz ≤ 10) (hg : goodRows sz 500000 L) (hc : -400000 < c ∧ c < 400000) (hs : -((sz : Int) * 500000) ≤ s ∧ s ≤ (sz : Int) * 500000) :
    ((madeN (sz : Int) (addR c L)).rng = (madeN (sz : Int) L).rng ∧ (madeN (sz : Int) (turnR L)).rng = (madeN (sz : Int) L).rng ∧ (madeN (sz : Int) (turnR L)).sum = (madeN (sz : Int) L).sum ∧ (madeN (sz : Int) (turnR L)).m = (madeN (sz : Int) L).m ∧ (madeN (sz : Int) (addR c L)).m = (madeN (sz : Int) L).m) ∧
    basOk (madeN (sz : Int) L) ∧ basOk (madeN (sz : Int) (addR c L)) ∧ sumB (madeN (sz : Int) L) s = true ∧ sumB (madeN (sz : Int) (addR c L)) (s + c * (sz : Int)) = true ∧
    ((pntN (madeN (sz : Int) (addR c L)) (s + c * (sz : Int))).dev = (pntN (madeN (sz : Int) L) s).dev ∧ (pntN (madeN (sz : Int) (addR c L)) (s + c * (sz : Int))).var = (pntN (madeN (sz : Int) L) s).var ∧ (pntN (madeN (sz : Int) (addR c L)) (s + c * (sz : Int))).den = (pntN (madeN (sz : Int) L) s).den ∧ (pntN (madeN (sz : Int) (addR c L)) (s + c * (sz : Int))).center = (pntN (madeN (sz : Int) L) s).center + c * (pntN (madeN (sz : Int) L) s).den) ∧
    wideN (madeN (sz : Int) (addR c L)) r = wideN (madeN (sz : Int) L) r := by
  have hok := hg.ok (by omega)
  have hga := add_good (c := c) hg (by omega)
  have hoka := hga.ok (by omega)
  have hokt := (turn_good hg).ok (by omega)
  have hb := made_ok (size := (sz : Int)) (by omega) (by omega) L hok hg.1
  have hba := made_ok (size := (sz : Int)) (by omega) (by omega) _ hoka hga.1
  obtain ⟨a1, a2, a3⟩ := made_shift (size := (sz : Int)) (c := c) (by omega) hok hoka
  obtain ⟨t1, t2, t3⟩ := made_turn hok hokt
  have z1 := (made_size (sz : Int) L).1
  have z2 := (made_size (sz : Int) (addR c L)).1
  have hcs := mulB (show -399999 ≤ c ∧ c ≤ 399999 by omega) (show -(sz : Int) ≤ (sz : Int) ∧ (sz : Int) ≤ (sz : Int) by omega)
  have hp := point_shift (a := madeN (sz : Int) L) (b := madeN (sz : Int) (addR c L)) (c := c) (by rw [z1, z2]) a1 a2 (by rw [a3, z1]) s
  rw [z1] at hp
  exact ⟨⟨a1, t1, t3, t2, a2⟩, hb, hba, decide_eq_true (by rw [z1]; omega), decide_eq_true (by rw [z2]; omega), hp, wide_same (by rw [z1, z2]) a1 a2 r⟩
set_option linter.unusedSimpArgs false in
set_option linter.unusedVariables false in
set_option maxHeartbeats 16000000 in
set_option maxRecDepth 100000 in
theorem shift15_walk (H : BasCode) (z : Int) (l : List Int) (c0 s0 r0 : Int) (v : Value) (w : World) (hr : ReadsI w v l) (hlen : l.length ≤ 9223372036854775807) :
    Calls Try.prog 6 #[.int .i64 z, v, .int .i64 c0, .int .i64 s0, .int .i64 r0] w fun e w' => e = .returned (.bool true) ∧ Below w.heap.size w w' := by
  have HROWS := Lib.hid (rows_any z 500000 l v w (by omega) hr hlen)
  have HALA := Lib.hid (fun W => alive15_any H W)
  have hbase := Nat.le_refl w.heap.size
  have HH := Lib.hid H
  clear hr hlen H
  go_enter Try.func6, Try.ntmps6
  go_wp2_with fail
  refine HROWS.out.mono ?_
  rintro e w2 ⟨sz, L, rv, s1, s2, hg, rfl, hrv, hb2⟩
  have HS1 := Lib.hid s1; have HS2 := Lib.hid s2
  have hw1 : IntKind.i64.wrap ((sz : Int) * 500000) = (sz : Int) * 500000 := wrapI (by omega)
  have hM : 1 ≤ (sz : Int) * 500000 + 1 := by omega
  obtain ⟨M, hMe⟩ : ∃ M, (sz : Int) * 500000 + 1 = M := ⟨_, rfl⟩
  rw [hMe] at hM
  have hw2 : IntKind.i64.wrap ((sz : Int) * 500000 + 1) = M := by rw [← hMe]; exact wrapI (by omega)
  have hM0 : ¬ M = 0 := by omega
  have hM1 : (M == 0) = false := beq_false_of_ne hM0
  obtain ⟨r, hr0, hr1, hr2, hr3⟩ := modI r0 1000001 (by omega)
  have hw3 : IntKind.i64.wrap (r0.tmod 1000001 + 1000001) = r0.tmod 1000001 + 1000001 := wrapI (by have := remI r0 1000001 (by omega); omega)
  have HME := Lib.hid hMe; have HR1 := Lib.hid (remI s0 M hM); have HR2 := Lib.hid (remI c0 400000 (by omega)); have HR3 := Lib.hid hr3
  have HG := Lib.hid hg; have HRV0 := Lib.hid hrv; have HB2 := Lib.hid hb2
  clear hMe hM hg hrv hb2 s1 s2 hr2 hr3
  go_upto_region 2 with fail
  refine wp_region_held_drew (S := fun _ => True) (by kernel_rfl) trivial (fun hHeld => ?_)
  refine regTake 0 (some 42) (v := ?_) rfl rfl (by kernel_rfl) (by kernel_rfl) (by kernel_rfl) (fun _ _ _ h => h) (by rfl) hHeld ?_ ?_
  rotate_left 1
  · (intro w hSw; (try dsimp only at hSw); go_simp; try with_reducible rfl)
  simp only [Act.put, List.setIfInBounds_toArray, List.set_cons_zero, List.set_cons_succ]
  refine regTake 1 (some 43) (v := ?_) rfl rfl (by kernel_rfl) (by kernel_rfl) (by kernel_rfl) (fun _ _ _ h => h) (by rfl) hHeld ?_ ?_
  rotate_left 1
  · (intro w hSw; (try dsimp only at hSw); go_simp; try with_reducible rfl)
  simp only [Act.put, List.setIfInBounds_toArray, List.set_cons_zero, List.set_cons_succ]
  refine regTake 2 (some 44) (v := ?_) rfl rfl (by kernel_rfl) (by kernel_rfl) (by kernel_rfl) (fun _ _ _ h => h) (by rfl) hHeld ?_ ?_
  rotate_left 1
  · (intro w hSw; (try dsimp only at hSw); go_simp; try with_reducible rfl)
  simp only [Act.put, List.setIfInBounds_toArray, List.set_cons_zero, List.set_cons_succ]
  refine regTake 3 (some 45) (v := ?_) rfl rfl (by kernel_rfl) (by kernel_rfl) (by kernel_rfl) (fun _ _ _ h => h) (by rfl) hHeld ?_ ?_
  rotate_left 1
  · (intro w hSw; (try dsimp only at hSw); go_simp; try with_reducible rfl)
  simp only [Act.put, List.setIfInBounds_toArray, List.set_cons_zero, List.set_cons_succ]
  refine regTake 4 (some 46) (v := ?_) rfl rfl (by kernel_rfl) (by kernel_rfl) (by kernel_rfl) (fun _ _ _ h => h) (by rfl) hHeld ?_ ?_
  rotate_left 1
  · (intro w hSw; (try dsimp only at hSw); go_simp; try with_reducible rfl)
  simp only [Act.put, List.setIfInBounds_toArray, List.set_cons_zero, List.set_cons_succ]
  refine regTake 5 (some 47) (v := ?_) rfl rfl (by kernel_rfl) (by kernel_rfl) (by kernel_rfl) (fun _ _ _ h => h) (by rfl) hHeld ?_ ?_
  rotate_left 1
  · (intro w hSw; (try dsimp only at hSw); go_simp; try with_reducible rfl)
  simp only [Act.put, List.setIfInBounds_toArray, List.set_cons_zero, List.set_cons_succ]
  refine regTake 6 (some 48) (v := ?_) rfl rfl (by kernel_rfl) (by kernel_rfl) (by kernel_rfl) (fun _ _ _ h => h) (by rfl) hHeld ?_ ?_
  rotate_left 1
  · (intro w hSw; (try dsimp only at hSw); go_simp; try with_reducible rfl)
  simp only [Act.put, List.setIfInBounds_toArray, List.set_cons_zero, List.set_cons_succ]
  refine regTake 7 (some 49) (v := ?_) rfl rfl (by kernel_rfl) (by kernel_rfl) (by kernel_rfl) (fun _ _ _ h => h) (by rfl) hHeld ?_ ?_
  rotate_left 1
  · (intro w hSw; (try dsimp only at hSw); go_simp; try with_reducible rfl)
  simp only [Act.put, List.setIfInBounds_toArray, List.set_cons_zero, List.set_cons_succ]
  refine regTake 8 (some 50) (v := ?_) rfl rfl (by kernel_rfl) (by kernel_rfl) (by kernel_rfl) (fun _ _ _ h => h) (by rfl) hHeld ?_ ?_
  rotate_left 1
  · (intro w hSw; (try dsimp only at hSw); go_simp; try with_reducible rfl)
  simp only [Act.put, List.setIfInBounds_toArray, List.set_cons_zero, List.set_cons_succ]
  refine regTake 9 (some 51) (v := ?_) rfl rfl (by kernel_rfl) (by kernel_rfl) (by kernel_rfl) (fun _ _ _ h => h) (by rfl) hHeld ?_ ?_
  rotate_left 1
  · (intro w hSw; (try dsimp only at hSw); go_simp; try with_reducible rfl)
  simp only [Act.put, List.setIfInBounds_toArray, List.set_cons_zero, List.set_cons_succ]
  refine regTake 10 (some 52) (v := ?_) rfl rfl (by kernel_rfl) (by kernel_rfl) (by kernel_rfl) (fun _ _ _ h => h) (by rfl) hHeld ?_ ?_
  rotate_left 1
  · (intro w hSw; (try dsimp only at hSw); go_simp; try with_reducible rfl)
  simp only [Act.put, List.setIfInBounds_toArray, List.set_cons_zero, List.set_cons_succ]
  refine regTake 11 (some 2) (v := ?_) rfl rfl (by kernel_rfl) (by kernel_rfl) (by kernel_rfl) (fun _ _ _ h => h) (by rfl) hHeld ?_ ?_
  rotate_left 1
  · (intro w hSw; (try dsimp only at hSw); go_simp; try with_reducible rfl)
  simp only [Act.put, List.setIfInBounds_toArray, List.set_cons_zero, List.set_cons_succ]
  refine regTake 12 (some 3) (v := ?_) rfl rfl (by kernel_rfl) (by kernel_rfl) (by kernel_rfl) (fun _ _ _ h => h) (by rfl) hHeld ?_ ?_
  rotate_left 1
  · (intro w hSw; (try dsimp only at hSw); go_simp; try with_reducible rfl)
  simp only [Act.put, List.setIfInBounds_toArray, List.set_cons_zero, List.set_cons_succ]
  refine regTake 13 (some 4) (v := ?_) rfl rfl (by kernel_rfl) (by kernel_rfl) (by kernel_rfl) (fun _ _ _ h => h) (by rfl) hHeld ?_ ?_
  rotate_left 1
  · (intro w hSw; (try dsimp only at hSw); go_simp; try with_reducible rfl)
  simp only [Act.put, List.setIfInBounds_toArray, List.set_cons_zero, List.set_cons_succ]
  refine wpAnyH_done (by kernel_rfl) ?_ _
  clear hHeld hw1 hw2 hw3 hM0 hM1
  rw [HR3.out]
  obtain ⟨s, hs⟩ : ∃ q, s0.tmod M = q := ⟨_, rfl⟩
  obtain ⟨c, hc⟩ : ∃ q, c0.tmod 400000 = q := ⟨_, rfl⟩
  rw [hs, hc]
  have hsb : -((sz : Int) * 500000) ≤ s ∧ s ≤ (sz : Int) * 500000 := by have := HR1.out; have := HME.out; omega
  have hcb : -400000 < c ∧ c < 400000 := by have := HR2.out; omega
  have HNUM := Lib.hid (shift_nums (r := r) HS1.out HS2.out HG.out hcb hsb)
  obtain ⟨W0, hW0⟩ : ∃ W, w2.drew = W := ⟨_, rfl⟩
  have HB0 := Lib.hid (show Below w.heap.size w W0 by rw [← hW0]; exact HB2.out.drew)
  have hrv3 : ReadsR W0 rv L := by rw [← hW0]; exact HRV0.out.below (Below.refl _ _).drew
  rw [hW0]
  obtain ⟨aoV, capV, hve, _⟩ := id hrv3
  obtain ⟨n, hn⟩ : ∃ n, L.length = n := ⟨_, rfl⟩
  rw [hn] at hve
  have hn25 : n ≤ 25 := by rw [← hn]; exact HG.out.1
  subst hve
  have HRV := Lib.hid hrv3; have HN := Lib.hid hn
  have HSB := Lib.hid hsb
  have HST := Lib.hid (show ShA L W0 (.slice none 0 0) (.int .i64 ((n : Int) - 1)) W0 from ⟨0, Nat.zero_le _, by rw [HN.out]; congr 1; omega, OwnRows.nil _ _, Below.refl _ _⟩)
  have HRL := Lib.hid (fun (i : Nat) (row : List Int) (hi : L[i]? = some row) => HG.out.2 row (List.mem_of_getElem? hi))
  clear hW0 hrv3 hn hs hc hsb HROWS HME HR1 HR2 HR3 HRV0 HB2
  go_wp2
  go_loopw [13, 14] (ShA L W0) (fun _ y _ => ((intOf y) + 1).toNat)
  case atStart => exact HST.out
  case round =>
    obtain ⟨k, hk, rfl, hor, hb⟩ := hrel
    rw [HN.out] at hk ⊢
    obtain ⟨aoT, capT, htv, -⟩ := hor.reads
    subst htv
    obtain ⟨nT, hnT⟩ : ∃ m, ((L.reverse.take k).map List.reverse).length = m := ⟨_, rfl⟩
    rw [hnT] at hor ⊢
    have hnT25 : nT ≤ 25 := by rw [← hnT, List.length_map, List.length_take]; omega
    have HOR := Lib.hid hor; have HB := Lib.hid hb
    by_cases hlk : k < n
    · obtain ⟨p, hp⟩ : ∃ p : Nat, (n : Int) - 1 - (k : Int) = (p : Int) := ⟨n - 1 - k, by omega⟩
      rw [hp]
      have hpn : p < n := by omega
      obtain ⟨row, hrow⟩ : ∃ row, L[p]? = some row := ⟨_, List.getElem?_eq_getElem (by rw [HN.out]; exact hpn)⟩
      have hrev : L.reverse[k]? = some row := by rw [rev_at L k (by rw [HN.out]; exact hlk), HN.out, show n - 1 - k = p by omega]; exact hrow
      obtain ⟨bb, off, u, hao, hbl, hcu, hru⟩ := (HRV.out.below hb).spotR hrow
      obtain ⟨hrsz, hrin⟩ := HRL.out p row hrow
      have hr10 : row.length ≤ 10 := by have := HS2.out; omega
      obtain ⟨aoU, capU, hue⟩ := hru.shapeI
      obtain ⟨nU, hnU⟩ : ∃ k, row.length = k := ⟨_, rfl⟩
      rw [hnU] at hue hr10
      subst hao hue
      have HREV := Lib.hid hrev; have HNU := Lib.hid hnU; have HROW := Lib.hid hrow; have HP := Lib.hid hp
      obtain ⟨W1, hW1⟩ : ∃ W : World, W = wr := ⟨_, rfl⟩
      have HSJ := Lib.hid (show ShB row W1 (.slice none 0 0) (.int .i64 ((nU : Int) - 1)) W1 from ⟨0, Nat.zero_le _, by rw [HNU.out]; congr 1; omega, IRow.nil _ _, Below.refl _ _⟩)
      rw [← hW1] at HOR HB hcu hbl ⊢
      have hpx : 0 ≤ (p : Int) ∧ (p : Int) < (n : Int) := by omega
      have hp25 : p ≤ 25 := by omega
      have hcu0 := Lib.hid hcu; have HBL := Lib.hid hbl
      have HRU := Lib.hid (show ReadsI W1 (.slice aoU nU capU) row by rw [hW1]; exact hru)
      clear hor hb hrow hrev hru hrsz hrin hnU hp hnT hk hlk hW1
      go_wp2
      clear hcu
      go_loopw [15, 16] (ShB row W1) (fun _ y _ => ((intOf y) + 1).toNat)
      case atStart => exact HSJ.out
      case round =>
        obtain ⟨j, hj, rfl, hir, hbi⟩ := hrel
        rw [HNU.out] at hj ⊢
        have HIR := Lib.hid hir; have HBI := Lib.hid hbi
        by_cases hlj : j < nU
        · obtain ⟨q, hq⟩ : ∃ q : Nat, (nU : Int) - 1 - (j : Int) = (q : Int) := ⟨nU - 1 - j, by omega⟩
          rw [hq]
          have hqn : q < nU := by omega
          obtain ⟨x, hx⟩ : ∃ x, row[q]? = some x := ⟨_, List.getElem?_eq_getElem (by rw [HNU.out]; exact hqn)⟩
          have hxr : row.reverse[j]? = some x := by rw [rev_at row j (by rw [HNU.out]; exact hlj), HNU.out, show nU - 1 - j = q by omega]; exact hx
          have hcu : wr.cell? ⟨bb, off + p, none⟩ = some (.slice aoU nU capU) := (hbi.cell HBL.out).trans hcu0.out
          obtain ⟨b3, off3, hao, hbl3, hc3⟩ := (HRU.out.below hbi).spotI hx
          subst hao
          have he : row.reverse.take (j + 1) = row.reverse.take j ++ [x] := by rw [List.take_add_one, hxr]; rfl
          obtain ⟨acc, hacc⟩ : ∃ acc, row.reverse.take j = acc := ⟨_, rfl⟩
          rw [hacc] at he hir
          have HKL := Lib.hid (show acc.length ≤ 10 by rw [← hacc, List.length_take]; omega)
          have HE := Lib.hid he
          have HO := Lib.hid (ReadsI.one wr x)
          have HWA := Lib.hid (hir.alloc (.cells #[.int .i64 x] 3))
          have hsa : (wr.alloc (.cells #[.int .i64 x] 3)).heap.size = wr.heap.size + 1 := by simp
          have HSA := Lib.hid hsa
          have HBA := Lib.hid (hbi.alloc hbi.size (.cells #[.int .i64 x] 3))
          have HW1S := Lib.hid hbi.size
          have HQE := Lib.hid hq
          have hbbl := Nat.lt_of_lt_of_le HBL.out hbi.size
          have hqx : 0 ≤ (q : Int) ∧ (q : Int) < (nU : Int) := by omega
          have hq10 : q ≤ 10 := by omega
          clear hir hbi hj hx hxr he hacc hsa hlj HIR hq
          go_wp2_with (at_builtin; refine wpList_append_ints rfl (.tmp 70) (.tmp 78) rfl W1.heap.size _ acc [x] rfl HWA.out (some ⟨wr.heap.size, 0, none⟩) 1 1 rfl HO.out (by have := HKL.out; rw [List.length_singleton]; omega) (by have := HW1S.out; rw [HSA.out]; omega) ?_)
          intro v' w5 g3 g4
          have HQ := Lib.hid (show ShB row W1 v' (.int .i64 ((q : Int) - 1)) w5 from ⟨j + 1, by have := HNU.out; have := HQE.out; omega, by rw [HNU.out]; have := HQE.out; congr 1; omega, by rw [HE.out]; exact g3, HBA.out.grown g4 (by have := HW1S.out; rw [HSA.out]; omega) (fun i hi => (HWA.out.lt' i hi).1)⟩)
          clear g3 g4
          go_wp2
          go_roundw
          case rel => exact HQ.out
          case measure => first | (simp [intOf]; done) | (simp [intOf]; omega)
        · obtain rfl : nU = j := by omega
          have hneg : (nU : Int) - 1 - (nU : Int) = -1 := by omega
          rw [hneg]
          have hte : row.reverse.take nU = row.reverse := List.take_of_length_le (by rw [List.length_reverse, HNU.out]; exact Nat.le_refl _)
          rw [hte] at hir
          have horr := HOR.out.below hbi
          have he : (L.reverse.take (k + 1)).map List.reverse = (L.reverse.take k).map List.reverse ++ [row.reverse] := by
            rw [List.take_add_one, HREV.out, List.map_append]; rfl
          have HE := Lib.hid he
          obtain ⟨aoI, capI, hiv⟩ := hir.reads.shapeI
          obtain ⟨rr, hrr⟩ : ∃ rr, row.reverse = rr := ⟨_, rfl⟩
          rw [hrr] at hir HE hiv
          obtain ⟨ni, hni⟩ : ∃ m, rr.length = m := ⟨_, rfl⟩
          rw [hni] at hiv
          subst hiv
          obtain ⟨LT, hLT⟩ : ∃ LT, (L.reverse.take k).map List.reverse = LT := ⟨_, rfl⟩
          rw [hLT] at horr HE
          have HLT := Lib.hid (show LT.length ≤ 100000 by rw [← hLT, List.length_map, List.length_take]; have := HN.out; rw [List.length_reverse]; omega)
          have HORA := Lib.hid (horr.below ((Below.refl _ _).alloc (Nat.le_refl _) (.cells #[.slice aoI ni capI] 24)))
          have HUA := Lib.hid ((hir.mono HB.out.size).below ((Below.refl _ _).alloc (Nat.le_refl _) (.cells #[.slice aoI ni capI] 24)))
          have HCA := Lib.hid (show (wr.alloc (.cells #[.slice aoI ni capI] 24)).cell? ⟨wr.heap.size, 0, none⟩ = some (.slice aoI ni capI) from (Has.new wr [.slice aoI ni capI] 24).cell 0)
          have HSA := Lib.hid (show (wr.alloc (.cells #[.slice aoI ni capI] 24)).heap.size = wr.heap.size + 1 by simp)
          have HBW := Lib.hid (HB.out.trans (hbi.mono HB.out.size))
          have HBA := Lib.hid (HBW.out.alloc HBW.out.size (.cells #[.slice aoI ni capI] 24))
          have HKN := Lib.hid (show k < n by have := HP.out; omega)
          clear hir hbi hte hj hlj HIR HBI horr he hni hLT hrr hneg
          go_wp2_with (at_builtin; refine wpList_append_row rfl (.tmp 80) (.tmp 82) rfl W0.heap.size _ LT rfl HORA.out ⟨wr.heap.size, 0, none⟩ 1 _ rr rfl HCA.out HUA.out HLT.out (by have := HBW.out.size; rw [HSA.out]; omega) ?_)
          intro v' w5 g3 g4
          have HQ := Lib.hid (show ShA L W0 v' (.int .i64 ((p : Int) - 1)) w5 from ⟨k + 1, by have := HKN.out; have := HN.out; omega, by rw [HN.out]; have := HP.out; congr 1; omega, by rw [HE.out]; exact g3, HBA.out.grown g4 (by have := HBW.out.size; rw [HSA.out]; omega) (fun i hi => (HORA.out.lt i hi).1)⟩)
          clear g3 g4
          go_wp2
          go_roundw
          case rel => exact HQ.out
          case measure => first | (simp [intOf]; done) | (simp [intOf]; omega)
    · obtain rfl : n = k := by omega
      have hneg : (n : Int) - 1 - (n : Int) = -1 := by omega
      rw [hneg]
      have hte : L.reverse.take n = L.reverse := List.take_of_length_le (by rw [List.length_reverse, HN.out]; exact Nat.le_refl _)
      rw [hte] at hor hnT
      have HTV := Lib.hid (show ReadsR wr (.slice aoT nT capT) (turnR L) from hor.reads)
      clear hor hb hte hk hlk hneg hnT HOR HST
      obtain ⟨W2, hW2⟩ : ∃ W : World, W = wr := ⟨_, rfl⟩
      have HSC := Lib.hid (show ShC c L W2 (.slice none 0 0) (.int .i64 0) W2 from ⟨0, Nat.zero_le _, rfl, OwnRows.nil _ _, Below.refl _ _⟩)
      rw [← hW2] at HB HTV ⊢
      have HB2 := Lib.hid (HB0.out.trans (HB.out.mono HB0.out.size))
      have HRV2 := Lib.hid (HRV.out.below HB.out)
      clear hW2 HB HB0 HRV
      go_wp2
      go_loopw [12, 86] (ShC c L W2) (fun _ y _ => n - (intOf y).toNat)
      case atStart => exact HSC.out
      case round =>
        obtain ⟨i, hi, rfl, hor, hb⟩ := hrel
        rw [HN.out] at hi
        obtain ⟨aoM, capM, hmv, -⟩ := hor.reads
        subst hmv
        obtain ⟨nM, hnM⟩ : ∃ m, (addR c (L.take i)).length = m := ⟨_, rfl⟩
        rw [hnM] at hor ⊢
        have HOR := Lib.hid hor; have HB := Lib.hid hb
        by_cases hlk : i < n
        · obtain ⟨row, hrow⟩ : ∃ row, L[i]? = some row := ⟨_, List.getElem?_eq_getElem (by rw [HN.out]; exact hlk)⟩
          obtain ⟨bb, off, u, hao, hbl, hcu, hru⟩ := (HRV2.out.below hb).spotR hrow
          obtain ⟨hrsz, hrin⟩ := HRL.out i row hrow
          have hr10 : row.length ≤ 10 := by have := HS2.out; omega
          obtain ⟨aoU, capU, hue⟩ := hru.shapeI
          obtain ⟨nU, hnU⟩ : ∃ k, row.length = k := ⟨_, rfl⟩
          rw [hnU] at hue hr10
          subst hao hue
          have HNU := Lib.hid hnU; have HROW := Lib.hid hrow; have HRIN := Lib.hid hrin
          obtain ⟨W3, hW3⟩ : ∃ W : World, W = wr := ⟨_, rfl⟩
          have HSJ := Lib.hid (show ShD c row W3 (.slice none 0 0) (.int .i64 0) W3 from ⟨0, Nat.zero_le _, rfl, IRow.nil _ _, Below.refl _ _⟩)
          rw [← hW3] at HOR HB hcu hbl ⊢
          have hix : 0 ≤ (i : Int) ∧ (i : Int) < (n : Int) := by omega
          have hiz : (i : Int) < (n : Int) := by omega
          have hi25 : i ≤ 25 := by omega
          have HRU := Lib.hid (show ReadsI W3 (.slice aoU nU capU) row by rw [hW3]; exact hru)
          have HIN := Lib.hid hlk
          clear hor hb hrow hru hrsz hrin hnU hnM hi hlk hW3 HSC
          go_wp2
          clear hcu hbl
          go_loopw [19, 92] (ShD c row W3) (fun _ y _ => nU - (intOf y).toNat)
          case atStart => exact HSJ.out
          case round =>
            obtain ⟨k, hk, rfl, hir, hbi⟩ := hrel
            rw [HNU.out] at hk
            have HIR := Lib.hid hir; have HBI := Lib.hid hbi
            by_cases hlk : k < nU
            · obtain ⟨x, hx⟩ : ∃ x, row[k]? = some x := ⟨_, List.getElem?_eq_getElem (by rw [HNU.out]; exact hlk)⟩
              have hxb := HRIN.out x (List.mem_of_getElem? hx)
              obtain ⟨b3, off3, hao, hbl3, hc3⟩ := (HRU.out.below hbi).spotI hx
              subst hao
              have he : (row.take (k + 1)).map (· + c) = (row.take k).map (· + c) ++ [x + c] := by rw [List.take_add_one, hx, List.map_append]; rfl
              obtain ⟨acc, hacc⟩ : ∃ acc, (row.take k).map (· + c) = acc := ⟨_, rfl⟩
              rw [hacc] at he hir
              have HKL := Lib.hid (show acc.length ≤ 10 by rw [← hacc, List.length_map, List.length_take]; omega)
              have HE := Lib.hid he
              have HO := Lib.hid (ReadsI.one wr (x + c))
              have HWA := Lib.hid (hir.alloc (.cells #[.int .i64 (x + c)] 3))
              have hsa : (wr.alloc (.cells #[.int .i64 (x + c)] 3)).heap.size = wr.heap.size + 1 := by simp
              have HSA := Lib.hid hsa
              have HBA := Lib.hid (hbi.alloc hbi.size (.cells #[.int .i64 (x + c)] 3))
              have HW3S := Lib.hid hbi.size
              have hkx : 0 ≤ (k : Int) ∧ (k : Int) < (nU : Int) := by omega
              have hkz : (k : Int) < (nU : Int) := by omega
              clear hir hbi hk hx he hacc hsa hlk HIR
              go_wp2_with (at_builtin; refine wpList_append_ints rfl (.tmp 96) (.tmp 100) rfl W3.heap.size _ acc [x + c] rfl HWA.out (some ⟨wr.heap.size, 0, none⟩) 1 1 rfl HO.out (by have := HKL.out; rw [List.length_singleton]; omega) (by have := HW3S.out; rw [HSA.out]; omega) ?_)
              intro v' w5 g3 g4
              have HQ := Lib.hid (show ShD c row W3 v' (.int .i64 ((k : Int) + 1)) w5 from ⟨k + 1, by have := HNU.out; omega, by first | rfl | go_num, by rw [HE.out]; exact g3, HBA.out.grown g4 (by have := HW3S.out; rw [HSA.out]; omega) (fun i hi => (HWA.out.lt' i hi).1)⟩)
              clear g3 g4
              go_wp2
              go_roundw
              case rel => exact HQ.out
              case measure => first | (simp [intOf]; done) | (simp [intOf]; omega)
            · obtain rfl : nU = k := by omega
              have hte : row.take nU = row := List.take_of_length_le (by rw [HNU.out]; exact Nat.le_refl _)
              rw [hte] at hir
              have horr := HOR.out.below hbi
              have he : addR c (L.take (i + 1)) = addR c (L.take i) ++ [row.map (· + c)] := by
                unfold addR
                rw [List.take_add_one, HROW.out, List.map_append]; rfl
              have HE := Lib.hid he
              obtain ⟨aoI, capI, hiv⟩ := hir.reads.shapeI
              obtain ⟨rr, hrr⟩ : ∃ rr, row.map (· + c) = rr := ⟨_, rfl⟩
              rw [hrr] at hir HE hiv
              obtain ⟨ni, hni⟩ : ∃ m, rr.length = m := ⟨_, rfl⟩
              rw [hni] at hiv
              subst hiv
              obtain ⟨LT, hLT⟩ : ∃ LT, addR c (L.take i) = LT := ⟨_, rfl⟩
              rw [hLT] at horr HE
              have HLT := Lib.hid (show LT.length ≤ 100000 by rw [← hLT]; unfold addR; rw [List.length_map, List.length_take]; omega)
              have HORA := Lib.hid (horr.below ((Below.refl _ _).alloc (Nat.le_refl _) (.cells #[.slice aoI ni capI] 24)))
              have HUA := Lib.hid ((hir.mono HB.out.size).below ((Below.refl _ _).alloc (Nat.le_refl _) (.cells #[.slice aoI ni capI] 24)))
              have HCA := Lib.hid (show (wr.alloc (.cells #[.slice aoI ni capI] 24)).cell? ⟨wr.heap.size, 0, none⟩ = some (.slice aoI ni capI) from (Has.new wr [.slice aoI ni capI] 24).cell 0)
              have HSA := Lib.hid (show (wr.alloc (.cells #[.slice aoI ni capI] 24)).heap.size = wr.heap.size + 1 by simp)
              have HBW := Lib.hid (HB.out.trans (hbi.mono HB.out.size))
              have HBA := Lib.hid (HBW.out.alloc HBW.out.size (.cells #[.slice aoI ni capI] 24))
              clear hir hbi hte hk hlk HIR HBI horr he hni hLT hrr
              go_wp2_with (at_builtin; refine wpList_append_row rfl (.tmp 103) (.tmp 105) rfl W2.heap.size _ LT rfl HORA.out ⟨wr.heap.size, 0, none⟩ 1 _ rr rfl HCA.out HUA.out HLT.out (by have := HBW.out.size; rw [HSA.out]; omega) ?_)
              intro v' w5 g3 g4
              have HQ := Lib.hid (show ShC c L W2 v' (.int .i64 ((i : Int) + 1)) w5 from ⟨i + 1, by have := HIN.out; have := HN.out; omega, by first | rfl | go_num, by rw [HE.out]; exact g3, HBA.out.grown g4 (by have := HBW.out.size; rw [HSA.out]; omega) (fun i hi => (HORA.out.lt i hi).1)⟩)
              clear g3 g4
              go_wp2
              go_roundw
              case rel => exact HQ.out
              case measure => first | (simp [intOf]; done) | (simp [intOf]; omega)
        · obtain rfl : n = i := by omega
          have hte : L.take n = L := List.take_of_length_le (by rw [HN.out]; exact Nat.le_refl _)
          rw [hte] at hor hnM
          have HMV := Lib.hid (show ReadsR wr (.slice aoM nM capM) (addR c L) from hor.reads)
          have HTV2 := Lib.hid (HTV.out.below hb)
          have HRV3 := Lib.hid (HRV2.out.below hb)
          have HB3 := Lib.hid (HB2.out.trans (hb.mono HB2.out.size))
          have hga := add_good (c := c) HG.out (by omega)
          have hgt := turn_good HG.out
          have HM1 := Lib.hid (fun W (v : Value) (h : ReadsR W v L) => made_any HH.out (sz : Int) (by have := HS1.out; omega) (by have := HS2.out; omega) L (HG.out.ok (by omega)) HG.out.1 v W h)
          have HM2 := Lib.hid (fun W (v : Value) (h : ReadsR W v (addR c L)) => made_any HH.out (sz : Int) (by have := HS1.out; omega) (by have := HS2.out; omega) (addR c L) (hga.ok (by omega)) hga.1 v W h)
          have HM3 := Lib.hid (fun W (v : Value) (h : ReadsR W v (turnR L)) => made_any HH.out (sz : Int) (by have := HS1.out; omega) (by have := HS2.out; omega) (turnR L) (hgt.ok (by omega)) hgt.1 v W h)
          obtain ⟨⟨a1, a2, a3, a4, a5⟩, hbo, hba, hsA, hsB, ⟨p1, p2, p3, p4⟩, hww⟩ := HNUM.out
          have z1 := made_size (sz : Int) L
          have z2 := made_size (sz : Int) (addR c L)
          have z3 := made_size (sz : Int) (turnR L)
          have hcs := mulB (show -400000 ≤ c ∧ c ≤ 400000 by omega) (show -(10 : Int) ≤ (sz : Int) ∧ (sz : Int) ≤ 10 by have := HS2.out; omega)
          have hsb := HSB.out
          have hI1 : IsInt s := by have := HS2.out; unfold IsInt; omega
          have hI2 : IsInt (s + c * (sz : Int)) := by have := HS2.out; unfold IsInt; omega
          have HP1 := Lib.hid (HH.out.point (madeN (sz : Int) L) (basI_ok hbo) s hI1)
          have HP2 := Lib.hid (HH.out.point (madeN (sz : Int) (addR c L)) (basI_ok hba) (s + c * (sz : Int)) hI2)
          have HW1 := Lib.hid (HH.out.wide (madeN (sz : Int) L) (basI_ok hbo) r (by unfold IsInt; omega))
          have HW2 := Lib.hid (HH.out.wide (madeN (sz : Int) (addR c L)) (basI_ok hba) r (by unfold IsInt; omega))
          have hpl := fun h => poi_low hbo h hsA
          have hpo := fun h => poi_ok hbo h hsA
          have hpl2 := fun h => poi_low hba h hsB
          have hpo2 := fun h => poi_ok hba h hsB
          have hwl := fun h => wid_low (r := r) hbo h (by omega)
          have hwo := fun h => wid_ok (r := r) hbo h (by omega)
          have hwl2 := fun h => wid_low (r := r) hba h (by omega)
          have hwo2 := fun h => wid_ok (r := r) hba h (by omega)
          have hbd := fun (h : 2 ≤ (madeN (sz : Int) L).m) => point_bounds hbo h (s := s) (by have := HS2.out; omega)
          have hpz : pntV pnt0 = .agg #[.int .i64 0, .int .i64 0, .int .i64 0, .int .u64 0, .int .u64 0] := by rfl
          have HPZ := Lib.hid hpz
          have hbd2 := fun (h : 2 ≤ (madeN (sz : Int) L).m) => (point_bounds hbo h (s := s) (by have := HS2.out; omega))
          clear HNUM HG HRL hbo hba hsA hsB hga hgt hor hb hte hi hlk hnM HOR HTV HRV2 HB2 hbd hpz
          generalize madeN (sz : Int) (addR c L) = B2 at *
          generalize madeN (sz : Int) (turnR L) = B3 at *
          generalize madeN (sz : Int) L = B1 at *
          obtain ⟨y1, y2, y3⟩ := z1
          obtain ⟨y4, -, -⟩ := z2
          obtain ⟨y5, -, -⟩ := z3
          rw [HN.out] at y2
          obtain ⟨t1, t2, bu, br, bl⟩ := B1
          obtain ⟨t3, t4, bu2, t5, bl2⟩ := B2
          obtain ⟨t6, t7, t8, t9, bl3⟩ := B3
          dsimp only at *
          have a1 := a1.symm; have a2 := a2.symm; have a3 := a3.symm; have a4 := a4.symm; have a5 := a5.symm
          subst a1 a2 a3 a4 a5 y1 y4 y5 y2
          clear y3
          obtain ⟨BS, hBS⟩ : ∃ x, c * (sz : Int) = x := ⟨_, rfl⟩
          rw [hBS] at HP2 hI2 hcs hpl2 hpo2 p1 p2 p3 p4
          have hbsw : wrap64 (c * (sz : Int)) = BS := by rw [hBS]; exact wrap6 (by omega)
          have hsx : -6000000 ≤ s ∧ s ≤ 6000000 := by have := HS2.out; omega
          have HBSW := Lib.hid hbsw
          by_cases c2 : (n : Int) < 2
          · obtain ⟨e1, e2⟩ := hpl c2
            obtain ⟨e3, e4⟩ := hpl2 c2
            obtain ⟨e5, e6⟩ := hwl c2
            obtain ⟨e7, e8⟩ := hwl2 c2
            have hpz := HPZ.out
            rw [e1, e2, hpz] at HP1
            rw [e3, e4, hpz] at HP2
            rw [e5, e6] at HW1
            rw [e7, e8] at HW2
            clear e1 e2 e3 e4 e5 e6 e7 e8 hpl hpo hpl2 hpo2 hwl hwo hwl2 hwo2 hbd2 p1 p2 p3 p4 hww hpz hBS hI1 hI2 hbsw hsb
            have hcz1 := HM1.out wr _ HRV3.out
            go_wp2_with fail
            refine hcz1.mono ?_
            rintro e wz1 ⟨rfl, kz1⟩
            clear hcz1
            have HBz1 := Lib.hid (HB3.out.trans (kz1.mono (Nat.le_trans hbase HB3.out.size)))
            have Hlz1 := Lib.hid (HRV3.out.below kz1)
            have Hmz1 := Lib.hid (HMV.out.below kz1)
            have Htz1 := Lib.hid (HTV2.out.below kz1)
            clear kz1
            obtain ⟨wz2, hwz2⟩ : ∃ wz2, wz1.alloc (.cells #[.int .i64 (sz : Nat), .int .i64 (n : Nat), .int .i64 bu, .int .i64 br, .int .i64 bl] 23) = wz2 := ⟨_, rfl⟩
            have kz2 : Below wz1.heap.size wz1 wz2 := by rw [← hwz2]; exact (Below.refl _ _).alloc (Nat.le_refl _) _
            have Haz2 := Lib.hid (show Has wz2 wz1.heap.size [.int .i64 (sz : Nat), .int .i64 (n : Nat), .int .i64 bu, .int .i64 br, .int .i64 bl] 23 by rw [← hwz2]; exact Has.new _ _ _)
            have HWz2 := Lib.hid hwz2
            clear hwz2
            have HBz2 := Lib.hid (HBz1.out.trans (kz2.mono (Nat.le_trans hbase HBz1.out.size)))
            have Hlz2 := Lib.hid (Hlz1.out.below kz2)
            have Hmz2 := Lib.hid (Hmz1.out.below kz2)
            have Htz2 := Lib.hid (Htz1.out.below kz2)
            clear kz2
            go_upto_region 25 with fail
            rw [HWz2.out]
            have hcz3 := HM2.out wz2 _ Hmz2.out
            go_wp2_with fail
            refine hcz3.mono ?_
            rintro e wz3 ⟨rfl, kz3⟩
            clear hcz3
            have HBz3 := Lib.hid (HBz2.out.trans (kz3.mono (Nat.le_trans hbase HBz2.out.size)))
            have Haz3 := Lib.hid (Haz2.out.call kz3)
            have Hlz3 := Lib.hid (Hlz2.out.below kz3)
            have Hmz3 := Lib.hid (Hmz2.out.below kz3)
            have Htz3 := Lib.hid (Htz2.out.below kz3)
            clear kz3
            obtain ⟨wz4, hwz4⟩ : ∃ wz4, wz3.alloc (.cells #[.int .i64 (sz : Nat), .int .i64 (n : Nat), .int .i64 bu2, .int .i64 br, .int .i64 bl2] 23) = wz4 := ⟨_, rfl⟩
            have kz4 : Below wz3.heap.size wz3 wz4 := by rw [← hwz4]; exact (Below.refl _ _).alloc (Nat.le_refl _) _
            have Hbz4 := Lib.hid (show Has wz4 wz3.heap.size [.int .i64 (sz : Nat), .int .i64 (n : Nat), .int .i64 bu2, .int .i64 br, .int .i64 bl2] 23 by rw [← hwz4]; exact Has.new _ _ _)
            have HWz4 := Lib.hid hwz4
            clear hwz4
            have HBz4 := Lib.hid (HBz3.out.trans (kz4.mono (Nat.le_trans hbase HBz3.out.size)))
            have Haz4 := Lib.hid (Haz3.out.call kz4)
            have Hlz4 := Lib.hid (Hlz3.out.below kz4)
            have Hmz4 := Lib.hid (Hmz3.out.below kz4)
            have Htz4 := Lib.hid (Htz3.out.below kz4)
            clear kz4
            go_upto_region 26 with fail
            rw [HWz4.out]
            have hcz5 := HM3.out wz4 _ Htz4.out
            go_wp2_with fail
            refine hcz5.mono ?_
            rintro e wz5 ⟨rfl, kz5⟩
            clear hcz5
            have HBz5 := Lib.hid (HBz4.out.trans (kz5.mono (Nat.le_trans hbase HBz4.out.size)))
            have Haz5 := Lib.hid (Haz4.out.call kz5)
            have Hbz5 := Lib.hid (Hbz4.out.call kz5)
            have Hlz5 := Lib.hid (Hlz4.out.below kz5)
            have Hmz5 := Lib.hid (Hmz4.out.below kz5)
            have Htz5 := Lib.hid (Htz4.out.below kz5)
            clear kz5
            obtain ⟨wz6, hwz6⟩ : ∃ wz6, wz5.alloc (.cells #[.int .i64 (sz : Nat), .int .i64 (n : Nat), .int .i64 bu, .int .i64 br, .int .i64 bl3] 23) = wz6 := ⟨_, rfl⟩
            have kz6 : Below wz5.heap.size wz5 wz6 := by rw [← hwz6]; exact (Below.refl _ _).alloc (Nat.le_refl _) _
            have Hcz6 := Lib.hid (show Has wz6 wz5.heap.size [.int .i64 (sz : Nat), .int .i64 (n : Nat), .int .i64 bu, .int .i64 br, .int .i64 bl3] 23 by rw [← hwz6]; exact Has.new _ _ _)
            have HWz6 := Lib.hid hwz6
            clear hwz6
            have HBz6 := Lib.hid (HBz5.out.trans (kz6.mono (Nat.le_trans hbase HBz5.out.size)))
            have Haz6 := Lib.hid (Haz5.out.call kz6)
            have Hbz6 := Lib.hid (Hbz5.out.call kz6)
            have Hlz6 := Lib.hid (Hlz5.out.below kz6)
            have Hmz6 := Lib.hid (Hmz5.out.below kz6)
            have Htz6 := Lib.hid (Htz5.out.below kz6)
            clear kz6
            go_upto_region 27 with fail
            rw [HWz6.out]
            have qa0_6 : wz6.cell? ⟨wz1.heap.size, 0, none⟩ = some (.int .i64 (sz : Nat)) := Haz6.out.cell 0
            have qa1_6 : wz6.cell? ⟨wz1.heap.size, 1, none⟩ = some (.int .i64 (n : Nat)) := Haz6.out.cell 1
            have qa2_6 : wz6.cell? ⟨wz1.heap.size, 2, none⟩ = some (.int .i64 bu) := Haz6.out.cell 2
            have qa3_6 : wz6.cell? ⟨wz1.heap.size, 3, none⟩ = some (.int .i64 br) := Haz6.out.cell 3
            have qa4_6 : wz6.cell? ⟨wz1.heap.size, 4, none⟩ = some (.int .i64 bl) := Haz6.out.cell 4
            have la_6 : wz1.heap.size < wz6.heap.size := Haz6.out.lt
            have qb0_6 : wz6.cell? ⟨wz3.heap.size, 0, none⟩ = some (.int .i64 (sz : Nat)) := Hbz6.out.cell 0
            have qb1_6 : wz6.cell? ⟨wz3.heap.size, 1, none⟩ = some (.int .i64 (n : Nat)) := Hbz6.out.cell 1
            have qb2_6 : wz6.cell? ⟨wz3.heap.size, 2, none⟩ = some (.int .i64 bu2) := Hbz6.out.cell 2
            have qb3_6 : wz6.cell? ⟨wz3.heap.size, 3, none⟩ = some (.int .i64 br) := Hbz6.out.cell 3
            have qb4_6 : wz6.cell? ⟨wz3.heap.size, 4, none⟩ = some (.int .i64 bl2) := Hbz6.out.cell 4
            have lb_6 : wz3.heap.size < wz6.heap.size := Hbz6.out.lt
            have qc0_6 : wz6.cell? ⟨wz5.heap.size, 0, none⟩ = some (.int .i64 (sz : Nat)) := Hcz6.out.cell 0
            have qc1_6 : wz6.cell? ⟨wz5.heap.size, 1, none⟩ = some (.int .i64 (n : Nat)) := Hcz6.out.cell 1
            have qc2_6 : wz6.cell? ⟨wz5.heap.size, 2, none⟩ = some (.int .i64 bu) := Hcz6.out.cell 2
            have qc3_6 : wz6.cell? ⟨wz5.heap.size, 3, none⟩ = some (.int .i64 br) := Hcz6.out.cell 3
            have qc4_6 : wz6.cell? ⟨wz5.heap.size, 4, none⟩ = some (.int .i64 bl3) := Hcz6.out.cell 4
            have lc_6 : wz5.heap.size < wz6.heap.size := Hcz6.out.lt
            have hcz7 := HALA.out wz6
            go_wp2_with fail
            refine hcz7.mono ?_
            rintro e wz7 ⟨rfl, kz7⟩
            clear hcz7 qa0_6 qa1_6 qa2_6 qa3_6 qa4_6 la_6 qb0_6 qb1_6 qb2_6 qb3_6 qb4_6 lb_6 qc0_6 qc1_6 qc2_6 qc3_6 qc4_6 lc_6
            have HBz7 := Lib.hid (HBz6.out.trans (kz7.mono (Nat.le_trans hbase HBz6.out.size)))
            have Haz7 := Lib.hid (Haz6.out.call kz7)
            have Hbz7 := Lib.hid (Hbz6.out.call kz7)
            have Hcz7 := Lib.hid (Hcz6.out.call kz7)
            clear kz7
            have qa0_7 : wz7.cell? ⟨wz1.heap.size, 0, none⟩ = some (.int .i64 (sz : Nat)) := Haz7.out.cell 0
            have qa1_7 : wz7.cell? ⟨wz1.heap.size, 1, none⟩ = some (.int .i64 (n : Nat)) := Haz7.out.cell 1
            have qa2_7 : wz7.cell? ⟨wz1.heap.size, 2, none⟩ = some (.int .i64 bu) := Haz7.out.cell 2
            have qa3_7 : wz7.cell? ⟨wz1.heap.size, 3, none⟩ = some (.int .i64 br) := Haz7.out.cell 3
            have qa4_7 : wz7.cell? ⟨wz1.heap.size, 4, none⟩ = some (.int .i64 bl) := Haz7.out.cell 4
            have la_7 : wz1.heap.size < wz7.heap.size := Haz7.out.lt
            have hcz8 := HP1.out wz7
            go_wp2_with fail
            refine hcz8.mono ?_
            rintro e wz8 ⟨rfl, kz8⟩
            clear hcz8 qa0_7 qa1_7 qa2_7 qa3_7 qa4_7 la_7
            have HBz8 := Lib.hid (HBz7.out.trans (kz8.mono (Nat.le_trans hbase HBz7.out.size)))
            have Haz8 := Lib.hid (Haz7.out.call kz8)
            have Hbz8 := Lib.hid (Hbz7.out.call kz8)
            have Hcz8 := Lib.hid (Hcz7.out.call kz8)
            clear kz8
            obtain ⟨wz9, hwz9⟩ : ∃ wz9, wz8.alloc (.cells #[.int .i64 0, .int .i64 0, .int .i64 0, .int .u64 0, .int .u64 0] 38) = wz9 := ⟨_, rfl⟩
            have kz9 : Below wz8.heap.size wz8 wz9 := by rw [← hwz9]; exact (Below.refl _ _).alloc (Nat.le_refl _) _
            have Hpz9 := Lib.hid (show Has wz9 wz8.heap.size [.int .i64 0, .int .i64 0, .int .i64 0, .int .u64 0, .int .u64 0] 38 by rw [← hwz9]; exact Has.new _ _ _)
            have HWz9 := Lib.hid hwz9
            clear hwz9
            have HBz9 := Lib.hid (HBz8.out.trans (kz9.mono (Nat.le_trans hbase HBz8.out.size)))
            have Haz9 := Lib.hid (Haz8.out.call kz9)
            have Hbz9 := Lib.hid (Hbz8.out.call kz9)
            have Hcz9 := Lib.hid (Hcz8.out.call kz9)
            clear kz9
            go_upto_region 30 with fail
            rw [HWz9.out]
            have qb0_9 : wz9.cell? ⟨wz3.heap.size, 0, none⟩ = some (.int .i64 (sz : Nat)) := Hbz9.out.cell 0
            have qb1_9 : wz9.cell? ⟨wz3.heap.size, 1, none⟩ = some (.int .i64 (n : Nat)) := Hbz9.out.cell 1
            have qb2_9 : wz9.cell? ⟨wz3.heap.size, 2, none⟩ = some (.int .i64 bu2) := Hbz9.out.cell 2
            have qb3_9 : wz9.cell? ⟨wz3.heap.size, 3, none⟩ = some (.int .i64 br) := Hbz9.out.cell 3
            have qb4_9 : wz9.cell? ⟨wz3.heap.size, 4, none⟩ = some (.int .i64 bl2) := Hbz9.out.cell 4
            have lb_9 : wz3.heap.size < wz9.heap.size := Hbz9.out.lt
            have hbs1 := HBSW.out
            have hcz10 := HP2.out wz9
            go_wp2_with fail
            refine hcz10.mono ?_
            rintro e wz10 ⟨rfl, kz10⟩
            clear hcz10 qb0_9 qb1_9 qb2_9 qb3_9 qb4_9 lb_9
            have HBz10 := Lib.hid (HBz9.out.trans (kz10.mono (Nat.le_trans hbase HBz9.out.size)))
            have Haz10 := Lib.hid (Haz9.out.call kz10)
            have Hbz10 := Lib.hid (Hbz9.out.call kz10)
            have Hcz10 := Lib.hid (Hcz9.out.call kz10)
            have Hpz10 := Lib.hid (Hpz9.out.call kz10)
            clear kz10
            clear hbs1
            obtain ⟨wz11, hwz11⟩ : ∃ wz11, wz10.alloc (.cells #[.int .i64 0, .int .i64 0, .int .i64 0, .int .u64 0, .int .u64 0] 38) = wz11 := ⟨_, rfl⟩
            have kz11 : Below wz10.heap.size wz10 wz11 := by rw [← hwz11]; exact (Below.refl _ _).alloc (Nat.le_refl _) _
            have Hqz11 := Lib.hid (show Has wz11 wz10.heap.size [.int .i64 0, .int .i64 0, .int .i64 0, .int .u64 0, .int .u64 0] 38 by rw [← hwz11]; exact Has.new _ _ _)
            have HWz11 := Lib.hid hwz11
            clear hwz11
            have HBz11 := Lib.hid (HBz10.out.trans (kz11.mono (Nat.le_trans hbase HBz10.out.size)))
            have Haz11 := Lib.hid (Haz10.out.call kz11)
            have Hbz11 := Lib.hid (Hbz10.out.call kz11)
            have Hcz11 := Lib.hid (Hcz10.out.call kz11)
            have Hpz11 := Lib.hid (Hpz10.out.call kz11)
            clear kz11
            go_upto_region 31 with fail
            rw [HWz11.out]
            have qa0_11 : wz11.cell? ⟨wz1.heap.size, 0, none⟩ = some (.int .i64 (sz : Nat)) := Haz11.out.cell 0
            have qa1_11 : wz11.cell? ⟨wz1.heap.size, 1, none⟩ = some (.int .i64 (n : Nat)) := Haz11.out.cell 1
            have qa2_11 : wz11.cell? ⟨wz1.heap.size, 2, none⟩ = some (.int .i64 bu) := Haz11.out.cell 2
            have qa3_11 : wz11.cell? ⟨wz1.heap.size, 3, none⟩ = some (.int .i64 br) := Haz11.out.cell 3
            have qa4_11 : wz11.cell? ⟨wz1.heap.size, 4, none⟩ = some (.int .i64 bl) := Haz11.out.cell 4
            have la_11 : wz1.heap.size < wz11.heap.size := Haz11.out.lt
            have hcz12 := HW1.out wz11
            go_wp2_with fail
            refine hcz12.mono ?_
            rintro e wz12 ⟨rfl, kz12⟩
            clear hcz12 qa0_11 qa1_11 qa2_11 qa3_11 qa4_11 la_11
            have HBz12 := Lib.hid (HBz11.out.trans (kz12.mono (Nat.le_trans hbase HBz11.out.size)))
            have Haz12 := Lib.hid (Haz11.out.call kz12)
            have Hbz12 := Lib.hid (Hbz11.out.call kz12)
            have Hcz12 := Lib.hid (Hcz11.out.call kz12)
            have Hpz12 := Lib.hid (Hpz11.out.call kz12)
            have Hqz12 := Lib.hid (Hqz11.out.call kz12)
            clear kz12
            have qb0_12 : wz12.cell? ⟨wz3.heap.size, 0, none⟩ = some (.int .i64 (sz : Nat)) := Hbz12.out.cell 0
            have qb1_12 : wz12.cell? ⟨wz3.heap.size, 1, none⟩ = some (.int .i64 (n : Nat)) := Hbz12.out.cell 1
            have qb2_12 : wz12.cell? ⟨wz3.heap.size, 2, none⟩ = some (.int .i64 bu2) := Hbz12.out.cell 2
            have qb3_12 : wz12.cell? ⟨wz3.heap.size, 3, none⟩ = some (.int .i64 br) := Hbz12.out.cell 3
            have qb4_12 : wz12.cell? ⟨wz3.heap.size, 4, none⟩ = some (.int .i64 bl2) := Hbz12.out.cell 4
            have lb_12 : wz3.heap.size < wz12.heap.size := Hbz12.out.lt
            have hcz13 := HW2.out wz12
            go_wp2_with fail
            refine hcz13.mono ?_
            rintro e wz13 ⟨rfl, kz13⟩
            clear hcz13 qb0_12 qb1_12 qb2_12 qb3_12 qb4_12 lb_12
            have HBz13 := Lib.hid (HBz12.out.trans (kz13.mono (Nat.le_trans hbase HBz12.out.size)))
            have Haz13 := Lib.hid (Haz12.out.call kz13)
            have Hbz13 := Lib.hid (Hbz12.out.call kz13)
            have Hcz13 := Lib.hid (Hcz12.out.call kz13)
            have Hpz13 := Lib.hid (Hpz12.out.call kz13)
            have Hqz13 := Lib.hid (Hqz12.out.call kz13)
            clear kz13
            have qp0_13 : wz13.cell? ⟨wz8.heap.size, 0, none⟩ = some (.int .i64 0) := Hpz13.out.cell 0
            have qp1_13 : wz13.cell? ⟨wz8.heap.size, 1, none⟩ = some (.int .i64 0) := Hpz13.out.cell 1
            have qp2_13 : wz13.cell? ⟨wz8.heap.size, 2, none⟩ = some (.int .i64 0) := Hpz13.out.cell 2
            have qp3_13 : wz13.cell? ⟨wz8.heap.size, 3, none⟩ = some (.int .u64 0) := Hpz13.out.cell 3
            have qp4_13 : wz13.cell? ⟨wz8.heap.size, 4, none⟩ = some (.int .u64 0) := Hpz13.out.cell 4
            have lp_13 : wz8.heap.size < wz13.heap.size := Hpz13.out.lt
            have qq0_13 : wz13.cell? ⟨wz10.heap.size, 0, none⟩ = some (.int .i64 0) := Hqz13.out.cell 0
            have qq1_13 : wz13.cell? ⟨wz10.heap.size, 1, none⟩ = some (.int .i64 0) := Hqz13.out.cell 1
            have qq2_13 : wz13.cell? ⟨wz10.heap.size, 2, none⟩ = some (.int .i64 0) := Hqz13.out.cell 2
            have qq3_13 : wz13.cell? ⟨wz10.heap.size, 3, none⟩ = some (.int .u64 0) := Hqz13.out.cell 3
            have qq4_13 : wz13.cell? ⟨wz10.heap.size, 4, none⟩ = some (.int .u64 0) := Hqz13.out.cell 4
            have lq_13 : wz10.heap.size < wz13.heap.size := Hqz13.out.lt
            go_wp2
            go_ret
            exact ⟨rfl, HBz13.out⟩
          · obtain ⟨e1, e2⟩ := hpo c2
            obtain ⟨e3, e4⟩ := hpo2 c2
            obtain ⟨e5, e6⟩ := hwo c2
            obtain ⟨e7, e8⟩ := hwo2 c2
            obtain ⟨k1, k2, k3⟩ := hbd2 (by omega)
            rw [e1, e2] at HP1
            rw [e3, e4] at HP2
            rw [e5, e6] at HW1
            rw [e7, e8, hww] at HW2
            dsimp only [pntV] at HP1 HP2
            rw [p1, p2, p3, p4] at HP2
            obtain ⟨C, hC⟩ : ∃ x, (pntN ⟨(sz : Int), (n : Int), bu, br, bl⟩ s).center = x := ⟨_, rfl⟩
            obtain ⟨D, hD⟩ : ∃ x, (pntN ⟨(sz : Int), (n : Int), bu, br, bl⟩ s).den = x := ⟨_, rfl⟩
            obtain ⟨V, hV⟩ : ∃ x, (pntN ⟨(sz : Int), (n : Int), bu, br, bl⟩ s).dev = x := ⟨_, rfl⟩
            obtain ⟨vh, hvh⟩ : ∃ x, ((hi (pntN ⟨(sz : Int), (n : Int), bu, br, bl⟩ s).var : Nat) : Int) = x := ⟨_, rfl⟩
            obtain ⟨vl, hvl⟩ : ∃ x, ((lo (pntN ⟨(sz : Int), (n : Int), bu, br, bl⟩ s).var : Nat) : Int) = x := ⟨_, rfl⟩
            rw [hC, hD, hV, hvh, hvl] at HP1 HP2
            rw [hC] at k2
            rw [hD] at k1
            obtain ⟨X, hX⟩ : ∃ x, wideN ⟨(sz : Int), (n : Int), bu, br, bl⟩ r = x := ⟨_, rfl⟩
            rw [hX] at HW1 HW2
            have hbdx := mulB (show -400000 ≤ c ∧ c ≤ 400000 by omega) (show -7500000 ≤ D ∧ D ≤ 7500000 by omega)
            obtain ⟨BD, hBD⟩ : ∃ x, c * D = x := ⟨_, rfl⟩
            rw [hBD] at HP2 hbdx
            have HBDW := Lib.hid (show wrap64 (c * D) = BD by rw [hBD]; exact wrap6 (by omega))
            clear e1 e2 e3 e4 e5 e6 e7 e8 hpl hpo hpl2 hpo2 hwl hwo hwl2 hwo2 hbd2 p1 p2 p3 p4 hww hBS hI1 hI2 hbsw hsb hC hD hV hvh hvl hX hBD k3
            have hcz1 := HM1.out wr _ HRV3.out
            go_wp2_with fail
            refine hcz1.mono ?_
            rintro e wz1 ⟨rfl, kz1⟩
            clear hcz1
            have HBz1 := Lib.hid (HB3.out.trans (kz1.mono (Nat.le_trans hbase HB3.out.size)))
            have Hlz1 := Lib.hid (HRV3.out.below kz1)
            have Hmz1 := Lib.hid (HMV.out.below kz1)
            have Htz1 := Lib.hid (HTV2.out.below kz1)
            clear kz1
            obtain ⟨wz2, hwz2⟩ : ∃ wz2, wz1.alloc (.cells #[.int .i64 (sz : Nat), .int .i64 (n : Nat), .int .i64 bu, .int .i64 br, .int .i64 bl] 23) = wz2 := ⟨_, rfl⟩
            have kz2 : Below wz1.heap.size wz1 wz2 := by rw [← hwz2]; exact (Below.refl _ _).alloc (Nat.le_refl _) _
            have Haz2 := Lib.hid (show Has wz2 wz1.heap.size [.int .i64 (sz : Nat), .int .i64 (n : Nat), .int .i64 bu, .int .i64 br, .int .i64 bl] 23 by rw [← hwz2]; exact Has.new _ _ _)
            have HWz2 := Lib.hid hwz2
            clear hwz2
            have HBz2 := Lib.hid (HBz1.out.trans (kz2.mono (Nat.le_trans hbase HBz1.out.size)))
            have Hlz2 := Lib.hid (Hlz1.out.below kz2)
            have Hmz2 := Lib.hid (Hmz1.out.below kz2)
            have Htz2 := Lib.hid (Htz1.out.below kz2)
            clear kz2
            go_upto_region 25 with fail
            rw [HWz2.out]
            have hcz3 := HM2.out wz2 _ Hmz2.out
            go_wp2_with fail
            refine hcz3.mono ?_
            rintro e wz3 ⟨rfl, kz3⟩
            clear hcz3
            have HBz3 := Lib.hid (HBz2.out.trans (kz3.mono (Nat.le_trans hbase HBz2.out.size)))
            have Haz3 := Lib.hid (Haz2.out.call kz3)
            have Hlz3 := Lib.hid (Hlz2.out.below kz3)
            have Hmz3 := Lib.hid (Hmz2.out.below kz3)
            have Htz3 := Lib.hid (Htz2.out.below kz3)
            clear kz3
            obtain ⟨wz4, hwz4⟩ : ∃ wz4, wz3.alloc (.cells #[.int .i64 (sz : Nat), .int .i64 (n : Nat), .int .i64 bu2, .int .i64 br, .int .i64 bl2] 23) = wz4 := ⟨_, rfl⟩
            have kz4 : Below wz3.heap.size wz3 wz4 := by rw [← hwz4]; exact (Below.refl _ _).alloc (Nat.le_refl _) _
            have Hbz4 := Lib.hid (show Has wz4 wz3.heap.size [.int .i64 (sz : Nat), .int .i64 (n : Nat), .int .i64 bu2, .int .i64 br, .int .i64 bl2] 23 by rw [← hwz4]; exact Has.new _ _ _)
            have HWz4 := Lib.hid hwz4
            clear hwz4
            have HBz4 := Lib.hid (HBz3.out.trans (kz4.mono (Nat.le_trans hbase HBz3.out.size)))
            have Haz4 := Lib.hid (Haz3.out.call kz4)
            have Hlz4 := Lib.hid (Hlz3.out.below kz4)
            have Hmz4 := Lib.hid (Hmz3.out.below kz4)
            have Htz4 := Lib.hid (Htz3.out.below kz4)
            clear kz4
            go_upto_region 26 with fail
            rw [HWz4.out]
            have hcz5 := HM3.out wz4 _ Htz4.out
            go_wp2_with fail
            refine hcz5.mono ?_
            rintro e wz5 ⟨rfl, kz5⟩
            clear hcz5
            have HBz5 := Lib.hid (HBz4.out.trans (kz5.mono (Nat.le_trans hbase HBz4.out.size)))
            have Haz5 := Lib.hid (Haz4.out.call kz5)
            have Hbz5 := Lib.hid (Hbz4.out.call kz5)
            have Hlz5 := Lib.hid (Hlz4.out.below kz5)
            have Hmz5 := Lib.hid (Hmz4.out.below kz5)
            have Htz5 := Lib.hid (Htz4.out.below kz5)
            clear kz5
            obtain ⟨wz6, hwz6⟩ : ∃ wz6, wz5.alloc (.cells #[.int .i64 (sz : Nat), .int .i64 (n : Nat), .int .i64 bu, .int .i64 br, .int .i64 bl3] 23) = wz6 := ⟨_, rfl⟩
            have kz6 : Below wz5.heap.size wz5 wz6 := by rw [← hwz6]; exact (Below.refl _ _).alloc (Nat.le_refl _) _
            have Hcz6 := Lib.hid (show Has wz6 wz5.heap.size [.int .i64 (sz : Nat), .int .i64 (n : Nat), .int .i64 bu, .int .i64 br, .int .i64 bl3] 23 by rw [← hwz6]; exact Has.new _ _ _)
            have HWz6 := Lib.hid hwz6
            clear hwz6
            have HBz6 := Lib.hid (HBz5.out.trans (kz6.mono (Nat.le_trans hbase HBz5.out.size)))
            have Haz6 := Lib.hid (Haz5.out.call kz6)
            have Hbz6 := Lib.hid (Hbz5.out.call kz6)
            have Hlz6 := Lib.hid (Hlz5.out.below kz6)
            have Hmz6 := Lib.hid (Hmz5.out.below kz6)
            have Htz6 := Lib.hid (Htz5.out.below kz6)
            clear kz6
            go_upto_region 27 with fail
            rw [HWz6.out]
            have qa0_6 : wz6.cell? ⟨wz1.heap.size, 0, none⟩ = some (.int .i64 (sz : Nat)) := Haz6.out.cell 0
            have qa1_6 : wz6.cell? ⟨wz1.heap.size, 1, none⟩ = some (.int .i64 (n : Nat)) := Haz6.out.cell 1
            have qa2_6 : wz6.cell? ⟨wz1.heap.size, 2, none⟩ = some (.int .i64 bu) := Haz6.out.cell 2
            have qa3_6 : wz6.cell? ⟨wz1.heap.size, 3, none⟩ = some (.int .i64 br) := Haz6.out.cell 3
            have qa4_6 : wz6.cell? ⟨wz1.heap.size, 4, none⟩ = some (.int .i64 bl) := Haz6.out.cell 4
            have la_6 : wz1.heap.size < wz6.heap.size := Haz6.out.lt
            have qb0_6 : wz6.cell? ⟨wz3.heap.size, 0, none⟩ = some (.int .i64 (sz : Nat)) := Hbz6.out.cell 0
            have qb1_6 : wz6.cell? ⟨wz3.heap.size, 1, none⟩ = some (.int .i64 (n : Nat)) := Hbz6.out.cell 1
            have qb2_6 : wz6.cell? ⟨wz3.heap.size, 2, none⟩ = some (.int .i64 bu2) := Hbz6.out.cell 2
            have qb3_6 : wz6.cell? ⟨wz3.heap.size, 3, none⟩ = some (.int .i64 br) := Hbz6.out.cell 3
            have qb4_6 : wz6.cell? ⟨wz3.heap.size, 4, none⟩ = some (.int .i64 bl2) := Hbz6.out.cell 4
            have lb_6 : wz3.heap.size < wz6.heap.size := Hbz6.out.lt
            have qc0_6 : wz6.cell? ⟨wz5.heap.size, 0, none⟩ = some (.int .i64 (sz : Nat)) := Hcz6.out.cell 0
            have qc1_6 : wz6.cell? ⟨wz5.heap.size, 1, none⟩ = some (.int .i64 (n : Nat)) := Hcz6.out.cell 1
            have qc2_6 : wz6.cell? ⟨wz5.heap.size, 2, none⟩ = some (.int .i64 bu) := Hcz6.out.cell 2
            have qc3_6 : wz6.cell? ⟨wz5.heap.size, 3, none⟩ = some (.int .i64 br) := Hcz6.out.cell 3
            have qc4_6 : wz6.cell? ⟨wz5.heap.size, 4, none⟩ = some (.int .i64 bl3) := Hcz6.out.cell 4
            have lc_6 : wz5.heap.size < wz6.heap.size := Hcz6.out.lt
            have hcz7 := HALA.out wz6
            go_wp2_with fail
            refine hcz7.mono ?_
            rintro e wz7 ⟨rfl, kz7⟩
            clear hcz7 qa0_6 qa1_6 qa2_6 qa3_6 qa4_6 la_6 qb0_6 qb1_6 qb2_6 qb3_6 qb4_6 lb_6 qc0_6 qc1_6 qc2_6 qc3_6 qc4_6 lc_6
            have HBz7 := Lib.hid (HBz6.out.trans (kz7.mono (Nat.le_trans hbase HBz6.out.size)))
            have Haz7 := Lib.hid (Haz6.out.call kz7)
            have Hbz7 := Lib.hid (Hbz6.out.call kz7)
            have Hcz7 := Lib.hid (Hcz6.out.call kz7)
            clear kz7
            have qa0_7 : wz7.cell? ⟨wz1.heap.size, 0, none⟩ = some (.int .i64 (sz : Nat)) := Haz7.out.cell 0
            have qa1_7 : wz7.cell? ⟨wz1.heap.size, 1, none⟩ = some (.int .i64 (n : Nat)) := Haz7.out.cell 1
            have qa2_7 : wz7.cell? ⟨wz1.heap.size, 2, none⟩ = some (.int .i64 bu) := Haz7.out.cell 2
            have qa3_7 : wz7.cell? ⟨wz1.heap.size, 3, none⟩ = some (.int .i64 br) := Haz7.out.cell 3
            have qa4_7 : wz7.cell? ⟨wz1.heap.size, 4, none⟩ = some (.int .i64 bl) := Haz7.out.cell 4
            have la_7 : wz1.heap.size < wz7.heap.size := Haz7.out.lt
            have hcz8 := HP1.out wz7
            go_wp2_with fail
            refine hcz8.mono ?_
            rintro e wz8 ⟨rfl, kz8⟩
            clear hcz8 qa0_7 qa1_7 qa2_7 qa3_7 qa4_7 la_7
            have HBz8 := Lib.hid (HBz7.out.trans (kz8.mono (Nat.le_trans hbase HBz7.out.size)))
            have Haz8 := Lib.hid (Haz7.out.call kz8)
            have Hbz8 := Lib.hid (Hbz7.out.call kz8)
            have Hcz8 := Lib.hid (Hcz7.out.call kz8)
            clear kz8
            obtain ⟨wz9, hwz9⟩ : ∃ wz9, wz8.alloc (.cells #[.int .i64 C, .int .i64 D, .int .i64 V, .int .u64 vh, .int .u64 vl] 38) = wz9 := ⟨_, rfl⟩
            have kz9 : Below wz8.heap.size wz8 wz9 := by rw [← hwz9]; exact (Below.refl _ _).alloc (Nat.le_refl _) _
            have Hpz9 := Lib.hid (show Has wz9 wz8.heap.size [.int .i64 C, .int .i64 D, .int .i64 V, .int .u64 vh, .int .u64 vl] 38 by rw [← hwz9]; exact Has.new _ _ _)
            have HWz9 := Lib.hid hwz9
            clear hwz9
            have HBz9 := Lib.hid (HBz8.out.trans (kz9.mono (Nat.le_trans hbase HBz8.out.size)))
            have Haz9 := Lib.hid (Haz8.out.call kz9)
            have Hbz9 := Lib.hid (Hbz8.out.call kz9)
            have Hcz9 := Lib.hid (Hcz8.out.call kz9)
            clear kz9
            go_upto_region 30 with fail
            rw [HWz9.out]
            have qb0_9 : wz9.cell? ⟨wz3.heap.size, 0, none⟩ = some (.int .i64 (sz : Nat)) := Hbz9.out.cell 0
            have qb1_9 : wz9.cell? ⟨wz3.heap.size, 1, none⟩ = some (.int .i64 (n : Nat)) := Hbz9.out.cell 1
            have qb2_9 : wz9.cell? ⟨wz3.heap.size, 2, none⟩ = some (.int .i64 bu2) := Hbz9.out.cell 2
            have qb3_9 : wz9.cell? ⟨wz3.heap.size, 3, none⟩ = some (.int .i64 br) := Hbz9.out.cell 3
            have qb4_9 : wz9.cell? ⟨wz3.heap.size, 4, none⟩ = some (.int .i64 bl2) := Hbz9.out.cell 4
            have lb_9 : wz3.heap.size < wz9.heap.size := Hbz9.out.lt
            have hbs1 := HBSW.out
            have hcz10 := HP2.out wz9
            go_wp2_with fail
            refine hcz10.mono ?_
            rintro e wz10 ⟨rfl, kz10⟩
            clear hcz10 qb0_9 qb1_9 qb2_9 qb3_9 qb4_9 lb_9
            have HBz10 := Lib.hid (HBz9.out.trans (kz10.mono (Nat.le_trans hbase HBz9.out.size)))
            have Haz10 := Lib.hid (Haz9.out.call kz10)
            have Hbz10 := Lib.hid (Hbz9.out.call kz10)
            have Hcz10 := Lib.hid (Hcz9.out.call kz10)
            have Hpz10 := Lib.hid (Hpz9.out.call kz10)
            clear kz10
            clear hbs1
            obtain ⟨wz11, hwz11⟩ : ∃ wz11, wz10.alloc (.cells #[.int .i64 (C + BD), .int .i64 D, .int .i64 V, .int .u64 vh, .int .u64 vl] 38) = wz11 := ⟨_, rfl⟩
            have kz11 : Below wz10.heap.size wz10 wz11 := by rw [← hwz11]; exact (Below.refl _ _).alloc (Nat.le_refl _) _
            have Hqz11 := Lib.hid (show Has wz11 wz10.heap.size [.int .i64 (C + BD), .int .i64 D, .int .i64 V, .int .u64 vh, .int .u64 vl] 38 by rw [← hwz11]; exact Has.new _ _ _)
            have HWz11 := Lib.hid hwz11
            clear hwz11
            have HBz11 := Lib.hid (HBz10.out.trans (kz11.mono (Nat.le_trans hbase HBz10.out.size)))
            have Haz11 := Lib.hid (Haz10.out.call kz11)
            have Hbz11 := Lib.hid (Hbz10.out.call kz11)
            have Hcz11 := Lib.hid (Hcz10.out.call kz11)
            have Hpz11 := Lib.hid (Hpz10.out.call kz11)
            clear kz11
            go_upto_region 31 with fail
            rw [HWz11.out]
            have qa0_11 : wz11.cell? ⟨wz1.heap.size, 0, none⟩ = some (.int .i64 (sz : Nat)) := Haz11.out.cell 0
            have qa1_11 : wz11.cell? ⟨wz1.heap.size, 1, none⟩ = some (.int .i64 (n : Nat)) := Haz11.out.cell 1
            have qa2_11 : wz11.cell? ⟨wz1.heap.size, 2, none⟩ = some (.int .i64 bu) := Haz11.out.cell 2
            have qa3_11 : wz11.cell? ⟨wz1.heap.size, 3, none⟩ = some (.int .i64 br) := Haz11.out.cell 3
            have qa4_11 : wz11.cell? ⟨wz1.heap.size, 4, none⟩ = some (.int .i64 bl) := Haz11.out.cell 4
            have la_11 : wz1.heap.size < wz11.heap.size := Haz11.out.lt
            have hcz12 := HW1.out wz11
            go_wp2_with fail
            refine hcz12.mono ?_
            rintro e wz12 ⟨rfl, kz12⟩
            clear hcz12 qa0_11 qa1_11 qa2_11 qa3_11 qa4_11 la_11
            have HBz12 := Lib.hid (HBz11.out.trans (kz12.mono (Nat.le_trans hbase HBz11.out.size)))
            have Haz12 := Lib.hid (Haz11.out.call kz12)
            have Hbz12 := Lib.hid (Hbz11.out.call kz12)
            have Hcz12 := Lib.hid (Hcz11.out.call kz12)
            have Hpz12 := Lib.hid (Hpz11.out.call kz12)
            have Hqz12 := Lib.hid (Hqz11.out.call kz12)
            clear kz12
            have qb0_12 : wz12.cell? ⟨wz3.heap.size, 0, none⟩ = some (.int .i64 (sz : Nat)) := Hbz12.out.cell 0
            have qb1_12 : wz12.cell? ⟨wz3.heap.size, 1, none⟩ = some (.int .i64 (n : Nat)) := Hbz12.out.cell 1
            have qb2_12 : wz12.cell? ⟨wz3.heap.size, 2, none⟩ = some (.int .i64 bu2) := Hbz12.out.cell 2
            have qb3_12 : wz12.cell? ⟨wz3.heap.size, 3, none⟩ = some (.int .i64 br) := Hbz12.out.cell 3
            have qb4_12 : wz12.cell? ⟨wz3.heap.size, 4, none⟩ = some (.int .i64 bl2) := Hbz12.out.cell 4
            have lb_12 : wz3.heap.size < wz12.heap.size := Hbz12.out.lt
            have hcz13 := HW2.out wz12
            go_wp2_with fail
            refine hcz13.mono ?_
            rintro e wz13 ⟨rfl, kz13⟩
            clear hcz13 qb0_12 qb1_12 qb2_12 qb3_12 qb4_12 lb_12
            have HBz13 := Lib.hid (HBz12.out.trans (kz13.mono (Nat.le_trans hbase HBz12.out.size)))
            have Haz13 := Lib.hid (Haz12.out.call kz13)
            have Hbz13 := Lib.hid (Hbz12.out.call kz13)
            have Hcz13 := Lib.hid (Hcz12.out.call kz13)
            have Hpz13 := Lib.hid (Hpz12.out.call kz13)
            have Hqz13 := Lib.hid (Hqz12.out.call kz13)
            clear kz13
            have qp0_13 : wz13.cell? ⟨wz8.heap.size, 0, none⟩ = some (.int .i64 C) := Hpz13.out.cell 0
            have qp1_13 : wz13.cell? ⟨wz8.heap.size, 1, none⟩ = some (.int .i64 D) := Hpz13.out.cell 1
            have qp2_13 : wz13.cell? ⟨wz8.heap.size, 2, none⟩ = some (.int .i64 V) := Hpz13.out.cell 2
            have qp3_13 : wz13.cell? ⟨wz8.heap.size, 3, none⟩ = some (.int .u64 vh) := Hpz13.out.cell 3
            have qp4_13 : wz13.cell? ⟨wz8.heap.size, 4, none⟩ = some (.int .u64 vl) := Hpz13.out.cell 4
            have lp_13 : wz8.heap.size < wz13.heap.size := Hpz13.out.lt
            have qq0_13 : wz13.cell? ⟨wz10.heap.size, 0, none⟩ = some (.int .i64 (C + BD)) := Hqz13.out.cell 0
            have qq1_13 : wz13.cell? ⟨wz10.heap.size, 1, none⟩ = some (.int .i64 D) := Hqz13.out.cell 1
            have qq2_13 : wz13.cell? ⟨wz10.heap.size, 2, none⟩ = some (.int .i64 V) := Hqz13.out.cell 2
            have qq3_13 : wz13.cell? ⟨wz10.heap.size, 3, none⟩ = some (.int .u64 vh) := Hqz13.out.cell 3
            have qq4_13 : wz13.cell? ⟨wz10.heap.size, 4, none⟩ = some (.int .u64 vl) := Hqz13.out.cell 4
            have lq_13 : wz10.heap.size < wz13.heap.size := Hqz13.out.lt
            have hbd1 := HBDW.out
            go_wp2
            go_ret
            exact ⟨rfl, HBz13.out⟩
end Go.Proofs.Ytfafkdbflmennaa
