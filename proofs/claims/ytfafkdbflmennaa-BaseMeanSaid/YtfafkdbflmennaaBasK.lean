/- The law of BaseMean: its walk. -/
import Derived.Test.YtfafkdbflmennaaBasI
namespace Go.Proofs.Ytfafkdbflmennaa
open Go.RowKit

theorem poi_low {b : Bas} (hb : basOk b) (hm : b.m < 2) {s : Int} (hs : sumB b s = true) : poiE b s = 12 ∧ poiA b s = pnt0 := by
  have h : poiE b s = 12 := by unfold poiE; rw [show basB b = true from decide_eq_true hb, hs]; exact if_pos hm
  exact ⟨h, if_neg (by omega)⟩
theorem poi_ok {b : Bas} (hb : basOk b) (hm : ¬ b.m < 2) {s : Int} (hs : sumB b s = true) : poiE b s = 0 ∧ poiA b s = pntN b s := by
  have h : poiE b s = 0 := by unfold poiE; rw [show basB b = true from decide_eq_true hb, hs]; exact if_neg hm
  exact ⟨h, if_pos h⟩
theorem remI (s M : Int) (hM : 1 ≤ M) : -(M - 1) ≤ s.tmod M ∧ s.tmod M ≤ M - 1 := by
  have h1 := Int.lt_tmod_of_pos s (show (0 : Int) < M by omega)
  have h2 := Int.tmod_lt_of_pos s (show (0 : Int) < M by omega)
  omega
/-- The numbers that the law compares, each twice. -/
structure MeanF (sz n bu C D V V2 q1 q2 X1 X2 CN X3 : Int) (Y : Bool) : Prop where
  d1 : 1 ≤ D
  d2 : D ≤ 7500000
  c1 : -169200000000000 ≤ C ∧ C ≤ 169200000000000
  v1 : -169200000000000 ≤ V ∧ V ≤ 169200000000000
  v2 : -169200000000000 ≤ V2 ∧ V2 ≤ 169200000000000
  a1 : wrap64 ((C + V) * sz) = X1
  a2 : wrap64 (q1 * D) = X1
  b0 : wrap64 (C * n) = CN
  b1 : wrap64 (CN * sz) = X2
  b2 : wrap64 (bu * D) = X2
  e1 : (V == 0) = Y
  e2 : (wrap64 (q1 * n) == bu) = Y
  f1 : wrap64 ((V - V2) * sz) = X3
  f2 : wrap64 ((q1 - q2) * D) = X3
theorem meanF {b : Bas} (hb : basOk b) (hm : ¬ b.m < 2) {q1 q2 : Int} (h1 : sumB b q1 = true) (h2 : sumB b q2 = true) :
    (pntN b q2).den = (pntN b q1).den ∧ (pntN b q2).center = (pntN b q1).center ∧ (pntN b q2).var = (pntN b q1).var ∧
    MeanF b.size b.m b.sum (pntN b q1).center (pntN b q1).den (pntN b q1).dev (pntN b q2).dev q1 q2 (q1 * (pntN b q1).den) (b.sum * (pntN b q1).den) ((pntN b q1).center * b.m) ((q1 - q2) * (pntN b q1).den) ((pntN b q1).dev == 0) := by
  have s1 := of_decide_eq_true h1
  have s2 := of_decide_eq_true h2
  have hz := hb.1
  have hu := sum_bounds hb
  obtain ⟨p1, p2, p3, p4, p5, p6, p7, p8⟩ := point_mean hb (by omega) q1 q2
  obtain ⟨⟨_, a2⟩, a3, a4⟩ := point_bounds hb (by omega) (s := q1) (by omega)
  obtain ⟨_, _, a5⟩ := point_bounds hb (by omega) (s := q2) (by omega)
  have m1 := mulB (show -10000000 ≤ q1 ∧ q1 ≤ 10000000 by omega) (show -7500000 ≤ (pntN b q1).den ∧ (pntN b q1).den ≤ 7500000 by omega)
  have m2 := mulB a3 (show -25 ≤ b.m ∧ b.m ≤ 25 by omega)
  have m3 := mulB hu (show -7500000 ≤ (pntN b q1).den ∧ (pntN b q1).den ≤ 7500000 by omega)
  have m4 := mulB (show -20000000 ≤ q1 - q2 ∧ q1 - q2 ≤ 20000000 by omega) (show -7500000 ≤ (pntN b q1).den ∧ (pntN b q1).den ≤ 7500000 by omega)
  have m5 := mulB (show -10000000 ≤ q1 ∧ q1 ≤ 10000000 by omega) (show -25 ≤ b.m ∧ b.m ≤ 25 by omega)
  refine ⟨p2.symm, p3.symm, p4.symm, p1, a2, a3, a4, a5, by rw [p5]; exact wrap6 (by omega), wrap6 (by omega), wrap6 (by omega), by rw [p6]; exact wrap6 (by omega), wrap6 (by omega), rfl, ?_, by rw [p8]; exact wrap6 (by omega), wrap6 (by omega)⟩
  rw [wrap6 (by omega), Bool.eq_iff_iff, beq_iff_eq, beq_iff_eq]
  exact p7.symm
def MeaI (L : List (List Int)) (W : World) (sv iv : Value) (wr : World) : Prop := ∃ i : Nat, i ≤ L.length ∧ sv = .int .i64 (rsum (L.take i)) ∧ iv = .int .i64 (i : Nat) ∧ W = wr
def MeaJ (S : Int) (row : List Int) (W : World) (sv kv : Value) (wr : World) : Prop := ∃ k : Nat, k ≤ row.length ∧ sv = .int .i64 (S + ssum (row.take k)) ∧ kv = .int .i64 (k : Nat) ∧ W = wr
theorem ssum_snoc (l : List Int) (x : Int) : ssum (l ++ [x]) = ssum l + x := by rw [ssum_append]; simp [ssum]
theorem rsum_in {sz : Nat} {L : List (List Int)} (h : goodRows sz 1000000 L) (hs : sz ≤ 10) (i : Nat) : -250000000 ≤ rsum (L.take i) ∧ rsum (L.take i) ≤ 250000000 := by
  have gen : ∀ M : List (List Int), (∀ r ∈ M, r.length = sz ∧ ∀ x ∈ r, -1000000 ≤ x ∧ x ≤ 1000000) → -((M.length : Int) * 10000000) ≤ rsum M ∧ rsum M ≤ (M.length : Int) * 10000000 := by
    intro M
    induction M with
    | nil => intro _; simp [rsum]
    | cons r M ih =>
      intro hM
      have h1 := ih (fun x hx => hM x (by simp [hx]))
      have h2 := hM r (by simp)
      have h3 := sum_ge (-1000000) (l := r) (fun x hx => (h2.2 x hx).1)
      have h4 := sum_le 1000000 (l := r) (fun x hx => (h2.2 x hx).2)
      rw [rsum_cons, List.length_cons]
      have h5 : (r.length : Int) ≤ 10 := by omega
      omega
  have h1 := gen (L.take i) (fun r hr => h.2 r (List.mem_of_mem_take hr))
  have h2 : ((L.take i).length : Int) ≤ 25 := by rw [List.length_take]; have := h.1; omega
  omega
set_option linter.unusedSimpArgs false in
set_option linter.unusedVariables false in
set_option maxHeartbeats 16000000 in
set_option maxRecDepth 100000 in
theorem mean15_walk (H : BasCode) (z : Int) (l : List Int) (s0 t0 : Int) (v : Value) (w : World) (hr : ReadsI w v l) (hlen : l.length ≤ 9223372036854775807) :
    Calls Try.prog 5 #[.int .i64 z, v, .int .i64 s0, .int .i64 t0] w fun e w' => e = .returned (.bool true) ∧ Below w.heap.size w w' := by
  have HROWS := Lib.hid (rows_any z 1000000 l v w (by omega) hr hlen)
  have HALA := Lib.hid (fun W => alive15_any H W)
  have hbase := Nat.le_refl w.heap.size
  have HH := Lib.hid H
  clear hr hlen H
  go_enter Try.func5, Try.ntmps5
  go_wp2_with fail
  refine HROWS.out.mono ?_
  rintro e w2 ⟨sz, L, rv, s1, s2, hg, rfl, hrv, hb2⟩
  have HS1 := Lib.hid s1; have HS2 := Lib.hid s2
  have hw1 : IntKind.i64.wrap ((sz : Int) * 1000000) = (sz : Int) * 1000000 := wrapI (by omega)
  have hM : 1 ≤ (sz : Int) * 1000000 + 1 := by omega
  obtain ⟨M, hMe⟩ : ∃ M, (sz : Int) * 1000000 + 1 = M := ⟨_, rfl⟩
  rw [hMe] at hM
  have hw2 : IntKind.i64.wrap ((sz : Int) * 1000000 + 1) = M := by rw [← hMe]; exact wrapI (by omega)
  have hM0 : ¬ M = 0 := by omega
  have hM1 : (M == 0) = false := beq_false_of_ne hM0
  have hr1 := remI s0 M hM
  have hr2 := remI t0 M hM
  have HW1 := Lib.hid hw1; have HW2 := Lib.hid hw2; have HME := Lib.hid hMe; have HR1 := Lib.hid hr1; have HR2 := Lib.hid hr2
  have HG := Lib.hid hg; have HRV0 := Lib.hid hrv; have HB2 := Lib.hid hb2
  clear hMe hr1 hr2 hg hrv hb2 s1 s2
  go_upto_region 2 with fail
  refine wp_region_held_drew (S := fun _ => True) (by kernel_rfl) trivial (fun hHeld => ?_)
  refine regTake 0 (some 27) (v := ?_) rfl rfl (by kernel_rfl) (by kernel_rfl) (by kernel_rfl) (fun _ _ _ h => h) (by rfl) hHeld ?_ ?_
  rotate_left 1
  · (intro w hSw; (try dsimp only at hSw); go_simp; try with_reducible rfl)
  simp only [Act.put, List.setIfInBounds_toArray, List.set_cons_zero, List.set_cons_succ]
  refine regTake 1 (some 28) (v := ?_) rfl rfl (by kernel_rfl) (by kernel_rfl) (by kernel_rfl) (fun _ _ _ h => h) (by rfl) hHeld ?_ ?_
  rotate_left 1
  · (intro w hSw; (try dsimp only at hSw); go_simp; try with_reducible rfl)
  simp only [Act.put, List.setIfInBounds_toArray, List.set_cons_zero, List.set_cons_succ]
  refine regTake 2 (some 29) (v := ?_) rfl rfl (by kernel_rfl) (by kernel_rfl) (by kernel_rfl) (fun _ _ _ h => h) (by rfl) hHeld ?_ ?_
  rotate_left 1
  · (intro w hSw; (try dsimp only at hSw); go_simp; try with_reducible rfl)
  simp only [Act.put, List.setIfInBounds_toArray, List.set_cons_zero, List.set_cons_succ]
  refine regTake 3 (some 30) (v := ?_) rfl rfl (by kernel_rfl) (by kernel_rfl) (by kernel_rfl) (fun _ _ _ h => h) (by rfl) hHeld ?_ ?_
  rotate_left 1
  · (intro w hSw; (try dsimp only at hSw); go_simp; try with_reducible rfl)
  simp only [Act.put, List.setIfInBounds_toArray, List.set_cons_zero, List.set_cons_succ]
  refine regTake 4 (some 31) (v := ?_) rfl rfl (by kernel_rfl) (by kernel_rfl) (by kernel_rfl) (fun _ _ _ h => h) (by rfl) hHeld ?_ ?_
  rotate_left 1
  · (intro w hSw; (try dsimp only at hSw); go_simp; try with_reducible rfl)
  simp only [Act.put, List.setIfInBounds_toArray, List.set_cons_zero, List.set_cons_succ]
  refine regTake 5 (some 32) (v := ?_) rfl rfl (by kernel_rfl) (by kernel_rfl) (by kernel_rfl) (fun _ _ _ h => h) (by rfl) hHeld ?_ ?_
  rotate_left 1
  · (intro w hSw; (try dsimp only at hSw); go_simp; try with_reducible rfl)
  simp only [Act.put, List.setIfInBounds_toArray, List.set_cons_zero, List.set_cons_succ]
  refine regTake 6 (some 33) (v := ?_) rfl rfl (by kernel_rfl) (by kernel_rfl) (by kernel_rfl) (fun _ _ _ h => h) (by rfl) hHeld ?_ ?_
  rotate_left 1
  · (intro w hSw; (try dsimp only at hSw); go_simp; try with_reducible rfl)
  simp only [Act.put, List.setIfInBounds_toArray, List.set_cons_zero, List.set_cons_succ]
  refine regTake 7 (some 34) (v := ?_) rfl rfl (by kernel_rfl) (by kernel_rfl) (by kernel_rfl) (fun _ _ _ h => h) (by rfl) hHeld ?_ ?_
  rotate_left 1
  · (intro w hSw; (try dsimp only at hSw); go_simp; try with_reducible rfl)
  simp only [Act.put, List.setIfInBounds_toArray, List.set_cons_zero, List.set_cons_succ]
  refine regTake 8 (some 35) (v := ?_) rfl rfl (by kernel_rfl) (by kernel_rfl) (by kernel_rfl) (fun _ _ _ h => h) (by rfl) hHeld ?_ ?_
  rotate_left 1
  · (intro w hSw; (try dsimp only at hSw); go_simp; try with_reducible rfl)
  simp only [Act.put, List.setIfInBounds_toArray, List.set_cons_zero, List.set_cons_succ]
  refine regTake 9 (some 36) (v := ?_) rfl rfl (by kernel_rfl) (by kernel_rfl) (by kernel_rfl) (fun _ _ _ h => h) (by rfl) hHeld ?_ ?_
  rotate_left 1
  · (intro w hSw; (try dsimp only at hSw); go_simp; try with_reducible rfl)
  simp only [Act.put, List.setIfInBounds_toArray, List.set_cons_zero, List.set_cons_succ]
  refine regTake 10 (some 2) (v := ?_) rfl rfl (by kernel_rfl) (by kernel_rfl) (by kernel_rfl) (fun _ _ _ h => h) (by rfl) hHeld ?_ ?_
  rotate_left 1
  · (intro w hSw; (try dsimp only at hSw); go_simp; try with_reducible rfl)
  simp only [Act.put, List.setIfInBounds_toArray, List.set_cons_zero, List.set_cons_succ]
  refine regTake 11 (some 3) (v := ?_) rfl rfl (by kernel_rfl) (by kernel_rfl) (by kernel_rfl) (fun _ _ _ h => h) (by rfl) hHeld ?_ ?_
  rotate_left 1
  · (intro w hSw; (try dsimp only at hSw); go_simp; try with_reducible rfl)
  simp only [Act.put, List.setIfInBounds_toArray, List.set_cons_zero, List.set_cons_succ]
  refine wpAnyH_done (by kernel_rfl) ?_ _
  clear hHeld hw1 hw2 hM hM0 hM1
  obtain ⟨q1, hq1⟩ : ∃ q, s0.tmod M = q := ⟨_, rfl⟩
  obtain ⟨q2, hq2⟩ : ∃ q, t0.tmod M = q := ⟨_, rfl⟩
  rw [hq1, hq2]
  have hg := HG.out; have hrv := HRV0.out; have s1 := HS1.out; have s2 := HS2.out
  have hqa : -((sz : Int) * 1000000) ≤ q1 ∧ q1 ≤ (sz : Int) * 1000000 := by have := HR1.out; have := HME.out; omega
  have hqb : -((sz : Int) * 1000000) ≤ q2 ∧ q2 ≤ (sz : Int) * 1000000 := by have := HR2.out; have := HME.out; omega
  obtain ⟨w3, hw3⟩ : ∃ w3, w2.drew = w3 := ⟨_, rfl⟩
  have HB3 := Lib.hid (show Below w.heap.size w w3 by rw [← hw3]; exact HB2.out.drew)
  have hrv3 : ReadsR w3 rv L := by rw [← hw3]; exact hrv.below (Below.refl _ _).drew
  rw [hw3]
  have hok := hg.ok (by omega)
  have hbo := made_ok (size := (sz : Int)) (by omega) (by omega) L hok hg.1
  have hms := made_size (sz : Int) L
  have hmd := made_any HH.out (sz : Int) (by omega) (by omega) L hok hg.1 rv w3 hrv3
  have hb1 : sumB (madeN (sz : Int) L) q1 = true := decide_eq_true (by rw [hms.1]; omega)
  have hb2 : sumB (madeN (sz : Int) L) q2 = true := decide_eq_true (by rw [hms.1]; omega)
  have hp1 := fun W => HH.out.point (madeN (sz : Int) L) (basI_ok hbo) q1 (by unfold IsInt; omega) W
  have hp2 := fun W => HH.out.point (madeN (sz : Int) L) (basI_ok hbo) q2 (by unfold IsInt; omega) W
  have hlow := fun (h : (madeN (sz : Int) L).m < 2) => And.intro (poi_low hbo h hb1) (poi_low hbo h hb2)
  have hhig := fun (h : ¬ (madeN (sz : Int) L).m < 2) => And.intro (poi_ok hbo h hb1) (And.intro (poi_ok hbo h hb2) (meanF hbo h hb1 hb2))
  have hri := fun i => rsum_in hg s2 i
  obtain ⟨b, hb⟩ : ∃ b, madeN (sz : Int) L = b := ⟨_, rfl⟩
  rw [hb] at hms hmd hp1 hp2 hlow hhig
  obtain ⟨aoV, capV, hve, _⟩ := id hrv3
  obtain ⟨n, hn⟩ : ∃ n, L.length = n := ⟨_, rfl⟩
  rw [hn] at hms hve
  have hn25 : n ≤ 25 := by rw [← hn]; exact hg.1
  subst hve
  obtain ⟨bs, bm, bu, br, bl⟩ := b
  dsimp only at *
  obtain ⟨m1, m2, m3⟩ := hms
  subst m1 m2
  have HMD := Lib.hid hmd; have HLOW := Lib.hid hlow; have HHIG := Lib.hid hhig; have HRI := Lib.hid hri; have HRV := Lib.hid hrv3; have HN := Lib.hid hn; have HU := Lib.hid m3
  have HP1 := Lib.hid hp1; have HP2 := Lib.hid hp2; have HG2 := Lib.hid hg
  have hqw1 : -10000000 ≤ q1 ∧ q1 ≤ 10000000 := by omega
  have hqw2 : -10000000 ≤ q2 ∧ q2 ≤ 10000000 := by omega
  clear hg hrv s1 s2 hqa hqb hw3 hrv3 hok hbo hmd hb1 hb2 hp1 hp2 hlow hhig hri hb hn m3 hq1 hq2 HROWS HW1 HW2 HME HR1 HR2 HG HRV0 HB2
  by_cases c2 : (n : Int) < 2
  · obtain ⟨⟨e1, e2⟩, e3, e4⟩ := HLOW.out c2
    rw [e1, e2] at HP1
    rw [e3, e4] at HP2
    have hpz : pntV pnt0 = .agg #[.int .i64 0, .int .i64 0, .int .i64 0, .int .u64 0, .int .u64 0] := by rfl
    rw [hpz] at HP1 HP2
    have hqp := eqPnt 0 0 0 0 0
    clear hpz
    clear e1 e2 e3 e4 HLOW HHIG
    have hcz1 := HMD.out
    go_wp2_with fail
    refine hcz1.mono ?_
    rintro e wz1 ⟨rfl, kz1⟩
    clear hcz1
    have HBz1 := Lib.hid (HB3.out.trans (kz1.mono (Nat.le_trans hbase HB3.out.size)))
    clear kz1
    obtain ⟨wz2, hwz2⟩ : ∃ wz2, wz1.alloc (.cells #[.int .i64 (sz : Nat), .int .i64 (n : Nat), .int .i64 bu, .int .i64 br, .int .i64 bl] 23) = wz2 := ⟨_, rfl⟩
    have kz2 : Below wz1.heap.size wz1 wz2 := by rw [← hwz2]; exact (Below.refl _ _).alloc (Nat.le_refl _) _
    have Hbz2 := Lib.hid (show Has wz2 wz1.heap.size [.int .i64 (sz : Nat), .int .i64 (n : Nat), .int .i64 bu, .int .i64 br, .int .i64 bl] 23 by rw [← hwz2]; exact Has.new _ _ _)
    have HWz2 := Lib.hid hwz2
    clear hwz2
    have HBz2 := Lib.hid (HBz1.out.trans (kz2.mono (Nat.le_trans hbase HBz1.out.size)))
    clear kz2
    go_upto_region 4 with fail
    rw [HWz2.out]
    have hcz3 := HALA.out wz2
    go_wp2_with fail
    refine hcz3.mono ?_
    rintro e wz3 ⟨rfl, kz3⟩
    clear hcz3
    have HBz3 := Lib.hid (HBz2.out.trans (kz3.mono (Nat.le_trans hbase HBz2.out.size)))
    have Hbz3 := Lib.hid (Hbz2.out.call kz3)
    clear kz3
    have qb0_3 : wz3.cell? ⟨wz1.heap.size, 0, none⟩ = some (.int .i64 (sz : Nat)) := Hbz3.out.cell 0
    have qb1_3 : wz3.cell? ⟨wz1.heap.size, 1, none⟩ = some (.int .i64 (n : Nat)) := Hbz3.out.cell 1
    have qb2_3 : wz3.cell? ⟨wz1.heap.size, 2, none⟩ = some (.int .i64 bu) := Hbz3.out.cell 2
    have qb3_3 : wz3.cell? ⟨wz1.heap.size, 3, none⟩ = some (.int .i64 br) := Hbz3.out.cell 3
    have qb4_3 : wz3.cell? ⟨wz1.heap.size, 4, none⟩ = some (.int .i64 bl) := Hbz3.out.cell 4
    have lb_3 : wz1.heap.size < wz3.heap.size := Hbz3.out.lt
    have hcz4 := HP1.out wz3
    go_wp2_with fail
    refine hcz4.mono ?_
    rintro e wz4 ⟨rfl, kz4⟩
    clear hcz4 qb0_3 qb1_3 qb2_3 qb3_3 qb4_3 lb_3
    have HBz4 := Lib.hid (HBz3.out.trans (kz4.mono (Nat.le_trans hbase HBz3.out.size)))
    have Hbz4 := Lib.hid (Hbz3.out.call kz4)
    clear kz4
    obtain ⟨wz5, hwz5⟩ : ∃ wz5, wz4.alloc (.cells #[.int .i64 0, .int .i64 0, .int .i64 0, .int .u64 0, .int .u64 0] 38) = wz5 := ⟨_, rfl⟩
    have kz5 : Below wz4.heap.size wz4 wz5 := by rw [← hwz5]; exact (Below.refl _ _).alloc (Nat.le_refl _) _
    have Hpz5 := Lib.hid (show Has wz5 wz4.heap.size [.int .i64 0, .int .i64 0, .int .i64 0, .int .u64 0, .int .u64 0] 38 by rw [← hwz5]; exact Has.new _ _ _)
    have HWz5 := Lib.hid hwz5
    clear hwz5
    have HBz5 := Lib.hid (HBz4.out.trans (kz5.mono (Nat.le_trans hbase HBz4.out.size)))
    have Hbz5 := Lib.hid (Hbz4.out.call kz5)
    clear kz5
    go_upto_region 7 with fail
    rw [HWz5.out]
    have qb0_5 : wz5.cell? ⟨wz1.heap.size, 0, none⟩ = some (.int .i64 (sz : Nat)) := Hbz5.out.cell 0
    have qb1_5 : wz5.cell? ⟨wz1.heap.size, 1, none⟩ = some (.int .i64 (n : Nat)) := Hbz5.out.cell 1
    have qb2_5 : wz5.cell? ⟨wz1.heap.size, 2, none⟩ = some (.int .i64 bu) := Hbz5.out.cell 2
    have qb3_5 : wz5.cell? ⟨wz1.heap.size, 3, none⟩ = some (.int .i64 br) := Hbz5.out.cell 3
    have qb4_5 : wz5.cell? ⟨wz1.heap.size, 4, none⟩ = some (.int .i64 bl) := Hbz5.out.cell 4
    have lb_5 : wz1.heap.size < wz5.heap.size := Hbz5.out.lt
    have hcz6 := HP2.out wz5
    go_wp2_with fail
    refine hcz6.mono ?_
    rintro e wz6 ⟨rfl, kz6⟩
    clear hcz6 qb0_5 qb1_5 qb2_5 qb3_5 qb4_5 lb_5
    have HBz6 := Lib.hid (HBz5.out.trans (kz6.mono (Nat.le_trans hbase HBz5.out.size)))
    have Hbz6 := Lib.hid (Hbz5.out.call kz6)
    have Hpz6 := Lib.hid (Hpz5.out.call kz6)
    clear kz6
    obtain ⟨wz7, hwz7⟩ : ∃ wz7, wz6.alloc (.cells #[.int .i64 0, .int .i64 0, .int .i64 0, .int .u64 0, .int .u64 0] 38) = wz7 := ⟨_, rfl⟩
    have kz7 : Below wz6.heap.size wz6 wz7 := by rw [← hwz7]; exact (Below.refl _ _).alloc (Nat.le_refl _) _
    have Hqz7 := Lib.hid (show Has wz7 wz6.heap.size [.int .i64 0, .int .i64 0, .int .i64 0, .int .u64 0, .int .u64 0] 38 by rw [← hwz7]; exact Has.new _ _ _)
    have HWz7 := Lib.hid hwz7
    clear hwz7
    have HBz7 := Lib.hid (HBz6.out.trans (kz7.mono (Nat.le_trans hbase HBz6.out.size)))
    have Hbz7 := Lib.hid (Hbz6.out.call kz7)
    have Hpz7 := Lib.hid (Hpz6.out.call kz7)
    clear kz7
    go_upto_region 8 with fail
    rw [HWz7.out]
    have qp0_7 : wz7.cell? ⟨wz4.heap.size, 0, none⟩ = some (.int .i64 0) := Hpz7.out.cell 0
    have qp1_7 : wz7.cell? ⟨wz4.heap.size, 1, none⟩ = some (.int .i64 0) := Hpz7.out.cell 1
    have qp2_7 : wz7.cell? ⟨wz4.heap.size, 2, none⟩ = some (.int .i64 0) := Hpz7.out.cell 2
    have qp3_7 : wz7.cell? ⟨wz4.heap.size, 3, none⟩ = some (.int .u64 0) := Hpz7.out.cell 3
    have qp4_7 : wz7.cell? ⟨wz4.heap.size, 4, none⟩ = some (.int .u64 0) := Hpz7.out.cell 4
    have lp_7 : wz4.heap.size < wz7.heap.size := Hpz7.out.lt
    go_wp2
    go_ret
    exact ⟨rfl, HBz7.out⟩
  · obtain ⟨⟨e1, e2⟩, ⟨e3, e4⟩, d1, d2, d3, hf⟩ := HHIG.out c2
    rw [e1, e2] at HP1
    rw [e3, e4] at HP2
    dsimp only [pntV] at HP1 HP2
    rw [d1, d2, d3] at HP2
    obtain ⟨C, hC⟩ : ∃ x, (pntN ⟨(sz : Int), (n : Int), bu, br, bl⟩ q1).center = x := ⟨_, rfl⟩
    obtain ⟨D, hD⟩ : ∃ x, (pntN ⟨(sz : Int), (n : Int), bu, br, bl⟩ q1).den = x := ⟨_, rfl⟩
    obtain ⟨V, hV⟩ : ∃ x, (pntN ⟨(sz : Int), (n : Int), bu, br, bl⟩ q1).dev = x := ⟨_, rfl⟩
    obtain ⟨V2, hV2⟩ : ∃ x, (pntN ⟨(sz : Int), (n : Int), bu, br, bl⟩ q2).dev = x := ⟨_, rfl⟩
    obtain ⟨vh, hvh⟩ : ∃ x, ((hi (pntN ⟨(sz : Int), (n : Int), bu, br, bl⟩ q1).var : Nat) : Int) = x := ⟨_, rfl⟩
    obtain ⟨vl, hvl⟩ : ∃ x, ((lo (pntN ⟨(sz : Int), (n : Int), bu, br, bl⟩ q1).var : Nat) : Int) = x := ⟨_, rfl⟩
    rw [hC, hD, hV, hvh, hvl] at HP1
    rw [hC, hD, hV2, hvh, hvl] at HP2
    rw [hC, hD, hV, hV2] at hf
    obtain ⟨X1, hX1⟩ : ∃ x, q1 * D = x := ⟨_, rfl⟩
    obtain ⟨X2, hX2⟩ : ∃ x, bu * D = x := ⟨_, rfl⟩
    obtain ⟨CN, hCN⟩ : ∃ x, C * (n : Int) = x := ⟨_, rfl⟩
    obtain ⟨X3, hX3⟩ : ∃ x, (q1 - q2) * D = x := ⟨_, rfl⟩
    obtain ⟨Y, hY⟩ : ∃ x, (V == 0) = x := ⟨_, rfl⟩
    rw [hX1, hX2, hCN, hX3, hY] at hf
    have HF := Lib.hid hf
    clear e1 e2 e3 e4 d1 d2 d3 hf hC hD hV hV2 hvh hvl hX1 hX2 hCN hX3 hY HLOW HHIG
    have hcz1 := HMD.out
    go_wp2_with fail
    refine hcz1.mono ?_
    rintro e wz1 ⟨rfl, kz1⟩
    clear hcz1
    have HBz1 := Lib.hid (HB3.out.trans (kz1.mono (Nat.le_trans hbase HB3.out.size)))
    have Hrvz1 := Lib.hid (HRV.out.below kz1)
    clear kz1
    obtain ⟨wz2, hwz2⟩ : ∃ wz2, wz1.alloc (.cells #[.int .i64 (sz : Nat), .int .i64 (n : Nat), .int .i64 bu, .int .i64 br, .int .i64 bl] 23) = wz2 := ⟨_, rfl⟩
    have kz2 : Below wz1.heap.size wz1 wz2 := by rw [← hwz2]; exact (Below.refl _ _).alloc (Nat.le_refl _) _
    have Hbz2 := Lib.hid (show Has wz2 wz1.heap.size [.int .i64 (sz : Nat), .int .i64 (n : Nat), .int .i64 bu, .int .i64 br, .int .i64 bl] 23 by rw [← hwz2]; exact Has.new _ _ _)
    have HWz2 := Lib.hid hwz2
    clear hwz2
    have HBz2 := Lib.hid (HBz1.out.trans (kz2.mono (Nat.le_trans hbase HBz1.out.size)))
    have Hrvz2 := Lib.hid (Hrvz1.out.below kz2)
    clear kz2
    go_upto_region 4 with fail
    rw [HWz2.out]
    have hcz3 := HALA.out wz2
    go_wp2_with fail
    refine hcz3.mono ?_
    rintro e wz3 ⟨rfl, kz3⟩
    clear hcz3
    have HBz3 := Lib.hid (HBz2.out.trans (kz3.mono (Nat.le_trans hbase HBz2.out.size)))
    have Hbz3 := Lib.hid (Hbz2.out.call kz3)
    have Hrvz3 := Lib.hid (Hrvz2.out.below kz3)
    clear kz3
    have qb0_3 : wz3.cell? ⟨wz1.heap.size, 0, none⟩ = some (.int .i64 (sz : Nat)) := Hbz3.out.cell 0
    have qb1_3 : wz3.cell? ⟨wz1.heap.size, 1, none⟩ = some (.int .i64 (n : Nat)) := Hbz3.out.cell 1
    have qb2_3 : wz3.cell? ⟨wz1.heap.size, 2, none⟩ = some (.int .i64 bu) := Hbz3.out.cell 2
    have qb3_3 : wz3.cell? ⟨wz1.heap.size, 3, none⟩ = some (.int .i64 br) := Hbz3.out.cell 3
    have qb4_3 : wz3.cell? ⟨wz1.heap.size, 4, none⟩ = some (.int .i64 bl) := Hbz3.out.cell 4
    have lb_3 : wz1.heap.size < wz3.heap.size := Hbz3.out.lt
    have hcz4 := HP1.out wz3
    go_wp2_with fail
    refine hcz4.mono ?_
    rintro e wz4 ⟨rfl, kz4⟩
    clear hcz4 qb0_3 qb1_3 qb2_3 qb3_3 qb4_3 lb_3
    have HBz4 := Lib.hid (HBz3.out.trans (kz4.mono (Nat.le_trans hbase HBz3.out.size)))
    have Hbz4 := Lib.hid (Hbz3.out.call kz4)
    have Hrvz4 := Lib.hid (Hrvz3.out.below kz4)
    clear kz4
    obtain ⟨wz5, hwz5⟩ : ∃ wz5, wz4.alloc (.cells #[.int .i64 C, .int .i64 D, .int .i64 V, .int .u64 vh, .int .u64 vl] 38) = wz5 := ⟨_, rfl⟩
    have kz5 : Below wz4.heap.size wz4 wz5 := by rw [← hwz5]; exact (Below.refl _ _).alloc (Nat.le_refl _) _
    have Hpz5 := Lib.hid (show Has wz5 wz4.heap.size [.int .i64 C, .int .i64 D, .int .i64 V, .int .u64 vh, .int .u64 vl] 38 by rw [← hwz5]; exact Has.new _ _ _)
    have HWz5 := Lib.hid hwz5
    clear hwz5
    have HBz5 := Lib.hid (HBz4.out.trans (kz5.mono (Nat.le_trans hbase HBz4.out.size)))
    have Hbz5 := Lib.hid (Hbz4.out.call kz5)
    have Hrvz5 := Lib.hid (Hrvz4.out.below kz5)
    clear kz5
    go_upto_region 7 with fail
    rw [HWz5.out]
    have qb0_5 : wz5.cell? ⟨wz1.heap.size, 0, none⟩ = some (.int .i64 (sz : Nat)) := Hbz5.out.cell 0
    have qb1_5 : wz5.cell? ⟨wz1.heap.size, 1, none⟩ = some (.int .i64 (n : Nat)) := Hbz5.out.cell 1
    have qb2_5 : wz5.cell? ⟨wz1.heap.size, 2, none⟩ = some (.int .i64 bu) := Hbz5.out.cell 2
    have qb3_5 : wz5.cell? ⟨wz1.heap.size, 3, none⟩ = some (.int .i64 br) := Hbz5.out.cell 3
    have qb4_5 : wz5.cell? ⟨wz1.heap.size, 4, none⟩ = some (.int .i64 bl) := Hbz5.out.cell 4
    have lb_5 : wz1.heap.size < wz5.heap.size := Hbz5.out.lt
    have hcz6 := HP2.out wz5
    go_wp2_with fail
    refine hcz6.mono ?_
    rintro e wz6 ⟨rfl, kz6⟩
    clear hcz6 qb0_5 qb1_5 qb2_5 qb3_5 qb4_5 lb_5
    have HBz6 := Lib.hid (HBz5.out.trans (kz6.mono (Nat.le_trans hbase HBz5.out.size)))
    have Hbz6 := Lib.hid (Hbz5.out.call kz6)
    have Hpz6 := Lib.hid (Hpz5.out.call kz6)
    have Hrvz6 := Lib.hid (Hrvz5.out.below kz6)
    clear kz6
    obtain ⟨wz7, hwz7⟩ : ∃ wz7, wz6.alloc (.cells #[.int .i64 C, .int .i64 D, .int .i64 V2, .int .u64 vh, .int .u64 vl] 38) = wz7 := ⟨_, rfl⟩
    have kz7 : Below wz6.heap.size wz6 wz7 := by rw [← hwz7]; exact (Below.refl _ _).alloc (Nat.le_refl _) _
    have Hqz7 := Lib.hid (show Has wz7 wz6.heap.size [.int .i64 C, .int .i64 D, .int .i64 V2, .int .u64 vh, .int .u64 vl] 38 by rw [← hwz7]; exact Has.new _ _ _)
    have HWz7 := Lib.hid hwz7
    clear hwz7
    have HBz7 := Lib.hid (HBz6.out.trans (kz7.mono (Nat.le_trans hbase HBz6.out.size)))
    have Hbz7 := Lib.hid (Hbz6.out.call kz7)
    have Hpz7 := Lib.hid (Hpz6.out.call kz7)
    have Hrvz7 := Lib.hid (Hrvz6.out.below kz7)
    clear kz7
    go_upto_region 8 with fail
    rw [HWz7.out]
    obtain ⟨W0, hW0⟩ : ∃ W : World, W = wz7 := ⟨_, rfl⟩
    rw [← hW0] at Hrvz7 HBz7 Hbz7 Hpz7 Hqz7 ⊢
    clear hW0
    have hn25b := hn25
    go_wp2
    go_loopw [16, 77] (MeaI L W0) (fun _ y _ => n - (intOf y).toNat)
    case atStart => exact ⟨0, Nat.zero_le _, rfl, rfl, rfl⟩
    case round =>
      obtain ⟨i, hi, rfl, rfl, rfl⟩ := hrel
      rw [HN.out] at hi
      have hsi := HRI.out i
      by_cases hl : i < n
      · obtain ⟨row, hrow⟩ : ∃ row, L[i]? = some row := ⟨_, List.getElem?_eq_getElem (by rw [HN.out]; exact hl)⟩
        obtain ⟨bb, off, u, hao, hbl, hcu, hru⟩ := Hrvz7.out.spotR hrow
        have hr10 : row.length ≤ 10 := by have := (HG2.out.2 row (List.mem_of_getElem? hrow)).1; have := HS2.out; omega
        have hrin := (HG2.out.2 row (List.mem_of_getElem? hrow)).2
        have he : rsum (L.take (i + 1)) = rsum (L.take i) + ssum row := by rw [List.take_add_one, hrow]; exact rsum_snoc _ _
        obtain ⟨aoU, capU, hue⟩ := hru.shapeI
        obtain ⟨nU, hnU⟩ : ∃ k, row.length = k := ⟨_, rfl⟩
        rw [hnU] at hue hr10
        subst hao hue
        obtain ⟨S, hS⟩ : ∃ S, rsum (L.take i) = S := ⟨_, rfl⟩
        rw [hS] at he hsi ⊢
        have HE := Lib.hid he; have HNU := Lib.hid hnU; have HRU := Lib.hid hru; have HRIN := Lib.hid hrin
        have hiz : (i : Int) < (n : Int) := by omega
        have hix : 0 ≤ (i : Int) ∧ (i : Int) < (n : Int) := by omega
        clear hrow hru hrin he hS hnU hl hi
        go_wp2
        clear hcu hbl hix
        go_loopw [16, 83] (MeaJ S row W0) (fun _ y _ => nU - (intOf y).toNat)
        case atStart => exact ⟨0, Nat.zero_le _, by rw [List.take_zero]; show _ = Value.int .i64 (S + 0); rw [Int.add_zero], rfl, rfl⟩
        case round =>
          obtain ⟨k, hk, rfl, rfl, rfl⟩ := hrel
          rw [HNU.out] at hk
          have hsk : -10000000 ≤ ssum (row.take k) ∧ ssum (row.take k) ≤ 10000000 := by
            have h3 := sum_ge (-1000000) (l := row.take k) (fun x hx => (HRIN.out x (List.mem_of_mem_take hx)).1)
            have h4 := sum_le 1000000 (l := row.take k) (fun x hx => (HRIN.out x (List.mem_of_mem_take hx)).2)
            have h5 : ((row.take k).length : Int) ≤ 10 := by rw [List.length_take]; omega
            omega
          by_cases hlk : k < nU
          · obtain ⟨x, hx⟩ : ∃ x, row[k]? = some x := ⟨_, List.getElem?_eq_getElem (by rw [HNU.out]; exact hlk)⟩
            obtain ⟨b3, off3, hao, hbl, hc⟩ := HRU.out.spotI hx
            have hxb := HRIN.out x (List.mem_of_getElem? hx)
            have HQ := Lib.hid (show ∀ y : Int, y = S + ssum (row.take k) + x → MeaJ S row W0 (.int .i64 y) (.int .i64 ((k : Int) + 1)) W0 from fun y hy => ⟨k + 1, by have := HNU.out; omega, by rw [hy, List.take_add_one, hx]; show Value.int .i64 _ = Value.int .i64 (S + ssum (row.take k ++ [x])); rw [ssum_snoc, Int.add_assoc], by first | rfl | go_num, rfl⟩)
            obtain ⟨T, hT⟩ : ∃ T, ssum (row.take k) = T := ⟨_, rfl⟩
            rw [hT] at HQ hsk ⊢
            subst hao
            have hkz : (k : Int) < (nU : Int) := by omega
            have hkx : 0 ≤ (k : Int) ∧ (k : Int) < (nU : Int) := by omega
            clear hT hx hk hlk
            go_wp2
            go_roundw
            case rel => exact HQ.out _ rfl
            case measure => simp [intOf]; omega
          · obtain rfl : k = nU := by omega
            have hte : row.take k = row := List.take_of_length_le (by rw [HNU.out]; exact Nat.le_refl _)
            have HQ := Lib.hid (show MeaI L W0 (.int .i64 (S + ssum (row.take k))) (.int .i64 ((i : Int) + 1)) W0 from ⟨i + 1, by have := HN.out; omega, by rw [hte, HE.out], by first | rfl | go_num, rfl⟩)
            obtain ⟨T, hT⟩ : ∃ T, ssum (row.take k) = T := ⟨_, rfl⟩
            rw [hT] at HQ ⊢
            clear hT hte hsk hk hlk
            go_wp2
            go_roundw
            case rel => exact HQ.out
            case measure => simp [intOf]; omega
      · obtain rfl : n = i := by omega
        have hle : L.take n = L := List.take_of_length_le (by rw [HN.out]; exact Nat.le_refl _)
        rw [hle] at hsi ⊢
        rw [← HU.out] at hsi ⊢
        obtain ⟨f1, f2, f3, f4, f5, f6, f7, f8, f9, f10, f11, f12, f13, f14⟩ := HF.out
        clear hle hl hi
        have qb0_7 : W0.cell? ⟨wz1.heap.size, 0, none⟩ = some (.int .i64 (sz : Nat)) := Hbz7.out.cell 0
        have qb1_7 : W0.cell? ⟨wz1.heap.size, 1, none⟩ = some (.int .i64 (n : Nat)) := Hbz7.out.cell 1
        have qb2_7 : W0.cell? ⟨wz1.heap.size, 2, none⟩ = some (.int .i64 bu) := Hbz7.out.cell 2
        have qb3_7 : W0.cell? ⟨wz1.heap.size, 3, none⟩ = some (.int .i64 br) := Hbz7.out.cell 3
        have qb4_7 : W0.cell? ⟨wz1.heap.size, 4, none⟩ = some (.int .i64 bl) := Hbz7.out.cell 4
        have lb_7 : wz1.heap.size < W0.heap.size := Hbz7.out.lt
        have qp0_7 : W0.cell? ⟨wz4.heap.size, 0, none⟩ = some (.int .i64 C) := Hpz7.out.cell 0
        have qp1_7 : W0.cell? ⟨wz4.heap.size, 1, none⟩ = some (.int .i64 D) := Hpz7.out.cell 1
        have qp2_7 : W0.cell? ⟨wz4.heap.size, 2, none⟩ = some (.int .i64 V) := Hpz7.out.cell 2
        have qp3_7 : W0.cell? ⟨wz4.heap.size, 3, none⟩ = some (.int .u64 vh) := Hpz7.out.cell 3
        have qp4_7 : W0.cell? ⟨wz4.heap.size, 4, none⟩ = some (.int .u64 vl) := Hpz7.out.cell 4
        have lp_7 : wz4.heap.size < W0.heap.size := Hpz7.out.lt
        have qq0_7 : W0.cell? ⟨wz6.heap.size, 0, none⟩ = some (.int .i64 C) := Hqz7.out.cell 0
        have qq1_7 : W0.cell? ⟨wz6.heap.size, 1, none⟩ = some (.int .i64 D) := Hqz7.out.cell 1
        have qq2_7 : W0.cell? ⟨wz6.heap.size, 2, none⟩ = some (.int .i64 V2) := Hqz7.out.cell 2
        have qq3_7 : W0.cell? ⟨wz6.heap.size, 3, none⟩ = some (.int .u64 vh) := Hqz7.out.cell 3
        have qq4_7 : W0.cell? ⟨wz6.heap.size, 4, none⟩ = some (.int .u64 vl) := Hqz7.out.cell 4
        have lq_7 : wz6.heap.size < W0.heap.size := Hqz7.out.lt
        cases Y
        all_goals
          go_wp2
          go_ret
          exact ⟨rfl, HBz7.out⟩
end Go.Proofs.Ytfafkdbflmennaa
