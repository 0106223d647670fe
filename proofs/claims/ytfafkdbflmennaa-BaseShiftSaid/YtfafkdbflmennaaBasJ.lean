/- The law of BaseWide: its walk. -/
import Derived.Test.YtfafkdbflmennaaBasI
namespace Go.Proofs.Ytfafkdbflmennaa
open Go.RowKit

/-- A number, brought from 0 to one below another. -/
theorem modI (r M : Int) (hM : 1 ≤ M ∧ M ≤ 1000000000) : ∃ q : Int, 0 ≤ q ∧ q < M ∧ wrap64 (r.tmod M + M) = r.tmod M + M ∧ (r.tmod M + M).tmod M = q := by
  have h1 := Int.lt_tmod_of_pos r (show (0 : Int) < M by omega)
  have h2 := Int.tmod_lt_of_pos r (show (0 : Int) < M by omega)
  have h3 := Int.tmod_nonneg M (show 0 ≤ r.tmod M + M by omega)
  have h4 := Int.tmod_lt_of_pos (r.tmod M + M) (show (0 : Int) < M by omega)
  exact ⟨_, h3, h4, by unfold wrap64; omega, rfl⟩
theorem wid_low {b : Bas} (hb : basOk b) (hm : b.m < 2) {r : Int} (hr : 0 ≤ r ∧ r ≤ 2000000) : widE b r = 12 ∧ widA b r = 0 := by
  have h : widE b r = 12 := by unfold widE; rw [show basB b = true from decide_eq_true hb, decide_eq_true hr]; exact if_pos hm
  exact ⟨h, if_neg (by omega)⟩
theorem wid_ok {b : Bas} (hb : basOk b) (hm : ¬ b.m < 2) {r : Int} (hr : 0 ≤ r ∧ r ≤ 2000000) : widE b r = 0 ∧ widA b r = wideN b r := by
  have h : widE b r = 0 := by unfold widE; rw [show basB b = true from decide_eq_true hb, decide_eq_true hr]; exact if_neg hm
  exact ⟨h, if_pos h⟩
/-- What the law asks of a base of two rows and more. -/
structure WideF (bs bm br lo hi vlo vhi mw Q : Int) : Prop where
  mw1 : 1 ≤ mw
  mw2 : mw ≤ 25
  br0 : 0 ≤ br
  br1 : br ≤ 50000000
  ord : vlo ≤ vhi
  low : -1 ≤ vlo
  high : vhi ≤ 1
  quo : br / mw = Q
  q0 : 0 ≤ Q
  q1 : Q ≤ 2000000
theorem wideF {b : Bas} (hb : basOk b) (hm : ¬ b.m < 2) {lo hi : Int} (h : lo ≤ hi) : WideF b.size b.m b.rng lo hi (wideN b lo) (wideN b hi) (mWide b) (b.rng / mWide b) := by
  have h1 := mWide_bounds hb (by omega)
  have h2 := hb.2.2
  have h3 := stp_bounds hb
  have hQ : b.rng / mWide b ≤ 2000000 := by
    refine Int.ediv_le_of_le_mul (by omega) ?_
    rw [h1.2.2]
    exact h2.2
  exact ⟨h1.1, h1.2.1, h2.1, by omega, wide_mono hb (by omega) h, (wide_tri b lo).1, (wide_tri b hi).2, rfl, Int.ediv_nonneg h2.1 (by omega), hQ⟩
set_option linter.unusedSimpArgs false in
set_option linter.unusedVariables false in
set_option maxHeartbeats 16000000 in
set_option maxRecDepth 100000 in
theorem wide15_walk (H : BasCode) (z : Int) (l : List Int) (r0 t0 : Int) (v : Value) (w : World) (hr : ReadsI w v l) (hlen : l.length ≤ 9223372036854775807) :
    Calls Try.prog 7 #[.int .i64 z, v, .int .i64 r0, .int .i64 t0] w fun e w' => e = .returned (.bool true) ∧ Below w.heap.size w w' := by
  obtain ⟨q1, hq10, hq11, hq12, hq13⟩ := modI r0 2000001 (by omega)
  obtain ⟨q2, hq20, hq21, hq22, hq23⟩ := modI t0 2000001 (by omega)
  have HQ1 := Lib.hid hq12; have HQ1b := Lib.hid hq13; have HQ2 := Lib.hid hq22; have HQ2b := Lib.hid hq23
  have HROWS := Lib.hid (rows_any z 1000000 l v w (by omega) hr hlen)
  have HALA := Lib.hid (fun W => alive15_any H W)
  have hbase := Nat.le_refl w.heap.size
  have HH := Lib.hid H
  clear hq12 hq13 hq22 hq23 hr hlen H
  go_enter Try.func7, Try.ntmps7
  go_wp2_with fail
  refine HROWS.out.mono ?_
  rintro e w2 ⟨sz, L, rv, s1, s2, hg, rfl, hrv, hb2⟩
  have HB2 := Lib.hid hb2
  have hok := hg.ok (by omega)
  have hbo := made_ok (size := (sz : Int)) (by omega) (by omega) L hok hg.1
  have hms := made_size (sz : Int) L
  have hmd := fun W (h : ReadsR W rv L) => made_any HH.out (sz : Int) (by omega) (by omega) L hok hg.1 rv W h
  have hwi := fun (r : Int) (hr : IsInt r) W => HH.out.wide (madeN (sz : Int) L) (basI_ok hbo) r hr W
  have hlow := fun (h : (madeN (sz : Int) L).m < 2) (r : Int) (hr : 0 ≤ r ∧ r ≤ 2000000) => wid_low hbo h hr
  have hhig := fun (h : ¬ (madeN (sz : Int) L).m < 2) (r : Int) (hr : 0 ≤ r ∧ r ≤ 2000000) => wid_ok hbo h hr
  have hwf := fun (h : ¬ (madeN (sz : Int) L).m < 2) (lo hi : Int) (hl : lo ≤ hi) => wideF hbo h hl
  have hz0 := fun (h : ¬ (madeN (sz : Int) L).m < 2) (h0 : (madeN (sz : Int) L).rng = 0) (r : Int) (hr : 0 ≤ r) => wide_zero hbo (by omega) h0 hr
  have hme := fun (h0 : 0 < (madeN (sz : Int) L).rng) (r : Int) (hr : r * mWide (madeN (sz : Int) L) = (madeN (sz : Int) L).rng) => wide_mean hbo h0 hr
  obtain ⟨b, hb⟩ : ∃ b, madeN (sz : Int) L = b := ⟨_, rfl⟩
  have hmwd : mWide b = if b.size = 1 then b.m - 1 else b.m := rfl
  rw [hb] at hms hmd hwi hlow hhig hwf hz0 hme
  obtain ⟨aoV, capV, hve, _⟩ := id hrv
  obtain ⟨n, hn⟩ : ∃ n, L.length = n := ⟨_, rfl⟩
  rw [hn] at hms hve
  have hn25 : n ≤ 25 := by rw [← hn]; exact hg.1
  subst hve
  have HRV := Lib.hid hrv
  obtain ⟨bs, bm, bu, br, bl⟩ := b
  dsimp only at *
  obtain ⟨m1, m2, m3⟩ := hms
  subst m1 m2
  have hbm : (madeN (sz : Int) L).m = (n : Int) := by rw [hb]
  have HMD := Lib.hid hmd; have HWI := Lib.hid hwi; have HLOW := Lib.hid hlow; have HHIG := Lib.hid hhig; have HWF := Lib.hid hwf; have HZ0 := Lib.hid hz0; have HME := Lib.hid hme; have HMW := Lib.hid hmwd
  have HAL := HALA
  clear hb2 hg hok hbo hmd hwi hlow hhig hwf hz0 hme hrv hb hn m3 hbm hmwd HROWS HALA
  have u1 := HQ1.out; have u2 := HQ2.out
  go_upto_region 3 with fail
  (try rw [u1])
  (try rw [u2])
  rw [HQ1b.out, HQ2b.out]
  clear u1 u2
  rcases Int.lt_or_le q2 q1 with c1 | c1
  rotate_left
  · have c1b : ¬ q2 < q1 := by omega
    have hlo : 0 ≤ q1 ∧ q1 ≤ 2000000 := by omega
    have hhi : 0 ≤ q2 ∧ q2 ≤ 2000000 := by omega
    have HW1 := Lib.hid (HWI.out q1 (by unfold IsInt; omega)); have HW2 := Lib.hid (HWI.out q2 (by unfold IsInt; omega))
    by_cases c2 : (n : Int) < 2
    · obtain ⟨e1, e2⟩ := HLOW.out c2 q1 hlo
      obtain ⟨e3, e4⟩ := HLOW.out c2 q2 hhi
      rw [e1, e2] at HW1
      rw [e3, e4] at HW2
      clear e1 e2 e3 e4
      clear HLOW HHIG HWF HZ0 HME HMW HWI HH
      go_upto_region 5 with fail
      have hcz1 := HMD.out w2 HRV.out
      go_wp2_with fail
      refine hcz1.mono ?_
      rintro e wz1 ⟨rfl, kz1⟩
      clear hcz1
      have HBz1 := Lib.hid (HB2.out.trans (kz1.mono (Nat.le_trans hbase HB2.out.size)))
      clear kz1
      obtain ⟨wz2, hwz2⟩ : ∃ wz2, wz1.alloc (.cells #[.int .i64 (sz : Nat), .int .i64 (n : Nat), .int .i64 bu, .int .i64 br, .int .i64 bl] 23) = wz2 := ⟨_, rfl⟩
      have kz2 : Below wz1.heap.size wz1 wz2 := by rw [← hwz2]; exact (Below.refl _ _).alloc (Nat.le_refl _) _
      have Hbz2 := Lib.hid (show Has wz2 wz1.heap.size [.int .i64 (sz : Nat), .int .i64 (n : Nat), .int .i64 bu, .int .i64 br, .int .i64 bl] 23 by rw [← hwz2]; exact Has.new _ _ _)
      have HWz2 := Lib.hid hwz2
      clear hwz2
      have HBz2 := Lib.hid (HBz1.out.trans (kz2.mono (Nat.le_trans hbase HBz1.out.size)))
      clear kz2
      go_upto_region 6 with fail
      rw [HWz2.out]
      have hcz3 := HAL.out wz2
      go_wp2_with fail
      refine hcz3.mono ?_
      rintro e wz3 ⟨rfl, kz3⟩
      clear hcz3
      have HBz3 := Lib.hid (HBz2.out.trans (kz3.mono (Nat.le_trans hbase HBz2.out.size)))
      have Hbz3 := Lib.hid (Hbz2.out.call kz3)
      clear kz3
      have qb0_3 : wz3.cell? ⟨wz1.heap.size, 0, none⟩ = some (.int .i64 (sz : Nat)) := Hbz3.out.cell 0
      have qb1_3 : wz3.cell? ⟨wz1.heap.size, 1, none⟩ = some (.int .i64 (n : Nat)) := Hbz3.out.cell 1
      have qb2_3 : wz3.cell? ⟨wz1.heap.size, 2, none⟩ = some (.int .i64 bu) := Hbz3.out.cell 2
      have qb3_3 : wz3.cell? ⟨wz1.heap.size, 3, none⟩ = some (.int .i64 br) := Hbz3.out.cell 3
      have qb4_3 : wz3.cell? ⟨wz1.heap.size, 4, none⟩ = some (.int .i64 bl) := Hbz3.out.cell 4
      have lb_3 : wz1.heap.size < wz3.heap.size := Hbz3.out.lt
      have hcz4 := HW1.out wz3
      go_wp2_with fail
      refine hcz4.mono ?_
      rintro e wz4 ⟨rfl, kz4⟩
      clear hcz4 qb0_3 qb1_3 qb2_3 qb3_3 qb4_3 lb_3
      have HBz4 := Lib.hid (HBz3.out.trans (kz4.mono (Nat.le_trans hbase HBz3.out.size)))
      have Hbz4 := Lib.hid (Hbz3.out.call kz4)
      clear kz4
      have qb0_4 : wz4.cell? ⟨wz1.heap.size, 0, none⟩ = some (.int .i64 (sz : Nat)) := Hbz4.out.cell 0
      have qb1_4 : wz4.cell? ⟨wz1.heap.size, 1, none⟩ = some (.int .i64 (n : Nat)) := Hbz4.out.cell 1
      have qb2_4 : wz4.cell? ⟨wz1.heap.size, 2, none⟩ = some (.int .i64 bu) := Hbz4.out.cell 2
      have qb3_4 : wz4.cell? ⟨wz1.heap.size, 3, none⟩ = some (.int .i64 br) := Hbz4.out.cell 3
      have qb4_4 : wz4.cell? ⟨wz1.heap.size, 4, none⟩ = some (.int .i64 bl) := Hbz4.out.cell 4
      have lb_4 : wz1.heap.size < wz4.heap.size := Hbz4.out.lt
      have hcz5 := HW2.out wz4
      go_wp2_with fail
      refine hcz5.mono ?_
      rintro e wz5 ⟨rfl, kz5⟩
      clear hcz5 qb0_4 qb1_4 qb2_4 qb3_4 qb4_4 lb_4
      have HBz5 := Lib.hid (HBz4.out.trans (kz5.mono (Nat.le_trans hbase HBz4.out.size)))
      have Hbz5 := Lib.hid (Hbz4.out.call kz5)
      clear kz5
      have qb0_5 : wz5.cell? ⟨wz1.heap.size, 0, none⟩ = some (.int .i64 (sz : Nat)) := Hbz5.out.cell 0
      have qb1_5 : wz5.cell? ⟨wz1.heap.size, 1, none⟩ = some (.int .i64 (n : Nat)) := Hbz5.out.cell 1
      have qb2_5 : wz5.cell? ⟨wz1.heap.size, 2, none⟩ = some (.int .i64 bu) := Hbz5.out.cell 2
      have qb3_5 : wz5.cell? ⟨wz1.heap.size, 3, none⟩ = some (.int .i64 br) := Hbz5.out.cell 3
      have qb4_5 : wz5.cell? ⟨wz1.heap.size, 4, none⟩ = some (.int .i64 bl) := Hbz5.out.cell 4
      have lb_5 : wz1.heap.size < wz5.heap.size := Hbz5.out.lt
      go_wp2
      go_ret
      exact ⟨rfl, HBz5.out⟩
    · obtain ⟨e1, e2⟩ := HHIG.out c2 q1 hlo
      obtain ⟨e3, e4⟩ := HHIG.out c2 q2 hhi
      rw [e1, e2] at HW1
      rw [e3, e4] at HW2
      have hf := HWF.out c2 q1 q2 (by omega)
      have hz := fun h0 => HZ0.out c2 h0 q1 hlo.1
      obtain ⟨vlo, hvlo⟩ : ∃ x, wideN ⟨(sz : Int), (n : Int), bu, br, bl⟩ q1 = x := ⟨_, rfl⟩
      obtain ⟨vhi, hvhi⟩ : ∃ x, wideN ⟨(sz : Int), (n : Int), bu, br, bl⟩ q2 = x := ⟨_, rfl⟩
      rw [hvlo] at HW1 hf hz
      rw [hvhi] at HW2 hf
      have hme := HME.out; have hmw := HMW.out; have hhig := HHIG.out c2
      obtain ⟨mw, hmwe⟩ : ∃ x, mWide ⟨(sz : Int), (n : Int), bu, br, bl⟩ = x := ⟨_, rfl⟩
      rw [hmwe] at hf hme hmw
      obtain ⟨Q, hQ⟩ : ∃ Q, br / mw = Q := ⟨_, rfl⟩
      rw [hQ] at hf
      obtain ⟨f1, f2, f3, f4, f5, f6, f7, _, f9, f10⟩ := hf
      clear e1 e2 e3 e4 hvlo hvhi hmwe
      by_cases k1 : sz = 1
      · skip
        rw [if_pos (by omega)] at hmw
        have g1 : ((sz : Int) == 1) = true := by rw [k1]; rfl
        clear k1
        subst hmw
        have HQQ := Lib.hid hQ
        by_cases k2 : br = 0
        · obtain ⟨z1, z2⟩ := hz k2
          have g2 : (br == 0) = true := by rw [k2]; rfl
          have gx : (q1 == 0) = (vlo == 0) := by rw [Bool.eq_iff_iff, beq_iff_eq, beq_iff_eq]; exact z1
          obtain ⟨X, hX⟩ : ∃ X, (vlo == 0) = X := ⟨_, rfl⟩
          rw [hX] at gx
          have GX := Lib.hid gx; have HX := Lib.hid hX
          clear z1 hz hme hhig gx hX k2
          cases X with
          | true =>
            have gx := GX.out; have hX := HX.out
            clear HLOW HHIG HWF HZ0 HME HMW HWI HH
            go_upto_region 5 with fail
            have hcz1 := HMD.out w2 HRV.out
            go_wp2_with fail
            refine hcz1.mono ?_
            rintro e wz1 ⟨rfl, kz1⟩
            clear hcz1
            have HBz1 := Lib.hid (HB2.out.trans (kz1.mono (Nat.le_trans hbase HB2.out.size)))
            clear kz1
            obtain ⟨wz2, hwz2⟩ : ∃ wz2, wz1.alloc (.cells #[.int .i64 (sz : Nat), .int .i64 (n : Nat), .int .i64 bu, .int .i64 br, .int .i64 bl] 23) = wz2 := ⟨_, rfl⟩
            have kz2 : Below wz1.heap.size wz1 wz2 := by rw [← hwz2]; exact (Below.refl _ _).alloc (Nat.le_refl _) _
            have Hbz2 := Lib.hid (show Has wz2 wz1.heap.size [.int .i64 (sz : Nat), .int .i64 (n : Nat), .int .i64 bu, .int .i64 br, .int .i64 bl] 23 by rw [← hwz2]; exact Has.new _ _ _)
            have HWz2 := Lib.hid hwz2
            clear hwz2
            have HBz2 := Lib.hid (HBz1.out.trans (kz2.mono (Nat.le_trans hbase HBz1.out.size)))
            clear kz2
            go_upto_region 6 with fail
            rw [HWz2.out]
            have hcz3 := HAL.out wz2
            go_wp2_with fail
            refine hcz3.mono ?_
            rintro e wz3 ⟨rfl, kz3⟩
            clear hcz3
            have HBz3 := Lib.hid (HBz2.out.trans (kz3.mono (Nat.le_trans hbase HBz2.out.size)))
            have Hbz3 := Lib.hid (Hbz2.out.call kz3)
            clear kz3
            have qb0_3 : wz3.cell? ⟨wz1.heap.size, 0, none⟩ = some (.int .i64 (sz : Nat)) := Hbz3.out.cell 0
            have qb1_3 : wz3.cell? ⟨wz1.heap.size, 1, none⟩ = some (.int .i64 (n : Nat)) := Hbz3.out.cell 1
            have qb2_3 : wz3.cell? ⟨wz1.heap.size, 2, none⟩ = some (.int .i64 bu) := Hbz3.out.cell 2
            have qb3_3 : wz3.cell? ⟨wz1.heap.size, 3, none⟩ = some (.int .i64 br) := Hbz3.out.cell 3
            have qb4_3 : wz3.cell? ⟨wz1.heap.size, 4, none⟩ = some (.int .i64 bl) := Hbz3.out.cell 4
            have lb_3 : wz1.heap.size < wz3.heap.size := Hbz3.out.lt
            have hcz4 := HW1.out wz3
            go_wp2_with fail
            refine hcz4.mono ?_
            rintro e wz4 ⟨rfl, kz4⟩
            clear hcz4 qb0_3 qb1_3 qb2_3 qb3_3 qb4_3 lb_3
            have HBz4 := Lib.hid (HBz3.out.trans (kz4.mono (Nat.le_trans hbase HBz3.out.size)))
            have Hbz4 := Lib.hid (Hbz3.out.call kz4)
            clear kz4
            have qb0_4 : wz4.cell? ⟨wz1.heap.size, 0, none⟩ = some (.int .i64 (sz : Nat)) := Hbz4.out.cell 0
            have qb1_4 : wz4.cell? ⟨wz1.heap.size, 1, none⟩ = some (.int .i64 (n : Nat)) := Hbz4.out.cell 1
            have qb2_4 : wz4.cell? ⟨wz1.heap.size, 2, none⟩ = some (.int .i64 bu) := Hbz4.out.cell 2
            have qb3_4 : wz4.cell? ⟨wz1.heap.size, 3, none⟩ = some (.int .i64 br) := Hbz4.out.cell 3
            have qb4_4 : wz4.cell? ⟨wz1.heap.size, 4, none⟩ = some (.int .i64 bl) := Hbz4.out.cell 4
            have lb_4 : wz1.heap.size < wz4.heap.size := Hbz4.out.lt
            have hcz5 := HW2.out wz4
            go_wp2_with fail
            refine hcz5.mono ?_
            rintro e wz5 ⟨rfl, kz5⟩
            clear hcz5 qb0_4 qb1_4 qb2_4 qb3_4 qb4_4 lb_4
            have HBz5 := Lib.hid (HBz4.out.trans (kz5.mono (Nat.le_trans hbase HBz4.out.size)))
            have Hbz5 := Lib.hid (Hbz4.out.call kz5)
            clear kz5
            have qb0_5 : wz5.cell? ⟨wz1.heap.size, 0, none⟩ = some (.int .i64 (sz : Nat)) := Hbz5.out.cell 0
            have qb1_5 : wz5.cell? ⟨wz1.heap.size, 1, none⟩ = some (.int .i64 (n : Nat)) := Hbz5.out.cell 1
            have qb2_5 : wz5.cell? ⟨wz1.heap.size, 2, none⟩ = some (.int .i64 bu) := Hbz5.out.cell 2
            have qb3_5 : wz5.cell? ⟨wz1.heap.size, 3, none⟩ = some (.int .i64 br) := Hbz5.out.cell 3
            have qb4_5 : wz5.cell? ⟨wz1.heap.size, 4, none⟩ = some (.int .i64 bl) := Hbz5.out.cell 4
            have lb_5 : wz1.heap.size < wz5.heap.size := Hbz5.out.lt
            go_wp2
            go_ret
            exact ⟨rfl, HBz5.out⟩
          | false =>
            have gx := GX.out; have hX := HX.out
            clear HLOW HHIG HWF HZ0 HME HMW HWI HH
            go_upto_region 5 with fail
            have hcz1 := HMD.out w2 HRV.out
            go_wp2_with fail
            refine hcz1.mono ?_
            rintro e wz1 ⟨rfl, kz1⟩
            clear hcz1
            have HBz1 := Lib.hid (HB2.out.trans (kz1.mono (Nat.le_trans hbase HB2.out.size)))
            clear kz1
            obtain ⟨wz2, hwz2⟩ : ∃ wz2, wz1.alloc (.cells #[.int .i64 (sz : Nat), .int .i64 (n : Nat), .int .i64 bu, .int .i64 br, .int .i64 bl] 23) = wz2 := ⟨_, rfl⟩
            have kz2 : Below wz1.heap.size wz1 wz2 := by rw [← hwz2]; exact (Below.refl _ _).alloc (Nat.le_refl _) _
            have Hbz2 := Lib.hid (show Has wz2 wz1.heap.size [.int .i64 (sz : Nat), .int .i64 (n : Nat), .int .i64 bu, .int .i64 br, .int .i64 bl] 23 by rw [← hwz2]; exact Has.new _ _ _)
            have HWz2 := Lib.hid hwz2
            clear hwz2
            have HBz2 := Lib.hid (HBz1.out.trans (kz2.mono (Nat.le_trans hbase HBz1.out.size)))
            clear kz2
            go_upto_region 6 with fail
            rw [HWz2.out]
            have hcz3 := HAL.out wz2
            go_wp2_with fail
            refine hcz3.mono ?_
            rintro e wz3 ⟨rfl, kz3⟩
            clear hcz3
            have HBz3 := Lib.hid (HBz2.out.trans (kz3.mono (Nat.le_trans hbase HBz2.out.size)))
            have Hbz3 := Lib.hid (Hbz2.out.call kz3)
            clear kz3
            have qb0_3 : wz3.cell? ⟨wz1.heap.size, 0, none⟩ = some (.int .i64 (sz : Nat)) := Hbz3.out.cell 0
            have qb1_3 : wz3.cell? ⟨wz1.heap.size, 1, none⟩ = some (.int .i64 (n : Nat)) := Hbz3.out.cell 1
            have qb2_3 : wz3.cell? ⟨wz1.heap.size, 2, none⟩ = some (.int .i64 bu) := Hbz3.out.cell 2
            have qb3_3 : wz3.cell? ⟨wz1.heap.size, 3, none⟩ = some (.int .i64 br) := Hbz3.out.cell 3
            have qb4_3 : wz3.cell? ⟨wz1.heap.size, 4, none⟩ = some (.int .i64 bl) := Hbz3.out.cell 4
            have lb_3 : wz1.heap.size < wz3.heap.size := Hbz3.out.lt
            have hcz4 := HW1.out wz3
            go_wp2_with fail
            refine hcz4.mono ?_
            rintro e wz4 ⟨rfl, kz4⟩
            clear hcz4 qb0_3 qb1_3 qb2_3 qb3_3 qb4_3 lb_3
            have HBz4 := Lib.hid (HBz3.out.trans (kz4.mono (Nat.le_trans hbase HBz3.out.size)))
            have Hbz4 := Lib.hid (Hbz3.out.call kz4)
            clear kz4
            have qb0_4 : wz4.cell? ⟨wz1.heap.size, 0, none⟩ = some (.int .i64 (sz : Nat)) := Hbz4.out.cell 0
            have qb1_4 : wz4.cell? ⟨wz1.heap.size, 1, none⟩ = some (.int .i64 (n : Nat)) := Hbz4.out.cell 1
            have qb2_4 : wz4.cell? ⟨wz1.heap.size, 2, none⟩ = some (.int .i64 bu) := Hbz4.out.cell 2
            have qb3_4 : wz4.cell? ⟨wz1.heap.size, 3, none⟩ = some (.int .i64 br) := Hbz4.out.cell 3
            have qb4_4 : wz4.cell? ⟨wz1.heap.size, 4, none⟩ = some (.int .i64 bl) := Hbz4.out.cell 4
            have lb_4 : wz1.heap.size < wz4.heap.size := Hbz4.out.lt
            have hcz5 := HW2.out wz4
            go_wp2_with fail
            refine hcz5.mono ?_
            rintro e wz5 ⟨rfl, kz5⟩
            clear hcz5 qb0_4 qb1_4 qb2_4 qb3_4 qb4_4 lb_4
            have HBz5 := Lib.hid (HBz4.out.trans (kz5.mono (Nat.le_trans hbase HBz4.out.size)))
            have Hbz5 := Lib.hid (Hbz4.out.call kz5)
            clear kz5
            have qb0_5 : wz5.cell? ⟨wz1.heap.size, 0, none⟩ = some (.int .i64 (sz : Nat)) := Hbz5.out.cell 0
            have qb1_5 : wz5.cell? ⟨wz1.heap.size, 1, none⟩ = some (.int .i64 (n : Nat)) := Hbz5.out.cell 1
            have qb2_5 : wz5.cell? ⟨wz1.heap.size, 2, none⟩ = some (.int .i64 bu) := Hbz5.out.cell 2
            have qb3_5 : wz5.cell? ⟨wz1.heap.size, 3, none⟩ = some (.int .i64 br) := Hbz5.out.cell 3
            have qb4_5 : wz5.cell? ⟨wz1.heap.size, 4, none⟩ = some (.int .i64 bl) := Hbz5.out.cell 4
            have lb_5 : wz1.heap.size < wz5.heap.size := Hbz5.out.lt
            go_wp2
            go_ret
            exact ⟨rfl, HBz5.out⟩
        · have g2 : (br == 0) = false := beq_false_of_ne k2
          by_cases k3 : br % ((n : Int) - 1) = 0
          · have g3 : (br % ((n : Int) - 1) == 0) = true := by rw [k3]; rfl
            have g4 : (br % ((n : Int) - 1) != 0) = false := by rw [k3]; rfl
            have hmul : Q * ((n : Int) - 1) = br := by rw [← HQQ.out]; exact Int.ediv_mul_cancel (Int.dvd_of_emod_eq_zero k3)
            have h0 := hme (by omega) Q hmul
            obtain ⟨e1, e2⟩ := hhig Q ⟨f9, f10⟩
            have HW3 := Lib.hid (HWI.out Q (by unfold IsInt; omega))
            rw [e1, e2, h0] at HW3
            have HQW := Lib.hid (show IntKind.i64.wrap (br.tdiv ((n : Int) - 1)) = Q by rw [Int.tdiv_eq_ediv_of_nonneg (by omega), HQQ.out]; exact wrapI (by omega))
            clear h0 e1 e2 hz hme hhig hmul k3
            clear HLOW HHIG HWF HZ0 HME HMW HWI HH
            go_upto_region 5 with fail
            have hcz1 := HMD.out w2 HRV.out
            go_wp2_with fail
            refine hcz1.mono ?_
            rintro e wz1 ⟨rfl, kz1⟩
            clear hcz1
            have HBz1 := Lib.hid (HB2.out.trans (kz1.mono (Nat.le_trans hbase HB2.out.size)))
            clear kz1
            obtain ⟨wz2, hwz2⟩ : ∃ wz2, wz1.alloc (.cells #[.int .i64 (sz : Nat), .int .i64 (n : Nat), .int .i64 bu, .int .i64 br, .int .i64 bl] 23) = wz2 := ⟨_, rfl⟩
            have kz2 : Below wz1.heap.size wz1 wz2 := by rw [← hwz2]; exact (Below.refl _ _).alloc (Nat.le_refl _) _
            have Hbz2 := Lib.hid (show Has wz2 wz1.heap.size [.int .i64 (sz : Nat), .int .i64 (n : Nat), .int .i64 bu, .int .i64 br, .int .i64 bl] 23 by rw [← hwz2]; exact Has.new _ _ _)
            have HWz2 := Lib.hid hwz2
            clear hwz2
            have HBz2 := Lib.hid (HBz1.out.trans (kz2.mono (Nat.le_trans hbase HBz1.out.size)))
            clear kz2
            go_upto_region 6 with fail
            rw [HWz2.out]
            have hcz3 := HAL.out wz2
            go_wp2_with fail
            refine hcz3.mono ?_
            rintro e wz3 ⟨rfl, kz3⟩
            clear hcz3
            have HBz3 := Lib.hid (HBz2.out.trans (kz3.mono (Nat.le_trans hbase HBz2.out.size)))
            have Hbz3 := Lib.hid (Hbz2.out.call kz3)
            clear kz3
            have qb0_3 : wz3.cell? ⟨wz1.heap.size, 0, none⟩ = some (.int .i64 (sz : Nat)) := Hbz3.out.cell 0
            have qb1_3 : wz3.cell? ⟨wz1.heap.size, 1, none⟩ = some (.int .i64 (n : Nat)) := Hbz3.out.cell 1
            have qb2_3 : wz3.cell? ⟨wz1.heap.size, 2, none⟩ = some (.int .i64 bu) := Hbz3.out.cell 2
            have qb3_3 : wz3.cell? ⟨wz1.heap.size, 3, none⟩ = some (.int .i64 br) := Hbz3.out.cell 3
            have qb4_3 : wz3.cell? ⟨wz1.heap.size, 4, none⟩ = some (.int .i64 bl) := Hbz3.out.cell 4
            have lb_3 : wz1.heap.size < wz3.heap.size := Hbz3.out.lt
            have hcz4 := HW1.out wz3
            go_wp2_with fail
            refine hcz4.mono ?_
            rintro e wz4 ⟨rfl, kz4⟩
            clear hcz4 qb0_3 qb1_3 qb2_3 qb3_3 qb4_3 lb_3
            have HBz4 := Lib.hid (HBz3.out.trans (kz4.mono (Nat.le_trans hbase HBz3.out.size)))
            have Hbz4 := Lib.hid (Hbz3.out.call kz4)
            clear kz4
            have qb0_4 : wz4.cell? ⟨wz1.heap.size, 0, none⟩ = some (.int .i64 (sz : Nat)) := Hbz4.out.cell 0
            have qb1_4 : wz4.cell? ⟨wz1.heap.size, 1, none⟩ = some (.int .i64 (n : Nat)) := Hbz4.out.cell 1
            have qb2_4 : wz4.cell? ⟨wz1.heap.size, 2, none⟩ = some (.int .i64 bu) := Hbz4.out.cell 2
            have qb3_4 : wz4.cell? ⟨wz1.heap.size, 3, none⟩ = some (.int .i64 br) := Hbz4.out.cell 3
            have qb4_4 : wz4.cell? ⟨wz1.heap.size, 4, none⟩ = some (.int .i64 bl) := Hbz4.out.cell 4
            have lb_4 : wz1.heap.size < wz4.heap.size := Hbz4.out.lt
            have hcz5 := HW2.out wz4
            go_wp2_with fail
            refine hcz5.mono ?_
            rintro e wz5 ⟨rfl, kz5⟩
            clear hcz5 qb0_4 qb1_4 qb2_4 qb3_4 qb4_4 lb_4
            have HBz5 := Lib.hid (HBz4.out.trans (kz5.mono (Nat.le_trans hbase HBz4.out.size)))
            have Hbz5 := Lib.hid (Hbz4.out.call kz5)
            clear kz5
            have qb0_5 : wz5.cell? ⟨wz1.heap.size, 0, none⟩ = some (.int .i64 (sz : Nat)) := Hbz5.out.cell 0
            have qb1_5 : wz5.cell? ⟨wz1.heap.size, 1, none⟩ = some (.int .i64 (n : Nat)) := Hbz5.out.cell 1
            have qb2_5 : wz5.cell? ⟨wz1.heap.size, 2, none⟩ = some (.int .i64 bu) := Hbz5.out.cell 2
            have qb3_5 : wz5.cell? ⟨wz1.heap.size, 3, none⟩ = some (.int .i64 br) := Hbz5.out.cell 3
            have qb4_5 : wz5.cell? ⟨wz1.heap.size, 4, none⟩ = some (.int .i64 bl) := Hbz5.out.cell 4
            have lb_5 : wz1.heap.size < wz5.heap.size := Hbz5.out.lt
            go_upto_region 21 with fail
            clear qb0_5 qb1_5 qb2_5 qb3_5 qb4_5 lb_5
            have hq := HQW.out
            have hmz : ¬ ((n : Int) - 1) = 0 := by omega
            have hmz2 : (((n : Int) - 1) == 0) = false := beq_false_of_ne hmz
            refine wp_region_held_drew (S := (fun W => W.cell? ⟨wz1.heap.size, 0, none⟩ = some (.int .i64 (sz : Nat)) ∧ W.cell? ⟨wz1.heap.size, 1, none⟩ = some (.int .i64 (n : Nat)) ∧ W.cell? ⟨wz1.heap.size, 2, none⟩ = some (.int .i64 bu) ∧ W.cell? ⟨wz1.heap.size, 3, none⟩ = some (.int .i64 br) ∧ W.cell? ⟨wz1.heap.size, 4, none⟩ = some (.int .i64 bl))) (by kernel_rfl) ⟨Hbz5.out.cell 0, Hbz5.out.cell 1, Hbz5.out.cell 2, Hbz5.out.cell 3, Hbz5.out.cell 4⟩ (fun hHeld => ?_)
            refine regTake 0 (some 130) (v := ?_) rfl rfl (by kernel_rfl) (by kernel_rfl) (by kernel_rfl) (fun _ _ _ h => h) (by rfl) hHeld ?_ ?_
            rotate_left 1
            · (intro w hSw; (try dsimp only at hSw); go_simp; try with_reducible rfl)
            simp only [Act.put, List.setIfInBounds_toArray, List.set_cons_zero, List.set_cons_succ]
            refine regTake 1 (some 131) (v := ?_) rfl rfl (by kernel_rfl) (by kernel_rfl) (by kernel_rfl) (fun _ _ _ h => h) (by rfl) hHeld ?_ ?_
            rotate_left 1
            · (intro w hSw; (try dsimp only at hSw); go_simp; try with_reducible rfl)
            simp only [Act.put, List.setIfInBounds_toArray, List.set_cons_zero, List.set_cons_succ]
            refine regTake 2 (some 132) (v := ?_) rfl rfl (by kernel_rfl) (by kernel_rfl) (by kernel_rfl) (fun _ _ _ h => h) (by rfl) hHeld ?_ ?_
            rotate_left 1
            · (intro w hSw; (try dsimp only at hSw); go_simp; try with_reducible rfl)
            simp only [Act.put, List.setIfInBounds_toArray, List.set_cons_zero, List.set_cons_succ]
            refine regTake 3 (some 133) (v := ?_) rfl rfl (by kernel_rfl) (by kernel_rfl) (by kernel_rfl) (fun _ _ _ h => h) (by rfl) hHeld ?_ ?_
            rotate_left 1
            · (intro w hSw; (try dsimp only at hSw); go_simp; try with_reducible rfl)
            simp only [Act.put, List.setIfInBounds_toArray, List.set_cons_zero, List.set_cons_succ]
            refine regTake 4 (some 134) (v := ?_) rfl rfl (by kernel_rfl) (by kernel_rfl) (by kernel_rfl) (fun _ _ _ h => h) (by rfl) hHeld ?_ ?_
            rotate_left 1
            · (intro w hSw; (try dsimp only at hSw); go_simp; try with_reducible rfl)
            simp only [Act.put, List.setIfInBounds_toArray, List.set_cons_zero, List.set_cons_succ]
            refine regCall 5 (some 135) (f := 16) (args := ?_) rfl rfl (by kernel_rfl) (by rfl) ?_ ?_
            rotate_left 1
            · (go_simp; try with_reducible rfl)
            refine (HW3.out _).mono ?_
            rintro e wx5 ⟨rfl, k6⟩
            refine ⟨_, rfl, ⟨(Hbz5.out.step k6 rfl).cell 0, (Hbz5.out.step k6 rfl).cell 1, (Hbz5.out.step k6 rfl).cell 2, (Hbz5.out.step k6 rfl).cell 3, (Hbz5.out.step k6 rfl).cell 4⟩, fun hHeld => ?_⟩
            simp only [Act.put, List.setIfInBounds_toArray, List.set_cons_zero, List.set_cons_succ]
            have HBs := Lib.hid (HBz5.out.drew.trans (k6.mono HBz5.out.drew.size))
            have Hs0 := Lib.hid (Hbz5.out.step k6 rfl)
            clear k6
            refine regTake 6 (some 129) (v := ?_) rfl rfl (by kernel_rfl) (by kernel_rfl) (by kernel_rfl) (fun _ _ _ h => h) (by rfl) hHeld ?_ ?_
            rotate_left 1
            · (intro w hSw; (try dsimp only at hSw); go_simp; try with_reducible rfl)
            simp only [Act.put, List.setIfInBounds_toArray, List.set_cons_zero, List.set_cons_succ]
            refine regTake 7 (some 136) (v := ?_) rfl rfl (by kernel_rfl) (by kernel_rfl) (by kernel_rfl) (fun _ _ _ h => h) (by rfl) hHeld ?_ ?_
            rotate_left 1
            · (intro w hSw; (try dsimp only at hSw); go_simp; try with_reducible rfl)
            simp only [Act.put, List.setIfInBounds_toArray, List.set_cons_zero, List.set_cons_succ]
            refine regTake 8 (some 137) (v := ?_) rfl rfl (by kernel_rfl) (by kernel_rfl) (by kernel_rfl) (fun _ _ _ h => h) (by rfl) hHeld ?_ ?_
            rotate_left 1
            · (intro w hSw; (try dsimp only at hSw); go_simp; try with_reducible rfl)
            simp only [Act.put, List.setIfInBounds_toArray, List.set_cons_zero, List.set_cons_succ]
            refine regTake 9 (some 17) (v := ?_) rfl rfl (by kernel_rfl) (by kernel_rfl) (by kernel_rfl) (fun _ _ _ h => h) (by rfl) hHeld ?_ ?_
            rotate_left 1
            · (intro w hSw; (try dsimp only at hSw); go_simp; try with_reducible rfl)
            simp only [Act.put, List.setIfInBounds_toArray, List.set_cons_zero, List.set_cons_succ]
            refine regTake 10 (some 18) (v := ?_) rfl rfl (by kernel_rfl) (by kernel_rfl) (by kernel_rfl) (fun _ _ _ h => h) (by rfl) hHeld ?_ ?_
            rotate_left 1
            · (intro w hSw; (try dsimp only at hSw); go_simp; try with_reducible rfl)
            simp only [Act.put, List.setIfInBounds_toArray, List.set_cons_zero, List.set_cons_succ]
            refine wpAnyH_done (by kernel_rfl) ?_ _
            clear hHeld hq
            go_wp2
            go_ret
            exact ⟨rfl, HBs.out⟩
          · have g3 : (br % ((n : Int) - 1) == 0) = false := beq_false_of_ne k3
            have g4 : (br % ((n : Int) - 1) != 0) = true := by simp [k3]
            clear hz hme hhig k3
            clear HLOW HHIG HWF HZ0 HME HMW HWI HH
            go_upto_region 5 with fail
            have hcz1 := HMD.out w2 HRV.out
            go_wp2_with fail
            refine hcz1.mono ?_
            rintro e wz1 ⟨rfl, kz1⟩
            clear hcz1
            have HBz1 := Lib.hid (HB2.out.trans (kz1.mono (Nat.le_trans hbase HB2.out.size)))
            clear kz1
            obtain ⟨wz2, hwz2⟩ : ∃ wz2, wz1.alloc (.cells #[.int .i64 (sz : Nat), .int .i64 (n : Nat), .int .i64 bu, .int .i64 br, .int .i64 bl] 23) = wz2 := ⟨_, rfl⟩
            have kz2 : Below wz1.heap.size wz1 wz2 := by rw [← hwz2]; exact (Below.refl _ _).alloc (Nat.le_refl _) _
            have Hbz2 := Lib.hid (show Has wz2 wz1.heap.size [.int .i64 (sz : Nat), .int .i64 (n : Nat), .int .i64 bu, .int .i64 br, .int .i64 bl] 23 by rw [← hwz2]; exact Has.new _ _ _)
            have HWz2 := Lib.hid hwz2
            clear hwz2
            have HBz2 := Lib.hid (HBz1.out.trans (kz2.mono (Nat.le_trans hbase HBz1.out.size)))
            clear kz2
            go_upto_region 6 with fail
            rw [HWz2.out]
            have hcz3 := HAL.out wz2
            go_wp2_with fail
            refine hcz3.mono ?_
            rintro e wz3 ⟨rfl, kz3⟩
            clear hcz3
            have HBz3 := Lib.hid (HBz2.out.trans (kz3.mono (Nat.le_trans hbase HBz2.out.size)))
            have Hbz3 := Lib.hid (Hbz2.out.call kz3)
            clear kz3
            have qb0_3 : wz3.cell? ⟨wz1.heap.size, 0, none⟩ = some (.int .i64 (sz : Nat)) := Hbz3.out.cell 0
            have qb1_3 : wz3.cell? ⟨wz1.heap.size, 1, none⟩ = some (.int .i64 (n : Nat)) := Hbz3.out.cell 1
            have qb2_3 : wz3.cell? ⟨wz1.heap.size, 2, none⟩ = some (.int .i64 bu) := Hbz3.out.cell 2
            have qb3_3 : wz3.cell? ⟨wz1.heap.size, 3, none⟩ = some (.int .i64 br) := Hbz3.out.cell 3
            have qb4_3 : wz3.cell? ⟨wz1.heap.size, 4, none⟩ = some (.int .i64 bl) := Hbz3.out.cell 4
            have lb_3 : wz1.heap.size < wz3.heap.size := Hbz3.out.lt
            have hcz4 := HW1.out wz3
            go_wp2_with fail
            refine hcz4.mono ?_
            rintro e wz4 ⟨rfl, kz4⟩
            clear hcz4 qb0_3 qb1_3 qb2_3 qb3_3 qb4_3 lb_3
            have HBz4 := Lib.hid (HBz3.out.trans (kz4.mono (Nat.le_trans hbase HBz3.out.size)))
            have Hbz4 := Lib.hid (Hbz3.out.call kz4)
            clear kz4
            have qb0_4 : wz4.cell? ⟨wz1.heap.size, 0, none⟩ = some (.int .i64 (sz : Nat)) := Hbz4.out.cell 0
            have qb1_4 : wz4.cell? ⟨wz1.heap.size, 1, none⟩ = some (.int .i64 (n : Nat)) := Hbz4.out.cell 1
            have qb2_4 : wz4.cell? ⟨wz1.heap.size, 2, none⟩ = some (.int .i64 bu) := Hbz4.out.cell 2
            have qb3_4 : wz4.cell? ⟨wz1.heap.size, 3, none⟩ = some (.int .i64 br) := Hbz4.out.cell 3
            have qb4_4 : wz4.cell? ⟨wz1.heap.size, 4, none⟩ = some (.int .i64 bl) := Hbz4.out.cell 4
            have lb_4 : wz1.heap.size < wz4.heap.size := Hbz4.out.lt
            have hcz5 := HW2.out wz4
            go_wp2_with fail
            refine hcz5.mono ?_
            rintro e wz5 ⟨rfl, kz5⟩
            clear hcz5 qb0_4 qb1_4 qb2_4 qb3_4 qb4_4 lb_4
            have HBz5 := Lib.hid (HBz4.out.trans (kz5.mono (Nat.le_trans hbase HBz4.out.size)))
            have Hbz5 := Lib.hid (Hbz4.out.call kz5)
            clear kz5
            have qb0_5 : wz5.cell? ⟨wz1.heap.size, 0, none⟩ = some (.int .i64 (sz : Nat)) := Hbz5.out.cell 0
            have qb1_5 : wz5.cell? ⟨wz1.heap.size, 1, none⟩ = some (.int .i64 (n : Nat)) := Hbz5.out.cell 1
            have qb2_5 : wz5.cell? ⟨wz1.heap.size, 2, none⟩ = some (.int .i64 bu) := Hbz5.out.cell 2
            have qb3_5 : wz5.cell? ⟨wz1.heap.size, 3, none⟩ = some (.int .i64 br) := Hbz5.out.cell 3
            have qb4_5 : wz5.cell? ⟨wz1.heap.size, 4, none⟩ = some (.int .i64 bl) := Hbz5.out.cell 4
            have lb_5 : wz1.heap.size < wz5.heap.size := Hbz5.out.lt
            go_wp2
            go_ret
            exact ⟨rfl, HBz5.out⟩
      · skip
        rw [if_neg (by omega)] at hmw
        have g1 : ((sz : Int) == 1) = false := beq_false_of_ne (by omega)
        subst hmw
        have HQQ := Lib.hid hQ
        by_cases k2 : br = 0
        · obtain ⟨z1, z2⟩ := hz k2
          have g2 : (br == 0) = true := by rw [k2]; rfl
          have gx : (q1 == 0) = (vlo == 0) := by rw [Bool.eq_iff_iff, beq_iff_eq, beq_iff_eq]; exact z1
          obtain ⟨X, hX⟩ : ∃ X, (vlo == 0) = X := ⟨_, rfl⟩
          rw [hX] at gx
          have GX := Lib.hid gx; have HX := Lib.hid hX
          clear z1 hz hme hhig gx hX k2
          cases X with
          | true =>
            have gx := GX.out; have hX := HX.out
            clear HLOW HHIG HWF HZ0 HME HMW HWI HH
            go_upto_region 5 with fail
            have hcz1 := HMD.out w2 HRV.out
            go_wp2_with fail
            refine hcz1.mono ?_
            rintro e wz1 ⟨rfl, kz1⟩
            clear hcz1
            have HBz1 := Lib.hid (HB2.out.trans (kz1.mono (Nat.le_trans hbase HB2.out.size)))
            clear kz1
            obtain ⟨wz2, hwz2⟩ : ∃ wz2, wz1.alloc (.cells #[.int .i64 (sz : Nat), .int .i64 (n : Nat), .int .i64 bu, .int .i64 br, .int .i64 bl] 23) = wz2 := ⟨_, rfl⟩
            have kz2 : Below wz1.heap.size wz1 wz2 := by rw [← hwz2]; exact (Below.refl _ _).alloc (Nat.le_refl _) _
            have Hbz2 := Lib.hid (show Has wz2 wz1.heap.size [.int .i64 (sz : Nat), .int .i64 (n : Nat), .int .i64 bu, .int .i64 br, .int .i64 bl] 23 by rw [← hwz2]; exact Has.new _ _ _)
            have HWz2 := Lib.hid hwz2
            clear hwz2
            have HBz2 := Lib.hid (HBz1.out.trans (kz2.mono (Nat.le_trans hbase HBz1.out.size)))
            clear kz2
            go_upto_region 6 with fail
            rw [HWz2.out]
            have hcz3 := HAL.out wz2
            go_wp2_with fail
            refine hcz3.mono ?_
            rintro e wz3 ⟨rfl, kz3⟩
            clear hcz3
            have HBz3 := Lib.hid (HBz2.out.trans (kz3.mono (Nat.le_trans hbase HBz2.out.size)))
            have Hbz3 := Lib.hid (Hbz2.out.call kz3)
            clear kz3
            have qb0_3 : wz3.cell? ⟨wz1.heap.size, 0, none⟩ = some (.int .i64 (sz : Nat)) := Hbz3.out.cell 0
            have qb1_3 : wz3.cell? ⟨wz1.heap.size, 1, none⟩ = some (.int .i64 (n : Nat)) := Hbz3.out.cell 1
            have qb2_3 : wz3.cell? ⟨wz1.heap.size, 2, none⟩ = some (.int .i64 bu) := Hbz3.out.cell 2
            have qb3_3 : wz3.cell? ⟨wz1.heap.size, 3, none⟩ = some (.int .i64 br) := Hbz3.out.cell 3
            have qb4_3 : wz3.cell? ⟨wz1.heap.size, 4, none⟩ = some (.int .i64 bl) := Hbz3.out.cell 4
            have lb_3 : wz1.heap.size < wz3.heap.size := Hbz3.out.lt
            have hcz4 := HW1.out wz3
            go_wp2_with fail
            refine hcz4.mono ?_
            rintro e wz4 ⟨rfl, kz4⟩
            clear hcz4 qb0_3 qb1_3 qb2_3 qb3_3 qb4_3 lb_3
            have HBz4 := Lib.hid (HBz3.out.trans (kz4.mono (Nat.le_trans hbase HBz3.out.size)))
            have Hbz4 := Lib.hid (Hbz3.out.call kz4)
            clear kz4
            have qb0_4 : wz4.cell? ⟨wz1.heap.size, 0, none⟩ = some (.int .i64 (sz : Nat)) := Hbz4.out.cell 0
            have qb1_4 : wz4.cell? ⟨wz1.heap.size, 1, none⟩ = some (.int .i64 (n : Nat)) := Hbz4.out.cell 1
            have qb2_4 : wz4.cell? ⟨wz1.heap.size, 2, none⟩ = some (.int .i64 bu) := Hbz4.out.cell 2
            have qb3_4 : wz4.cell? ⟨wz1.heap.size, 3, none⟩ = some (.int .i64 br) := Hbz4.out.cell 3
            have qb4_4 : wz4.cell? ⟨wz1.heap.size, 4, none⟩ = some (.int .i64 bl) := Hbz4.out.cell 4
            have lb_4 : wz1.heap.size < wz4.heap.size := Hbz4.out.lt
            have hcz5 := HW2.out wz4
            go_wp2_with fail
            refine hcz5.mono ?_
            rintro e wz5 ⟨rfl, kz5⟩
            clear hcz5 qb0_4 qb1_4 qb2_4 qb3_4 qb4_4 lb_4
            have HBz5 := Lib.hid (HBz4.out.trans (kz5.mono (Nat.le_trans hbase HBz4.out.size)))
            have Hbz5 := Lib.hid (Hbz4.out.call kz5)
            clear kz5
            have qb0_5 : wz5.cell? ⟨wz1.heap.size, 0, none⟩ = some (.int .i64 (sz : Nat)) := Hbz5.out.cell 0
            have qb1_5 : wz5.cell? ⟨wz1.heap.size, 1, none⟩ = some (.int .i64 (n : Nat)) := Hbz5.out.cell 1
            have qb2_5 : wz5.cell? ⟨wz1.heap.size, 2, none⟩ = some (.int .i64 bu) := Hbz5.out.cell 2
            have qb3_5 : wz5.cell? ⟨wz1.heap.size, 3, none⟩ = some (.int .i64 br) := Hbz5.out.cell 3
            have qb4_5 : wz5.cell? ⟨wz1.heap.size, 4, none⟩ = some (.int .i64 bl) := Hbz5.out.cell 4
            have lb_5 : wz1.heap.size < wz5.heap.size := Hbz5.out.lt
            go_wp2
            go_ret
            exact ⟨rfl, HBz5.out⟩
          | false =>
            have gx := GX.out; have hX := HX.out
            clear HLOW HHIG HWF HZ0 HME HMW HWI HH
            go_upto_region 5 with fail
            have hcz1 := HMD.out w2 HRV.out
            go_wp2_with fail
            refine hcz1.mono ?_
            rintro e wz1 ⟨rfl, kz1⟩
            clear hcz1
            have HBz1 := Lib.hid (HB2.out.trans (kz1.mono (Nat.le_trans hbase HB2.out.size)))
            clear kz1
            obtain ⟨wz2, hwz2⟩ : ∃ wz2, wz1.alloc (.cells #[.int .i64 (sz : Nat), .int .i64 (n : Nat), .int .i64 bu, .int .i64 br, .int .i64 bl] 23) = wz2 := ⟨_, rfl⟩
            have kz2 : Below wz1.heap.size wz1 wz2 := by rw [← hwz2]; exact (Below.refl _ _).alloc (Nat.le_refl _) _
            have Hbz2 := Lib.hid (show Has wz2 wz1.heap.size [.int .i64 (sz : Nat), .int .i64 (n : Nat), .int .i64 bu, .int .i64 br, .int .i64 bl] 23 by rw [← hwz2]; exact Has.new _ _ _)
            have HWz2 := Lib.hid hwz2
            clear hwz2
            have HBz2 := Lib.hid (HBz1.out.trans (kz2.mono (Nat.le_trans hbase HBz1.out.size)))
            clear kz2
            go_upto_region 6 with fail
            rw [HWz2.out]
            have hcz3 := HAL.out wz2
            go_wp2_with fail
            refine hcz3.mono ?_
            rintro e wz3 ⟨rfl, kz3⟩
            clear hcz3
            have HBz3 := Lib.hid (HBz2.out.trans (kz3.mono (Nat.le_trans hbase HBz2.out.size)))
            have Hbz3 := Lib.hid (Hbz2.out.call kz3)
            clear kz3
            have qb0_3 : wz3.cell? ⟨wz1.heap.size, 0, none⟩ = some (.int .i64 (sz : Nat)) := Hbz3.out.cell 0
            have qb1_3 : wz3.cell? ⟨wz1.heap.size, 1, none⟩ = some (.int .i64 (n : Nat)) := Hbz3.out.cell 1
            have qb2_3 : wz3.cell? ⟨wz1.heap.size, 2, none⟩ = some (.int .i64 bu) := Hbz3.out.cell 2
            have qb3_3 : wz3.cell? ⟨wz1.heap.size, 3, none⟩ = some (.int .i64 br) := Hbz3.out.cell 3
            have qb4_3 : wz3.cell? ⟨wz1.heap.size, 4, none⟩ = some (.int .i64 bl) := Hbz3.out.cell 4
            have lb_3 : wz1.heap.size < wz3.heap.size := Hbz3.out.lt
            have hcz4 := HW1.out wz3
            go_wp2_with fail
            refine hcz4.mono ?_
            rintro e wz4 ⟨rfl, kz4⟩
            clear hcz4 qb0_3 qb1_3 qb2_3 qb3_3 qb4_3 lb_3
            have HBz4 := Lib.hid (HBz3.out.trans (kz4.mono (Nat.le_trans hbase HBz3.out.size)))
            have Hbz4 := Lib.hid (Hbz3.out.call kz4)
            clear kz4
            have qb0_4 : wz4.cell? ⟨wz1.heap.size, 0, none⟩ = some (.int .i64 (sz : Nat)) := Hbz4.out.cell 0
            have qb1_4 : wz4.cell? ⟨wz1.heap.size, 1, none⟩ = some (.int .i64 (n : Nat)) := Hbz4.out.cell 1
            have qb2_4 : wz4.cell? ⟨wz1.heap.size, 2, none⟩ = some (.int .i64 bu) := Hbz4.out.cell 2
            have qb3_4 : wz4.cell? ⟨wz1.heap.size, 3, none⟩ = some (.int .i64 br) := Hbz4.out.cell 3
            have qb4_4 : wz4.cell? ⟨wz1.heap.size, 4, none⟩ = some (.int .i64 bl) := Hbz4.out.cell 4
            have lb_4 : wz1.heap.size < wz4.heap.size := Hbz4.out.lt
            have hcz5 := HW2.out wz4
            go_wp2_with fail
            refine hcz5.mono ?_
            rintro e wz5 ⟨rfl, kz5⟩
            clear hcz5 qb0_4 qb1_4 qb2_4 qb3_4 qb4_4 lb_4
            have HBz5 := Lib.hid (HBz4.out.trans (kz5.mono (Nat.le_trans hbase HBz4.out.size)))
            have Hbz5 := Lib.hid (Hbz4.out.call kz5)
            clear kz5
            have qb0_5 : wz5.cell? ⟨wz1.heap.size, 0, none⟩ = some (.int .i64 (sz : Nat)) := Hbz5.out.cell 0
            have qb1_5 : wz5.cell? ⟨wz1.heap.size, 1, none⟩ = some (.int .i64 (n : Nat)) := Hbz5.out.cell 1
            have qb2_5 : wz5.cell? ⟨wz1.heap.size, 2, none⟩ = some (.int .i64 bu) := Hbz5.out.cell 2
            have qb3_5 : wz5.cell? ⟨wz1.heap.size, 3, none⟩ = some (.int .i64 br) := Hbz5.out.cell 3
            have qb4_5 : wz5.cell? ⟨wz1.heap.size, 4, none⟩ = some (.int .i64 bl) := Hbz5.out.cell 4
            have lb_5 : wz1.heap.size < wz5.heap.size := Hbz5.out.lt
            go_wp2
            go_ret
            exact ⟨rfl, HBz5.out⟩
        · have g2 : (br == 0) = false := beq_false_of_ne k2
          by_cases k3 : br % ((n : Int)) = 0
          · have g3 : (br % ((n : Int)) == 0) = true := by rw [k3]; rfl
            have g4 : (br % ((n : Int)) != 0) = false := by rw [k3]; rfl
            have hmul : Q * ((n : Int)) = br := by rw [← HQQ.out]; exact Int.ediv_mul_cancel (Int.dvd_of_emod_eq_zero k3)
            have h0 := hme (by omega) Q hmul
            obtain ⟨e1, e2⟩ := hhig Q ⟨f9, f10⟩
            have HW3 := Lib.hid (HWI.out Q (by unfold IsInt; omega))
            rw [e1, e2, h0] at HW3
            have HQW := Lib.hid (show IntKind.i64.wrap (br.tdiv ((n : Int))) = Q by rw [Int.tdiv_eq_ediv_of_nonneg (by omega), HQQ.out]; exact wrapI (by omega))
            clear h0 e1 e2 hz hme hhig hmul k3
            clear HLOW HHIG HWF HZ0 HME HMW HWI HH
            go_upto_region 5 with fail
            have hcz1 := HMD.out w2 HRV.out
            go_wp2_with fail
            refine hcz1.mono ?_
            rintro e wz1 ⟨rfl, kz1⟩
            clear hcz1
            have HBz1 := Lib.hid (HB2.out.trans (kz1.mono (Nat.le_trans hbase HB2.out.size)))
            clear kz1
            obtain ⟨wz2, hwz2⟩ : ∃ wz2, wz1.alloc (.cells #[.int .i64 (sz : Nat), .int .i64 (n : Nat), .int .i64 bu, .int .i64 br, .int .i64 bl] 23) = wz2 := ⟨_, rfl⟩
            have kz2 : Below wz1.heap.size wz1 wz2 := by rw [← hwz2]; exact (Below.refl _ _).alloc (Nat.le_refl _) _
            have Hbz2 := Lib.hid (show Has wz2 wz1.heap.size [.int .i64 (sz : Nat), .int .i64 (n : Nat), .int .i64 bu, .int .i64 br, .int .i64 bl] 23 by rw [← hwz2]; exact Has.new _ _ _)
            have HWz2 := Lib.hid hwz2
            clear hwz2
            have HBz2 := Lib.hid (HBz1.out.trans (kz2.mono (Nat.le_trans hbase HBz1.out.size)))
            clear kz2
            go_upto_region 6 with fail
            rw [HWz2.out]
            have hcz3 := HAL.out wz2
            go_wp2_with fail
            refine hcz3.mono ?_
            rintro e wz3 ⟨rfl, kz3⟩
            clear hcz3
            have HBz3 := Lib.hid (HBz2.out.trans (kz3.mono (Nat.le_trans hbase HBz2.out.size)))
            have Hbz3 := Lib.hid (Hbz2.out.call kz3)
            clear kz3
            have qb0_3 : wz3.cell? ⟨wz1.heap.size, 0, none⟩ = some (.int .i64 (sz : Nat)) := Hbz3.out.cell 0
            have qb1_3 : wz3.cell? ⟨wz1.heap.size, 1, none⟩ = some (.int .i64 (n : Nat)) := Hbz3.out.cell 1
            have qb2_3 : wz3.cell? ⟨wz1.heap.size, 2, none⟩ = some (.int .i64 bu) := Hbz3.out.cell 2
            have qb3_3 : wz3.cell? ⟨wz1.heap.size, 3, none⟩ = some (.int .i64 br) := Hbz3.out.cell 3
            have qb4_3 : wz3.cell? ⟨wz1.heap.size, 4, none⟩ = some (.int .i64 bl) := Hbz3.out.cell 4
            have lb_3 : wz1.heap.size < wz3.heap.size := Hbz3.out.lt
            have hcz4 := HW1.out wz3
            go_wp2_with fail
            refine hcz4.mono ?_
            rintro e wz4 ⟨rfl, kz4⟩
            clear hcz4 qb0_3 qb1_3 qb2_3 qb3_3 qb4_3 lb_3
            have HBz4 := Lib.hid (HBz3.out.trans (kz4.mono (Nat.le_trans hbase HBz3.out.size)))
            have Hbz4 := Lib.hid (Hbz3.out.call kz4)
            clear kz4
            have qb0_4 : wz4.cell? ⟨wz1.heap.size, 0, none⟩ = some (.int .i64 (sz : Nat)) := Hbz4.out.cell 0
            have qb1_4 : wz4.cell? ⟨wz1.heap.size, 1, none⟩ = some (.int .i64 (n : Nat)) := Hbz4.out.cell 1
            have qb2_4 : wz4.cell? ⟨wz1.heap.size, 2, none⟩ = some (.int .i64 bu) := Hbz4.out.cell 2
            have qb3_4 : wz4.cell? ⟨wz1.heap.size, 3, none⟩ = some (.int .i64 br) := Hbz4.out.cell 3
            have qb4_4 : wz4.cell? ⟨wz1.heap.size, 4, none⟩ = some (.int .i64 bl) := Hbz4.out.cell 4
            have lb_4 : wz1.heap.size < wz4.heap.size := Hbz4.out.lt
            have hcz5 := HW2.out wz4
            go_wp2_with fail
            refine hcz5.mono ?_
            rintro e wz5 ⟨rfl, kz5⟩
            clear hcz5 qb0_4 qb1_4 qb2_4 qb3_4 qb4_4 lb_4
            have HBz5 := Lib.hid (HBz4.out.trans (kz5.mono (Nat.le_trans hbase HBz4.out.size)))
            have Hbz5 := Lib.hid (Hbz4.out.call kz5)
            clear kz5
            have qb0_5 : wz5.cell? ⟨wz1.heap.size, 0, none⟩ = some (.int .i64 (sz : Nat)) := Hbz5.out.cell 0
            have qb1_5 : wz5.cell? ⟨wz1.heap.size, 1, none⟩ = some (.int .i64 (n : Nat)) := Hbz5.out.cell 1
            have qb2_5 : wz5.cell? ⟨wz1.heap.size, 2, none⟩ = some (.int .i64 bu) := Hbz5.out.cell 2
            have qb3_5 : wz5.cell? ⟨wz1.heap.size, 3, none⟩ = some (.int .i64 br) := Hbz5.out.cell 3
            have qb4_5 : wz5.cell? ⟨wz1.heap.size, 4, none⟩ = some (.int .i64 bl) := Hbz5.out.cell 4
            have lb_5 : wz1.heap.size < wz5.heap.size := Hbz5.out.lt
            go_upto_region 21 with fail
            clear qb0_5 qb1_5 qb2_5 qb3_5 qb4_5 lb_5
            have hq := HQW.out
            have hmz : ¬ ((n : Int)) = 0 := by omega
            have hmz2 : (((n : Int)) == 0) = false := beq_false_of_ne hmz
            refine wp_region_held_drew (S := (fun W => W.cell? ⟨wz1.heap.size, 0, none⟩ = some (.int .i64 (sz : Nat)) ∧ W.cell? ⟨wz1.heap.size, 1, none⟩ = some (.int .i64 (n : Nat)) ∧ W.cell? ⟨wz1.heap.size, 2, none⟩ = some (.int .i64 bu) ∧ W.cell? ⟨wz1.heap.size, 3, none⟩ = some (.int .i64 br) ∧ W.cell? ⟨wz1.heap.size, 4, none⟩ = some (.int .i64 bl))) (by kernel_rfl) ⟨Hbz5.out.cell 0, Hbz5.out.cell 1, Hbz5.out.cell 2, Hbz5.out.cell 3, Hbz5.out.cell 4⟩ (fun hHeld => ?_)
            refine regTake 0 (some 130) (v := ?_) rfl rfl (by kernel_rfl) (by kernel_rfl) (by kernel_rfl) (fun _ _ _ h => h) (by rfl) hHeld ?_ ?_
            rotate_left 1
            · (intro w hSw; (try dsimp only at hSw); go_simp; try with_reducible rfl)
            simp only [Act.put, List.setIfInBounds_toArray, List.set_cons_zero, List.set_cons_succ]
            refine regTake 1 (some 131) (v := ?_) rfl rfl (by kernel_rfl) (by kernel_rfl) (by kernel_rfl) (fun _ _ _ h => h) (by rfl) hHeld ?_ ?_
            rotate_left 1
            · (intro w hSw; (try dsimp only at hSw); go_simp; try with_reducible rfl)
            simp only [Act.put, List.setIfInBounds_toArray, List.set_cons_zero, List.set_cons_succ]
            refine regTake 2 (some 132) (v := ?_) rfl rfl (by kernel_rfl) (by kernel_rfl) (by kernel_rfl) (fun _ _ _ h => h) (by rfl) hHeld ?_ ?_
            rotate_left 1
            · (intro w hSw; (try dsimp only at hSw); go_simp; try with_reducible rfl)
            simp only [Act.put, List.setIfInBounds_toArray, List.set_cons_zero, List.set_cons_succ]
            refine regTake 3 (some 133) (v := ?_) rfl rfl (by kernel_rfl) (by kernel_rfl) (by kernel_rfl) (fun _ _ _ h => h) (by rfl) hHeld ?_ ?_
            rotate_left 1
            · (intro w hSw; (try dsimp only at hSw); go_simp; try with_reducible rfl)
            simp only [Act.put, List.setIfInBounds_toArray, List.set_cons_zero, List.set_cons_succ]
            refine regTake 4 (some 134) (v := ?_) rfl rfl (by kernel_rfl) (by kernel_rfl) (by kernel_rfl) (fun _ _ _ h => h) (by rfl) hHeld ?_ ?_
            rotate_left 1
            · (intro w hSw; (try dsimp only at hSw); go_simp; try with_reducible rfl)
            simp only [Act.put, List.setIfInBounds_toArray, List.set_cons_zero, List.set_cons_succ]
            refine regCall 5 (some 135) (f := 16) (args := ?_) rfl rfl (by kernel_rfl) (by rfl) ?_ ?_
            rotate_left 1
            · (go_simp; try with_reducible rfl)
            refine (HW3.out _).mono ?_
            rintro e wx5 ⟨rfl, k6⟩
            refine ⟨_, rfl, ⟨(Hbz5.out.step k6 rfl).cell 0, (Hbz5.out.step k6 rfl).cell 1, (Hbz5.out.step k6 rfl).cell 2, (Hbz5.out.step k6 rfl).cell 3, (Hbz5.out.step k6 rfl).cell 4⟩, fun hHeld => ?_⟩
            simp only [Act.put, List.setIfInBounds_toArray, List.set_cons_zero, List.set_cons_succ]
            have HBs := Lib.hid (HBz5.out.drew.trans (k6.mono HBz5.out.drew.size))
            have Hs0 := Lib.hid (Hbz5.out.step k6 rfl)
            clear k6
            refine regTake 6 (some 129) (v := ?_) rfl rfl (by kernel_rfl) (by kernel_rfl) (by kernel_rfl) (fun _ _ _ h => h) (by rfl) hHeld ?_ ?_
            rotate_left 1
            · (intro w hSw; (try dsimp only at hSw); go_simp; try with_reducible rfl)
            simp only [Act.put, List.setIfInBounds_toArray, List.set_cons_zero, List.set_cons_succ]
            refine regTake 7 (some 136) (v := ?_) rfl rfl (by kernel_rfl) (by kernel_rfl) (by kernel_rfl) (fun _ _ _ h => h) (by rfl) hHeld ?_ ?_
            rotate_left 1
            · (intro w hSw; (try dsimp only at hSw); go_simp; try with_reducible rfl)
            simp only [Act.put, List.setIfInBounds_toArray, List.set_cons_zero, List.set_cons_succ]
            refine regTake 8 (some 137) (v := ?_) rfl rfl (by kernel_rfl) (by kernel_rfl) (by kernel_rfl) (fun _ _ _ h => h) (by rfl) hHeld ?_ ?_
            rotate_left 1
            · (intro w hSw; (try dsimp only at hSw); go_simp; try with_reducible rfl)
            simp only [Act.put, List.setIfInBounds_toArray, List.set_cons_zero, List.set_cons_succ]
            refine regTake 9 (some 17) (v := ?_) rfl rfl (by kernel_rfl) (by kernel_rfl) (by kernel_rfl) (fun _ _ _ h => h) (by rfl) hHeld ?_ ?_
            rotate_left 1
            · (intro w hSw; (try dsimp only at hSw); go_simp; try with_reducible rfl)
            simp only [Act.put, List.setIfInBounds_toArray, List.set_cons_zero, List.set_cons_succ]
            refine regTake 10 (some 18) (v := ?_) rfl rfl (by kernel_rfl) (by kernel_rfl) (by kernel_rfl) (fun _ _ _ h => h) (by rfl) hHeld ?_ ?_
            rotate_left 1
            · (intro w hSw; (try dsimp only at hSw); go_simp; try with_reducible rfl)
            simp only [Act.put, List.setIfInBounds_toArray, List.set_cons_zero, List.set_cons_succ]
            refine wpAnyH_done (by kernel_rfl) ?_ _
            clear hHeld hq
            go_wp2
            go_ret
            exact ⟨rfl, HBs.out⟩
          · have g3 : (br % ((n : Int)) == 0) = false := beq_false_of_ne k3
            have g4 : (br % ((n : Int)) != 0) = true := by simp [k3]
            clear hz hme hhig k3
            clear HLOW HHIG HWF HZ0 HME HMW HWI HH
            go_upto_region 5 with fail
            have hcz1 := HMD.out w2 HRV.out
            go_wp2_with fail
            refine hcz1.mono ?_
            rintro e wz1 ⟨rfl, kz1⟩
            clear hcz1
            have HBz1 := Lib.hid (HB2.out.trans (kz1.mono (Nat.le_trans hbase HB2.out.size)))
            clear kz1
            obtain ⟨wz2, hwz2⟩ : ∃ wz2, wz1.alloc (.cells #[.int .i64 (sz : Nat), .int .i64 (n : Nat), .int .i64 bu, .int .i64 br, .int .i64 bl] 23) = wz2 := ⟨_, rfl⟩
            have kz2 : Below wz1.heap.size wz1 wz2 := by rw [← hwz2]; exact (Below.refl _ _).alloc (Nat.le_refl _) _
            have Hbz2 := Lib.hid (show Has wz2 wz1.heap.size [.int .i64 (sz : Nat), .int .i64 (n : Nat), .int .i64 bu, .int .i64 br, .int .i64 bl] 23 by rw [← hwz2]; exact Has.new _ _ _)
            have HWz2 := Lib.hid hwz2
            clear hwz2
            have HBz2 := Lib.hid (HBz1.out.trans (kz2.mono (Nat.le_trans hbase HBz1.out.size)))
            clear kz2
            go_upto_region 6 with fail
            rw [HWz2.out]
            have hcz3 := HAL.out wz2
            go_wp2_with fail
            refine hcz3.mono ?_
            rintro e wz3 ⟨rfl, kz3⟩
            clear hcz3
            have HBz3 := Lib.hid (HBz2.out.trans (kz3.mono (Nat.le_trans hbase HBz2.out.size)))
            have Hbz3 := Lib.hid (Hbz2.out.call kz3)
            clear kz3
            have qb0_3 : wz3.cell? ⟨wz1.heap.size, 0, none⟩ = some (.int .i64 (sz : Nat)) := Hbz3.out.cell 0
            have qb1_3 : wz3.cell? ⟨wz1.heap.size, 1, none⟩ = some (.int .i64 (n : Nat)) := Hbz3.out.cell 1
            have qb2_3 : wz3.cell? ⟨wz1.heap.size, 2, none⟩ = some (.int .i64 bu) := Hbz3.out.cell 2
            have qb3_3 : wz3.cell? ⟨wz1.heap.size, 3, none⟩ = some (.int .i64 br) := Hbz3.out.cell 3
            have qb4_3 : wz3.cell? ⟨wz1.heap.size, 4, none⟩ = some (.int .i64 bl) := Hbz3.out.cell 4
            have lb_3 : wz1.heap.size < wz3.heap.size := Hbz3.out.lt
            have hcz4 := HW1.out wz3
            go_wp2_with fail
            refine hcz4.mono ?_
            rintro e wz4 ⟨rfl, kz4⟩
            clear hcz4 qb0_3 qb1_3 qb2_3 qb3_3 qb4_3 lb_3
            have HBz4 := Lib.hid (HBz3.out.trans (kz4.mono (Nat.le_trans hbase HBz3.out.size)))
            have Hbz4 := Lib.hid (Hbz3.out.call kz4)
            clear kz4
            have qb0_4 : wz4.cell? ⟨wz1.heap.size, 0, none⟩ = some (.int .i64 (sz : Nat)) := Hbz4.out.cell 0
            have qb1_4 : wz4.cell? ⟨wz1.heap.size, 1, none⟩ = some (.int .i64 (n : Nat)) := Hbz4.out.cell 1
            have qb2_4 : wz4.cell? ⟨wz1.heap.size, 2, none⟩ = some (.int .i64 bu) := Hbz4.out.cell 2
            have qb3_4 : wz4.cell? ⟨wz1.heap.size, 3, none⟩ = some (.int .i64 br) := Hbz4.out.cell 3
            have qb4_4 : wz4.cell? ⟨wz1.heap.size, 4, none⟩ = some (.int .i64 bl) := Hbz4.out.cell 4
            have lb_4 : wz1.heap.size < wz4.heap.size := Hbz4.out.lt
            have hcz5 := HW2.out wz4
            go_wp2_with fail
            refine hcz5.mono ?_
            rintro e wz5 ⟨rfl, kz5⟩
            clear hcz5 qb0_4 qb1_4 qb2_4 qb3_4 qb4_4 lb_4
            have HBz5 := Lib.hid (HBz4.out.trans (kz5.mono (Nat.le_trans hbase HBz4.out.size)))
            have Hbz5 := Lib.hid (Hbz4.out.call kz5)
            clear kz5
            have qb0_5 : wz5.cell? ⟨wz1.heap.size, 0, none⟩ = some (.int .i64 (sz : Nat)) := Hbz5.out.cell 0
            have qb1_5 : wz5.cell? ⟨wz1.heap.size, 1, none⟩ = some (.int .i64 (n : Nat)) := Hbz5.out.cell 1
            have qb2_5 : wz5.cell? ⟨wz1.heap.size, 2, none⟩ = some (.int .i64 bu) := Hbz5.out.cell 2
            have qb3_5 : wz5.cell? ⟨wz1.heap.size, 3, none⟩ = some (.int .i64 br) := Hbz5.out.cell 3
            have qb4_5 : wz5.cell? ⟨wz1.heap.size, 4, none⟩ = some (.int .i64 bl) := Hbz5.out.cell 4
            have lb_5 : wz1.heap.size < wz5.heap.size := Hbz5.out.lt
            go_wp2
            go_ret
            exact ⟨rfl, HBz5.out⟩
  · skip
    have hlo : 0 ≤ q2 ∧ q2 ≤ 2000000 := by omega
    have hhi : 0 ≤ q1 ∧ q1 ≤ 2000000 := by omega
    have HW1 := Lib.hid (HWI.out q2 (by unfold IsInt; omega)); have HW2 := Lib.hid (HWI.out q1 (by unfold IsInt; omega))
    by_cases c2 : (n : Int) < 2
    · obtain ⟨e1, e2⟩ := HLOW.out c2 q2 hlo
      obtain ⟨e3, e4⟩ := HLOW.out c2 q1 hhi
      rw [e1, e2] at HW1
      rw [e3, e4] at HW2
      clear e1 e2 e3 e4
      clear HLOW HHIG HWF HZ0 HME HMW HWI HH
      go_upto_region 5 with fail
      have hcz1 := HMD.out w2 HRV.out
      go_wp2_with fail
      refine hcz1.mono ?_
      rintro e wz1 ⟨rfl, kz1⟩
      clear hcz1
      have HBz1 := Lib.hid (HB2.out.trans (kz1.mono (Nat.le_trans hbase HB2.out.size)))
      clear kz1
      obtain ⟨wz2, hwz2⟩ : ∃ wz2, wz1.alloc (.cells #[.int .i64 (sz : Nat), .int .i64 (n : Nat), .int .i64 bu, .int .i64 br, .int .i64 bl] 23) = wz2 := ⟨_, rfl⟩
      have kz2 : Below wz1.heap.size wz1 wz2 := by rw [← hwz2]; exact (Below.refl _ _).alloc (Nat.le_refl _) _
      have Hbz2 := Lib.hid (show Has wz2 wz1.heap.size [.int .i64 (sz : Nat), .int .i64 (n : Nat), .int .i64 bu, .int .i64 br, .int .i64 bl] 23 by rw [← hwz2]; exact Has.new _ _ _)
      have HWz2 := Lib.hid hwz2
      clear hwz2
      have HBz2 := Lib.hid (HBz1.out.trans (kz2.mono (Nat.le_trans hbase HBz1.out.size)))
      clear kz2
      go_upto_region 6 with fail
      rw [HWz2.out]
      have hcz3 := HAL.out wz2
      go_wp2_with fail
      refine hcz3.mono ?_
      rintro e wz3 ⟨rfl, kz3⟩
      clear hcz3
      have HBz3 := Lib.hid (HBz2.out.trans (kz3.mono (Nat.le_trans hbase HBz2.out.size)))
      have Hbz3 := Lib.hid (Hbz2.out.call kz3)
      clear kz3
      have qb0_3 : wz3.cell? ⟨wz1.heap.size, 0, none⟩ = some (.int .i64 (sz : Nat)) := Hbz3.out.cell 0
      have qb1_3 : wz3.cell? ⟨wz1.heap.size, 1, none⟩ = some (.int .i64 (n : Nat)) := Hbz3.out.cell 1
      have qb2_3 : wz3.cell? ⟨wz1.heap.size, 2, none⟩ = some (.int .i64 bu) := Hbz3.out.cell 2
      have qb3_3 : wz3.cell? ⟨wz1.heap.size, 3, none⟩ = some (.int .i64 br) := Hbz3.out.cell 3
      have qb4_3 : wz3.cell? ⟨wz1.heap.size, 4, none⟩ = some (.int .i64 bl) := Hbz3.out.cell 4
      have lb_3 : wz1.heap.size < wz3.heap.size := Hbz3.out.lt
      have hcz4 := HW1.out wz3
      go_wp2_with fail
      refine hcz4.mono ?_
      rintro e wz4 ⟨rfl, kz4⟩
      clear hcz4 qb0_3 qb1_3 qb2_3 qb3_3 qb4_3 lb_3
      have HBz4 := Lib.hid (HBz3.out.trans (kz4.mono (Nat.le_trans hbase HBz3.out.size)))
      have Hbz4 := Lib.hid (Hbz3.out.call kz4)
      clear kz4
      have qb0_4 : wz4.cell? ⟨wz1.heap.size, 0, none⟩ = some (.int .i64 (sz : Nat)) := Hbz4.out.cell 0
      have qb1_4 : wz4.cell? ⟨wz1.heap.size, 1, none⟩ = some (.int .i64 (n : Nat)) := Hbz4.out.cell 1
      have qb2_4 : wz4.cell? ⟨wz1.heap.size, 2, none⟩ = some (.int .i64 bu) := Hbz4.out.cell 2
      have qb3_4 : wz4.cell? ⟨wz1.heap.size, 3, none⟩ = some (.int .i64 br) := Hbz4.out.cell 3
      have qb4_4 : wz4.cell? ⟨wz1.heap.size, 4, none⟩ = some (.int .i64 bl) := Hbz4.out.cell 4
      have lb_4 : wz1.heap.size < wz4.heap.size := Hbz4.out.lt
      have hcz5 := HW2.out wz4
      go_wp2_with fail
      refine hcz5.mono ?_
      rintro e wz5 ⟨rfl, kz5⟩
      clear hcz5 qb0_4 qb1_4 qb2_4 qb3_4 qb4_4 lb_4
      have HBz5 := Lib.hid (HBz4.out.trans (kz5.mono (Nat.le_trans hbase HBz4.out.size)))
      have Hbz5 := Lib.hid (Hbz4.out.call kz5)
      clear kz5
      have qb0_5 : wz5.cell? ⟨wz1.heap.size, 0, none⟩ = some (.int .i64 (sz : Nat)) := Hbz5.out.cell 0
      have qb1_5 : wz5.cell? ⟨wz1.heap.size, 1, none⟩ = some (.int .i64 (n : Nat)) := Hbz5.out.cell 1
      have qb2_5 : wz5.cell? ⟨wz1.heap.size, 2, none⟩ = some (.int .i64 bu) := Hbz5.out.cell 2
      have qb3_5 : wz5.cell? ⟨wz1.heap.size, 3, none⟩ = some (.int .i64 br) := Hbz5.out.cell 3
      have qb4_5 : wz5.cell? ⟨wz1.heap.size, 4, none⟩ = some (.int .i64 bl) := Hbz5.out.cell 4
      have lb_5 : wz1.heap.size < wz5.heap.size := Hbz5.out.lt
      go_wp2
      go_ret
      exact ⟨rfl, HBz5.out⟩
    · obtain ⟨e1, e2⟩ := HHIG.out c2 q2 hlo
      obtain ⟨e3, e4⟩ := HHIG.out c2 q1 hhi
      rw [e1, e2] at HW1
      rw [e3, e4] at HW2
      have hf := HWF.out c2 q2 q1 (by omega)
      have hz := fun h0 => HZ0.out c2 h0 q2 hlo.1
      obtain ⟨vlo, hvlo⟩ : ∃ x, wideN ⟨(sz : Int), (n : Int), bu, br, bl⟩ q2 = x := ⟨_, rfl⟩
      obtain ⟨vhi, hvhi⟩ : ∃ x, wideN ⟨(sz : Int), (n : Int), bu, br, bl⟩ q1 = x := ⟨_, rfl⟩
      rw [hvlo] at HW1 hf hz
      rw [hvhi] at HW2 hf
      have hme := HME.out; have hmw := HMW.out; have hhig := HHIG.out c2
      obtain ⟨mw, hmwe⟩ : ∃ x, mWide ⟨(sz : Int), (n : Int), bu, br, bl⟩ = x := ⟨_, rfl⟩
      rw [hmwe] at hf hme hmw
      obtain ⟨Q, hQ⟩ : ∃ Q, br / mw = Q := ⟨_, rfl⟩
      rw [hQ] at hf
      obtain ⟨f1, f2, f3, f4, f5, f6, f7, _, f9, f10⟩ := hf
      clear e1 e2 e3 e4 hvlo hvhi hmwe
      by_cases k1 : sz = 1
      · skip
        rw [if_pos (by omega)] at hmw
        have g1 : ((sz : Int) == 1) = true := by rw [k1]; rfl
        clear k1
        subst hmw
        have HQQ := Lib.hid hQ
        by_cases k2 : br = 0
        · obtain ⟨z1, z2⟩ := hz k2
          have g2 : (br == 0) = true := by rw [k2]; rfl
          have gx : (q2 == 0) = (vlo == 0) := by rw [Bool.eq_iff_iff, beq_iff_eq, beq_iff_eq]; exact z1
          obtain ⟨X, hX⟩ : ∃ X, (vlo == 0) = X := ⟨_, rfl⟩
          rw [hX] at gx
          have GX := Lib.hid gx; have HX := Lib.hid hX
          clear z1 hz hme hhig gx hX k2
          cases X with
          | true =>
            have gx := GX.out; have hX := HX.out
            clear HLOW HHIG HWF HZ0 HME HMW HWI HH
            go_upto_region 5 with fail
            have hcz1 := HMD.out w2 HRV.out
            go_wp2_with fail
            refine hcz1.mono ?_
            rintro e wz1 ⟨rfl, kz1⟩
            clear hcz1
            have HBz1 := Lib.hid (HB2.out.trans (kz1.mono (Nat.le_trans hbase HB2.out.size)))
            clear kz1
            obtain ⟨wz2, hwz2⟩ : ∃ wz2, wz1.alloc (.cells #[.int .i64 (sz : Nat), .int .i64 (n : Nat), .int .i64 bu, .int .i64 br, .int .i64 bl] 23) = wz2 := ⟨_, rfl⟩
            have kz2 : Below wz1.heap.size wz1 wz2 := by rw [← hwz2]; exact (Below.refl _ _).alloc (Nat.le_refl _) _
            have Hbz2 := Lib.hid (show Has wz2 wz1.heap.size [.int .i64 (sz : Nat), .int .i64 (n : Nat), .int .i64 bu, .int .i64 br, .int .i64 bl] 23 by rw [← hwz2]; exact Has.new _ _ _)
            have HWz2 := Lib.hid hwz2
            clear hwz2
            have HBz2 := Lib.hid (HBz1.out.trans (kz2.mono (Nat.le_trans hbase HBz1.out.size)))
            clear kz2
            go_upto_region 6 with fail
            rw [HWz2.out]
            have hcz3 := HAL.out wz2
            go_wp2_with fail
            refine hcz3.mono ?_
            rintro e wz3 ⟨rfl, kz3⟩
            clear hcz3
            have HBz3 := Lib.hid (HBz2.out.trans (kz3.mono (Nat.le_trans hbase HBz2.out.size)))
            have Hbz3 := Lib.hid (Hbz2.out.call kz3)
            clear kz3
            have qb0_3 : wz3.cell? ⟨wz1.heap.size, 0, none⟩ = some (.int .i64 (sz : Nat)) := Hbz3.out.cell 0
            have qb1_3 : wz3.cell? ⟨wz1.heap.size, 1, none⟩ = some (.int .i64 (n : Nat)) := Hbz3.out.cell 1
            have qb2_3 : wz3.cell? ⟨wz1.heap.size, 2, none⟩ = some (.int .i64 bu) := Hbz3.out.cell 2
            have qb3_3 : wz3.cell? ⟨wz1.heap.size, 3, none⟩ = some (.int .i64 br) := Hbz3.out.cell 3
            have qb4_3 : wz3.cell? ⟨wz1.heap.size, 4, none⟩ = some (.int .i64 bl) := Hbz3.out.cell 4
            have lb_3 : wz1.heap.size < wz3.heap.size := Hbz3.out.lt
            have hcz4 := HW1.out wz3
            go_wp2_with fail
            refine hcz4.mono ?_
            rintro e wz4 ⟨rfl, kz4⟩
            clear hcz4 qb0_3 qb1_3 qb2_3 qb3_3 qb4_3 lb_3
            have HBz4 := Lib.hid (HBz3.out.trans (kz4.mono (Nat.le_trans hbase HBz3.out.size)))
            have Hbz4 := Lib.hid (Hbz3.out.call kz4)
            clear kz4
            have qb0_4 : wz4.cell? ⟨wz1.heap.size, 0, none⟩ = some (.int .i64 (sz : Nat)) := Hbz4.out.cell 0
            have qb1_4 : wz4.cell? ⟨wz1.heap.size, 1, none⟩ = some (.int .i64 (n : Nat)) := Hbz4.out.cell 1
            have qb2_4 : wz4.cell? ⟨wz1.heap.size, 2, none⟩ = some (.int .i64 bu) := Hbz4.out.cell 2
            have qb3_4 : wz4.cell? ⟨wz1.heap.size, 3, none⟩ = some (.int .i64 br) := Hbz4.out.cell 3
            have qb4_4 : wz4.cell? ⟨wz1.heap.size, 4, none⟩ = some (.int .i64 bl) := Hbz4.out.cell 4
            have lb_4 : wz1.heap.size < wz4.heap.size := Hbz4.out.lt
            have hcz5 := HW2.out wz4
            go_wp2_with fail
            refine hcz5.mono ?_
            rintro e wz5 ⟨rfl, kz5⟩
            clear hcz5 qb0_4 qb1_4 qb2_4 qb3_4 qb4_4 lb_4
            have HBz5 := Lib.hid (HBz4.out.trans (kz5.mono (Nat.le_trans hbase HBz4.out.size)))
            have Hbz5 := Lib.hid (Hbz4.out.call kz5)
            clear kz5
            have qb0_5 : wz5.cell? ⟨wz1.heap.size, 0, none⟩ = some (.int .i64 (sz : Nat)) := Hbz5.out.cell 0
            have qb1_5 : wz5.cell? ⟨wz1.heap.size, 1, none⟩ = some (.int .i64 (n : Nat)) := Hbz5.out.cell 1
            have qb2_5 : wz5.cell? ⟨wz1.heap.size, 2, none⟩ = some (.int .i64 bu) := Hbz5.out.cell 2
            have qb3_5 : wz5.cell? ⟨wz1.heap.size, 3, none⟩ = some (.int .i64 br) := Hbz5.out.cell 3
            have qb4_5 : wz5.cell? ⟨wz1.heap.size, 4, none⟩ = some (.int .i64 bl) := Hbz5.out.cell 4
            have lb_5 : wz1.heap.size < wz5.heap.size := Hbz5.out.lt
            go_wp2
            go_ret
            exact ⟨rfl, HBz5.out⟩
          | false =>
            have gx := GX.out; have hX := HX.out
            clear HLOW HHIG HWF HZ0 HME HMW HWI HH
            go_upto_region 5 with fail
            have hcz1 := HMD.out w2 HRV.out
            go_wp2_with fail
            refine hcz1.mono ?_
            rintro e wz1 ⟨rfl, kz1⟩
            clear hcz1
            have HBz1 := Lib.hid (HB2.out.trans (kz1.mono (Nat.le_trans hbase HB2.out.size)))
            clear kz1
            obtain ⟨wz2, hwz2⟩ : ∃ wz2, wz1.alloc (.cells #[.int .i64 (sz : Nat), .int .i64 (n : Nat), .int .i64 bu, .int .i64 br, .int .i64 bl] 23) = wz2 := ⟨_, rfl⟩
            have kz2 : Below wz1.heap.size wz1 wz2 := by rw [← hwz2]; exact (Below.refl _ _).alloc (Nat.le_refl _) _
            have Hbz2 := Lib.hid (show Has wz2 wz1.heap.size [.int .i64 (sz : Nat), .int .i64 (n : Nat), .int .i64 bu, .int .i64 br, .int .i64 bl] 23 by rw [← hwz2]; exact Has.new _ _ _)
            have HWz2 := Lib.hid hwz2
            clear hwz2
            have HBz2 := Lib.hid (HBz1.out.trans (kz2.mono (Nat.le_trans hbase HBz1.out.size)))
            clear kz2
            go_upto_region 6 with fail
            rw [HWz2.out]
            have hcz3 := HAL.out wz2
            go_wp2_with fail
            refine hcz3.mono ?_
            rintro e wz3 ⟨rfl, kz3⟩
            clear hcz3
            have HBz3 := Lib.hid (HBz2.out.trans (kz3.mono (Nat.le_trans hbase HBz2.out.size)))
            have Hbz3 := Lib.hid (Hbz2.out.call kz3)
            clear kz3
            have qb0_3 : wz3.cell? ⟨wz1.heap.size, 0, none⟩ = some (.int .i64 (sz : Nat)) := Hbz3.out.cell 0
            have qb1_3 : wz3.cell? ⟨wz1.heap.size, 1, none⟩ = some (.int .i64 (n : Nat)) := Hbz3.out.cell 1
            have qb2_3 : wz3.cell? ⟨wz1.heap.size, 2, none⟩ = some (.int .i64 bu) := Hbz3.out.cell 2
            have qb3_3 : wz3.cell? ⟨wz1.heap.size, 3, none⟩ = some (.int .i64 br) := Hbz3.out.cell 3
            have qb4_3 : wz3.cell? ⟨wz1.heap.size, 4, none⟩ = some (.int .i64 bl) := Hbz3.out.cell 4
            have lb_3 : wz1.heap.size < wz3.heap.size := Hbz3.out.lt
            have hcz4 := HW1.out wz3
            go_wp2_with fail
            refine hcz4.mono ?_
            rintro e wz4 ⟨rfl, kz4⟩
            clear hcz4 qb0_3 qb1_3 qb2_3 qb3_3 qb4_3 lb_3
            have HBz4 := Lib.hid (HBz3.out.trans (kz4.mono (Nat.le_trans hbase HBz3.out.size)))
            have Hbz4 := Lib.hid (Hbz3.out.call kz4)
            clear kz4
            have qb0_4 : wz4.cell? ⟨wz1.heap.size, 0, none⟩ = some (.int .i64 (sz : Nat)) := Hbz4.out.cell 0
            have qb1_4 : wz4.cell? ⟨wz1.heap.size, 1, none⟩ = some (.int .i64 (n : Nat)) := Hbz4.out.cell 1
            have qb2_4 : wz4.cell? ⟨wz1.heap.size, 2, none⟩ = some (.int .i64 bu) := Hbz4.out.cell 2
            have qb3_4 : wz4.cell? ⟨wz1.heap.size, 3, none⟩ = some (.int .i64 br) := Hbz4.out.cell 3
            have qb4_4 : wz4.cell? ⟨wz1.heap.size, 4, none⟩ = some (.int .i64 bl) := Hbz4.out.cell 4
            have lb_4 : wz1.heap.size < wz4.heap.size := Hbz4.out.lt
            have hcz5 := HW2.out wz4
            go_wp2_with fail
            refine hcz5.mono ?_
            rintro e wz5 ⟨rfl, kz5⟩
            clear hcz5 qb0_4 qb1_4 qb2_4 qb3_4 qb4_4 lb_4
            have HBz5 := Lib.hid (HBz4.out.trans (kz5.mono (Nat.le_trans hbase HBz4.out.size)))
            have Hbz5 := Lib.hid (Hbz4.out.call kz5)
            clear kz5
            have qb0_5 : wz5.cell? ⟨wz1.heap.size, 0, none⟩ = some (.int .i64 (sz : Nat)) := Hbz5.out.cell 0
            have qb1_5 : wz5.cell? ⟨wz1.heap.size, 1, none⟩ = some (.int .i64 (n : Nat)) := Hbz5.out.cell 1
            have qb2_5 : wz5.cell? ⟨wz1.heap.size, 2, none⟩ = some (.int .i64 bu) := Hbz5.out.cell 2
            have qb3_5 : wz5.cell? ⟨wz1.heap.size, 3, none⟩ = some (.int .i64 br) := Hbz5.out.cell 3
            have qb4_5 : wz5.cell? ⟨wz1.heap.size, 4, none⟩ = some (.int .i64 bl) := Hbz5.out.cell 4
            have lb_5 : wz1.heap.size < wz5.heap.size := Hbz5.out.lt
            go_wp2
            go_ret
            exact ⟨rfl, HBz5.out⟩
        · have g2 : (br == 0) = false := beq_false_of_ne k2
          by_cases k3 : br % ((n : Int) - 1) = 0
          · have g3 : (br % ((n : Int) - 1) == 0) = true := by rw [k3]; rfl
            have g4 : (br % ((n : Int) - 1) != 0) = false := by rw [k3]; rfl
            have hmul : Q * ((n : Int) - 1) = br := by rw [← HQQ.out]; exact Int.ediv_mul_cancel (Int.dvd_of_emod_eq_zero k3)
            have h0 := hme (by omega) Q hmul
            obtain ⟨e1, e2⟩ := hhig Q ⟨f9, f10⟩
            have HW3 := Lib.hid (HWI.out Q (by unfold IsInt; omega))
            rw [e1, e2, h0] at HW3
            have HQW := Lib.hid (show IntKind.i64.wrap (br.tdiv ((n : Int) - 1)) = Q by rw [Int.tdiv_eq_ediv_of_nonneg (by omega), HQQ.out]; exact wrapI (by omega))
            clear h0 e1 e2 hz hme hhig hmul k3
            clear HLOW HHIG HWF HZ0 HME HMW HWI HH
            go_upto_region 5 with fail
            have hcz1 := HMD.out w2 HRV.out
            go_wp2_with fail
            refine hcz1.mono ?_
            rintro e wz1 ⟨rfl, kz1⟩
            clear hcz1
            have HBz1 := Lib.hid (HB2.out.trans (kz1.mono (Nat.le_trans hbase HB2.out.size)))
            clear kz1
            obtain ⟨wz2, hwz2⟩ : ∃ wz2, wz1.alloc (.cells #[.int .i64 (sz : Nat), .int .i64 (n : Nat), .int .i64 bu, .int .i64 br, .int .i64 bl] 23) = wz2 := ⟨_, rfl⟩
            have kz2 : Below wz1.heap.size wz1 wz2 := by rw [← hwz2]; exact (Below.refl _ _).alloc (Nat.le_refl _) _
            have Hbz2 := Lib.hid (show Has wz2 wz1.heap.size [.int .i64 (sz : Nat), .int .i64 (n : Nat), .int .i64 bu, .int .i64 br, .int .i64 bl] 23 by rw [← hwz2]; exact Has.new _ _ _)
            have HWz2 := Lib.hid hwz2
            clear hwz2
            have HBz2 := Lib.hid (HBz1.out.trans (kz2.mono (Nat.le_trans hbase HBz1.out.size)))
            clear kz2
            go_upto_region 6 with fail
            rw [HWz2.out]
            have hcz3 := HAL.out wz2
            go_wp2_with fail
            refine hcz3.mono ?_
            rintro e wz3 ⟨rfl, kz3⟩
            clear hcz3
            have HBz3 := Lib.hid (HBz2.out.trans (kz3.mono (Nat.le_trans hbase HBz2.out.size)))
            have Hbz3 := Lib.hid (Hbz2.out.call kz3)
            clear kz3
            have qb0_3 : wz3.cell? ⟨wz1.heap.size, 0, none⟩ = some (.int .i64 (sz : Nat)) := Hbz3.out.cell 0
            have qb1_3 : wz3.cell? ⟨wz1.heap.size, 1, none⟩ = some (.int .i64 (n : Nat)) := Hbz3.out.cell 1
            have qb2_3 : wz3.cell? ⟨wz1.heap.size, 2, none⟩ = some (.int .i64 bu) := Hbz3.out.cell 2
            have qb3_3 : wz3.cell? ⟨wz1.heap.size, 3, none⟩ = some (.int .i64 br) := Hbz3.out.cell 3
            have qb4_3 : wz3.cell? ⟨wz1.heap.size, 4, none⟩ = some (.int .i64 bl) := Hbz3.out.cell 4
            have lb_3 : wz1.heap.size < wz3.heap.size := Hbz3.out.lt
            have hcz4 := HW1.out wz3
            go_wp2_with fail
            refine hcz4.mono ?_
            rintro e wz4 ⟨rfl, kz4⟩
            clear hcz4 qb0_3 qb1_3 qb2_3 qb3_3 qb4_3 lb_3
            have HBz4 := Lib.hid (HBz3.out.trans (kz4.mono (Nat.le_trans hbase HBz3.out.size)))
            have Hbz4 := Lib.hid (Hbz3.out.call kz4)
            clear kz4
            have qb0_4 : wz4.cell? ⟨wz1.heap.size, 0, none⟩ = some (.int .i64 (sz : Nat)) := Hbz4.out.cell 0
            have qb1_4 : wz4.cell? ⟨wz1.heap.size, 1, none⟩ = some (.int .i64 (n : Nat)) := Hbz4.out.cell 1
            have qb2_4 : wz4.cell? ⟨wz1.heap.size, 2, none⟩ = some (.int .i64 bu) := Hbz4.out.cell 2
            have qb3_4 : wz4.cell? ⟨wz1.heap.size, 3, none⟩ = some (.int .i64 br) := Hbz4.out.cell 3
            have qb4_4 : wz4.cell? ⟨wz1.heap.size, 4, none⟩ = some (.int .i64 bl) := Hbz4.out.cell 4
            have lb_4 : wz1.heap.size < wz4.heap.size := Hbz4.out.lt
            have hcz5 := HW2.out wz4
            go_wp2_with fail
            refine hcz5.mono ?_
            rintro e wz5 ⟨rfl, kz5⟩
            clear hcz5 qb0_4 qb1_4 qb2_4 qb3_4 qb4_4 lb_4
            have HBz5 := Lib.hid (HBz4.out.trans (kz5.mono (Nat.le_trans hbase HBz4.out.size)))
            have Hbz5 := Lib.hid (Hbz4.out.call kz5)
            clear kz5
            have qb0_5 : wz5.cell? ⟨wz1.heap.size, 0, none⟩ = some (.int .i64 (sz : Nat)) := Hbz5.out.cell 0
            have qb1_5 : wz5.cell? ⟨wz1.heap.size, 1, none⟩ = some (.int .i64 (n : Nat)) := Hbz5.out.cell 1
            have qb2_5 : wz5.cell? ⟨wz1.heap.size, 2, none⟩ = some (.int .i64 bu) := Hbz5.out.cell 2
            have qb3_5 : wz5.cell? ⟨wz1.heap.size, 3, none⟩ = some (.int .i64 br) := Hbz5.out.cell 3
            have qb4_5 : wz5.cell? ⟨wz1.heap.size, 4, none⟩ = some (.int .i64 bl) := Hbz5.out.cell 4
            have lb_5 : wz1.heap.size < wz5.heap.size := Hbz5.out.lt
            go_upto_region 21 with fail
            clear qb0_5 qb1_5 qb2_5 qb3_5 qb4_5 lb_5
            have hq := HQW.out
            have hmz : ¬ ((n : Int) - 1) = 0 := by omega
            have hmz2 : (((n : Int) - 1) == 0) = false := beq_false_of_ne hmz
            refine wp_region_held_drew (S := (fun W => W.cell? ⟨wz1.heap.size, 0, none⟩ = some (.int .i64 (sz : Nat)) ∧ W.cell? ⟨wz1.heap.size, 1, none⟩ = some (.int .i64 (n : Nat)) ∧ W.cell? ⟨wz1.heap.size, 2, none⟩ = some (.int .i64 bu) ∧ W.cell? ⟨wz1.heap.size, 3, none⟩ = some (.int .i64 br) ∧ W.cell? ⟨wz1.heap.size, 4, none⟩ = some (.int .i64 bl))) (by kernel_rfl) ⟨Hbz5.out.cell 0, Hbz5.out.cell 1, Hbz5.out.cell 2, Hbz5.out.cell 3, Hbz5.out.cell 4⟩ (fun hHeld => ?_)
            refine regTake 0 (some 130) (v := ?_) rfl rfl (by kernel_rfl) (by kernel_rfl) (by kernel_rfl) (fun _ _ _ h => h) (by rfl) hHeld ?_ ?_
            rotate_left 1
            · (intro w hSw; (try dsimp only at hSw); go_simp; try with_reducible rfl)
            simp only [Act.put, List.setIfInBounds_toArray, List.set_cons_zero, List.set_cons_succ]
            refine regTake 1 (some 131) (v := ?_) rfl rfl (by kernel_rfl) (by kernel_rfl) (by kernel_rfl) (fun _ _ _ h => h) (by rfl) hHeld ?_ ?_
            rotate_left 1
            · (intro w hSw; (try dsimp only at hSw); go_simp; try with_reducible rfl)
            simp only [Act.put, List.setIfInBounds_toArray, List.set_cons_zero, List.set_cons_succ]
            refine regTake 2 (some 132) (v := ?_) rfl rfl (by kernel_rfl) (by kernel_rfl) (by kernel_rfl) (fun _ _ _ h => h) (by rfl) hHeld ?_ ?_
            rotate_left 1
            · (intro w hSw; (try dsimp only at hSw); go_simp; try with_reducible rfl)
            simp only [Act.put, List.setIfInBounds_toArray, List.set_cons_zero, List.set_cons_succ]
            refine regTake 3 (some 133) (v := ?_) rfl rfl (by kernel_rfl) (by kernel_rfl) (by kernel_rfl) (fun _ _ _ h => h) (by rfl) hHeld ?_ ?_
            rotate_left 1
            · (intro w hSw; (try dsimp only at hSw); go_simp; try with_reducible rfl)
            simp only [Act.put, List.setIfInBounds_toArray, List.set_cons_zero, List.set_cons_succ]
            refine regTake 4 (some 134) (v := ?_) rfl rfl (by kernel_rfl) (by kernel_rfl) (by kernel_rfl) (fun _ _ _ h => h) (by rfl) hHeld ?_ ?_
            rotate_left 1
            · (intro w hSw; (try dsimp only at hSw); go_simp; try with_reducible rfl)
            simp only [Act.put, List.setIfInBounds_toArray, List.set_cons_zero, List.set_cons_succ]
            refine regCall 5 (some 135) (f := 16) (args := ?_) rfl rfl (by kernel_rfl) (by rfl) ?_ ?_
            rotate_left 1
            · (go_simp; try with_reducible rfl)
            refine (HW3.out _).mono ?_
            rintro e wx5 ⟨rfl, k6⟩
            refine ⟨_, rfl, ⟨(Hbz5.out.step k6 rfl).cell 0, (Hbz5.out.step k6 rfl).cell 1, (Hbz5.out.step k6 rfl).cell 2, (Hbz5.out.step k6 rfl).cell 3, (Hbz5.out.step k6 rfl).cell 4⟩, fun hHeld => ?_⟩
            simp only [Act.put, List.setIfInBounds_toArray, List.set_cons_zero, List.set_cons_succ]
            have HBs := Lib.hid (HBz5.out.drew.trans (k6.mono HBz5.out.drew.size))
            have Hs0 := Lib.hid (Hbz5.out.step k6 rfl)
            clear k6
            refine regTake 6 (some 129) (v := ?_) rfl rfl (by kernel_rfl) (by kernel_rfl) (by kernel_rfl) (fun _ _ _ h => h) (by rfl) hHeld ?_ ?_
            rotate_left 1
            · (intro w hSw; (try dsimp only at hSw); go_simp; try with_reducible rfl)
            simp only [Act.put, List.setIfInBounds_toArray, List.set_cons_zero, List.set_cons_succ]
            refine regTake 7 (some 136) (v := ?_) rfl rfl (by kernel_rfl) (by kernel_rfl) (by kernel_rfl) (fun _ _ _ h => h) (by rfl) hHeld ?_ ?_
            rotate_left 1
            · (intro w hSw; (try dsimp only at hSw); go_simp; try with_reducible rfl)
            simp only [Act.put, List.setIfInBounds_toArray, List.set_cons_zero, List.set_cons_succ]
            refine regTake 8 (some 137) (v := ?_) rfl rfl (by kernel_rfl) (by kernel_rfl) (by kernel_rfl) (fun _ _ _ h => h) (by rfl) hHeld ?_ ?_
            rotate_left 1
            · (intro w hSw; (try dsimp only at hSw); go_simp; try with_reducible rfl)
            simp only [Act.put, List.setIfInBounds_toArray, List.set_cons_zero, List.set_cons_succ]
            refine regTake 9 (some 17) (v := ?_) rfl rfl (by kernel_rfl) (by kernel_rfl) (by kernel_rfl) (fun _ _ _ h => h) (by rfl) hHeld ?_ ?_
            rotate_left 1
            · (intro w hSw; (try dsimp only at hSw); go_simp; try with_reducible rfl)
            simp only [Act.put, List.setIfInBounds_toArray, List.set_cons_zero, List.set_cons_succ]
            refine regTake 10 (some 18) (v := ?_) rfl rfl (by kernel_rfl) (by kernel_rfl) (by kernel_rfl) (fun _ _ _ h => h) (by rfl) hHeld ?_ ?_
            rotate_left 1
            · (intro w hSw; (try dsimp only at hSw); go_simp; try with_reducible rfl)
            simp only [Act.put, List.setIfInBounds_toArray, List.set_cons_zero, List.set_cons_succ]
            refine wpAnyH_done (by kernel_rfl) ?_ _
            clear hHeld hq
            go_wp2
            go_ret
            exact ⟨rfl, HBs.out⟩
          · have g3 : (br % ((n : Int) - 1) == 0) = false := beq_false_of_ne k3
            have g4 : (br % ((n : Int) - 1) != 0) = true := by simp [k3]
            clear hz hme hhig k3
            clear HLOW HHIG HWF HZ0 HME HMW HWI HH
            go_upto_region 5 with fail
            have hcz1 := HMD.out w2 HRV.out
            go_wp2_with fail
            refine hcz1.mono ?_
            rintro e wz1 ⟨rfl, kz1⟩
            clear hcz1
            have HBz1 := Lib.hid (HB2.out.trans (kz1.mono (Nat.le_trans hbase HB2.out.size)))
            clear kz1
            obtain ⟨wz2, hwz2⟩ : ∃ wz2, wz1.alloc (.cells #[.int .i64 (sz : Nat), .int .i64 (n : Nat), .int .i64 bu, .int .i64 br, .int .i64 bl] 23) = wz2 := ⟨_, rfl⟩
            have kz2 : Below wz1.heap.size wz1 wz2 := by rw [← hwz2]; exact (Below.refl _ _).alloc (Nat.le_refl _) _
            have Hbz2 := Lib.hid (show Has wz2 wz1.heap.size [.int .i64 (sz : Nat), .int .i64 (n : Nat), .int .i64 bu, .int .i64 br, .int .i64 bl] 23 by rw [← hwz2]; exact Has.new _ _ _)
            have HWz2 := Lib.hid hwz2
            clear hwz2
            have HBz2 := Lib.hid (HBz1.out.trans (kz2.mono (Nat.le_trans hbase HBz1.out.size)))
            clear kz2
            go_upto_region 6 with fail
            rw [HWz2.out]
            have hcz3 := HAL.out wz2
            go_wp2_with fail
            refine hcz3.mono ?_
            rintro e wz3 ⟨rfl, kz3⟩
            clear hcz3
            have HBz3 := Lib.hid (HBz2.out.trans (kz3.mono (Nat.le_trans hbase HBz2.out.size)))
            have Hbz3 := Lib.hid (Hbz2.out.call kz3)
            clear kz3
            have qb0_3 : wz3.cell? ⟨wz1.heap.size, 0, none⟩ = some (.int .i64 (sz : Nat)) := Hbz3.out.cell 0
            have qb1_3 : wz3.cell? ⟨wz1.heap.size, 1, none⟩ = some (.int .i64 (n : Nat)) := Hbz3.out.cell 1
            have qb2_3 : wz3.cell? ⟨wz1.heap.size, 2, none⟩ = some (.int .i64 bu) := Hbz3.out.cell 2
            have qb3_3 : wz3.cell? ⟨wz1.heap.size, 3, none⟩ = some (.int .i64 br) := Hbz3.out.cell 3
            have qb4_3 : wz3.cell? ⟨wz1.heap.size, 4, none⟩ = some (.int .i64 bl) := Hbz3.out.cell 4
            have lb_3 : wz1.heap.size < wz3.heap.size := Hbz3.out.lt
            have hcz4 := HW1.out wz3
            go_wp2_with fail
            refine hcz4.mono ?_
            rintro e wz4 ⟨rfl, kz4⟩
            clear hcz4 qb0_3 qb1_3 qb2_3 qb3_3 qb4_3 lb_3
            have HBz4 := Lib.hid (HBz3.out.trans (kz4.mono (Nat.le_trans hbase HBz3.out.size)))
            have Hbz4 := Lib.hid (Hbz3.out.call kz4)
            clear kz4
            have qb0_4 : wz4.cell? ⟨wz1.heap.size, 0, none⟩ = some (.int .i64 (sz : Nat)) := Hbz4.out.cell 0
            have qb1_4 : wz4.cell? ⟨wz1.heap.size, 1, none⟩ = some (.int .i64 (n : Nat)) := Hbz4.out.cell 1
            have qb2_4 : wz4.cell? ⟨wz1.heap.size, 2, none⟩ = some (.int .i64 bu) := Hbz4.out.cell 2
            have qb3_4 : wz4.cell? ⟨wz1.heap.size, 3, none⟩ = some (.int .i64 br) := Hbz4.out.cell 3
            have qb4_4 : wz4.cell? ⟨wz1.heap.size, 4, none⟩ = some (.int .i64 bl) := Hbz4.out.cell 4
            have lb_4 : wz1.heap.size < wz4.heap.size := Hbz4.out.lt
            have hcz5 := HW2.out wz4
            go_wp2_with fail
            refine hcz5.mono ?_
            rintro e wz5 ⟨rfl, kz5⟩
            clear hcz5 qb0_4 qb1_4 qb2_4 qb3_4 qb4_4 lb_4
            have HBz5 := Lib.hid (HBz4.out.trans (kz5.mono (Nat.le_trans hbase HBz4.out.size)))
            have Hbz5 := Lib.hid (Hbz4.out.call kz5)
            clear kz5
            have qb0_5 : wz5.cell? ⟨wz1.heap.size, 0, none⟩ = some (.int .i64 (sz : Nat)) := Hbz5.out.cell 0
            have qb1_5 : wz5.cell? ⟨wz1.heap.size, 1, none⟩ = some (.int .i64 (n : Nat)) := Hbz5.out.cell 1
            have qb2_5 : wz5.cell? ⟨wz1.heap.size, 2, none⟩ = some (.int .i64 bu) := Hbz5.out.cell 2
            have qb3_5 : wz5.cell? ⟨wz1.heap.size, 3, none⟩ = some (.int .i64 br) := Hbz5.out.cell 3
            have qb4_5 : wz5.cell? ⟨wz1.heap.size, 4, none⟩ = some (.int .i64 bl) := Hbz5.out.cell 4
            have lb_5 : wz1.heap.size < wz5.heap.size := Hbz5.out.lt
            go_wp2
            go_ret
            exact ⟨rfl, HBz5.out⟩
      · skip
        rw [if_neg (by omega)] at hmw
        have g1 : ((sz : Int) == 1) = false := beq_false_of_ne (by omega)
        subst hmw
        have HQQ := Lib.hid hQ
        by_cases k2 : br = 0
        · obtain ⟨z1, z2⟩ := hz k2
          have g2 : (br == 0) = true := by rw [k2]; rfl
          have gx : (q2 == 0) = (vlo == 0) := by rw [Bool.eq_iff_iff, beq_iff_eq, beq_iff_eq]; exact z1
          obtain ⟨X, hX⟩ : ∃ X, (vlo == 0) = X := ⟨_, rfl⟩
          rw [hX] at gx
          have GX := Lib.hid gx; have HX := Lib.hid hX
          clear z1 hz hme hhig gx hX k2
          cases X with
          | true =>
            have gx := GX.out; have hX := HX.out
            clear HLOW HHIG HWF HZ0 HME HMW HWI HH
            go_upto_region 5 with fail
            have hcz1 := HMD.out w2 HRV.out
            go_wp2_with fail
            refine hcz1.mono ?_
            rintro e wz1 ⟨rfl, kz1⟩
            clear hcz1
            have HBz1 := Lib.hid (HB2.out.trans (kz1.mono (Nat.le_trans hbase HB2.out.size)))
            clear kz1
            obtain ⟨wz2, hwz2⟩ : ∃ wz2, wz1.alloc (.cells #[.int .i64 (sz : Nat), .int .i64 (n : Nat), .int .i64 bu, .int .i64 br, .int .i64 bl] 23) = wz2 := ⟨_, rfl⟩
            have kz2 : Below wz1.heap.size wz1 wz2 := by rw [← hwz2]; exact (Below.refl _ _).alloc (Nat.le_refl _) _
            have Hbz2 := Lib.hid (show Has wz2 wz1.heap.size [.int .i64 (sz : Nat), .int .i64 (n : Nat), .int .i64 bu, .int .i64 br, .int .i64 bl] 23 by rw [← hwz2]; exact Has.new _ _ _)
            have HWz2 := Lib.hid hwz2
            clear hwz2
            have HBz2 := Lib.hid (HBz1.out.trans (kz2.mono (Nat.le_trans hbase HBz1.out.size)))
            clear kz2
            go_upto_region 6 with fail
            rw [HWz2.out]
            have hcz3 := HAL.out wz2
            go_wp2_with fail
            refine hcz3.mono ?_
            rintro e wz3 ⟨rfl, kz3⟩
            clear hcz3
            have HBz3 := Lib.hid (HBz2.out.trans (kz3.mono (Nat.le_trans hbase HBz2.out.size)))
            have Hbz3 := Lib.hid (Hbz2.out.call kz3)
            clear kz3
            have qb0_3 : wz3.cell? ⟨wz1.heap.size, 0, none⟩ = some (.int .i64 (sz : Nat)) := Hbz3.out.cell 0
            have qb1_3 : wz3.cell? ⟨wz1.heap.size, 1, none⟩ = some (.int .i64 (n : Nat)) := Hbz3.out.cell 1
            have qb2_3 : wz3.cell? ⟨wz1.heap.size, 2, none⟩ = some (.int .i64 bu) := Hbz3.out.cell 2
            have qb3_3 : wz3.cell? ⟨wz1.heap.size, 3, none⟩ = some (.int .i64 br) := Hbz3.out.cell 3
            have qb4_3 : wz3.cell? ⟨wz1.heap.size, 4, none⟩ = some (.int .i64 bl) := Hbz3.out.cell 4
            have lb_3 : wz1.heap.size < wz3.heap.size := Hbz3.out.lt
            have hcz4 := HW1.out wz3
            go_wp2_with fail
            refine hcz4.mono ?_
            rintro e wz4 ⟨rfl, kz4⟩
            clear hcz4 qb0_3 qb1_3 qb2_3 qb3_3 qb4_3 lb_3
            have HBz4 := Lib.hid (HBz3.out.trans (kz4.mono (Nat.le_trans hbase HBz3.out.size)))
            have Hbz4 := Lib.hid (Hbz3.out.call kz4)
            clear kz4
            have qb0_4 : wz4.cell? ⟨wz1.heap.size, 0, none⟩ = some (.int .i64 (sz : Nat)) := Hbz4.out.cell 0
            have qb1_4 : wz4.cell? ⟨wz1.heap.size, 1, none⟩ = some (.int .i64 (n : Nat)) := Hbz4.out.cell 1
            have qb2_4 : wz4.cell? ⟨wz1.heap.size, 2, none⟩ = some (.int .i64 bu) := Hbz4.out.cell 2
            have qb3_4 : wz4.cell? ⟨wz1.heap.size, 3, none⟩ = some (.int .i64 br) := Hbz4.out.cell 3
            have qb4_4 : wz4.cell? ⟨wz1.heap.size, 4, none⟩ = some (.int .i64 bl) := Hbz4.out.cell 4
            have lb_4 : wz1.heap.size < wz4.heap.size := Hbz4.out.lt
            have hcz5 := HW2.out wz4
            go_wp2_with fail
            refine hcz5.mono ?_
            rintro e wz5 ⟨rfl, kz5⟩
            clear hcz5 qb0_4 qb1_4 qb2_4 qb3_4 qb4_4 lb_4
            have HBz5 := Lib.hid (HBz4.out.trans (kz5.mono (Nat.le_trans hbase HBz4.out.size)))
            have Hbz5 := Lib.hid (Hbz4.out.call kz5)
            clear kz5
            have qb0_5 : wz5.cell? ⟨wz1.heap.size, 0, none⟩ = some (.int .i64 (sz : Nat)) := Hbz5.out.cell 0
            have qb1_5 : wz5.cell? ⟨wz1.heap.size, 1, none⟩ = some (.int .i64 (n : Nat)) := Hbz5.out.cell 1
            have qb2_5 : wz5.cell? ⟨wz1.heap.size, 2, none⟩ = some (.int .i64 bu) := Hbz5.out.cell 2
            have qb3_5 : wz5.cell? ⟨wz1.heap.size, 3, none⟩ = some (.int .i64 br) := Hbz5.out.cell 3
            have qb4_5 : wz5.cell? ⟨wz1.heap.size, 4, none⟩ = some (.int .i64 bl) := Hbz5.out.cell 4
            have lb_5 : wz1.heap.size < wz5.heap.size := Hbz5.out.lt
            go_wp2
            go_ret
            exact ⟨rfl, HBz5.out⟩
          | false =>
            have gx := GX.out; have hX := HX.out
            clear HLOW HHIG HWF HZ0 HME HMW HWI HH
            go_upto_region 5 with fail
            have hcz1 := HMD.out w2 HRV.out
            go_wp2_with fail
            refine hcz1.mono ?_
            rintro e wz1 ⟨rfl, kz1⟩
            clear hcz1
            have HBz1 := Lib.hid (HB2.out.trans (kz1.mono (Nat.le_trans hbase HB2.out.size)))
            clear kz1
            obtain ⟨wz2, hwz2⟩ : ∃ wz2, wz1.alloc (.cells #[.int .i64 (sz : Nat), .int .i64 (n : Nat), .int .i64 bu, .int .i64 br, .int .i64 bl] 23) = wz2 := ⟨_, rfl⟩
            have kz2 : Below wz1.heap.size wz1 wz2 := by rw [← hwz2]; exact (Below.refl _ _).alloc (Nat.le_refl _) _
            have Hbz2 := Lib.hid (show Has wz2 wz1.heap.size [.int .i64 (sz : Nat), .int .i64 (n : Nat), .int .i64 bu, .int .i64 br, .int .i64 bl] 23 by rw [← hwz2]; exact Has.new _ _ _)
            have HWz2 := Lib.hid hwz2
            clear hwz2
            have HBz2 := Lib.hid (HBz1.out.trans (kz2.mono (Nat.le_trans hbase HBz1.out.size)))
            clear kz2
            go_upto_region 6 with fail
            rw [HWz2.out]
            have hcz3 := HAL.out wz2
            go_wp2_with fail
            refine hcz3.mono ?_
            rintro e wz3 ⟨rfl, kz3⟩
            clear hcz3
            have HBz3 := Lib.hid (HBz2.out.trans (kz3.mono (Nat.le_trans hbase HBz2.out.size)))
            have Hbz3 := Lib.hid (Hbz2.out.call kz3)
            clear kz3
            have qb0_3 : wz3.cell? ⟨wz1.heap.size, 0, none⟩ = some (.int .i64 (sz : Nat)) := Hbz3.out.cell 0
            have qb1_3 : wz3.cell? ⟨wz1.heap.size, 1, none⟩ = some (.int .i64 (n : Nat)) := Hbz3.out.cell 1
            have qb2_3 : wz3.cell? ⟨wz1.heap.size, 2, none⟩ = some (.int .i64 bu) := Hbz3.out.cell 2
            have qb3_3 : wz3.cell? ⟨wz1.heap.size, 3, none⟩ = some (.int .i64 br) := Hbz3.out.cell 3
            have qb4_3 : wz3.cell? ⟨wz1.heap.size, 4, none⟩ = some (.int .i64 bl) := Hbz3.out.cell 4
            have lb_3 : wz1.heap.size < wz3.heap.size := Hbz3.out.lt
            have hcz4 := HW1.out wz3
            go_wp2_with fail
            refine hcz4.mono ?_
            rintro e wz4 ⟨rfl, kz4⟩
            clear hcz4 qb0_3 qb1_3 qb2_3 qb3_3 qb4_3 lb_3
            have HBz4 := Lib.hid (HBz3.out.trans (kz4.mono (Nat.le_trans hbase HBz3.out.size)))
            have Hbz4 := Lib.hid (Hbz3.out.call kz4)
            clear kz4
            have qb0_4 : wz4.cell? ⟨wz1.heap.size, 0, none⟩ = some (.int .i64 (sz : Nat)) := Hbz4.out.cell 0
            have qb1_4 : wz4.cell? ⟨wz1.heap.size, 1, none⟩ = some (.int .i64 (n : Nat)) := Hbz4.out.cell 1
            have qb2_4 : wz4.cell? ⟨wz1.heap.size, 2, none⟩ = some (.int .i64 bu) := Hbz4.out.cell 2
            have qb3_4 : wz4.cell? ⟨wz1.heap.size, 3, none⟩ = some (.int .i64 br) := Hbz4.out.cell 3
            have qb4_4 : wz4.cell? ⟨wz1.heap.size, 4, none⟩ = some (.int .i64 bl) := Hbz4.out.cell 4
            have lb_4 : wz1.heap.size < wz4.heap.size := Hbz4.out.lt
            have hcz5 := HW2.out wz4
            go_wp2_with fail
            refine hcz5.mono ?_
            rintro e wz5 ⟨rfl, kz5⟩
            clear hcz5 qb0_4 qb1_4 qb2_4 qb3_4 qb4_4 lb_4
            have HBz5 := Lib.hid (HBz4.out.trans (kz5.mono (Nat.le_trans hbase HBz4.out.size)))
            have Hbz5 := Lib.hid (Hbz4.out.call kz5)
            clear kz5
            have qb0_5 : wz5.cell? ⟨wz1.heap.size, 0, none⟩ = some (.int .i64 (sz : Nat)) := Hbz5.out.cell 0
            have qb1_5 : wz5.cell? ⟨wz1.heap.size, 1, none⟩ = some (.int .i64 (n : Nat)) := Hbz5.out.cell 1
            have qb2_5 : wz5.cell? ⟨wz1.heap.size, 2, none⟩ = some (.int .i64 bu) := Hbz5.out.cell 2
            have qb3_5 : wz5.cell? ⟨wz1.heap.size, 3, none⟩ = some (.int .i64 br) := Hbz5.out.cell 3
            have qb4_5 : wz5.cell? ⟨wz1.heap.size, 4, none⟩ = some (.int .i64 bl) := Hbz5.out.cell 4
            have lb_5 : wz1.heap.size < wz5.heap.size := Hbz5.out.lt
            go_wp2
            go_ret
            exact ⟨rfl, HBz5.out⟩
        · have g2 : (br == 0) = false := beq_false_of_ne k2
          by_cases k3 : br % ((n : Int)) = 0
          · have g3 : (br % ((n : Int)) == 0) = true := by rw [k3]; rfl
            have g4 : (br % ((n : Int)) != 0) = false := by rw [k3]; rfl
            have hmul : Q * ((n : Int)) = br := by rw [← HQQ.out]; exact Int.ediv_mul_cancel (Int.dvd_of_emod_eq_zero k3)
            have h0 := hme (by omega) Q hmul
            obtain ⟨e1, e2⟩ := hhig Q ⟨f9, f10⟩
            have HW3 := Lib.hid (HWI.out Q (by unfold IsInt; omega))
            rw [e1, e2, h0] at HW3
            have HQW := Lib.hid (show IntKind.i64.wrap (br.tdiv ((n : Int))) = Q by rw [Int.tdiv_eq_ediv_of_nonneg (by omega), HQQ.out]; exact wrapI (by omega))
            clear h0 e1 e2 hz hme hhig hmul k3
            clear HLOW HHIG HWF HZ0 HME HMW HWI HH
            go_upto_region 5 with fail
            have hcz1 := HMD.out w2 HRV.out
            go_wp2_with fail
            refine hcz1.mono ?_
            rintro e wz1 ⟨rfl, kz1⟩
            clear hcz1
            have HBz1 := Lib.hid (HB2.out.trans (kz1.mono (Nat.le_trans hbase HB2.out.size)))
            clear kz1
            obtain ⟨wz2, hwz2⟩ : ∃ wz2, wz1.alloc (.cells #[.int .i64 (sz : Nat), .int .i64 (n : Nat), .int .i64 bu, .int .i64 br, .int .i64 bl] 23) = wz2 := ⟨_, rfl⟩
            have kz2 : Below wz1.heap.size wz1 wz2 := by rw [← hwz2]; exact (Below.refl _ _).alloc (Nat.le_refl _) _
            have Hbz2 := Lib.hid (show Has wz2 wz1.heap.size [.int .i64 (sz : Nat), .int .i64 (n : Nat), .int .i64 bu, .int .i64 br, .int .i64 bl] 23 by rw [← hwz2]; exact Has.new _ _ _)
            have HWz2 := Lib.hid hwz2
            clear hwz2
            have HBz2 := Lib.hid (HBz1.out.trans (kz2.mono (Nat.le_trans hbase HBz1.out.size)))
            clear kz2
            go_upto_region 6 with fail
            rw [HWz2.out]
            have hcz3 := HAL.out wz2
            go_wp2_with fail
            refine hcz3.mono ?_
            rintro e wz3 ⟨rfl, kz3⟩
            clear hcz3
            have HBz3 := Lib.hid (HBz2.out.trans (kz3.mono (Nat.le_trans hbase HBz2.out.size)))
            have Hbz3 := Lib.hid (Hbz2.out.call kz3)
            clear kz3
            have qb0_3 : wz3.cell? ⟨wz1.heap.size, 0, none⟩ = some (.int .i64 (sz : Nat)) := Hbz3.out.cell 0
            have qb1_3 : wz3.cell? ⟨wz1.heap.size, 1, none⟩ = some (.int .i64 (n : Nat)) := Hbz3.out.cell 1
            have qb2_3 : wz3.cell? ⟨wz1.heap.size, 2, none⟩ = some (.int .i64 bu) := Hbz3.out.cell 2
            have qb3_3 : wz3.cell? ⟨wz1.heap.size, 3, none⟩ = some (.int .i64 br) := Hbz3.out.cell 3
            have qb4_3 : wz3.cell? ⟨wz1.heap.size, 4, none⟩ = some (.int .i64 bl) := Hbz3.out.cell 4
            have lb_3 : wz1.heap.size < wz3.heap.size := Hbz3.out.lt
            have hcz4 := HW1.out wz3
            go_wp2_with fail
            refine hcz4.mono ?_
            rintro e wz4 ⟨rfl, kz4⟩
            clear hcz4 qb0_3 qb1_3 qb2_3 qb3_3 qb4_3 lb_3
            have HBz4 := Lib.hid (HBz3.out.trans (kz4.mono (Nat.le_trans hbase HBz3.out.size)))
            have Hbz4 := Lib.hid (Hbz3.out.call kz4)
            clear kz4
            have qb0_4 : wz4.cell? ⟨wz1.heap.size, 0, none⟩ = some (.int .i64 (sz : Nat)) := Hbz4.out.cell 0
            have qb1_4 : wz4.cell? ⟨wz1.heap.size, 1, none⟩ = some (.int .i64 (n : Nat)) := Hbz4.out.cell 1
            have qb2_4 : wz4.cell? ⟨wz1.heap.size, 2, none⟩ = some (.int .i64 bu) := Hbz4.out.cell 2
            have qb3_4 : wz4.cell? ⟨wz1.heap.size, 3, none⟩ = some (.int .i64 br) := Hbz4.out.cell 3
            have qb4_4 : wz4.cell? ⟨wz1.heap.size, 4, none⟩ = some (.int .i64 bl) := Hbz4.out.cell 4
            have lb_4 : wz1.heap.size < wz4.heap.size := Hbz4.out.lt
            have hcz5 := HW2.out wz4
            go_wp2_with fail
            refine hcz5.mono ?_
            rintro e wz5 ⟨rfl, kz5⟩
            clear hcz5 qb0_4 qb1_4 qb2_4 qb3_4 qb4_4 lb_4
            have HBz5 := Lib.hid (HBz4.out.trans (kz5.mono (Nat.le_trans hbase HBz4.out.size)))
            have Hbz5 := Lib.hid (Hbz4.out.call kz5)
            clear kz5
            have qb0_5 : wz5.cell? ⟨wz1.heap.size, 0, none⟩ = some (.int .i64 (sz : Nat)) := Hbz5.out.cell 0
            have qb1_5 : wz5.cell? ⟨wz1.heap.size, 1, none⟩ = some (.int .i64 (n : Nat)) := Hbz5.out.cell 1
            have qb2_5 : wz5.cell? ⟨wz1.heap.size, 2, none⟩ = some (.int .i64 bu) := Hbz5.out.cell 2
            have qb3_5 : wz5.cell? ⟨wz1.heap.size, 3, none⟩ = some (.int .i64 br) := Hbz5.out.cell 3
            have qb4_5 : wz5.cell? ⟨wz1.heap.size, 4, none⟩ = some (.int .i64 bl) := Hbz5.out.cell 4
            have lb_5 : wz1.heap.size < wz5.heap.size := Hbz5.out.lt
            go_upto_region 21 with fail
            clear qb0_5 qb1_5 qb2_5 qb3_5 qb4_5 lb_5
            have hq := HQW.out
            have hmz : ¬ ((n : Int)) = 0 := by omega
            have hmz2 : (((n : Int)) == 0) = false := beq_false_of_ne hmz
            refine wp_region_held_drew (S := (fun W => W.cell? ⟨wz1.heap.size, 0, none⟩ = some (.int .i64 (sz : Nat)) ∧ W.cell? ⟨wz1.heap.size, 1, none⟩ = some (.int .i64 (n : Nat)) ∧ W.cell? ⟨wz1.heap.size, 2, none⟩ = some (.int .i64 bu) ∧ W.cell? ⟨wz1.heap.size, 3, none⟩ = some (.int .i64 br) ∧ W.cell? ⟨wz1.heap.size, 4, none⟩ = some (.int .i64 bl))) (by kernel_rfl) ⟨Hbz5.out.cell 0, Hbz5.out.cell 1, Hbz5.out.cell 2, Hbz5.out.cell 3, Hbz5.out.cell 4⟩ (fun hHeld => ?_)
            refine regTake 0 (some 130) (v := ?_) rfl rfl (by kernel_rfl) (by kernel_rfl) (by kernel_rfl) (fun _ _ _ h => h) (by rfl) hHeld ?_ ?_
            rotate_left 1
            · (intro w hSw; (try dsimp only at hSw); go_simp; try with_reducible rfl)
            simp only [Act.put, List.setIfInBounds_toArray, List.set_cons_zero, List.set_cons_succ]
            refine regTake 1 (some 131) (v := ?_) rfl rfl (by kernel_rfl) (by kernel_rfl) (by kernel_rfl) (fun _ _ _ h => h) (by rfl) hHeld ?_ ?_
            rotate_left 1
            · (intro w hSw; (try dsimp only at hSw); go_simp; try with_reducible rfl)
            simp only [Act.put, List.setIfInBounds_toArray, List.set_cons_zero, List.set_cons_succ]
            refine regTake 2 (some 132) (v := ?_) rfl rfl (by kernel_rfl) (by kernel_rfl) (by kernel_rfl) (fun _ _ _ h => h) (by rfl) hHeld ?_ ?_
            rotate_left 1
            · (intro w hSw; (try dsimp only at hSw); go_simp; try with_reducible rfl)
            simp only [Act.put, List.setIfInBounds_toArray, List.set_cons_zero, List.set_cons_succ]
            refine regTake 3 (some 133) (v := ?_) rfl rfl (by kernel_rfl) (by kernel_rfl) (by kernel_rfl) (fun _ _ _ h => h) (by rfl) hHeld ?_ ?_
            rotate_left 1
            · (intro w hSw; (try dsimp only at hSw); go_simp; try with_reducible rfl)
            simp only [Act.put, List.setIfInBounds_toArray, List.set_cons_zero, List.set_cons_succ]
            refine regTake 4 (some 134) (v := ?_) rfl rfl (by kernel_rfl) (by kernel_rfl) (by kernel_rfl) (fun _ _ _ h => h) (by rfl) hHeld ?_ ?_
            rotate_left 1
            · (intro w hSw; (try dsimp only at hSw); go_simp; try with_reducible rfl)
            simp only [Act.put, List.setIfInBounds_toArray, List.set_cons_zero, List.set_cons_succ]
            refine regCall 5 (some 135) (f := 16) (args := ?_) rfl rfl (by kernel_rfl) (by rfl) ?_ ?_
            rotate_left 1
            · (go_simp; try with_reducible rfl)
            refine (HW3.out _).mono ?_
            rintro e wx5 ⟨rfl, k6⟩
            refine ⟨_, rfl, ⟨(Hbz5.out.step k6 rfl).cell 0, (Hbz5.out.step k6 rfl).cell 1, (Hbz5.out.step k6 rfl).cell 2, (Hbz5.out.step k6 rfl).cell 3, (Hbz5.out.step k6 rfl).cell 4⟩, fun hHeld => ?_⟩
            simp only [Act.put, List.setIfInBounds_toArray, List.set_cons_zero, List.set_cons_succ]
            have HBs := Lib.hid (HBz5.out.drew.trans (k6.mono HBz5.out.drew.size))
            have Hs0 := Lib.hid (Hbz5.out.step k6 rfl)
            clear k6
            refine regTake 6 (some 129) (v := ?_) rfl rfl (by kernel_rfl) (by kernel_rfl) (by kernel_rfl) (fun _ _ _ h => h) (by rfl) hHeld ?_ ?_
            rotate_left 1
            · (intro w hSw; (try dsimp only at hSw); go_simp; try with_reducible rfl)
            simp only [Act.put, List.setIfInBounds_toArray, List.set_cons_zero, List.set_cons_succ]
            refine regTake 7 (some 136) (v := ?_) rfl rfl (by kernel_rfl) (by kernel_rfl) (by kernel_rfl) (fun _ _ _ h => h) (by rfl) hHeld ?_ ?_
            rotate_left 1
            · (intro w hSw; (try dsimp only at hSw); go_simp; try with_reducible rfl)
            simp only [Act.put, List.setIfInBounds_toArray, List.set_cons_zero, List.set_cons_succ]
            refine regTake 8 (some 137) (v := ?_) rfl rfl (by kernel_rfl) (by kernel_rfl) (by kernel_rfl) (fun _ _ _ h => h) (by rfl) hHeld ?_ ?_
            rotate_left 1
            · (intro w hSw; (try dsimp only at hSw); go_simp; try with_reducible rfl)
            simp only [Act.put, List.setIfInBounds_toArray, List.set_cons_zero, List.set_cons_succ]
            refine regTake 9 (some 17) (v := ?_) rfl rfl (by kernel_rfl) (by kernel_rfl) (by kernel_rfl) (fun _ _ _ h => h) (by rfl) hHeld ?_ ?_
            rotate_left 1
            · (intro w hSw; (try dsimp only at hSw); go_simp; try with_reducible rfl)
            simp only [Act.put, List.setIfInBounds_toArray, List.set_cons_zero, List.set_cons_succ]
            refine regTake 10 (some 18) (v := ?_) rfl rfl (by kernel_rfl) (by kernel_rfl) (by kernel_rfl) (fun _ _ _ h => h) (by rfl) hHeld ?_ ?_
            rotate_left 1
            · (intro w hSw; (try dsimp only at hSw); go_simp; try with_reducible rfl)
            simp only [Act.put, List.setIfInBounds_toArray, List.set_cons_zero, List.set_cons_succ]
            refine wpAnyH_done (by kernel_rfl) ?_ _
            clear hHeld hq
            go_wp2
            go_ret
            exact ⟨rfl, HBs.out⟩
          · have g3 : (br % ((n : Int)) == 0) = false := beq_false_of_ne k3
            have g4 : (br % ((n : Int)) != 0) = true := by simp [k3]
            clear hz hme hhig k3
            clear HLOW HHIG HWF HZ0 HME HMW HWI HH
            go_upto_region 5 with fail
            have hcz1 := HMD.out w2 HRV.out
            go_wp2_with fail
            refine hcz1.mono ?_
            rintro e wz1 ⟨rfl, kz1⟩
            clear hcz1
            have HBz1 := Lib.hid (HB2.out.trans (kz1.mono (Nat.le_trans hbase HB2.out.size)))
            clear kz1
            obtain ⟨wz2, hwz2⟩ : ∃ wz2, wz1.alloc (.cells #[.int .i64 (sz : Nat), .int .i64 (n : Nat), .int .i64 bu, .int .i64 br, .int .i64 bl] 23) = wz2 := ⟨_, rfl⟩
            have kz2 : Below wz1.heap.size wz1 wz2 := by rw [← hwz2]; exact (Below.refl _ _).alloc (Nat.le_refl _) _
            have Hbz2 := Lib.hid (show Has wz2 wz1.heap.size [.int .i64 (sz : Nat), .int .i64 (n : Nat), .int .i64 bu, .int .i64 br, .int .i64 bl] 23 by rw [← hwz2]; exact Has.new _ _ _)
            have HWz2 := Lib.hid hwz2
            clear hwz2
            have HBz2 := Lib.hid (HBz1.out.trans (kz2.mono (Nat.le_trans hbase HBz1.out.size)))
            clear kz2
            go_upto_region 6 with fail
            rw [HWz2.out]
            have hcz3 := HAL.out wz2
            go_wp2_with fail
            refine hcz3.mono ?_
            rintro e wz3 ⟨rfl, kz3⟩
            clear hcz3
            have HBz3 := Lib.hid (HBz2.out.trans (kz3.mono (Nat.le_trans hbase HBz2.out.size)))
            have Hbz3 := Lib.hid (Hbz2.out.call kz3)
            clear kz3
            have qb0_3 : wz3.cell? ⟨wz1.heap.size, 0, none⟩ = some (.int .i64 (sz : Nat)) := Hbz3.out.cell 0
            have qb1_3 : wz3.cell? ⟨wz1.heap.size, 1, none⟩ = some (.int .i64 (n : Nat)) := Hbz3.out.cell 1
            have qb2_3 : wz3.cell? ⟨wz1.heap.size, 2, none⟩ = some (.int .i64 bu) := Hbz3.out.cell 2
            have qb3_3 : wz3.cell? ⟨wz1.heap.size, 3, none⟩ = some (.int .i64 br) := Hbz3.out.cell 3
            have qb4_3 : wz3.cell? ⟨wz1.heap.size, 4, none⟩ = some (.int .i64 bl) := Hbz3.out.cell 4
            have lb_3 : wz1.heap.size < wz3.heap.size := Hbz3.out.lt
            have hcz4 := HW1.out wz3
            go_wp2_with fail
            refine hcz4.mono ?_
            rintro e wz4 ⟨rfl, kz4⟩
            clear hcz4 qb0_3 qb1_3 qb2_3 qb3_3 qb4_3 lb_3
            have HBz4 := Lib.hid (HBz3.out.trans (kz4.mono (Nat.le_trans hbase HBz3.out.size)))
            have Hbz4 := Lib.hid (Hbz3.out.call kz4)
            clear kz4
            have qb0_4 : wz4.cell? ⟨wz1.heap.size, 0, none⟩ = some (.int .i64 (sz : Nat)) := Hbz4.out.cell 0
            have qb1_4 : wz4.cell? ⟨wz1.heap.size, 1, none⟩ = some (.int .i64 (n : Nat)) := Hbz4.out.cell 1
            have qb2_4 : wz4.cell? ⟨wz1.heap.size, 2, none⟩ = some (.int .i64 bu) := Hbz4.out.cell 2
            have qb3_4 : wz4.cell? ⟨wz1.heap.size, 3, none⟩ = some (.int .i64 br) := Hbz4.out.cell 3
            have qb4_4 : wz4.cell? ⟨wz1.heap.size, 4, none⟩ = some (.int .i64 bl) := Hbz4.out.cell 4
            have lb_4 : wz1.heap.size < wz4.heap.size := Hbz4.out.lt
            have hcz5 := HW2.out wz4
            go_wp2_with fail
            refine hcz5.mono ?_
            rintro e wz5 ⟨rfl, kz5⟩
            clear hcz5 qb0_4 qb1_4 qb2_4 qb3_4 qb4_4 lb_4
            have HBz5 := Lib.hid (HBz4.out.trans (kz5.mono (Nat.le_trans hbase HBz4.out.size)))
            have Hbz5 := Lib.hid (Hbz4.out.call kz5)
            clear kz5
            have qb0_5 : wz5.cell? ⟨wz1.heap.size, 0, none⟩ = some (.int .i64 (sz : Nat)) := Hbz5.out.cell 0
            have qb1_5 : wz5.cell? ⟨wz1.heap.size, 1, none⟩ = some (.int .i64 (n : Nat)) := Hbz5.out.cell 1
            have qb2_5 : wz5.cell? ⟨wz1.heap.size, 2, none⟩ = some (.int .i64 bu) := Hbz5.out.cell 2
            have qb3_5 : wz5.cell? ⟨wz1.heap.size, 3, none⟩ = some (.int .i64 br) := Hbz5.out.cell 3
            have qb4_5 : wz5.cell? ⟨wz1.heap.size, 4, none⟩ = some (.int .i64 bl) := Hbz5.out.cell 4
            have lb_5 : wz1.heap.size < wz5.heap.size := Hbz5.out.lt
            go_wp2
            go_ret
            exact ⟨rfl, HBz5.out⟩
end Go.Proofs.Ytfafkdbflmennaa
