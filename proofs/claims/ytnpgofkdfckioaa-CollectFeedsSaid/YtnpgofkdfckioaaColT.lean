/- The law of CollectFeeds. -/
import Derived.Test.YtnpgofkdfckioaaColS
namespace Go.Proofs.Ytnpgofkdfckioaa
open Go.RowKit

theorem sameB_self (s lo hi : Int) (xs : List Int) : sameB s lo hi s lo hi xs xs = true := by simp [sameB]
set_option maxHeartbeats 4000000 in
set_option maxRecDepth 100000 in
theorem feeds_walk (s lo hi : Int) (xs l : List Int) (v vl : Value) (w : World) (hr : ReadsI w v xs) (hl : ReadsI w vl l) :
    Calls Try.prog 4 #[.agg #[.int .i64 s, .int .i64 lo, .int .i64 hi, v], vl] w fun e w' => e = .returned (.bool true) ∧ Below w.heap.size w w' := by
  obtain ⟨al, cl, rfl, hll, hlm, -⟩ := id hl
  obtain ⟨ao, cap, rfl, hlc, hcm, -⟩ := id hr
  obtain ⟨nl, hnl⟩ : ∃ nl, l.length = nl := ⟨_, rfl⟩
  obtain ⟨n, hn⟩ : ∃ n, xs.length = n := ⟨_, rfl⟩
  rw [hnl] at hll hl ⊢
  rw [hn] at hlc hr ⊢
  obtain ⟨k, hk⟩ : ∃ k, k = min n 12 := ⟨_, rfl⟩
  obtain ⟨m, hm⟩ : ∃ m, m = min nl 200 := ⟨_, rfl⟩
  have hfew := fun W => few10_any s lo hi ao n cap k W hk hlc hcm
  unfold maxLen at hlm hcm
  have HX := Lib.hid (hr.few 12 k hk)
  have HL := Lib.hid (hl.few 200 m hm)
  have hkl : (xs.take 12).length = k := by rw [List.length_take, hn, hk, Nat.min_comm]
  have hml : (l.take 200).length = m := by rw [List.length_take, hnl, hm, Nat.min_comm]
  have hm2 : m ≤ 200 := by omega
  have hB := (Below.refl w.heap.size w).alloc (Nat.le_refl _) (.cells #[.int .i64 s, .int .i64 lo, .int .i64 hi, .slice ao n cap] 24)
  have hx := Has.new w [.int .i64 s, .int .i64 lo, .int .i64 hi, .slice ao n cap] 24
  have hs1 : (w.alloc (.cells #[.int .i64 s, .int .i64 lo, .int .i64 hi, .slice ao n cap] 24)).heap.size = w.heap.size + 1 := by simp
  have HB := Lib.hid hB
  have HXB := Lib.hid hx
  have HM := Lib.hid hm
  have HCL := Lib.hid (And.intro hlm hll)
  clear hr hl hn hnl hk hm hB hx
  generalize xs.take 12 = xs at *
  generalize l.take 200 = l at *
  go_enter Try.func4, Try.ntmps4
  go_upto_region 1 with fail
  go_cut [1] (fun s1 wx => s1 = .slice al m cl ∧ Below w.heap.size w wx ∧ Has wx w.heap.size [.int .i64 s, .int .i64 lo, .int .i64 hi, .slice ao k cap] 24)
  case first =>
    have hll := HCL.out.2
    have hlm := HCL.out.1
    have hm := HM.out
    rcases Nat.lt_or_ge 200 nl with c | c
    · obtain rfl : m = 200 := by omega
      have g1 : (200 : Int) < (nl : Int) := by omega
      have g2 : min (nl : Int) 200 = 200 := by omega
      have hsl : ∀ W, (Instr.slice 22 (.slice al nl cl) none (some (.int .i64 200)) none).run Try.prog W = .ok (.slice al 200 cl) W := slice_hi al nl cl 200 (by omega)
      clear hm
      go_region_with (go_at_call 7; refine (hfew _).mono ?_; rintro e w2 ⟨rfl, k2⟩; (have hx2 : Has w2 w.heap.size [.int .i64 s, .int .i64 lo, .int .i64 hi, .slice ao n cap] 24 := HXB.out.of (k2.block w.heap.size (by simp))); (have hb2 : Below w.heap.size w w2 := by first | exact HB.out.trans (k2.mono (by simp)) | exact HB.out.drew.trans (k2.mono (by simp)) | exact HB.out.drew.drew.trans (k2.mono (by simp)) | exact HB.out.drew.drew.drew.trans (k2.mono (by simp))); (have HX2 := Lib.hid hx2); (have HB2 := Lib.hid hb2); (have x0 : w2.cell? ⟨w.heap.size, 0, none⟩ = some (.int .i64 s) := hx2.cell 0); (have x1 : w2.cell? ⟨w.heap.size, 1, none⟩ = some (.int .i64 lo) := hx2.cell 1); (have x2 : w2.cell? ⟨w.heap.size, 2, none⟩ = some (.int .i64 hi) := hx2.cell 2); (have x3 : w2.cell? ⟨w.heap.size, 3, none⟩ = some (.slice ao n cap) := hx2.cell 3); (have f0 : w2.frozen? ⟨w.heap.size, 0, none⟩ = false := hx2.frozen 0); (have f1 : w2.frozen? ⟨w.heap.size, 1, none⟩ = false := hx2.frozen 1); (have f2 : w2.frozen? ⟨w.heap.size, 2, none⟩ = false := hx2.frozen 2); (have f3 : w2.frozen? ⟨w.heap.size, 3, none⟩ = false := hx2.frozen 3); clear hx2 hb2 k2)
      all_goals (go_wp2_with fail; go_meet)
      all_goals (exact ⟨rfl, by first | exact Below.put4 HB2.out (Nat.le_refl _) _ _ _ _ | exact Below.drew (Below.put4 HB2.out (Nat.le_refl _) _ _ _ _) | exact Below.drew (Below.drew (Below.put4 HB2.out (Nat.le_refl _) _ _ _ _)) | exact Below.drew (Below.drew (Below.drew (Below.put4 HB2.out (Nat.le_refl _) _ _ _ _))), HX2.out.put4 _ _ _ _⟩)
    · obtain rfl : m = nl := by omega
      have g1 : ¬ (200 : Int) < (m : Int) := by omega
      have g2 : min (m : Int) 200 = (m : Int) := by omega
      have hsl : ∀ W, (Instr.slice 22 (.slice al m cl) none (some (.int .i64 (m : Int))) none).run Try.prog W = .ok (.slice al m cl) W := slice_hi al m cl m (by omega)
      clear hm
      go_region_with (go_at_call 7; refine (hfew _).mono ?_; rintro e w2 ⟨rfl, k2⟩; (have hx2 : Has w2 w.heap.size [.int .i64 s, .int .i64 lo, .int .i64 hi, .slice ao n cap] 24 := HXB.out.of (k2.block w.heap.size (by simp))); (have hb2 : Below w.heap.size w w2 := by first | exact HB.out.trans (k2.mono (by simp)) | exact HB.out.drew.trans (k2.mono (by simp)) | exact HB.out.drew.drew.trans (k2.mono (by simp)) | exact HB.out.drew.drew.drew.trans (k2.mono (by simp))); (have HX2 := Lib.hid hx2); (have HB2 := Lib.hid hb2); (have x0 : w2.cell? ⟨w.heap.size, 0, none⟩ = some (.int .i64 s) := hx2.cell 0); (have x1 : w2.cell? ⟨w.heap.size, 1, none⟩ = some (.int .i64 lo) := hx2.cell 1); (have x2 : w2.cell? ⟨w.heap.size, 2, none⟩ = some (.int .i64 hi) := hx2.cell 2); (have x3 : w2.cell? ⟨w.heap.size, 3, none⟩ = some (.slice ao n cap) := hx2.cell 3); (have f0 : w2.frozen? ⟨w.heap.size, 0, none⟩ = false := hx2.frozen 0); (have f1 : w2.frozen? ⟨w.heap.size, 1, none⟩ = false := hx2.frozen 1); (have f2 : w2.frozen? ⟨w.heap.size, 2, none⟩ = false := hx2.frozen 2); (have f3 : w2.frozen? ⟨w.heap.size, 3, none⟩ = false := hx2.frozen 3); clear hx2 hb2 k2)
      all_goals (go_wp2_with fail; go_meet)
      all_goals (exact ⟨rfl, by first | exact Below.put4 HB2.out (Nat.le_refl _) _ _ _ _ | exact Below.drew (Below.put4 HB2.out (Nat.le_refl _) _ _ _ _) | exact Below.drew (Below.drew (Below.put4 HB2.out (Nat.le_refl _) _ _ _ _)) | exact Below.drew (Below.drew (Below.drew (Below.put4 HB2.out (Nat.le_refl _) _ _ _ _))), HX2.out.put4 _ _ _ _⟩)
  case rest =>
    obtain ⟨rfl, hb1, bH⟩ := hcut
    have hs1 := hb1.size
    have hlt1 := bH.lt
    have b0 : wc.cell? ⟨w.heap.size, 0, none⟩ = some (.int .i64 s) := bH.cell 0
    have b1 : wc.cell? ⟨w.heap.size, 1, none⟩ = some (.int .i64 lo) := bH.cell 1
    have b2 : wc.cell? ⟨w.heap.size, 2, none⟩ = some (.int .i64 hi) := bH.cell 2
    have b3 : wc.cell? ⟨w.heap.size, 3, none⟩ = some (.slice ao k cap) := bH.cell 3
    have HB1 := Lib.hid hb1
    have HB0 := Lib.hid bH
    clear hfew hb1 bH
    cases hg : grightB ⟨s, lo, hi, xs⟩ with
    | false =>
      have hf := feed_no s lo hi xs l _ _ wc (HX.out.below HB1.out) (HL.out.below HB1.out) hg
      have hrr := fun W (h : Below w.heap.size w W) => rright10_any s lo hi xs _ W (HX.out.below h)
      rw [hg] at hrr
      clear hg
      go_wp2_with fail
      refine hf.mono ?_
      rintro e w2 ⟨rfl, k2⟩
      have hs2 := k2.size
      have hb3 := (HB1.out.trans (k2.mono hs1)).alloc (by omega) (.cells #[.int .i64 0, .int .i64 0, .int .i64 0, .slice none 0 0] 24)
      have bH := (HB0.out.call k2).alloc (.cells #[.int .i64 0, .int .i64 0, .int .i64 0, .slice none 0 0] 24)
      have aH := Has.new w2 [.int .i64 0, .int .i64 0, .int .i64 0, .slice none 0 0] 24
      have hr3 := hrr _ hb3
      have HB3 := Lib.hid hb3
      have HA3 := Lib.hid aH
      have hs3 : (w2.alloc (.cells #[.int .i64 0, .int .i64 0, .int .i64 0, .slice none 0 0] 24)).heap.size = w2.heap.size + 1 := by simp
      have c0 : w2.cell? ⟨w.heap.size, 0, none⟩ = some (.int .i64 s) := (HB0.out.call k2).cell 0
      have c1 : w2.cell? ⟨w.heap.size, 1, none⟩ = some (.int .i64 lo) := (HB0.out.call k2).cell 1
      have c2 : w2.cell? ⟨w.heap.size, 2, none⟩ = some (.int .i64 hi) := (HB0.out.call k2).cell 2
      have c3 : w2.cell? ⟨w.heap.size, 3, none⟩ = some (.slice ao k cap) := (HB0.out.call k2).cell 3
      have hlt2 : w.heap.size < w2.heap.size := by omega
      clear hf k2 b0 b1 b2 b3 hrr hb3 bH aH
      go_wp2_with fail
      refine hr3.mono ?_
      rintro e w4 ⟨rfl, k4⟩
      have hs4 := k4.size
      rw [hs3] at hs4
      have HB4 := Lib.hid (HB3.out.trans (k4.mono (by omega)))
      have HA4 := Lib.hid (HA3.out.call k4)
      have hal := alive10_any w4
      clear hr3 k4 c0 c1 c2 c3 hs3
      go_wp2_with fail
      refine hal.mono ?_
      rintro e w5 ⟨rfl, k5⟩
      have hs5 := k5.size
      have HB5 := Lib.hid (HB4.out.trans (k5.mono (by omega)))
      have aH := HA4.out.call k5
      have a0 : w5.cell? ⟨w2.heap.size, 0, none⟩ = some (.int .i64 0) := aH.cell 0
      have a1 : w5.cell? ⟨w2.heap.size, 1, none⟩ = some (.int .i64 0) := aH.cell 1
      have a2 : w5.cell? ⟨w2.heap.size, 2, none⟩ = some (.int .i64 0) := aH.cell 2
      have a3 : w5.cell? ⟨w2.heap.size, 3, none⟩ = some (.slice none 0 0) := aH.cell 3
      have hsm := same10_any 0 0 0 0 0 0 [] [] (.slice none 0 0) (.slice none 0 0) w5 (ReadsI.nil _) (ReadsI.nil _)
      rw [sameB_self] at hsm
      clear hal k5 aH
      go_wp2_with fail
      refine hsm.mono ?_
      rintro e w6 ⟨rfl, k6⟩
      have HB6 := Lib.hid (HB5.out.trans (k6.mono (by omega)))
      clear hsm k6 a0 a1 a2 a3
      go_wp2
      go_ret
      exact ⟨rfl, HB6.out⟩
    | true =>
      have hf := feed_any s lo hi xs l _ _ wc (HX.out.below HB1.out) (HL.out.below HB1.out) (by omega) hg
      have hrr := fun W (h : Below w.heap.size w W) => rright10_any s lo hi xs _ W (HX.out.below h)
      have hrf := fun W (h : Below w.heap.size w W) => rfeed10_any s lo hi xs l _ _ W (HX.out.below h) (HL.out.below h) (by omega) hg
      rw [hg] at hrr
      obtain ⟨R, hR⟩ : ∃ R, feedN ⟨s, lo, hi, xs⟩ l = R := ⟨_, rfl⟩
      rw [hR] at hf hrf
      obtain ⟨⟨s', lo', hi', ys⟩, L, r⟩ := R
      dsimp only at hf hrf
      clear hg hR
      go_wp2_with fail
      refine hf.mono ?_
      rintro e w2 ⟨v1, r1, rfl, hv1, hr1, k2⟩
      obtain ⟨av, cv, rfl, -⟩ := id hv1
      obtain ⟨ar, cr, rfl, -⟩ := id hr1
      obtain ⟨yn, hyn⟩ : ∃ yn, ys.length = yn := ⟨_, rfl⟩
      obtain ⟨Ln, hLn⟩ : ∃ Ln, L.length = Ln := ⟨_, rfl⟩
      rw [hyn] at hv1 ⊢
      rw [hLn] at hr1 ⊢
      have HV1 := Lib.hid hv1
      have HR1 := Lib.hid hr1
      have HK := Lib.hid k2
      clear hv1 hr1 hyn hLn k2
      have hs2 := HK.out.size
      obtain ⟨w3, hw3⟩ : ∃ w3, w2.alloc (.cells #[.int .i64 s, .int .i64 lo, .int .i64 hi, .slice av yn cv] 24) = w3 := ⟨_, rfl⟩
      have k3 : Below w2.heap.size w2 w3 := by rw [← hw3]; exact (Below.refl _ _).alloc (Nat.le_refl _) _
      have HB3 := Lib.hid ((HB1.out.trans (HK.out.mono hs1)).trans (k3.mono (by omega)))
      have HV3 := Lib.hid (HV1.out.below k3)
      have HR3 := Lib.hid (HR1.out.below k3)
      have HA3 := Lib.hid (show Has w3 w2.heap.size [.int .i64 s, .int .i64 lo, .int .i64 hi, .slice av yn cv] 24 by rw [← hw3]; exact Has.new _ _ _)
      have HB03 := Lib.hid ((HB0.out.call HK.out).call k3)
      have hs3 : w3.heap.size = w2.heap.size + 1 := by rw [← hw3]; simp
      have hr3 := hrr w3 HB3.out
      have c0 : w2.cell? ⟨w.heap.size, 0, none⟩ = some (.int .i64 s) := (HB0.out.call HK.out).cell 0
      have c1 : w2.cell? ⟨w.heap.size, 1, none⟩ = some (.int .i64 lo) := (HB0.out.call HK.out).cell 1
      have c2 : w2.cell? ⟨w.heap.size, 2, none⟩ = some (.int .i64 hi) := (HB0.out.call HK.out).cell 2
      have c3 : w2.cell? ⟨w.heap.size, 3, none⟩ = some (.slice ao k cap) := (HB0.out.call HK.out).cell 3
      have hlt2 : w.heap.size < w2.heap.size := by omega
      have HW3 := Lib.hid hw3
      clear hf b0 b1 b2 b3 hrr k3 hw3
      go_wp2_with fail
      rw [HW3.out]
      refine hr3.mono ?_
      rintro e w4 ⟨rfl, k4⟩
      have hs4 := k4.size
      have HB4 := Lib.hid (HB3.out.trans (k4.mono (by omega)))
      have HV4 := Lib.hid (HV3.out.below k4)
      have HR4 := Lib.hid (HR3.out.below k4)
      have HA4 := Lib.hid (HA3.out.call k4)
      have bH := HB03.out.call k4
      have b0 : w4.cell? ⟨w.heap.size, 0, none⟩ = some (.int .i64 s) := bH.cell 0
      have b1 : w4.cell? ⟨w.heap.size, 1, none⟩ = some (.int .i64 lo) := bH.cell 1
      have b2 : w4.cell? ⟨w.heap.size, 2, none⟩ = some (.int .i64 hi) := bH.cell 2
      have b3 : w4.cell? ⟨w.heap.size, 3, none⟩ = some (.slice ao k cap) := bH.cell 3
      have hr4 := hrf w4 HB4.out
      clear hr3 k4 c0 c1 c2 c3 hrf bH
      go_wp2_with fail
      refine hr4.mono ?_
      rintro e w5 ⟨v2, r2, rfl, hv2, hr2, k5⟩
      obtain ⟨aw, cw, rfl, -⟩ := id hv2
      obtain ⟨aq, cq, rfl, -⟩ := id hr2
      obtain ⟨yn2, hyn⟩ : ∃ yn2, ys.length = yn2 := ⟨_, rfl⟩
      obtain ⟨Ln2, hLn⟩ : ∃ Ln2, L.length = Ln2 := ⟨_, rfl⟩
      rw [hyn] at hv2 ⊢
      rw [hLn] at hr2 ⊢
      clear hyn hLn
      have hs5 := k5.size
      obtain ⟨w6, hw6⟩ : ∃ w6, w5.alloc (.cells #[.int .i64 s, .int .i64 lo, .int .i64 hi, .slice aw yn2 cw] 24) = w6 := ⟨_, rfl⟩
      have k6 : Below w5.heap.size w5 w6 := by rw [← hw6]; exact (Below.refl _ _).alloc (Nat.le_refl _) _
      have HB6 := Lib.hid ((HB4.out.trans (k5.mono (by omega))).trans (k6.mono (by omega)))
      have HV6 := Lib.hid ((HV4.out.below k5).below k6)
      have HR6 := Lib.hid ((HR4.out.below k5).below k6)
      have HV6' := Lib.hid (hv2.below k6)
      have HR6' := Lib.hid (hr2.below k6)
      have HA6 := Lib.hid ((HA4.out.call k5).call k6)
      have HC6 := Lib.hid (show Has w6 w5.heap.size [.int .i64 s, .int .i64 lo, .int .i64 hi, .slice aw yn2 cw] 24 by rw [← hw6]; exact Has.new _ _ _)
      have hs6 : w6.heap.size = w5.heap.size + 1 := by rw [← hw6]; simp
      have hal := alive10_any w6
      have HW6 := Lib.hid hw6
      clear hr4 hv2 hr2 k5 k6 hw6 b0 b1 b2 b3
      go_wp2_with fail
      rw [HW6.out]
      refine hal.mono ?_
      rintro e w7 ⟨rfl, k7⟩
      have hs7 := k7.size
      have HB7 := Lib.hid (HB6.out.trans (k7.mono (by omega)))
      have HV7 := Lib.hid (HV6.out.below k7)
      have HR7 := Lib.hid (HR6.out.below k7)
      have HV7' := Lib.hid (HV6'.out.below k7)
      have HR7' := Lib.hid (HR6'.out.below k7)
      have aH := HA6.out.call k7
      have cH := HC6.out.call k7
      have a0 : w7.cell? ⟨w2.heap.size, 0, none⟩ = some (.int .i64 s) := aH.cell 0
      have a1 : w7.cell? ⟨w2.heap.size, 1, none⟩ = some (.int .i64 lo) := aH.cell 1
      have a2 : w7.cell? ⟨w2.heap.size, 2, none⟩ = some (.int .i64 hi) := aH.cell 2
      have a3 : w7.cell? ⟨w2.heap.size, 3, none⟩ = some (.slice av yn cv) := aH.cell 3
      have c0 : w7.cell? ⟨w5.heap.size, 0, none⟩ = some (.int .i64 s) := cH.cell 0
      have c1 : w7.cell? ⟨w5.heap.size, 1, none⟩ = some (.int .i64 lo) := cH.cell 1
      have c2 : w7.cell? ⟨w5.heap.size, 2, none⟩ = some (.int .i64 hi) := cH.cell 2
      have c3 : w7.cell? ⟨w5.heap.size, 3, none⟩ = some (.slice aw yn2 cw) := cH.cell 3
      have hsm := same10_any s lo hi s lo hi ys ys _ _ w7 HV7.out HV7'.out
      rw [sameB_self] at hsm
      clear hal k7 aH cH
      go_wp2_with fail
      refine hsm.mono ?_
      rintro e w8 ⟨rfl, k8⟩
      have hs8 := k8.size
      have HB8 := Lib.hid (HB7.out.trans (k8.mono (by omega)))
      have hro := rows_any L L _ _ w8 (HR7.out.below k8) (HR7'.out.below k8)
      rw [decide_eq_true rfl] at hro
      clear hsm k8 a0 a1 a2 a3 c0 c1 c2 c3
      go_wp2_with fail
      refine hro.mono ?_
      rintro e w9 ⟨rfl, m9, rfl⟩
      have HB9 := Lib.hid (Below.drewN HB8.out m9)
      clear hro
      go_wp2
      go_ret
      exact ⟨rfl, HB9.out⟩
end Go.Proofs.Ytnpgofkdfckioaa
