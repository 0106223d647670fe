/- The law of CollectAdds. -/
import Derived.Test.YtnpgofkdfckioaaColS
namespace Go.Proofs.Ytnpgofkdfckioaa
open Go.RowKit

theorem sameB_refl (s lo hi : Int) (xs : List Int) : sameB s lo hi s lo hi xs xs = true := by simp [sameB]
theorem Has.step {w W w' : World} {b : Nat} {cs : List Value} {T : TypeId} (h : Has w b cs T) (k : Below W.heap.size W w') (e : W.heap = w.heap) : Has w' b cs T :=
  h.of ((k.block b (by rw [e]; exact h.lt)).trans (by rw [e]))
theorem ReadsI.step {w W w' : World} {v : Value} {xs : List Int} (h : ReadsI w v xs) (k : Below W.heap.size W w') (e : W.heap = w.heap) : ReadsI w' v xs := by
  obtain ⟨ao, cap, h1, h2, h3, h4⟩ := h
  refine ⟨ao, cap, h1, h2, h3, fun i hi => ?_⟩
  obtain ⟨b, off, h5, h6, h7⟩ := h4 i hi
  refine ⟨b, off, h5, by have := k.size; rw [e] at this; omega, ?_⟩
  rw [← h7]
  exact World.cell?_of_block (w := w) ((k.block b (by rw [e]; exact h6)).trans (by rw [e]))
set_option maxHeartbeats 4000000 in
set_option maxRecDepth 100000 in
theorem adds_walk (a b c s lo hi x : Int) (xs : List Int) (v : Value) (w : World) (hr : ReadsI w v xs) :
    Calls Try.prog 3 #[.int .i64 a, .int .i64 b, .int .i64 c, .agg #[.int .i64 s, .int .i64 lo, .int .i64 hi, v], .int .i64 x] w fun e w' => e = .returned (.bool true) ∧ Below w.heap.size w w' := by
  obtain ⟨ao, cap, rfl, hlc, hcm, -⟩ := id hr
  obtain ⟨n, hn⟩ : ∃ n, xs.length = n := ⟨_, rfl⟩
  rw [hn] at hlc hr ⊢
  obtain ⟨k, hk⟩ : ∃ k, k = min n 12 := ⟨_, rfl⟩
  have hfew := few10_any s lo hi ao n cap k (w.alloc (.cells #[.int .i64 s, .int .i64 lo, .int .i64 hi, .slice ao n cap] 24)) hk hlc hcm
  unfold maxLen at hcm
  have HX := Lib.hid (hr.few 12 k hk)
  have hkl : (xs.take 12).length = k := by rw [List.length_take, hn, hk, Nat.min_comm]
  have hB := (Below.refl w.heap.size w).alloc (Nat.le_refl _) (.cells #[.int .i64 s, .int .i64 lo, .int .i64 hi, .slice ao n cap] 24)
  have hx := Has.new w [.int .i64 s, .int .i64 lo, .int .i64 hi, .slice ao n cap] 24
  have hs1 : (w.alloc (.cells #[.int .i64 s, .int .i64 lo, .int .i64 hi, .slice ao n cap] 24)).heap.size = w.heap.size + 1 := by simp
  have HB := Lib.hid hB
  have HXB := Lib.hid hx
  have hbase := Nat.le_refl w.heap.size
  have hk12 : k ≤ 12 := by omega
  clear hr hn hk hB hx
  generalize xs.take 12 = xs at *
  go_enter Try.func3, Try.ntmps3
  go_wp2_with fail
  refine hfew.mono ?_
  rintro e w2 ⟨rfl, k2⟩
  have hs2 := k2.size
  rw [hs1] at hs2
  have bH := HXB.out.call k2
  have p0 : w2.cell? ⟨w.heap.size, 0, none⟩ = some (.int .i64 s) := bH.cell 0
  have p1 : w2.cell? ⟨w.heap.size, 1, none⟩ = some (.int .i64 lo) := bH.cell 1
  have p2 : w2.cell? ⟨w.heap.size, 2, none⟩ = some (.int .i64 hi) := bH.cell 2
  have p3 : w2.cell? ⟨w.heap.size, 3, none⟩ = some (.slice ao n cap) := bH.cell 3
  have pf0 : w2.frozen? ⟨w.heap.size, 0, none⟩ = false := bH.frozen 0
  have pf1 : w2.frozen? ⟨w.heap.size, 1, none⟩ = false := bH.frozen 1
  have pf2 : w2.frozen? ⟨w.heap.size, 2, none⟩ = false := bH.frozen 2
  have pf3 : w2.frozen? ⟨w.heap.size, 3, none⟩ = false := bH.frozen 3
  obtain ⟨wc, hwc⟩ : ∃ wc, ((((w2.setCell ⟨w.heap.size, 0, none⟩ (.int .i64 s)).setCell ⟨w.heap.size, 1, none⟩ (.int .i64 lo)).setCell ⟨w.heap.size, 2, none⟩ (.int .i64 hi)).setCell ⟨w.heap.size, 3, none⟩ (.slice ao k cap)) = wc := ⟨_, rfl⟩
  have HB1 := Lib.hid (show Below w.heap.size w wc by rw [← hwc]; exact Below.put4 (HB.out.trans (k2.mono (by rw [hs1]; omega))) (Nat.le_refl _) _ _ _ _)
  have HB0 := Lib.hid (show Has wc w.heap.size [.int .i64 s, .int .i64 lo, .int .i64 hi, .slice ao k cap] 24 by rw [← hwc]; exact bH.put4 _ _ _ _)
  have HWC := Lib.hid hwc
  clear hfew k2 bH hwc hs1
  go_upto_region 2 with fail
  rw [HWC.out]
  clear p0 p1 p2 p3 pf0 pf1 pf2 pf3 hs2
  cases hsz : sizesB a b c with
  | true =>
    cases hg : grightB ⟨s, lo, hi, xs⟩ with
    | false =>
      have qb0_0 : wc.cell? ⟨w.heap.size, 0, none⟩ = some (.int .i64 s) := HB0.out.cell 0
      have qb1_0 : wc.cell? ⟨w.heap.size, 1, none⟩ = some (.int .i64 lo) := HB0.out.cell 1
      have qb2_0 : wc.cell? ⟨w.heap.size, 2, none⟩ = some (.int .i64 hi) := HB0.out.cell 2
      have qb3_0 : wc.cell? ⟨w.heap.size, 3, none⟩ = some (.slice ao k cap) := HB0.out.cell 3
      have lb_0 : w.heap.size < wc.heap.size := HB0.out.lt
      have hcz1 := new_ok a b c wc hsz
      go_wp2_with fail
      refine hcz1.mono ?_
      rintro e wz1 ⟨rfl, kz1⟩
      clear hcz1 qb0_0 qb1_0 qb2_0 qb3_0 lb_0
      have HBz1 := Lib.hid (HB1.out.trans (kz1.mono (Nat.le_trans hbase HB1.out.size)))
      have Hbz1 := Lib.hid (HB0.out.call kz1)
      clear kz1
      obtain ⟨wz2, hwz2⟩ : ∃ wz2, wz1.alloc (.cells #[.int .i64 a, .int .i64 b, .int .i64 c, .slice none 0 0] 24) = wz2 := ⟨_, rfl⟩
      have kz2 : Below wz1.heap.size wz1 wz2 := by rw [← hwz2]; exact (Below.refl _ _).alloc (Nat.le_refl _) _
      have Hnz2 := Lib.hid (show Has wz2 wz1.heap.size [.int .i64 a, .int .i64 b, .int .i64 c, .slice none 0 0] 24 by rw [← hwz2]; exact Has.new _ _ _)
      have HWz2 := Lib.hid hwz2
      clear hwz2
      have HBz2 := Lib.hid (HBz1.out.trans (kz2.mono (Nat.le_trans hbase HBz1.out.size)))
      have Hbz2 := Lib.hid (Hbz1.out.call kz2)
      clear kz2
      have qb0_2 : wz1.cell? ⟨w.heap.size, 0, none⟩ = some (.int .i64 s) := Hbz1.out.cell 0
      have qb1_2 : wz1.cell? ⟨w.heap.size, 1, none⟩ = some (.int .i64 lo) := Hbz1.out.cell 1
      have qb2_2 : wz1.cell? ⟨w.heap.size, 2, none⟩ = some (.int .i64 hi) := Hbz1.out.cell 2
      have qb3_2 : wz1.cell? ⟨w.heap.size, 3, none⟩ = some (.slice ao k cap) := Hbz1.out.cell 3
      have lb_2 : w.heap.size < wz1.heap.size := Hbz1.out.lt
      have hcz3 := add_no s lo hi x xs _ wz2 (HX.out.below HBz2.out) hg
      go_wp2_with fail
      rw [HWz2.out]
      refine hcz3.mono ?_
      rintro e wz3 ⟨rfl, kz3⟩
      clear hcz3 qb0_2 qb1_2 qb2_2 qb3_2 lb_2
      have HBz3 := Lib.hid (HBz2.out.trans (kz3.mono (Nat.le_trans hbase HBz2.out.size)))
      have Hbz3 := Lib.hid (Hbz2.out.call kz3)
      have Hnz3 := Lib.hid (Hnz2.out.call kz3)
      clear kz3
      obtain ⟨wz4, hwz4⟩ : ∃ wz4, wz3.alloc (.cells #[.int .i64 0, .int .i64 0, .int .i64 0, .slice none 0 0] 24) = wz4 := ⟨_, rfl⟩
      have kz4 : Below wz3.heap.size wz3 wz4 := by rw [← hwz4]; exact (Below.refl _ _).alloc (Nat.le_refl _) _
      have Haz4 := Lib.hid (show Has wz4 wz3.heap.size [.int .i64 0, .int .i64 0, .int .i64 0, .slice none 0 0] 24 by rw [← hwz4]; exact Has.new _ _ _)
      have HWz4 := Lib.hid hwz4
      clear hwz4
      have HBz4 := Lib.hid (HBz3.out.trans (kz4.mono (Nat.le_trans hbase HBz3.out.size)))
      have Hbz4 := Lib.hid (Hbz3.out.call kz4)
      have Hnz4 := Lib.hid (Hnz3.out.call kz4)
      clear kz4
      have qb0_4 : wz3.cell? ⟨w.heap.size, 0, none⟩ = some (.int .i64 s) := Hbz3.out.cell 0
      have qb1_4 : wz3.cell? ⟨w.heap.size, 1, none⟩ = some (.int .i64 lo) := Hbz3.out.cell 1
      have qb2_4 : wz3.cell? ⟨w.heap.size, 2, none⟩ = some (.int .i64 hi) := Hbz3.out.cell 2
      have qb3_4 : wz3.cell? ⟨w.heap.size, 3, none⟩ = some (.slice ao k cap) := Hbz3.out.cell 3
      have lb_4 : w.heap.size < wz3.heap.size := Hbz3.out.lt
      have hcz5 := flush_no s lo hi xs _ wz4 (HX.out.below HBz4.out) hg
      go_wp2_with fail
      rw [HWz4.out]
      refine hcz5.mono ?_
      rintro e wz5 ⟨rfl, kz5⟩
      clear hcz5 qb0_4 qb1_4 qb2_4 qb3_4 lb_4
      have HBz5 := Lib.hid (HBz4.out.trans (kz5.mono (Nat.le_trans hbase HBz4.out.size)))
      have Hbz5 := Lib.hid (Hbz4.out.call kz5)
      have Hnz5 := Lib.hid (Hnz4.out.call kz5)
      have Haz5 := Lib.hid (Haz4.out.call kz5)
      clear kz5
      obtain ⟨wz6, hwz6⟩ : ∃ wz6, wz5.alloc (.cells #[.int .i64 0, .int .i64 0, .int .i64 0, .slice none 0 0] 24) = wz6 := ⟨_, rfl⟩
      have kz6 : Below wz5.heap.size wz5 wz6 := by rw [← hwz6]; exact (Below.refl _ _).alloc (Nat.le_refl _) _
      have Hfz6 := Lib.hid (show Has wz6 wz5.heap.size [.int .i64 0, .int .i64 0, .int .i64 0, .slice none 0 0] 24 by rw [← hwz6]; exact Has.new _ _ _)
      have HWz6 := Lib.hid hwz6
      clear hwz6
      have HBz6 := Lib.hid (HBz5.out.trans (kz6.mono (Nat.le_trans hbase HBz5.out.size)))
      have Hbz6 := Lib.hid (Hbz5.out.call kz6)
      have Hnz6 := Lib.hid (Hnz5.out.call kz6)
      have Haz6 := Lib.hid (Haz5.out.call kz6)
      clear kz6
      go_upto_region 5 with fail
      rw [HWz6.out]
      have qb0_6 : wz6.cell? ⟨w.heap.size, 0, none⟩ = some (.int .i64 s) := Hbz6.out.cell 0
      have qb1_6 : wz6.cell? ⟨w.heap.size, 1, none⟩ = some (.int .i64 lo) := Hbz6.out.cell 1
      have qb2_6 : wz6.cell? ⟨w.heap.size, 2, none⟩ = some (.int .i64 hi) := Hbz6.out.cell 2
      have qb3_6 : wz6.cell? ⟨w.heap.size, 3, none⟩ = some (.slice ao k cap) := Hbz6.out.cell 3
      have lb_6 : w.heap.size < wz6.heap.size := Hbz6.out.lt
      have hr1z := fun W (h : Below w.heap.size w W) => right10_any s lo hi xs _ W (HX.out.below h)
      have hr2z := fun W (h : Below w.heap.size w W) => rright10_any s lo hi xs _ W (HX.out.below h)
      rw [hg] at hr1z hr2z
      have hr3z := fun W (_ : Below w.heap.size w W) => alive10_any W
      go_region_held3 (fun W => W.cell? ⟨w.heap.size, 0, none⟩ = some (.int .i64 s) ∧ W.cell? ⟨w.heap.size, 1, none⟩ = some (.int .i64 lo) ∧ W.cell? ⟨w.heap.size, 2, none⟩ = some (.int .i64 hi) ∧ W.cell? ⟨w.heap.size, 3, none⟩ = some (.slice ao k cap)) (first | exact ⟨y30, y31, y32, y33⟩ | exact ⟨y20, y21, y22, y23⟩ | exact ⟨y10, y11, y12, y13⟩ | exact ⟨qb0_6, qb1_6, qb2_6, qb3_6⟩ | simp [go_sem, *]) (first | (go_at_call 11; refine (hr1z _ (by first | exact HBz6.out | exact Below.drew HBz6.out | exact Below.drew (Below.drew HBz6.out) | exact Below.drew (Below.drew (Below.drew HBz6.out)))).mono ?_; rintro e wr1 ⟨rfl, kr1⟩; (have HBr1 := Lib.hid (show Below w.heap.size w wr1 by first | exact HBz6.out.trans (kr1.mono HBz6.out.size) | exact (Below.drew HBz6.out).trans (kr1.mono HBz6.out.size) | exact (Below.drew (Below.drew HBz6.out)).trans (kr1.mono HBz6.out.size) | exact (Below.drew (Below.drew (Below.drew HBz6.out))).trans (kr1.mono HBz6.out.size))); (have Hbr1 := Lib.hid (show Has wr1 w.heap.size [.int .i64 s, .int .i64 lo, .int .i64 hi, .slice ao k cap] 24 from Hbz6.out.of (kr1.block _ (by exact Hbz6.out.lt)))); (have y10 : wr1.cell? ⟨w.heap.size, 0, none⟩ = some (.int .i64 s) := Hbr1.out.cell 0); (have y11 : wr1.cell? ⟨w.heap.size, 1, none⟩ = some (.int .i64 lo) := Hbr1.out.cell 1); (have y12 : wr1.cell? ⟨w.heap.size, 2, none⟩ = some (.int .i64 hi) := Hbr1.out.cell 2); (have y13 : wr1.cell? ⟨w.heap.size, 3, none⟩ = some (.slice ao k cap) := Hbr1.out.cell 3)) | (go_at_call 12; refine (hr2z _ (by first | exact HBr1.out | exact Below.drew HBr1.out | exact Below.drew (Below.drew HBr1.out) | exact Below.drew (Below.drew (Below.drew HBr1.out)))).mono ?_; rintro e wr2 ⟨rfl, kr2⟩; (have HBr2 := Lib.hid (show Below w.heap.size w wr2 by first | exact HBr1.out.trans (kr2.mono HBr1.out.size) | exact (Below.drew HBr1.out).trans (kr2.mono HBr1.out.size) | exact (Below.drew (Below.drew HBr1.out)).trans (kr2.mono HBr1.out.size) | exact (Below.drew (Below.drew (Below.drew HBr1.out))).trans (kr2.mono HBr1.out.size))); (have Hbr2 := Lib.hid (show Has wr2 w.heap.size [.int .i64 s, .int .i64 lo, .int .i64 hi, .slice ao k cap] 24 from Hbr1.out.of (kr2.block _ (by exact Hbr1.out.lt)))); (have y20 : wr2.cell? ⟨w.heap.size, 0, none⟩ = some (.int .i64 s) := Hbr2.out.cell 0); (have y21 : wr2.cell? ⟨w.heap.size, 1, none⟩ = some (.int .i64 lo) := Hbr2.out.cell 1); (have y22 : wr2.cell? ⟨w.heap.size, 2, none⟩ = some (.int .i64 hi) := Hbr2.out.cell 2); (have y23 : wr2.cell? ⟨w.heap.size, 3, none⟩ = some (.slice ao k cap) := Hbr2.out.cell 3)) | (go_at_call 13; refine (hr3z _ (by first | exact HBr2.out | exact Below.drew HBr2.out | exact Below.drew (Below.drew HBr2.out) | exact Below.drew (Below.drew (Below.drew HBr2.out)))).mono ?_; rintro e wr3 ⟨rfl, kr3⟩; (have HBr3 := Lib.hid (show Below w.heap.size w wr3 by first | exact HBr2.out.trans (kr3.mono HBr2.out.size) | exact (Below.drew HBr2.out).trans (kr3.mono HBr2.out.size) | exact (Below.drew (Below.drew HBr2.out)).trans (kr3.mono HBr2.out.size) | exact (Below.drew (Below.drew (Below.drew HBr2.out))).trans (kr3.mono HBr2.out.size))); (have Hbr3 := Lib.hid (show Has wr3 w.heap.size [.int .i64 s, .int .i64 lo, .int .i64 hi, .slice ao k cap] 24 from Hbr2.out.of (kr3.block _ (by exact Hbr2.out.lt)))); (have y30 : wr3.cell? ⟨w.heap.size, 0, none⟩ = some (.int .i64 s) := Hbr3.out.cell 0); (have y31 : wr3.cell? ⟨w.heap.size, 1, none⟩ = some (.int .i64 lo) := Hbr3.out.cell 1); (have y32 : wr3.cell? ⟨w.heap.size, 2, none⟩ = some (.int .i64 hi) := Hbr3.out.cell 2); (have y33 : wr3.cell? ⟨w.heap.size, 3, none⟩ = some (.slice ao k cap) := Hbr3.out.cell 3)))
      have Hnr1 := Lib.hid (Hnz6.out.step kr1 rfl)
      have Har1 := Lib.hid (Haz6.out.step kr1 rfl)
      have Hfr1 := Lib.hid (Hfz6.out.step kr1 rfl)
      have Hnr2 := Lib.hid (Hnr1.out.step kr2 rfl)
      have Har2 := Lib.hid (Har1.out.step kr2 rfl)
      have Hfr2 := Lib.hid (Hfr1.out.step kr2 rfl)
      have Hnr3 := Lib.hid (Hnr2.out.step kr3 rfl)
      have Har3 := Lib.hid (Har2.out.step kr3 rfl)
      have Hfr3 := Lib.hid (Hfr2.out.step kr3 rfl)
      clear kr1 kr2 kr3 hr1z hr2z hr3z y10 y11 y12 y13 y20 y21 y22 y23 y30 y31 y32 y33 qb0_6 qb1_6 qb2_6 qb3_6 lb_6
      have hsz2 := sizes_any a b c wr3
      rw [hsz] at hsz2
      go_wp2_with fail
      refine hsz2.mono ?_
      rintro e wq ⟨rfl, rfl⟩
      clear hsz2
      have qn0_9 : wr3.cell? ⟨wz1.heap.size, 0, none⟩ = some (.int .i64 a) := Hnr3.out.cell 0
      have qn1_9 : wr3.cell? ⟨wz1.heap.size, 1, none⟩ = some (.int .i64 b) := Hnr3.out.cell 1
      have qn2_9 : wr3.cell? ⟨wz1.heap.size, 2, none⟩ = some (.int .i64 c) := Hnr3.out.cell 2
      have qn3_9 : wr3.cell? ⟨wz1.heap.size, 3, none⟩ = some (.slice none 0 0) := Hnr3.out.cell 3
      have ln_9 : wz1.heap.size < wr3.heap.size := Hnr3.out.lt
      have hcz10 := same10_any a b c a b c [] [] _ _ wr3 (ReadsI.nil _) (ReadsI.nil _)
      rw [sameB_refl] at hcz10
      go_wp2_with fail
      refine hcz10.mono ?_
      rintro e wz10 ⟨rfl, kz10⟩
      clear hcz10 qn0_9 qn1_9 qn2_9 qn3_9 ln_9
      have HBz10 := Lib.hid (HBr3.out.trans (kz10.mono (Nat.le_trans hbase HBr3.out.size)))
      have Hbz10 := Lib.hid (Hbr3.out.call kz10)
      have Hnz10 := Lib.hid (Hnr3.out.call kz10)
      have Haz10 := Lib.hid (Har3.out.call kz10)
      have Hfz10 := Lib.hid (Hfr3.out.call kz10)
      clear kz10
      have qb0_10 : wz10.cell? ⟨w.heap.size, 0, none⟩ = some (.int .i64 s) := Hbz10.out.cell 0
      have qb1_10 : wz10.cell? ⟨w.heap.size, 1, none⟩ = some (.int .i64 lo) := Hbz10.out.cell 1
      have qb2_10 : wz10.cell? ⟨w.heap.size, 2, none⟩ = some (.int .i64 hi) := Hbz10.out.cell 2
      have qb3_10 : wz10.cell? ⟨w.heap.size, 3, none⟩ = some (.slice ao k cap) := Hbz10.out.cell 3
      have lb_10 : w.heap.size < wz10.heap.size := Hbz10.out.lt
      have hcz11 := rright10_any s lo hi xs _ wz10 (HX.out.below HBz10.out)
      rw [hg] at hcz11
      go_wp2_with fail
      refine hcz11.mono ?_
      rintro e wz11 ⟨rfl, kz11⟩
      clear hcz11 qb0_10 qb1_10 qb2_10 qb3_10 lb_10
      have HBz11 := Lib.hid (HBz10.out.trans (kz11.mono (Nat.le_trans hbase HBz10.out.size)))
      have Hbz11 := Lib.hid (Hbz10.out.call kz11)
      have Hnz11 := Lib.hid (Hnz10.out.call kz11)
      have Haz11 := Lib.hid (Haz10.out.call kz11)
      have Hfz11 := Lib.hid (Hfz10.out.call kz11)
      clear kz11
      have qa0_11 : wz11.cell? ⟨wz3.heap.size, 0, none⟩ = some (.int .i64 0) := Haz11.out.cell 0
      have qa1_11 : wz11.cell? ⟨wz3.heap.size, 1, none⟩ = some (.int .i64 0) := Haz11.out.cell 1
      have qa2_11 : wz11.cell? ⟨wz3.heap.size, 2, none⟩ = some (.int .i64 0) := Haz11.out.cell 2
      have qa3_11 : wz11.cell? ⟨wz3.heap.size, 3, none⟩ = some (.slice none 0 0) := Haz11.out.cell 3
      have la_11 : wz3.heap.size < wz11.heap.size := Haz11.out.lt
      have hcz12 := same10_any 0 0 0 0 0 0 [] [] _ _ wz11 (ReadsI.nil _) (ReadsI.nil _)
      rw [sameB_refl] at hcz12
      go_wp2_with fail
      refine hcz12.mono ?_
      rintro e wz12 ⟨rfl, kz12⟩
      clear hcz12 qa0_11 qa1_11 qa2_11 qa3_11 la_11
      have HBz12 := Lib.hid (HBz11.out.trans (kz12.mono (Nat.le_trans hbase HBz11.out.size)))
      have Hbz12 := Lib.hid (Hbz11.out.call kz12)
      have Hnz12 := Lib.hid (Hnz11.out.call kz12)
      have Haz12 := Lib.hid (Haz11.out.call kz12)
      have Hfz12 := Lib.hid (Hfz11.out.call kz12)
      clear kz12
      have qf0_12 : wz12.cell? ⟨wz5.heap.size, 0, none⟩ = some (.int .i64 0) := Hfz12.out.cell 0
      have qf1_12 : wz12.cell? ⟨wz5.heap.size, 1, none⟩ = some (.int .i64 0) := Hfz12.out.cell 1
      have qf2_12 : wz12.cell? ⟨wz5.heap.size, 2, none⟩ = some (.int .i64 0) := Hfz12.out.cell 2
      have qf3_12 : wz12.cell? ⟨wz5.heap.size, 3, none⟩ = some (.slice none 0 0) := Hfz12.out.cell 3
      have lf_12 : wz5.heap.size < wz12.heap.size := Hfz12.out.lt
      have hcz13 := same10_any 0 0 0 0 0 0 [] [] _ _ wz12 (ReadsI.nil _) (ReadsI.nil _)
      rw [sameB_refl] at hcz13
      go_wp2_with fail
      refine hcz13.mono ?_
      rintro e wz13 ⟨rfl, kz13⟩
      clear hcz13 qf0_12 qf1_12 qf2_12 qf3_12 lf_12
      have HBz13 := Lib.hid (HBz12.out.trans (kz13.mono (Nat.le_trans hbase HBz12.out.size)))
      have Hbz13 := Lib.hid (Hbz12.out.call kz13)
      have Hnz13 := Lib.hid (Hnz12.out.call kz13)
      have Haz13 := Lib.hid (Haz12.out.call kz13)
      have Hfz13 := Lib.hid (Hfz12.out.call kz13)
      clear kz13
      go_wp2
      go_ret
      exact ⟨rfl, HBz13.out⟩
    | true =>
      by_cases hf : lo ≤ x ∧ x ≤ hi
      · obtain ⟨zs, hzs⟩ : ∃ zs, (addG ⟨s, lo, hi, xs⟩ x).xs = zs := ⟨_, rfl⟩
        obtain ⟨row, hrow⟩ : ∃ row, addR ⟨s, lo, hi, xs⟩ x = row := ⟨_, rfl⟩
        have qb0_0 : wc.cell? ⟨w.heap.size, 0, none⟩ = some (.int .i64 s) := HB0.out.cell 0
        have qb1_0 : wc.cell? ⟨w.heap.size, 1, none⟩ = some (.int .i64 lo) := HB0.out.cell 1
        have qb2_0 : wc.cell? ⟨w.heap.size, 2, none⟩ = some (.int .i64 hi) := HB0.out.cell 2
        have qb3_0 : wc.cell? ⟨w.heap.size, 3, none⟩ = some (.slice ao k cap) := HB0.out.cell 3
        have lb_0 : w.heap.size < wc.heap.size := HB0.out.lt
        have hcz1 := new_ok a b c wc hsz
        go_wp2_with fail
        refine hcz1.mono ?_
        rintro e wz1 ⟨rfl, kz1⟩
        clear hcz1 qb0_0 qb1_0 qb2_0 qb3_0 lb_0
        have HBz1 := Lib.hid (HB1.out.trans (kz1.mono (Nat.le_trans hbase HB1.out.size)))
        have Hbz1 := Lib.hid (HB0.out.call kz1)
        clear kz1
        obtain ⟨wz2, hwz2⟩ : ∃ wz2, wz1.alloc (.cells #[.int .i64 a, .int .i64 b, .int .i64 c, .slice none 0 0] 24) = wz2 := ⟨_, rfl⟩
        have kz2 : Below wz1.heap.size wz1 wz2 := by rw [← hwz2]; exact (Below.refl _ _).alloc (Nat.le_refl _) _
        have Hnz2 := Lib.hid (show Has wz2 wz1.heap.size [.int .i64 a, .int .i64 b, .int .i64 c, .slice none 0 0] 24 by rw [← hwz2]; exact Has.new _ _ _)
        have HWz2 := Lib.hid hwz2
        clear hwz2
        have HBz2 := Lib.hid (HBz1.out.trans (kz2.mono (Nat.le_trans hbase HBz1.out.size)))
        have Hbz2 := Lib.hid (Hbz1.out.call kz2)
        clear kz2
        have qb0_2 : wz1.cell? ⟨w.heap.size, 0, none⟩ = some (.int .i64 s) := Hbz1.out.cell 0
        have qb1_2 : wz1.cell? ⟨w.heap.size, 1, none⟩ = some (.int .i64 lo) := Hbz1.out.cell 1
        have qb2_2 : wz1.cell? ⟨w.heap.size, 2, none⟩ = some (.int .i64 hi) := Hbz1.out.cell 2
        have qb3_2 : wz1.cell? ⟨w.heap.size, 3, none⟩ = some (.slice ao k cap) := Hbz1.out.cell 3
        have lb_2 : w.heap.size < wz1.heap.size := Hbz1.out.lt
        have hcz3 := add_any s lo hi x xs _ wz2 (HX.out.below HBz2.out) hg hf
        rw [hzs, hrow] at hcz3
        go_wp2_with fail
        rw [HWz2.out]
        refine hcz3.mono ?_
        rintro e wz3 ⟨v1, r1, rfl, hv1, hr1, kz3⟩
        clear hcz3 qb0_2 qb1_2 qb2_2 qb3_2 lb_2
        have HBz3 := Lib.hid (HBz2.out.trans (kz3.mono (Nat.le_trans hbase HBz2.out.size)))
        have Hbz3 := Lib.hid (Hbz2.out.call kz3)
        have Hnz3 := Lib.hid (Hnz2.out.call kz3)
        clear kz3
        obtain ⟨av, cv, rfl, -⟩ := id hv1
        obtain ⟨ar, cr, rfl, -⟩ := id hr1
        obtain ⟨zn, hzn⟩ : ∃ zn, zs.length = zn := ⟨_, rfl⟩
        obtain ⟨rn, hrn⟩ : ∃ rn, row.length = rn := ⟨_, rfl⟩
        rw [hzn] at hv1 ⊢
        rw [hrn] at hr1 ⊢
        have HV1 := Lib.hid hv1
        have HR1 := Lib.hid hr1
        clear hv1 hr1
        obtain ⟨wz4, hwz4⟩ : ∃ wz4, wz3.alloc (.cells #[.int .i64 s, .int .i64 lo, .int .i64 hi, .slice av zn cv] 24) = wz4 := ⟨_, rfl⟩
        have kz4 : Below wz3.heap.size wz3 wz4 := by rw [← hwz4]; exact (Below.refl _ _).alloc (Nat.le_refl _) _
        have Haz4 := Lib.hid (show Has wz4 wz3.heap.size [.int .i64 s, .int .i64 lo, .int .i64 hi, .slice av zn cv] 24 by rw [← hwz4]; exact Has.new _ _ _)
        have HWz4 := Lib.hid hwz4
        clear hwz4
        have HBz4 := Lib.hid (HBz3.out.trans (kz4.mono (Nat.le_trans hbase HBz3.out.size)))
        have Hbz4 := Lib.hid (Hbz3.out.call kz4)
        have Hnz4 := Lib.hid (Hnz3.out.call kz4)
        have Hvz4 := Lib.hid (HV1.out.below kz4)
        have Hrz4 := Lib.hid (HR1.out.below kz4)
        clear kz4
        have qb0_4 : wz3.cell? ⟨w.heap.size, 0, none⟩ = some (.int .i64 s) := Hbz3.out.cell 0
        have qb1_4 : wz3.cell? ⟨w.heap.size, 1, none⟩ = some (.int .i64 lo) := Hbz3.out.cell 1
        have qb2_4 : wz3.cell? ⟨w.heap.size, 2, none⟩ = some (.int .i64 hi) := Hbz3.out.cell 2
        have qb3_4 : wz3.cell? ⟨w.heap.size, 3, none⟩ = some (.slice ao k cap) := Hbz3.out.cell 3
        have lb_4 : w.heap.size < wz3.heap.size := Hbz3.out.lt
        have hcz5 := flush_ok s lo hi xs _ wz4 (HX.out.below HBz4.out) hg
        rw [hkl] at hcz5
        go_wp2_with fail
        rw [HWz4.out]
        refine hcz5.mono ?_
        rintro e wz5 ⟨rfl, kz5⟩
        clear hcz5 qb0_4 qb1_4 qb2_4 qb3_4 lb_4
        have HBz5 := Lib.hid (HBz4.out.trans (kz5.mono (Nat.le_trans hbase HBz4.out.size)))
        have Hbz5 := Lib.hid (Hbz4.out.call kz5)
        have Hnz5 := Lib.hid (Hnz4.out.call kz5)
        have Haz5 := Lib.hid (Haz4.out.call kz5)
        have Hvz5 := Lib.hid (Hvz4.out.below kz5)
        have Hrz5 := Lib.hid (Hrz4.out.below kz5)
        clear kz5
        obtain ⟨wz6, hwz6⟩ : ∃ wz6, wz5.alloc (.cells #[.int .i64 s, .int .i64 lo, .int .i64 hi, .slice none 0 0] 24) = wz6 := ⟨_, rfl⟩
        have kz6 : Below wz5.heap.size wz5 wz6 := by rw [← hwz6]; exact (Below.refl _ _).alloc (Nat.le_refl _) _
        have Hfz6 := Lib.hid (show Has wz6 wz5.heap.size [.int .i64 s, .int .i64 lo, .int .i64 hi, .slice none 0 0] 24 by rw [← hwz6]; exact Has.new _ _ _)
        have HWz6 := Lib.hid hwz6
        clear hwz6
        have HBz6 := Lib.hid (HBz5.out.trans (kz6.mono (Nat.le_trans hbase HBz5.out.size)))
        have Hbz6 := Lib.hid (Hbz5.out.call kz6)
        have Hnz6 := Lib.hid (Hnz5.out.call kz6)
        have Haz6 := Lib.hid (Haz5.out.call kz6)
        have Hvz6 := Lib.hid (Hvz5.out.below kz6)
        have Hrz6 := Lib.hid (Hrz5.out.below kz6)
        clear kz6
        go_upto_region 5 with fail
        rw [HWz6.out]
        have qb0_6 : wz6.cell? ⟨w.heap.size, 0, none⟩ = some (.int .i64 s) := Hbz6.out.cell 0
        have qb1_6 : wz6.cell? ⟨w.heap.size, 1, none⟩ = some (.int .i64 lo) := Hbz6.out.cell 1
        have qb2_6 : wz6.cell? ⟨w.heap.size, 2, none⟩ = some (.int .i64 hi) := Hbz6.out.cell 2
        have qb3_6 : wz6.cell? ⟨w.heap.size, 3, none⟩ = some (.slice ao k cap) := Hbz6.out.cell 3
        have lb_6 : w.heap.size < wz6.heap.size := Hbz6.out.lt
        have hr1z := fun W (h : Below w.heap.size w W) => right10_any s lo hi xs _ W (HX.out.below h)
        have hr2z := fun W (h : Below w.heap.size w W) => rright10_any s lo hi xs _ W (HX.out.below h)
        rw [hg] at hr1z hr2z
        have hr3z := fun W (_ : Below w.heap.size w W) => alive10_any W
        go_region_held3 (fun W => W.cell? ⟨w.heap.size, 0, none⟩ = some (.int .i64 s) ∧ W.cell? ⟨w.heap.size, 1, none⟩ = some (.int .i64 lo) ∧ W.cell? ⟨w.heap.size, 2, none⟩ = some (.int .i64 hi) ∧ W.cell? ⟨w.heap.size, 3, none⟩ = some (.slice ao k cap)) (first | exact ⟨y30, y31, y32, y33⟩ | exact ⟨y20, y21, y22, y23⟩ | exact ⟨y10, y11, y12, y13⟩ | exact ⟨qb0_6, qb1_6, qb2_6, qb3_6⟩ | simp [go_sem, *]) (first | (go_at_call 11; refine (hr1z _ (by first | exact HBz6.out | exact Below.drew HBz6.out | exact Below.drew (Below.drew HBz6.out) | exact Below.drew (Below.drew (Below.drew HBz6.out)))).mono ?_; rintro e wr1 ⟨rfl, kr1⟩; (have HBr1 := Lib.hid (show Below w.heap.size w wr1 by first | exact HBz6.out.trans (kr1.mono HBz6.out.size) | exact (Below.drew HBz6.out).trans (kr1.mono HBz6.out.size) | exact (Below.drew (Below.drew HBz6.out)).trans (kr1.mono HBz6.out.size) | exact (Below.drew (Below.drew (Below.drew HBz6.out))).trans (kr1.mono HBz6.out.size))); (have Hbr1 := Lib.hid (show Has wr1 w.heap.size [.int .i64 s, .int .i64 lo, .int .i64 hi, .slice ao k cap] 24 from Hbz6.out.of (kr1.block _ (by exact Hbz6.out.lt)))); (have y10 : wr1.cell? ⟨w.heap.size, 0, none⟩ = some (.int .i64 s) := Hbr1.out.cell 0); (have y11 : wr1.cell? ⟨w.heap.size, 1, none⟩ = some (.int .i64 lo) := Hbr1.out.cell 1); (have y12 : wr1.cell? ⟨w.heap.size, 2, none⟩ = some (.int .i64 hi) := Hbr1.out.cell 2); (have y13 : wr1.cell? ⟨w.heap.size, 3, none⟩ = some (.slice ao k cap) := Hbr1.out.cell 3)) | (go_at_call 12; refine (hr2z _ (by first | exact HBr1.out | exact Below.drew HBr1.out | exact Below.drew (Below.drew HBr1.out) | exact Below.drew (Below.drew (Below.drew HBr1.out)))).mono ?_; rintro e wr2 ⟨rfl, kr2⟩; (have HBr2 := Lib.hid (show Below w.heap.size w wr2 by first | exact HBr1.out.trans (kr2.mono HBr1.out.size) | exact (Below.drew HBr1.out).trans (kr2.mono HBr1.out.size) | exact (Below.drew (Below.drew HBr1.out)).trans (kr2.mono HBr1.out.size) | exact (Below.drew (Below.drew (Below.drew HBr1.out))).trans (kr2.mono HBr1.out.size))); (have Hbr2 := Lib.hid (show Has wr2 w.heap.size [.int .i64 s, .int .i64 lo, .int .i64 hi, .slice ao k cap] 24 from Hbr1.out.of (kr2.block _ (by exact Hbr1.out.lt)))); (have y20 : wr2.cell? ⟨w.heap.size, 0, none⟩ = some (.int .i64 s) := Hbr2.out.cell 0); (have y21 : wr2.cell? ⟨w.heap.size, 1, none⟩ = some (.int .i64 lo) := Hbr2.out.cell 1); (have y22 : wr2.cell? ⟨w.heap.size, 2, none⟩ = some (.int .i64 hi) := Hbr2.out.cell 2); (have y23 : wr2.cell? ⟨w.heap.size, 3, none⟩ = some (.slice ao k cap) := Hbr2.out.cell 3)) | (go_at_call 13; refine (hr3z _ (by first | exact HBr2.out | exact Below.drew HBr2.out | exact Below.drew (Below.drew HBr2.out) | exact Below.drew (Below.drew (Below.drew HBr2.out)))).mono ?_; rintro e wr3 ⟨rfl, kr3⟩; (have HBr3 := Lib.hid (show Below w.heap.size w wr3 by first | exact HBr2.out.trans (kr3.mono HBr2.out.size) | exact (Below.drew HBr2.out).trans (kr3.mono HBr2.out.size) | exact (Below.drew (Below.drew HBr2.out)).trans (kr3.mono HBr2.out.size) | exact (Below.drew (Below.drew (Below.drew HBr2.out))).trans (kr3.mono HBr2.out.size))); (have Hbr3 := Lib.hid (show Has wr3 w.heap.size [.int .i64 s, .int .i64 lo, .int .i64 hi, .slice ao k cap] 24 from Hbr2.out.of (kr3.block _ (by exact Hbr2.out.lt)))); (have y30 : wr3.cell? ⟨w.heap.size, 0, none⟩ = some (.int .i64 s) := Hbr3.out.cell 0); (have y31 : wr3.cell? ⟨w.heap.size, 1, none⟩ = some (.int .i64 lo) := Hbr3.out.cell 1); (have y32 : wr3.cell? ⟨w.heap.size, 2, none⟩ = some (.int .i64 hi) := Hbr3.out.cell 2); (have y33 : wr3.cell? ⟨w.heap.size, 3, none⟩ = some (.slice ao k cap) := Hbr3.out.cell 3)))
        have Hnr1 := Lib.hid (Hnz6.out.step kr1 rfl)
        have Har1 := Lib.hid (Haz6.out.step kr1 rfl)
        have Hfr1 := Lib.hid (Hfz6.out.step kr1 rfl)
        have Hvr1 := Lib.hid (Hvz6.out.step kr1 rfl)
        have Hrr1 := Lib.hid (Hrz6.out.step kr1 rfl)
        have Hnr2 := Lib.hid (Hnr1.out.step kr2 rfl)
        have Har2 := Lib.hid (Har1.out.step kr2 rfl)
        have Hfr2 := Lib.hid (Hfr1.out.step kr2 rfl)
        have Hvr2 := Lib.hid (Hvr1.out.step kr2 rfl)
        have Hrr2 := Lib.hid (Hrr1.out.step kr2 rfl)
        have Hnr3 := Lib.hid (Hnr2.out.step kr3 rfl)
        have Har3 := Lib.hid (Har2.out.step kr3 rfl)
        have Hfr3 := Lib.hid (Hfr2.out.step kr3 rfl)
        have Hvr3 := Lib.hid (Hvr2.out.step kr3 rfl)
        have Hrr3 := Lib.hid (Hrr2.out.step kr3 rfl)
        clear kr1 kr2 kr3 hr1z hr2z hr3z y10 y11 y12 y13 y20 y21 y22 y23 y30 y31 y32 y33 qb0_6 qb1_6 qb2_6 qb3_6 lb_6
        have hsz2 := sizes_any a b c wr3
        rw [hsz] at hsz2
        go_wp2_with fail
        refine hsz2.mono ?_
        rintro e wq ⟨rfl, rfl⟩
        clear hsz2
        have qn0_9 : wr3.cell? ⟨wz1.heap.size, 0, none⟩ = some (.int .i64 a) := Hnr3.out.cell 0
        have qn1_9 : wr3.cell? ⟨wz1.heap.size, 1, none⟩ = some (.int .i64 b) := Hnr3.out.cell 1
        have qn2_9 : wr3.cell? ⟨wz1.heap.size, 2, none⟩ = some (.int .i64 c) := Hnr3.out.cell 2
        have qn3_9 : wr3.cell? ⟨wz1.heap.size, 3, none⟩ = some (.slice none 0 0) := Hnr3.out.cell 3
        have ln_9 : wz1.heap.size < wr3.heap.size := Hnr3.out.lt
        have hcz10 := same10_any a b c a b c [] [] _ _ wr3 (ReadsI.nil _) (ReadsI.nil _)
        rw [sameB_refl] at hcz10
        go_wp2_with fail
        refine hcz10.mono ?_
        rintro e wz10 ⟨rfl, kz10⟩
        clear hcz10 qn0_9 qn1_9 qn2_9 qn3_9 ln_9
        have HBz10 := Lib.hid (HBr3.out.trans (kz10.mono (Nat.le_trans hbase HBr3.out.size)))
        have Hbz10 := Lib.hid (Hbr3.out.call kz10)
        have Hnz10 := Lib.hid (Hnr3.out.call kz10)
        have Haz10 := Lib.hid (Har3.out.call kz10)
        have Hfz10 := Lib.hid (Hfr3.out.call kz10)
        have Hvz10 := Lib.hid (Hvr3.out.below kz10)
        have Hrz10 := Lib.hid (Hrr3.out.below kz10)
        clear kz10
        have qb0_10 : wz10.cell? ⟨w.heap.size, 0, none⟩ = some (.int .i64 s) := Hbz10.out.cell 0
        have qb1_10 : wz10.cell? ⟨w.heap.size, 1, none⟩ = some (.int .i64 lo) := Hbz10.out.cell 1
        have qb2_10 : wz10.cell? ⟨w.heap.size, 2, none⟩ = some (.int .i64 hi) := Hbz10.out.cell 2
        have qb3_10 : wz10.cell? ⟨w.heap.size, 3, none⟩ = some (.slice ao k cap) := Hbz10.out.cell 3
        have lb_10 : w.heap.size < wz10.heap.size := Hbz10.out.lt
        have hcz11 := rright10_any s lo hi xs _ wz10 (HX.out.below HBz10.out)
        rw [hg] at hcz11
        go_wp2_with fail
        refine hcz11.mono ?_
        rintro e wz11 ⟨rfl, kz11⟩
        clear hcz11 qb0_10 qb1_10 qb2_10 qb3_10 lb_10
        have HBz11 := Lib.hid (HBz10.out.trans (kz11.mono (Nat.le_trans hbase HBz10.out.size)))
        have Hbz11 := Lib.hid (Hbz10.out.call kz11)
        have Hnz11 := Lib.hid (Hnz10.out.call kz11)
        have Haz11 := Lib.hid (Haz10.out.call kz11)
        have Hfz11 := Lib.hid (Hfz10.out.call kz11)
        have Hvz11 := Lib.hid (Hvz10.out.below kz11)
        have Hrz11 := Lib.hid (Hrz10.out.below kz11)
        clear kz11
        have qb0_11 : wz11.cell? ⟨w.heap.size, 0, none⟩ = some (.int .i64 s) := Hbz11.out.cell 0
        have qb1_11 : wz11.cell? ⟨w.heap.size, 1, none⟩ = some (.int .i64 lo) := Hbz11.out.cell 1
        have qb2_11 : wz11.cell? ⟨w.heap.size, 2, none⟩ = some (.int .i64 hi) := Hbz11.out.cell 2
        have qb3_11 : wz11.cell? ⟨w.heap.size, 3, none⟩ = some (.slice ao k cap) := Hbz11.out.cell 3
        have lb_11 : w.heap.size < wz11.heap.size := Hbz11.out.lt
        have qf0_11 : wz11.cell? ⟨wz5.heap.size, 0, none⟩ = some (.int .i64 s) := Hfz11.out.cell 0
        have qf1_11 : wz11.cell? ⟨wz5.heap.size, 1, none⟩ = some (.int .i64 lo) := Hfz11.out.cell 1
        have qf2_11 : wz11.cell? ⟨wz5.heap.size, 2, none⟩ = some (.int .i64 hi) := Hfz11.out.cell 2
        have qf3_11 : wz11.cell? ⟨wz5.heap.size, 3, none⟩ = some (.slice none 0 0) := Hfz11.out.cell 3
        have lf_11 : wz5.heap.size < wz11.heap.size := Hfz11.out.lt
        have hcz12 := same10_any s lo hi s lo hi [] [] _ _ wz11 (ReadsI.nil _) (ReadsI.nil _)
        rw [sameB_refl] at hcz12
        go_wp2_with fail
        refine hcz12.mono ?_
        rintro e wz12 ⟨rfl, kz12⟩
        clear hcz12 qb0_11 qb1_11 qb2_11 qb3_11 lb_11 qf0_11 qf1_11 qf2_11 qf3_11 lf_11
        have HBz12 := Lib.hid (HBz11.out.trans (kz12.mono (Nat.le_trans hbase HBz11.out.size)))
        have Hbz12 := Lib.hid (Hbz11.out.call kz12)
        have Hnz12 := Lib.hid (Hnz11.out.call kz12)
        have Haz12 := Lib.hid (Haz11.out.call kz12)
        have Hfz12 := Lib.hid (Hfz11.out.call kz12)
        have Hvz12 := Lib.hid (Hvz11.out.below kz12)
        have Hrz12 := Lib.hid (Hrz11.out.below kz12)
        clear kz12
        have qb0_12 : wz12.cell? ⟨w.heap.size, 0, none⟩ = some (.int .i64 s) := Hbz12.out.cell 0
        have qb1_12 : wz12.cell? ⟨w.heap.size, 1, none⟩ = some (.int .i64 lo) := Hbz12.out.cell 1
        have qb2_12 : wz12.cell? ⟨w.heap.size, 2, none⟩ = some (.int .i64 hi) := Hbz12.out.cell 2
        have qb3_12 : wz12.cell? ⟨w.heap.size, 3, none⟩ = some (.slice ao k cap) := Hbz12.out.cell 3
        have lb_12 : w.heap.size < wz12.heap.size := Hbz12.out.lt
        have hcz13 := fits_any s lo hi x ao k cap wz12
        rw [decide_eq_true hf] at hcz13
        go_wp2_with fail
        refine hcz13.mono ?_
        rintro e wz13 ⟨rfl, kz13⟩
        clear hcz13 qb0_12 qb1_12 qb2_12 qb3_12 lb_12
        have HBz13 := Lib.hid (HBz12.out.trans (kz13.mono (Nat.le_trans hbase HBz12.out.size)))
        have Hbz13 := Lib.hid (Hbz12.out.call kz13)
        have Hnz13 := Lib.hid (Hnz12.out.call kz13)
        have Haz13 := Lib.hid (Haz12.out.call kz13)
        have Hfz13 := Lib.hid (Hfz12.out.call kz13)
        have Hvz13 := Lib.hid (Hvz12.out.below kz13)
        have Hrz13 := Lib.hid (Hrz12.out.below kz13)
        clear kz13
        have qb0_13 : wz13.cell? ⟨w.heap.size, 0, none⟩ = some (.int .i64 s) := Hbz13.out.cell 0
        have qb1_13 : wz13.cell? ⟨w.heap.size, 1, none⟩ = some (.int .i64 lo) := Hbz13.out.cell 1
        have qb2_13 : wz13.cell? ⟨w.heap.size, 2, none⟩ = some (.int .i64 hi) := Hbz13.out.cell 2
        have qb3_13 : wz13.cell? ⟨w.heap.size, 3, none⟩ = some (.slice ao k cap) := Hbz13.out.cell 3
        have lb_13 : w.heap.size < wz13.heap.size := Hbz13.out.lt
        have hcz14 := radd10_any s lo hi x xs _ wz13 (HX.out.below HBz13.out) (by rw [hkl]; omega)
        rw [hzs, hrow] at hcz14
        go_wp2_with fail
        refine hcz14.mono ?_
        rintro e wz14 ⟨v2, r2, rfl, hv2, hr2, kz14⟩
        clear hcz14 qb0_13 qb1_13 qb2_13 qb3_13 lb_13
        have HBz14 := Lib.hid (HBz13.out.trans (kz14.mono (Nat.le_trans hbase HBz13.out.size)))
        have Hbz14 := Lib.hid (Hbz13.out.call kz14)
        have Hnz14 := Lib.hid (Hnz13.out.call kz14)
        have Haz14 := Lib.hid (Haz13.out.call kz14)
        have Hfz14 := Lib.hid (Hfz13.out.call kz14)
        have Hvz14 := Lib.hid (Hvz13.out.below kz14)
        have Hrz14 := Lib.hid (Hrz13.out.below kz14)
        clear kz14
        obtain ⟨av2, cv2, hve, -⟩ := hv2.reads
        obtain ⟨ar2, cr2, hre, -⟩ := hr2.reads
        subst hve hre
        obtain ⟨zn2, hzn2⟩ : ∃ zn2, zs.length = zn2 := ⟨_, rfl⟩
        obtain ⟨rn2, hrn2⟩ : ∃ rn2, row.length = rn2 := ⟨_, rfl⟩
        have HV2 := Lib.hid hv2.reads
        have HR2 := Lib.hid hr2.reads
        rw [hzn2] at HV2 ⊢
        rw [hrn2] at HR2 ⊢
        clear hv2 hr2
        obtain ⟨wz15, hwz15⟩ : ∃ wz15, wz14.alloc (.cells #[.int .i64 s, .int .i64 lo, .int .i64 hi, .slice av2 zn2 cv2] 24) = wz15 := ⟨_, rfl⟩
        have kz15 : Below wz14.heap.size wz14 wz15 := by rw [← hwz15]; exact (Below.refl _ _).alloc (Nat.le_refl _) _
        have Hcz15 := Lib.hid (show Has wz15 wz14.heap.size [.int .i64 s, .int .i64 lo, .int .i64 hi, .slice av2 zn2 cv2] 24 by rw [← hwz15]; exact Has.new _ _ _)
        have HWz15 := Lib.hid hwz15
        clear hwz15
        have HBz15 := Lib.hid (HBz14.out.trans (kz15.mono (Nat.le_trans hbase HBz14.out.size)))
        have Hbz15 := Lib.hid (Hbz14.out.call kz15)
        have Hnz15 := Lib.hid (Hnz14.out.call kz15)
        have Haz15 := Lib.hid (Haz14.out.call kz15)
        have Hfz15 := Lib.hid (Hfz14.out.call kz15)
        have Hvz15 := Lib.hid (Hvz14.out.below kz15)
        have Hrz15 := Lib.hid (Hrz14.out.below kz15)
        have Hv2z15 := Lib.hid (HV2.out.below kz15)
        have Hr2z15 := Lib.hid (HR2.out.below kz15)
        clear kz15
        have qa0_15 : wz14.cell? ⟨wz3.heap.size, 0, none⟩ = some (.int .i64 s) := Haz14.out.cell 0
        have qa1_15 : wz14.cell? ⟨wz3.heap.size, 1, none⟩ = some (.int .i64 lo) := Haz14.out.cell 1
        have qa2_15 : wz14.cell? ⟨wz3.heap.size, 2, none⟩ = some (.int .i64 hi) := Haz14.out.cell 2
        have qa3_15 : wz14.cell? ⟨wz3.heap.size, 3, none⟩ = some (.slice av zn cv) := Haz14.out.cell 3
        have la_15 : wz3.heap.size < wz14.heap.size := Haz14.out.lt
        have hcz16 := same10_any s lo hi s lo hi zs zs _ _ wz15 (Hvz15.out) (Hv2z15.out)
        rw [sameB_refl] at hcz16
        go_wp2_with fail
        rw [HWz15.out]
        refine hcz16.mono ?_
        rintro e wz16 ⟨rfl, kz16⟩
        clear hcz16 qa0_15 qa1_15 qa2_15 qa3_15 la_15
        have HBz16 := Lib.hid (HBz15.out.trans (kz16.mono (Nat.le_trans hbase HBz15.out.size)))
        have Hbz16 := Lib.hid (Hbz15.out.call kz16)
        have Hnz16 := Lib.hid (Hnz15.out.call kz16)
        have Haz16 := Lib.hid (Haz15.out.call kz16)
        have Hfz16 := Lib.hid (Hfz15.out.call kz16)
        have Hcz16 := Lib.hid (Hcz15.out.call kz16)
        have Hvz16 := Lib.hid (Hvz15.out.below kz16)
        have Hrz16 := Lib.hid (Hrz15.out.below kz16)
        have Hv2z16 := Lib.hid (Hv2z15.out.below kz16)
        have Hr2z16 := Lib.hid (Hr2z15.out.below kz16)
        clear kz16
        have hin := ints_any row row _ _ wz16 Hrz16.out Hr2z16.out
        rw [decide_eq_true rfl] at hin
        go_wp2_with fail
        refine hin.mono ?_
        rintro e wl ⟨rfl, mm, rfl⟩
        have HBl := Lib.hid (Below.drewN HBz16.out mm)
        clear hin
        go_wp2
        go_ret
        exact ⟨rfl, HBl.out⟩
      · skip
        have qb0_0 : wc.cell? ⟨w.heap.size, 0, none⟩ = some (.int .i64 s) := HB0.out.cell 0
        have qb1_0 : wc.cell? ⟨w.heap.size, 1, none⟩ = some (.int .i64 lo) := HB0.out.cell 1
        have qb2_0 : wc.cell? ⟨w.heap.size, 2, none⟩ = some (.int .i64 hi) := HB0.out.cell 2
        have qb3_0 : wc.cell? ⟨w.heap.size, 3, none⟩ = some (.slice ao k cap) := HB0.out.cell 3
        have lb_0 : w.heap.size < wc.heap.size := HB0.out.lt
        have hcz1 := new_ok a b c wc hsz
        go_wp2_with fail
        refine hcz1.mono ?_
        rintro e wz1 ⟨rfl, kz1⟩
        clear hcz1 qb0_0 qb1_0 qb2_0 qb3_0 lb_0
        have HBz1 := Lib.hid (HB1.out.trans (kz1.mono (Nat.le_trans hbase HB1.out.size)))
        have Hbz1 := Lib.hid (HB0.out.call kz1)
        clear kz1
        obtain ⟨wz2, hwz2⟩ : ∃ wz2, wz1.alloc (.cells #[.int .i64 a, .int .i64 b, .int .i64 c, .slice none 0 0] 24) = wz2 := ⟨_, rfl⟩
        have kz2 : Below wz1.heap.size wz1 wz2 := by rw [← hwz2]; exact (Below.refl _ _).alloc (Nat.le_refl _) _
        have Hnz2 := Lib.hid (show Has wz2 wz1.heap.size [.int .i64 a, .int .i64 b, .int .i64 c, .slice none 0 0] 24 by rw [← hwz2]; exact Has.new _ _ _)
        have HWz2 := Lib.hid hwz2
        clear hwz2
        have HBz2 := Lib.hid (HBz1.out.trans (kz2.mono (Nat.le_trans hbase HBz1.out.size)))
        have Hbz2 := Lib.hid (Hbz1.out.call kz2)
        clear kz2
        have qb0_2 : wz1.cell? ⟨w.heap.size, 0, none⟩ = some (.int .i64 s) := Hbz1.out.cell 0
        have qb1_2 : wz1.cell? ⟨w.heap.size, 1, none⟩ = some (.int .i64 lo) := Hbz1.out.cell 1
        have qb2_2 : wz1.cell? ⟨w.heap.size, 2, none⟩ = some (.int .i64 hi) := Hbz1.out.cell 2
        have qb3_2 : wz1.cell? ⟨w.heap.size, 3, none⟩ = some (.slice ao k cap) := Hbz1.out.cell 3
        have lb_2 : w.heap.size < wz1.heap.size := Hbz1.out.lt
        have hcz3 := add_out s lo hi x xs _ wz2 (HX.out.below HBz2.out) hg hf
        go_wp2_with fail
        rw [HWz2.out]
        refine hcz3.mono ?_
        rintro e wz3 ⟨rfl, kz3⟩
        clear hcz3 qb0_2 qb1_2 qb2_2 qb3_2 lb_2
        have HBz3 := Lib.hid (HBz2.out.trans (kz3.mono (Nat.le_trans hbase HBz2.out.size)))
        have Hbz3 := Lib.hid (Hbz2.out.call kz3)
        have Hnz3 := Lib.hid (Hnz2.out.call kz3)
        clear kz3
        obtain ⟨wz4, hwz4⟩ : ∃ wz4, wz3.alloc (.cells #[.int .i64 0, .int .i64 0, .int .i64 0, .slice none 0 0] 24) = wz4 := ⟨_, rfl⟩
        have kz4 : Below wz3.heap.size wz3 wz4 := by rw [← hwz4]; exact (Below.refl _ _).alloc (Nat.le_refl _) _
        have Haz4 := Lib.hid (show Has wz4 wz3.heap.size [.int .i64 0, .int .i64 0, .int .i64 0, .slice none 0 0] 24 by rw [← hwz4]; exact Has.new _ _ _)
        have HWz4 := Lib.hid hwz4
        clear hwz4
        have HBz4 := Lib.hid (HBz3.out.trans (kz4.mono (Nat.le_trans hbase HBz3.out.size)))
        have Hbz4 := Lib.hid (Hbz3.out.call kz4)
        have Hnz4 := Lib.hid (Hnz3.out.call kz4)
        clear kz4
        have qb0_4 : wz3.cell? ⟨w.heap.size, 0, none⟩ = some (.int .i64 s) := Hbz3.out.cell 0
        have qb1_4 : wz3.cell? ⟨w.heap.size, 1, none⟩ = some (.int .i64 lo) := Hbz3.out.cell 1
        have qb2_4 : wz3.cell? ⟨w.heap.size, 2, none⟩ = some (.int .i64 hi) := Hbz3.out.cell 2
        have qb3_4 : wz3.cell? ⟨w.heap.size, 3, none⟩ = some (.slice ao k cap) := Hbz3.out.cell 3
        have lb_4 : w.heap.size < wz3.heap.size := Hbz3.out.lt
        have hcz5 := flush_ok s lo hi xs _ wz4 (HX.out.below HBz4.out) hg
        rw [hkl] at hcz5
        go_wp2_with fail
        rw [HWz4.out]
        refine hcz5.mono ?_
        rintro e wz5 ⟨rfl, kz5⟩
        clear hcz5 qb0_4 qb1_4 qb2_4 qb3_4 lb_4
        have HBz5 := Lib.hid (HBz4.out.trans (kz5.mono (Nat.le_trans hbase HBz4.out.size)))
        have Hbz5 := Lib.hid (Hbz4.out.call kz5)
        have Hnz5 := Lib.hid (Hnz4.out.call kz5)
        have Haz5 := Lib.hid (Haz4.out.call kz5)
        clear kz5
        obtain ⟨wz6, hwz6⟩ : ∃ wz6, wz5.alloc (.cells #[.int .i64 s, .int .i64 lo, .int .i64 hi, .slice none 0 0] 24) = wz6 := ⟨_, rfl⟩
        have kz6 : Below wz5.heap.size wz5 wz6 := by rw [← hwz6]; exact (Below.refl _ _).alloc (Nat.le_refl _) _
        have Hfz6 := Lib.hid (show Has wz6 wz5.heap.size [.int .i64 s, .int .i64 lo, .int .i64 hi, .slice none 0 0] 24 by rw [← hwz6]; exact Has.new _ _ _)
        have HWz6 := Lib.hid hwz6
        clear hwz6
        have HBz6 := Lib.hid (HBz5.out.trans (kz6.mono (Nat.le_trans hbase HBz5.out.size)))
        have Hbz6 := Lib.hid (Hbz5.out.call kz6)
        have Hnz6 := Lib.hid (Hnz5.out.call kz6)
        have Haz6 := Lib.hid (Haz5.out.call kz6)
        clear kz6
        go_upto_region 5 with fail
        rw [HWz6.out]
        have qb0_6 : wz6.cell? ⟨w.heap.size, 0, none⟩ = some (.int .i64 s) := Hbz6.out.cell 0
        have qb1_6 : wz6.cell? ⟨w.heap.size, 1, none⟩ = some (.int .i64 lo) := Hbz6.out.cell 1
        have qb2_6 : wz6.cell? ⟨w.heap.size, 2, none⟩ = some (.int .i64 hi) := Hbz6.out.cell 2
        have qb3_6 : wz6.cell? ⟨w.heap.size, 3, none⟩ = some (.slice ao k cap) := Hbz6.out.cell 3
        have lb_6 : w.heap.size < wz6.heap.size := Hbz6.out.lt
        have hr1z := fun W (h : Below w.heap.size w W) => right10_any s lo hi xs _ W (HX.out.below h)
        have hr2z := fun W (h : Below w.heap.size w W) => rright10_any s lo hi xs _ W (HX.out.below h)
        rw [hg] at hr1z hr2z
        have hr3z := fun W (_ : Below w.heap.size w W) => alive10_any W
        go_region_held3 (fun W => W.cell? ⟨w.heap.size, 0, none⟩ = some (.int .i64 s) ∧ W.cell? ⟨w.heap.size, 1, none⟩ = some (.int .i64 lo) ∧ W.cell? ⟨w.heap.size, 2, none⟩ = some (.int .i64 hi) ∧ W.cell? ⟨w.heap.size, 3, none⟩ = some (.slice ao k cap)) (first | exact ⟨y30, y31, y32, y33⟩ | exact ⟨y20, y21, y22, y23⟩ | exact ⟨y10, y11, y12, y13⟩ | exact ⟨qb0_6, qb1_6, qb2_6, qb3_6⟩ | simp [go_sem, *]) (first | (go_at_call 11; refine (hr1z _ (by first | exact HBz6.out | exact Below.drew HBz6.out | exact Below.drew (Below.drew HBz6.out) | exact Below.drew (Below.drew (Below.drew HBz6.out)))).mono ?_; rintro e wr1 ⟨rfl, kr1⟩; (have HBr1 := Lib.hid (show Below w.heap.size w wr1 by first | exact HBz6.out.trans (kr1.mono HBz6.out.size) | exact (Below.drew HBz6.out).trans (kr1.mono HBz6.out.size) | exact (Below.drew (Below.drew HBz6.out)).trans (kr1.mono HBz6.out.size) | exact (Below.drew (Below.drew (Below.drew HBz6.out))).trans (kr1.mono HBz6.out.size))); (have Hbr1 := Lib.hid (show Has wr1 w.heap.size [.int .i64 s, .int .i64 lo, .int .i64 hi, .slice ao k cap] 24 from Hbz6.out.of (kr1.block _ (by exact Hbz6.out.lt)))); (have y10 : wr1.cell? ⟨w.heap.size, 0, none⟩ = some (.int .i64 s) := Hbr1.out.cell 0); (have y11 : wr1.cell? ⟨w.heap.size, 1, none⟩ = some (.int .i64 lo) := Hbr1.out.cell 1); (have y12 : wr1.cell? ⟨w.heap.size, 2, none⟩ = some (.int .i64 hi) := Hbr1.out.cell 2); (have y13 : wr1.cell? ⟨w.heap.size, 3, none⟩ = some (.slice ao k cap) := Hbr1.out.cell 3)) | (go_at_call 12; refine (hr2z _ (by first | exact HBr1.out | exact Below.drew HBr1.out | exact Below.drew (Below.drew HBr1.out) | exact Below.drew (Below.drew (Below.drew HBr1.out)))).mono ?_; rintro e wr2 ⟨rfl, kr2⟩; (have HBr2 := Lib.hid (show Below w.heap.size w wr2 by first | exact HBr1.out.trans (kr2.mono HBr1.out.size) | exact (Below.drew HBr1.out).trans (kr2.mono HBr1.out.size) | exact (Below.drew (Below.drew HBr1.out)).trans (kr2.mono HBr1.out.size) | exact (Below.drew (Below.drew (Below.drew HBr1.out))).trans (kr2.mono HBr1.out.size))); (have Hbr2 := Lib.hid (show Has wr2 w.heap.size [.int .i64 s, .int .i64 lo, .int .i64 hi, .slice ao k cap] 24 from Hbr1.out.of (kr2.block _ (by exact Hbr1.out.lt)))); (have y20 : wr2.cell? ⟨w.heap.size, 0, none⟩ = some (.int .i64 s) := Hbr2.out.cell 0); (have y21 : wr2.cell? ⟨w.heap.size, 1, none⟩ = some (.int .i64 lo) := Hbr2.out.cell 1); (have y22 : wr2.cell? ⟨w.heap.size, 2, none⟩ = some (.int .i64 hi) := Hbr2.out.cell 2); (have y23 : wr2.cell? ⟨w.heap.size, 3, none⟩ = some (.slice ao k cap) := Hbr2.out.cell 3)) | (go_at_call 13; refine (hr3z _ (by first | exact HBr2.out | exact Below.drew HBr2.out | exact Below.drew (Below.drew HBr2.out) | exact Below.drew (Below.drew (Below.drew HBr2.out)))).mono ?_; rintro e wr3 ⟨rfl, kr3⟩; (have HBr3 := Lib.hid (show Below w.heap.size w wr3 by first | exact HBr2.out.trans (kr3.mono HBr2.out.size) | exact (Below.drew HBr2.out).trans (kr3.mono HBr2.out.size) | exact (Below.drew (Below.drew HBr2.out)).trans (kr3.mono HBr2.out.size) | exact (Below.drew (Below.drew (Below.drew HBr2.out))).trans (kr3.mono HBr2.out.size))); (have Hbr3 := Lib.hid (show Has wr3 w.heap.size [.int .i64 s, .int .i64 lo, .int .i64 hi, .slice ao k cap] 24 from Hbr2.out.of (kr3.block _ (by exact Hbr2.out.lt)))); (have y30 : wr3.cell? ⟨w.heap.size, 0, none⟩ = some (.int .i64 s) := Hbr3.out.cell 0); (have y31 : wr3.cell? ⟨w.heap.size, 1, none⟩ = some (.int .i64 lo) := Hbr3.out.cell 1); (have y32 : wr3.cell? ⟨w.heap.size, 2, none⟩ = some (.int .i64 hi) := Hbr3.out.cell 2); (have y33 : wr3.cell? ⟨w.heap.size, 3, none⟩ = some (.slice ao k cap) := Hbr3.out.cell 3)))
        have Hnr1 := Lib.hid (Hnz6.out.step kr1 rfl)
        have Har1 := Lib.hid (Haz6.out.step kr1 rfl)
        have Hfr1 := Lib.hid (Hfz6.out.step kr1 rfl)
        have Hnr2 := Lib.hid (Hnr1.out.step kr2 rfl)
        have Har2 := Lib.hid (Har1.out.step kr2 rfl)
        have Hfr2 := Lib.hid (Hfr1.out.step kr2 rfl)
        have Hnr3 := Lib.hid (Hnr2.out.step kr3 rfl)
        have Har3 := Lib.hid (Har2.out.step kr3 rfl)
        have Hfr3 := Lib.hid (Hfr2.out.step kr3 rfl)
        clear kr1 kr2 kr3 hr1z hr2z hr3z y10 y11 y12 y13 y20 y21 y22 y23 y30 y31 y32 y33 qb0_6 qb1_6 qb2_6 qb3_6 lb_6
        have hsz2 := sizes_any a b c wr3
        rw [hsz] at hsz2
        go_wp2_with fail
        refine hsz2.mono ?_
        rintro e wq ⟨rfl, rfl⟩
        clear hsz2
        have qn0_9 : wr3.cell? ⟨wz1.heap.size, 0, none⟩ = some (.int .i64 a) := Hnr3.out.cell 0
        have qn1_9 : wr3.cell? ⟨wz1.heap.size, 1, none⟩ = some (.int .i64 b) := Hnr3.out.cell 1
        have qn2_9 : wr3.cell? ⟨wz1.heap.size, 2, none⟩ = some (.int .i64 c) := Hnr3.out.cell 2
        have qn3_9 : wr3.cell? ⟨wz1.heap.size, 3, none⟩ = some (.slice none 0 0) := Hnr3.out.cell 3
        have ln_9 : wz1.heap.size < wr3.heap.size := Hnr3.out.lt
        have hcz10 := same10_any a b c a b c [] [] _ _ wr3 (ReadsI.nil _) (ReadsI.nil _)
        rw [sameB_refl] at hcz10
        go_wp2_with fail
        refine hcz10.mono ?_
        rintro e wz10 ⟨rfl, kz10⟩
        clear hcz10 qn0_9 qn1_9 qn2_9 qn3_9 ln_9
        have HBz10 := Lib.hid (HBr3.out.trans (kz10.mono (Nat.le_trans hbase HBr3.out.size)))
        have Hbz10 := Lib.hid (Hbr3.out.call kz10)
        have Hnz10 := Lib.hid (Hnr3.out.call kz10)
        have Haz10 := Lib.hid (Har3.out.call kz10)
        have Hfz10 := Lib.hid (Hfr3.out.call kz10)
        clear kz10
        have qb0_10 : wz10.cell? ⟨w.heap.size, 0, none⟩ = some (.int .i64 s) := Hbz10.out.cell 0
        have qb1_10 : wz10.cell? ⟨w.heap.size, 1, none⟩ = some (.int .i64 lo) := Hbz10.out.cell 1
        have qb2_10 : wz10.cell? ⟨w.heap.size, 2, none⟩ = some (.int .i64 hi) := Hbz10.out.cell 2
        have qb3_10 : wz10.cell? ⟨w.heap.size, 3, none⟩ = some (.slice ao k cap) := Hbz10.out.cell 3
        have lb_10 : w.heap.size < wz10.heap.size := Hbz10.out.lt
        have hcz11 := rright10_any s lo hi xs _ wz10 (HX.out.below HBz10.out)
        rw [hg] at hcz11
        go_wp2_with fail
        refine hcz11.mono ?_
        rintro e wz11 ⟨rfl, kz11⟩
        clear hcz11 qb0_10 qb1_10 qb2_10 qb3_10 lb_10
        have HBz11 := Lib.hid (HBz10.out.trans (kz11.mono (Nat.le_trans hbase HBz10.out.size)))
        have Hbz11 := Lib.hid (Hbz10.out.call kz11)
        have Hnz11 := Lib.hid (Hnz10.out.call kz11)
        have Haz11 := Lib.hid (Haz10.out.call kz11)
        have Hfz11 := Lib.hid (Hfz10.out.call kz11)
        clear kz11
        have qb0_11 : wz11.cell? ⟨w.heap.size, 0, none⟩ = some (.int .i64 s) := Hbz11.out.cell 0
        have qb1_11 : wz11.cell? ⟨w.heap.size, 1, none⟩ = some (.int .i64 lo) := Hbz11.out.cell 1
        have qb2_11 : wz11.cell? ⟨w.heap.size, 2, none⟩ = some (.int .i64 hi) := Hbz11.out.cell 2
        have qb3_11 : wz11.cell? ⟨w.heap.size, 3, none⟩ = some (.slice ao k cap) := Hbz11.out.cell 3
        have lb_11 : w.heap.size < wz11.heap.size := Hbz11.out.lt
        have qf0_11 : wz11.cell? ⟨wz5.heap.size, 0, none⟩ = some (.int .i64 s) := Hfz11.out.cell 0
        have qf1_11 : wz11.cell? ⟨wz5.heap.size, 1, none⟩ = some (.int .i64 lo) := Hfz11.out.cell 1
        have qf2_11 : wz11.cell? ⟨wz5.heap.size, 2, none⟩ = some (.int .i64 hi) := Hfz11.out.cell 2
        have qf3_11 : wz11.cell? ⟨wz5.heap.size, 3, none⟩ = some (.slice none 0 0) := Hfz11.out.cell 3
        have lf_11 : wz5.heap.size < wz11.heap.size := Hfz11.out.lt
        have hcz12 := same10_any s lo hi s lo hi [] [] _ _ wz11 (ReadsI.nil _) (ReadsI.nil _)
        rw [sameB_refl] at hcz12
        go_wp2_with fail
        refine hcz12.mono ?_
        rintro e wz12 ⟨rfl, kz12⟩
        clear hcz12 qb0_11 qb1_11 qb2_11 qb3_11 lb_11 qf0_11 qf1_11 qf2_11 qf3_11 lf_11
        have HBz12 := Lib.hid (HBz11.out.trans (kz12.mono (Nat.le_trans hbase HBz11.out.size)))
        have Hbz12 := Lib.hid (Hbz11.out.call kz12)
        have Hnz12 := Lib.hid (Hnz11.out.call kz12)
        have Haz12 := Lib.hid (Haz11.out.call kz12)
        have Hfz12 := Lib.hid (Hfz11.out.call kz12)
        clear kz12
        have qb0_12 : wz12.cell? ⟨w.heap.size, 0, none⟩ = some (.int .i64 s) := Hbz12.out.cell 0
        have qb1_12 : wz12.cell? ⟨w.heap.size, 1, none⟩ = some (.int .i64 lo) := Hbz12.out.cell 1
        have qb2_12 : wz12.cell? ⟨w.heap.size, 2, none⟩ = some (.int .i64 hi) := Hbz12.out.cell 2
        have qb3_12 : wz12.cell? ⟨w.heap.size, 3, none⟩ = some (.slice ao k cap) := Hbz12.out.cell 3
        have lb_12 : w.heap.size < wz12.heap.size := Hbz12.out.lt
        have hcz13 := fits_any s lo hi x ao k cap wz12
        rw [decide_eq_false hf] at hcz13
        go_wp2_with fail
        refine hcz13.mono ?_
        rintro e wz13 ⟨rfl, kz13⟩
        clear hcz13 qb0_12 qb1_12 qb2_12 qb3_12 lb_12
        have HBz13 := Lib.hid (HBz12.out.trans (kz13.mono (Nat.le_trans hbase HBz12.out.size)))
        have Hbz13 := Lib.hid (Hbz12.out.call kz13)
        have Hnz13 := Lib.hid (Hnz12.out.call kz13)
        have Haz13 := Lib.hid (Haz12.out.call kz13)
        have Hfz13 := Lib.hid (Hfz12.out.call kz13)
        clear kz13
        have qa0_13 : wz13.cell? ⟨wz3.heap.size, 0, none⟩ = some (.int .i64 0) := Haz13.out.cell 0
        have qa1_13 : wz13.cell? ⟨wz3.heap.size, 1, none⟩ = some (.int .i64 0) := Haz13.out.cell 1
        have qa2_13 : wz13.cell? ⟨wz3.heap.size, 2, none⟩ = some (.int .i64 0) := Haz13.out.cell 2
        have qa3_13 : wz13.cell? ⟨wz3.heap.size, 3, none⟩ = some (.slice none 0 0) := Haz13.out.cell 3
        have la_13 : wz3.heap.size < wz13.heap.size := Haz13.out.lt
        have hcz14 := same10_any 0 0 0 0 0 0 [] [] _ _ wz13 (ReadsI.nil _) (ReadsI.nil _)
        rw [sameB_refl] at hcz14
        go_wp2_with fail
        refine hcz14.mono ?_
        rintro e wz14 ⟨rfl, kz14⟩
        clear hcz14 qa0_13 qa1_13 qa2_13 qa3_13 la_13
        have HBz14 := Lib.hid (HBz13.out.trans (kz14.mono (Nat.le_trans hbase HBz13.out.size)))
        have Hbz14 := Lib.hid (Hbz13.out.call kz14)
        have Hnz14 := Lib.hid (Hnz13.out.call kz14)
        have Haz14 := Lib.hid (Haz13.out.call kz14)
        have Hfz14 := Lib.hid (Hfz13.out.call kz14)
        clear kz14
        go_wp2
        go_ret
        exact ⟨rfl, HBz14.out⟩
  | false =>
    cases hg : grightB ⟨s, lo, hi, xs⟩ with
    | false =>
      have qb0_0 : wc.cell? ⟨w.heap.size, 0, none⟩ = some (.int .i64 s) := HB0.out.cell 0
      have qb1_0 : wc.cell? ⟨w.heap.size, 1, none⟩ = some (.int .i64 lo) := HB0.out.cell 1
      have qb2_0 : wc.cell? ⟨w.heap.size, 2, none⟩ = some (.int .i64 hi) := HB0.out.cell 2
      have qb3_0 : wc.cell? ⟨w.heap.size, 3, none⟩ = some (.slice ao k cap) := HB0.out.cell 3
      have lb_0 : w.heap.size < wc.heap.size := HB0.out.lt
      have hcz1 := new_no a b c wc hsz
      go_wp2_with fail
      refine hcz1.mono ?_
      rintro e wz1 ⟨rfl, kz1⟩
      clear hcz1 qb0_0 qb1_0 qb2_0 qb3_0 lb_0
      have HBz1 := Lib.hid (HB1.out.trans (kz1.mono (Nat.le_trans hbase HB1.out.size)))
      have Hbz1 := Lib.hid (HB0.out.call kz1)
      clear kz1
      obtain ⟨wz2, hwz2⟩ : ∃ wz2, wz1.alloc (.cells #[.int .i64 0, .int .i64 0, .int .i64 0, .slice none 0 0] 24) = wz2 := ⟨_, rfl⟩
      have kz2 : Below wz1.heap.size wz1 wz2 := by rw [← hwz2]; exact (Below.refl _ _).alloc (Nat.le_refl _) _
      have Hnz2 := Lib.hid (show Has wz2 wz1.heap.size [.int .i64 0, .int .i64 0, .int .i64 0, .slice none 0 0] 24 by rw [← hwz2]; exact Has.new _ _ _)
      have HWz2 := Lib.hid hwz2
      clear hwz2
      have HBz2 := Lib.hid (HBz1.out.trans (kz2.mono (Nat.le_trans hbase HBz1.out.size)))
      have Hbz2 := Lib.hid (Hbz1.out.call kz2)
      clear kz2
      have qb0_2 : wz1.cell? ⟨w.heap.size, 0, none⟩ = some (.int .i64 s) := Hbz1.out.cell 0
      have qb1_2 : wz1.cell? ⟨w.heap.size, 1, none⟩ = some (.int .i64 lo) := Hbz1.out.cell 1
      have qb2_2 : wz1.cell? ⟨w.heap.size, 2, none⟩ = some (.int .i64 hi) := Hbz1.out.cell 2
      have qb3_2 : wz1.cell? ⟨w.heap.size, 3, none⟩ = some (.slice ao k cap) := Hbz1.out.cell 3
      have lb_2 : w.heap.size < wz1.heap.size := Hbz1.out.lt
      have hcz3 := add_no s lo hi x xs _ wz2 (HX.out.below HBz2.out) hg
      go_wp2_with fail
      rw [HWz2.out]
      refine hcz3.mono ?_
      rintro e wz3 ⟨rfl, kz3⟩
      clear hcz3 qb0_2 qb1_2 qb2_2 qb3_2 lb_2
      have HBz3 := Lib.hid (HBz2.out.trans (kz3.mono (Nat.le_trans hbase HBz2.out.size)))
      have Hbz3 := Lib.hid (Hbz2.out.call kz3)
      have Hnz3 := Lib.hid (Hnz2.out.call kz3)
      clear kz3
      obtain ⟨wz4, hwz4⟩ : ∃ wz4, wz3.alloc (.cells #[.int .i64 0, .int .i64 0, .int .i64 0, .slice none 0 0] 24) = wz4 := ⟨_, rfl⟩
      have kz4 : Below wz3.heap.size wz3 wz4 := by rw [← hwz4]; exact (Below.refl _ _).alloc (Nat.le_refl _) _
      have Haz4 := Lib.hid (show Has wz4 wz3.heap.size [.int .i64 0, .int .i64 0, .int .i64 0, .slice none 0 0] 24 by rw [← hwz4]; exact Has.new _ _ _)
      have HWz4 := Lib.hid hwz4
      clear hwz4
      have HBz4 := Lib.hid (HBz3.out.trans (kz4.mono (Nat.le_trans hbase HBz3.out.size)))
      have Hbz4 := Lib.hid (Hbz3.out.call kz4)
      have Hnz4 := Lib.hid (Hnz3.out.call kz4)
      clear kz4
      have qb0_4 : wz3.cell? ⟨w.heap.size, 0, none⟩ = some (.int .i64 s) := Hbz3.out.cell 0
      have qb1_4 : wz3.cell? ⟨w.heap.size, 1, none⟩ = some (.int .i64 lo) := Hbz3.out.cell 1
      have qb2_4 : wz3.cell? ⟨w.heap.size, 2, none⟩ = some (.int .i64 hi) := Hbz3.out.cell 2
      have qb3_4 : wz3.cell? ⟨w.heap.size, 3, none⟩ = some (.slice ao k cap) := Hbz3.out.cell 3
      have lb_4 : w.heap.size < wz3.heap.size := Hbz3.out.lt
      have hcz5 := flush_no s lo hi xs _ wz4 (HX.out.below HBz4.out) hg
      go_wp2_with fail
      rw [HWz4.out]
      refine hcz5.mono ?_
      rintro e wz5 ⟨rfl, kz5⟩
      clear hcz5 qb0_4 qb1_4 qb2_4 qb3_4 lb_4
      have HBz5 := Lib.hid (HBz4.out.trans (kz5.mono (Nat.le_trans hbase HBz4.out.size)))
      have Hbz5 := Lib.hid (Hbz4.out.call kz5)
      have Hnz5 := Lib.hid (Hnz4.out.call kz5)
      have Haz5 := Lib.hid (Haz4.out.call kz5)
      clear kz5
      obtain ⟨wz6, hwz6⟩ : ∃ wz6, wz5.alloc (.cells #[.int .i64 0, .int .i64 0, .int .i64 0, .slice none 0 0] 24) = wz6 := ⟨_, rfl⟩
      have kz6 : Below wz5.heap.size wz5 wz6 := by rw [← hwz6]; exact (Below.refl _ _).alloc (Nat.le_refl _) _
      have Hfz6 := Lib.hid (show Has wz6 wz5.heap.size [.int .i64 0, .int .i64 0, .int .i64 0, .slice none 0 0] 24 by rw [← hwz6]; exact Has.new _ _ _)
      have HWz6 := Lib.hid hwz6
      clear hwz6
      have HBz6 := Lib.hid (HBz5.out.trans (kz6.mono (Nat.le_trans hbase HBz5.out.size)))
      have Hbz6 := Lib.hid (Hbz5.out.call kz6)
      have Hnz6 := Lib.hid (Hnz5.out.call kz6)
      have Haz6 := Lib.hid (Haz5.out.call kz6)
      clear kz6
      go_upto_region 5 with fail
      rw [HWz6.out]
      have qb0_6 : wz6.cell? ⟨w.heap.size, 0, none⟩ = some (.int .i64 s) := Hbz6.out.cell 0
      have qb1_6 : wz6.cell? ⟨w.heap.size, 1, none⟩ = some (.int .i64 lo) := Hbz6.out.cell 1
      have qb2_6 : wz6.cell? ⟨w.heap.size, 2, none⟩ = some (.int .i64 hi) := Hbz6.out.cell 2
      have qb3_6 : wz6.cell? ⟨w.heap.size, 3, none⟩ = some (.slice ao k cap) := Hbz6.out.cell 3
      have lb_6 : w.heap.size < wz6.heap.size := Hbz6.out.lt
      have hr1z := fun W (h : Below w.heap.size w W) => right10_any s lo hi xs _ W (HX.out.below h)
      have hr2z := fun W (h : Below w.heap.size w W) => rright10_any s lo hi xs _ W (HX.out.below h)
      rw [hg] at hr1z hr2z
      have hr3z := fun W (_ : Below w.heap.size w W) => alive10_any W
      go_region_held3 (fun W => W.cell? ⟨w.heap.size, 0, none⟩ = some (.int .i64 s) ∧ W.cell? ⟨w.heap.size, 1, none⟩ = some (.int .i64 lo) ∧ W.cell? ⟨w.heap.size, 2, none⟩ = some (.int .i64 hi) ∧ W.cell? ⟨w.heap.size, 3, none⟩ = some (.slice ao k cap)) (first | exact ⟨y30, y31, y32, y33⟩ | exact ⟨y20, y21, y22, y23⟩ | exact ⟨y10, y11, y12, y13⟩ | exact ⟨qb0_6, qb1_6, qb2_6, qb3_6⟩ | simp [go_sem, *]) (first | (go_at_call 11; refine (hr1z _ (by first | exact HBz6.out | exact Below.drew HBz6.out | exact Below.drew (Below.drew HBz6.out) | exact Below.drew (Below.drew (Below.drew HBz6.out)))).mono ?_; rintro e wr1 ⟨rfl, kr1⟩; (have HBr1 := Lib.hid (show Below w.heap.size w wr1 by first | exact HBz6.out.trans (kr1.mono HBz6.out.size) | exact (Below.drew HBz6.out).trans (kr1.mono HBz6.out.size) | exact (Below.drew (Below.drew HBz6.out)).trans (kr1.mono HBz6.out.size) | exact (Below.drew (Below.drew (Below.drew HBz6.out))).trans (kr1.mono HBz6.out.size))); (have Hbr1 := Lib.hid (show Has wr1 w.heap.size [.int .i64 s, .int .i64 lo, .int .i64 hi, .slice ao k cap] 24 from Hbz6.out.of (kr1.block _ (by exact Hbz6.out.lt)))); (have y10 : wr1.cell? ⟨w.heap.size, 0, none⟩ = some (.int .i64 s) := Hbr1.out.cell 0); (have y11 : wr1.cell? ⟨w.heap.size, 1, none⟩ = some (.int .i64 lo) := Hbr1.out.cell 1); (have y12 : wr1.cell? ⟨w.heap.size, 2, none⟩ = some (.int .i64 hi) := Hbr1.out.cell 2); (have y13 : wr1.cell? ⟨w.heap.size, 3, none⟩ = some (.slice ao k cap) := Hbr1.out.cell 3)) | (go_at_call 12; refine (hr2z _ (by first | exact HBr1.out | exact Below.drew HBr1.out | exact Below.drew (Below.drew HBr1.out) | exact Below.drew (Below.drew (Below.drew HBr1.out)))).mono ?_; rintro e wr2 ⟨rfl, kr2⟩; (have HBr2 := Lib.hid (show Below w.heap.size w wr2 by first | exact HBr1.out.trans (kr2.mono HBr1.out.size) | exact (Below.drew HBr1.out).trans (kr2.mono HBr1.out.size) | exact (Below.drew (Below.drew HBr1.out)).trans (kr2.mono HBr1.out.size) | exact (Below.drew (Below.drew (Below.drew HBr1.out))).trans (kr2.mono HBr1.out.size))); (have Hbr2 := Lib.hid (show Has wr2 w.heap.size [.int .i64 s, .int .i64 lo, .int .i64 hi, .slice ao k cap] 24 from Hbr1.out.of (kr2.block _ (by exact Hbr1.out.lt)))); (have y20 : wr2.cell? ⟨w.heap.size, 0, none⟩ = some (.int .i64 s) := Hbr2.out.cell 0); (have y21 : wr2.cell? ⟨w.heap.size, 1, none⟩ = some (.int .i64 lo) := Hbr2.out.cell 1); (have y22 : wr2.cell? ⟨w.heap.size, 2, none⟩ = some (.int .i64 hi) := Hbr2.out.cell 2); (have y23 : wr2.cell? ⟨w.heap.size, 3, none⟩ = some (.slice ao k cap) := Hbr2.out.cell 3)) | (go_at_call 13; refine (hr3z _ (by first | exact HBr2.out | exact Below.drew HBr2.out | exact Below.drew (Below.drew HBr2.out) | exact Below.drew (Below.drew (Below.drew HBr2.out)))).mono ?_; rintro e wr3 ⟨rfl, kr3⟩; (have HBr3 := Lib.hid (show Below w.heap.size w wr3 by first | exact HBr2.out.trans (kr3.mono HBr2.out.size) | exact (Below.drew HBr2.out).trans (kr3.mono HBr2.out.size) | exact (Below.drew (Below.drew HBr2.out)).trans (kr3.mono HBr2.out.size) | exact (Below.drew (Below.drew (Below.drew HBr2.out))).trans (kr3.mono HBr2.out.size))); (have Hbr3 := Lib.hid (show Has wr3 w.heap.size [.int .i64 s, .int .i64 lo, .int .i64 hi, .slice ao k cap] 24 from Hbr2.out.of (kr3.block _ (by exact Hbr2.out.lt)))); (have y30 : wr3.cell? ⟨w.heap.size, 0, none⟩ = some (.int .i64 s) := Hbr3.out.cell 0); (have y31 : wr3.cell? ⟨w.heap.size, 1, none⟩ = some (.int .i64 lo) := Hbr3.out.cell 1); (have y32 : wr3.cell? ⟨w.heap.size, 2, none⟩ = some (.int .i64 hi) := Hbr3.out.cell 2); (have y33 : wr3.cell? ⟨w.heap.size, 3, none⟩ = some (.slice ao k cap) := Hbr3.out.cell 3)))
      have Hnr1 := Lib.hid (Hnz6.out.step kr1 rfl)
      have Har1 := Lib.hid (Haz6.out.step kr1 rfl)
      have Hfr1 := Lib.hid (Hfz6.out.step kr1 rfl)
      have Hnr2 := Lib.hid (Hnr1.out.step kr2 rfl)
      have Har2 := Lib.hid (Har1.out.step kr2 rfl)
      have Hfr2 := Lib.hid (Hfr1.out.step kr2 rfl)
      have Hnr3 := Lib.hid (Hnr2.out.step kr3 rfl)
      have Har3 := Lib.hid (Har2.out.step kr3 rfl)
      have Hfr3 := Lib.hid (Hfr2.out.step kr3 rfl)
      clear kr1 kr2 kr3 hr1z hr2z hr3z y10 y11 y12 y13 y20 y21 y22 y23 y30 y31 y32 y33 qb0_6 qb1_6 qb2_6 qb3_6 lb_6
      have hsz2 := sizes_any a b c wr3
      rw [hsz] at hsz2
      go_wp2_with fail
      refine hsz2.mono ?_
      rintro e wq ⟨rfl, rfl⟩
      clear hsz2
      have qn0_9 : wr3.cell? ⟨wz1.heap.size, 0, none⟩ = some (.int .i64 0) := Hnr3.out.cell 0
      have qn1_9 : wr3.cell? ⟨wz1.heap.size, 1, none⟩ = some (.int .i64 0) := Hnr3.out.cell 1
      have qn2_9 : wr3.cell? ⟨wz1.heap.size, 2, none⟩ = some (.int .i64 0) := Hnr3.out.cell 2
      have qn3_9 : wr3.cell? ⟨wz1.heap.size, 3, none⟩ = some (.slice none 0 0) := Hnr3.out.cell 3
      have ln_9 : wz1.heap.size < wr3.heap.size := Hnr3.out.lt
      have hcz10 := same10_any 0 0 0 0 0 0 [] [] _ _ wr3 (ReadsI.nil _) (ReadsI.nil _)
      rw [sameB_refl] at hcz10
      go_wp2_with fail
      refine hcz10.mono ?_
      rintro e wz10 ⟨rfl, kz10⟩
      clear hcz10 qn0_9 qn1_9 qn2_9 qn3_9 ln_9
      have HBz10 := Lib.hid (HBr3.out.trans (kz10.mono (Nat.le_trans hbase HBr3.out.size)))
      have Hbz10 := Lib.hid (Hbr3.out.call kz10)
      have Hnz10 := Lib.hid (Hnr3.out.call kz10)
      have Haz10 := Lib.hid (Har3.out.call kz10)
      have Hfz10 := Lib.hid (Hfr3.out.call kz10)
      clear kz10
      have qb0_10 : wz10.cell? ⟨w.heap.size, 0, none⟩ = some (.int .i64 s) := Hbz10.out.cell 0
      have qb1_10 : wz10.cell? ⟨w.heap.size, 1, none⟩ = some (.int .i64 lo) := Hbz10.out.cell 1
      have qb2_10 : wz10.cell? ⟨w.heap.size, 2, none⟩ = some (.int .i64 hi) := Hbz10.out.cell 2
      have qb3_10 : wz10.cell? ⟨w.heap.size, 3, none⟩ = some (.slice ao k cap) := Hbz10.out.cell 3
      have lb_10 : w.heap.size < wz10.heap.size := Hbz10.out.lt
      have hcz11 := rright10_any s lo hi xs _ wz10 (HX.out.below HBz10.out)
      rw [hg] at hcz11
      go_wp2_with fail
      refine hcz11.mono ?_
      rintro e wz11 ⟨rfl, kz11⟩
      clear hcz11 qb0_10 qb1_10 qb2_10 qb3_10 lb_10
      have HBz11 := Lib.hid (HBz10.out.trans (kz11.mono (Nat.le_trans hbase HBz10.out.size)))
      have Hbz11 := Lib.hid (Hbz10.out.call kz11)
      have Hnz11 := Lib.hid (Hnz10.out.call kz11)
      have Haz11 := Lib.hid (Haz10.out.call kz11)
      have Hfz11 := Lib.hid (Hfz10.out.call kz11)
      clear kz11
      have qa0_11 : wz11.cell? ⟨wz3.heap.size, 0, none⟩ = some (.int .i64 0) := Haz11.out.cell 0
      have qa1_11 : wz11.cell? ⟨wz3.heap.size, 1, none⟩ = some (.int .i64 0) := Haz11.out.cell 1
      have qa2_11 : wz11.cell? ⟨wz3.heap.size, 2, none⟩ = some (.int .i64 0) := Haz11.out.cell 2
      have qa3_11 : wz11.cell? ⟨wz3.heap.size, 3, none⟩ = some (.slice none 0 0) := Haz11.out.cell 3
      have la_11 : wz3.heap.size < wz11.heap.size := Haz11.out.lt
      have hcz12 := same10_any 0 0 0 0 0 0 [] [] _ _ wz11 (ReadsI.nil _) (ReadsI.nil _)
      rw [sameB_refl] at hcz12
      go_wp2_with fail
      refine hcz12.mono ?_
      rintro e wz12 ⟨rfl, kz12⟩
      clear hcz12 qa0_11 qa1_11 qa2_11 qa3_11 la_11
      have HBz12 := Lib.hid (HBz11.out.trans (kz12.mono (Nat.le_trans hbase HBz11.out.size)))
      have Hbz12 := Lib.hid (Hbz11.out.call kz12)
      have Hnz12 := Lib.hid (Hnz11.out.call kz12)
      have Haz12 := Lib.hid (Haz11.out.call kz12)
      have Hfz12 := Lib.hid (Hfz11.out.call kz12)
      clear kz12
      have qf0_12 : wz12.cell? ⟨wz5.heap.size, 0, none⟩ = some (.int .i64 0) := Hfz12.out.cell 0
      have qf1_12 : wz12.cell? ⟨wz5.heap.size, 1, none⟩ = some (.int .i64 0) := Hfz12.out.cell 1
      have qf2_12 : wz12.cell? ⟨wz5.heap.size, 2, none⟩ = some (.int .i64 0) := Hfz12.out.cell 2
      have qf3_12 : wz12.cell? ⟨wz5.heap.size, 3, none⟩ = some (.slice none 0 0) := Hfz12.out.cell 3
      have lf_12 : wz5.heap.size < wz12.heap.size := Hfz12.out.lt
      have hcz13 := same10_any 0 0 0 0 0 0 [] [] _ _ wz12 (ReadsI.nil _) (ReadsI.nil _)
      rw [sameB_refl] at hcz13
      go_wp2_with fail
      refine hcz13.mono ?_
      rintro e wz13 ⟨rfl, kz13⟩
      clear hcz13 qf0_12 qf1_12 qf2_12 qf3_12 lf_12
      have HBz13 := Lib.hid (HBz12.out.trans (kz13.mono (Nat.le_trans hbase HBz12.out.size)))
      have Hbz13 := Lib.hid (Hbz12.out.call kz13)
      have Hnz13 := Lib.hid (Hnz12.out.call kz13)
      have Haz13 := Lib.hid (Haz12.out.call kz13)
      have Hfz13 := Lib.hid (Hfz12.out.call kz13)
      clear kz13
      go_wp2
      go_ret
      exact ⟨rfl, HBz13.out⟩
    | true =>
      by_cases hf : lo ≤ x ∧ x ≤ hi
      · obtain ⟨zs, hzs⟩ : ∃ zs, (addG ⟨s, lo, hi, xs⟩ x).xs = zs := ⟨_, rfl⟩
        obtain ⟨row, hrow⟩ : ∃ row, addR ⟨s, lo, hi, xs⟩ x = row := ⟨_, rfl⟩
        have qb0_0 : wc.cell? ⟨w.heap.size, 0, none⟩ = some (.int .i64 s) := HB0.out.cell 0
        have qb1_0 : wc.cell? ⟨w.heap.size, 1, none⟩ = some (.int .i64 lo) := HB0.out.cell 1
        have qb2_0 : wc.cell? ⟨w.heap.size, 2, none⟩ = some (.int .i64 hi) := HB0.out.cell 2
        have qb3_0 : wc.cell? ⟨w.heap.size, 3, none⟩ = some (.slice ao k cap) := HB0.out.cell 3
        have lb_0 : w.heap.size < wc.heap.size := HB0.out.lt
        have hcz1 := new_no a b c wc hsz
        go_wp2_with fail
        refine hcz1.mono ?_
        rintro e wz1 ⟨rfl, kz1⟩
        clear hcz1 qb0_0 qb1_0 qb2_0 qb3_0 lb_0
        have HBz1 := Lib.hid (HB1.out.trans (kz1.mono (Nat.le_trans hbase HB1.out.size)))
        have Hbz1 := Lib.hid (HB0.out.call kz1)
        clear kz1
        obtain ⟨wz2, hwz2⟩ : ∃ wz2, wz1.alloc (.cells #[.int .i64 0, .int .i64 0, .int .i64 0, .slice none 0 0] 24) = wz2 := ⟨_, rfl⟩
        have kz2 : Below wz1.heap.size wz1 wz2 := by rw [← hwz2]; exact (Below.refl _ _).alloc (Nat.le_refl _) _
        have Hnz2 := Lib.hid (show Has wz2 wz1.heap.size [.int .i64 0, .int .i64 0, .int .i64 0, .slice none 0 0] 24 by rw [← hwz2]; exact Has.new _ _ _)
        have HWz2 := Lib.hid hwz2
        clear hwz2
        have HBz2 := Lib.hid (HBz1.out.trans (kz2.mono (Nat.le_trans hbase HBz1.out.size)))
        have Hbz2 := Lib.hid (Hbz1.out.call kz2)
        clear kz2
        have qb0_2 : wz1.cell? ⟨w.heap.size, 0, none⟩ = some (.int .i64 s) := Hbz1.out.cell 0
        have qb1_2 : wz1.cell? ⟨w.heap.size, 1, none⟩ = some (.int .i64 lo) := Hbz1.out.cell 1
        have qb2_2 : wz1.cell? ⟨w.heap.size, 2, none⟩ = some (.int .i64 hi) := Hbz1.out.cell 2
        have qb3_2 : wz1.cell? ⟨w.heap.size, 3, none⟩ = some (.slice ao k cap) := Hbz1.out.cell 3
        have lb_2 : w.heap.size < wz1.heap.size := Hbz1.out.lt
        have hcz3 := add_any s lo hi x xs _ wz2 (HX.out.below HBz2.out) hg hf
        rw [hzs, hrow] at hcz3
        go_wp2_with fail
        rw [HWz2.out]
        refine hcz3.mono ?_
        rintro e wz3 ⟨v1, r1, rfl, hv1, hr1, kz3⟩
        clear hcz3 qb0_2 qb1_2 qb2_2 qb3_2 lb_2
        have HBz3 := Lib.hid (HBz2.out.trans (kz3.mono (Nat.le_trans hbase HBz2.out.size)))
        have Hbz3 := Lib.hid (Hbz2.out.call kz3)
        have Hnz3 := Lib.hid (Hnz2.out.call kz3)
        clear kz3
        obtain ⟨av, cv, rfl, -⟩ := id hv1
        obtain ⟨ar, cr, rfl, -⟩ := id hr1
        obtain ⟨zn, hzn⟩ : ∃ zn, zs.length = zn := ⟨_, rfl⟩
        obtain ⟨rn, hrn⟩ : ∃ rn, row.length = rn := ⟨_, rfl⟩
        rw [hzn] at hv1 ⊢
        rw [hrn] at hr1 ⊢
        have HV1 := Lib.hid hv1
        have HR1 := Lib.hid hr1
        clear hv1 hr1
        obtain ⟨wz4, hwz4⟩ : ∃ wz4, wz3.alloc (.cells #[.int .i64 s, .int .i64 lo, .int .i64 hi, .slice av zn cv] 24) = wz4 := ⟨_, rfl⟩
        have kz4 : Below wz3.heap.size wz3 wz4 := by rw [← hwz4]; exact (Below.refl _ _).alloc (Nat.le_refl _) _
        have Haz4 := Lib.hid (show Has wz4 wz3.heap.size [.int .i64 s, .int .i64 lo, .int .i64 hi, .slice av zn cv] 24 by rw [← hwz4]; exact Has.new _ _ _)
        have HWz4 := Lib.hid hwz4
        clear hwz4
        have HBz4 := Lib.hid (HBz3.out.trans (kz4.mono (Nat.le_trans hbase HBz3.out.size)))
        have Hbz4 := Lib.hid (Hbz3.out.call kz4)
        have Hnz4 := Lib.hid (Hnz3.out.call kz4)
        have Hvz4 := Lib.hid (HV1.out.below kz4)
        have Hrz4 := Lib.hid (HR1.out.below kz4)
        clear kz4
        have qb0_4 : wz3.cell? ⟨w.heap.size, 0, none⟩ = some (.int .i64 s) := Hbz3.out.cell 0
        have qb1_4 : wz3.cell? ⟨w.heap.size, 1, none⟩ = some (.int .i64 lo) := Hbz3.out.cell 1
        have qb2_4 : wz3.cell? ⟨w.heap.size, 2, none⟩ = some (.int .i64 hi) := Hbz3.out.cell 2
        have qb3_4 : wz3.cell? ⟨w.heap.size, 3, none⟩ = some (.slice ao k cap) := Hbz3.out.cell 3
        have lb_4 : w.heap.size < wz3.heap.size := Hbz3.out.lt
        have hcz5 := flush_ok s lo hi xs _ wz4 (HX.out.below HBz4.out) hg
        rw [hkl] at hcz5
        go_wp2_with fail
        rw [HWz4.out]
        refine hcz5.mono ?_
        rintro e wz5 ⟨rfl, kz5⟩
        clear hcz5 qb0_4 qb1_4 qb2_4 qb3_4 lb_4
        have HBz5 := Lib.hid (HBz4.out.trans (kz5.mono (Nat.le_trans hbase HBz4.out.size)))
        have Hbz5 := Lib.hid (Hbz4.out.call kz5)
        have Hnz5 := Lib.hid (Hnz4.out.call kz5)
        have Haz5 := Lib.hid (Haz4.out.call kz5)
        have Hvz5 := Lib.hid (Hvz4.out.below kz5)
        have Hrz5 := Lib.hid (Hrz4.out.below kz5)
        clear kz5
        obtain ⟨wz6, hwz6⟩ : ∃ wz6, wz5.alloc (.cells #[.int .i64 s, .int .i64 lo, .int .i64 hi, .slice none 0 0] 24) = wz6 := ⟨_, rfl⟩
        have kz6 : Below wz5.heap.size wz5 wz6 := by rw [← hwz6]; exact (Below.refl _ _).alloc (Nat.le_refl _) _
        have Hfz6 := Lib.hid (show Has wz6 wz5.heap.size [.int .i64 s, .int .i64 lo, .int .i64 hi, .slice none 0 0] 24 by rw [← hwz6]; exact Has.new _ _ _)
        have HWz6 := Lib.hid hwz6
        clear hwz6
        have HBz6 := Lib.hid (HBz5.out.trans (kz6.mono (Nat.le_trans hbase HBz5.out.size)))
        have Hbz6 := Lib.hid (Hbz5.out.call kz6)
        have Hnz6 := Lib.hid (Hnz5.out.call kz6)
        have Haz6 := Lib.hid (Haz5.out.call kz6)
        have Hvz6 := Lib.hid (Hvz5.out.below kz6)
        have Hrz6 := Lib.hid (Hrz5.out.below kz6)
        clear kz6
        go_upto_region 5 with fail
        rw [HWz6.out]
        have qb0_6 : wz6.cell? ⟨w.heap.size, 0, none⟩ = some (.int .i64 s) := Hbz6.out.cell 0
        have qb1_6 : wz6.cell? ⟨w.heap.size, 1, none⟩ = some (.int .i64 lo) := Hbz6.out.cell 1
        have qb2_6 : wz6.cell? ⟨w.heap.size, 2, none⟩ = some (.int .i64 hi) := Hbz6.out.cell 2
        have qb3_6 : wz6.cell? ⟨w.heap.size, 3, none⟩ = some (.slice ao k cap) := Hbz6.out.cell 3
        have lb_6 : w.heap.size < wz6.heap.size := Hbz6.out.lt
        have hr1z := fun W (h : Below w.heap.size w W) => right10_any s lo hi xs _ W (HX.out.below h)
        have hr2z := fun W (h : Below w.heap.size w W) => rright10_any s lo hi xs _ W (HX.out.below h)
        rw [hg] at hr1z hr2z
        have hr3z := fun W (_ : Below w.heap.size w W) => alive10_any W
        go_region_held3 (fun W => W.cell? ⟨w.heap.size, 0, none⟩ = some (.int .i64 s) ∧ W.cell? ⟨w.heap.size, 1, none⟩ = some (.int .i64 lo) ∧ W.cell? ⟨w.heap.size, 2, none⟩ = some (.int .i64 hi) ∧ W.cell? ⟨w.heap.size, 3, none⟩ = some (.slice ao k cap)) (first | exact ⟨y30, y31, y32, y33⟩ | exact ⟨y20, y21, y22, y23⟩ | exact ⟨y10, y11, y12, y13⟩ | exact ⟨qb0_6, qb1_6, qb2_6, qb3_6⟩ | simp [go_sem, *]) (first | (go_at_call 11; refine (hr1z _ (by first | exact HBz6.out | exact Below.drew HBz6.out | exact Below.drew (Below.drew HBz6.out) | exact Below.drew (Below.drew (Below.drew HBz6.out)))).mono ?_; rintro e wr1 ⟨rfl, kr1⟩; (have HBr1 := Lib.hid (show Below w.heap.size w wr1 by first | exact HBz6.out.trans (kr1.mono HBz6.out.size) | exact (Below.drew HBz6.out).trans (kr1.mono HBz6.out.size) | exact (Below.drew (Below.drew HBz6.out)).trans (kr1.mono HBz6.out.size) | exact (Below.drew (Below.drew (Below.drew HBz6.out))).trans (kr1.mono HBz6.out.size))); (have Hbr1 := Lib.hid (show Has wr1 w.heap.size [.int .i64 s, .int .i64 lo, .int .i64 hi, .slice ao k cap] 24 from Hbz6.out.of (kr1.block _ (by exact Hbz6.out.lt)))); (have y10 : wr1.cell? ⟨w.heap.size, 0, none⟩ = some (.int .i64 s) := Hbr1.out.cell 0); (have y11 : wr1.cell? ⟨w.heap.size, 1, none⟩ = some (.int .i64 lo) := Hbr1.out.cell 1); (have y12 : wr1.cell? ⟨w.heap.size, 2, none⟩ = some (.int .i64 hi) := Hbr1.out.cell 2); (have y13 : wr1.cell? ⟨w.heap.size, 3, none⟩ = some (.slice ao k cap) := Hbr1.out.cell 3)) | (go_at_call 12; refine (hr2z _ (by first | exact HBr1.out | exact Below.drew HBr1.out | exact Below.drew (Below.drew HBr1.out) | exact Below.drew (Below.drew (Below.drew HBr1.out)))).mono ?_; rintro e wr2 ⟨rfl, kr2⟩; (have HBr2 := Lib.hid (show Below w.heap.size w wr2 by first | exact HBr1.out.trans (kr2.mono HBr1.out.size) | exact (Below.drew HBr1.out).trans (kr2.mono HBr1.out.size) | exact (Below.drew (Below.drew HBr1.out)).trans (kr2.mono HBr1.out.size) | exact (Below.drew (Below.drew (Below.drew HBr1.out))).trans (kr2.mono HBr1.out.size))); (have Hbr2 := Lib.hid (show Has wr2 w.heap.size [.int .i64 s, .int .i64 lo, .int .i64 hi, .slice ao k cap] 24 from Hbr1.out.of (kr2.block _ (by exact Hbr1.out.lt)))); (have y20 : wr2.cell? ⟨w.heap.size, 0, none⟩ = some (.int .i64 s) := Hbr2.out.cell 0); (have y21 : wr2.cell? ⟨w.heap.size, 1, none⟩ = some (.int .i64 lo) := Hbr2.out.cell 1); (have y22 : wr2.cell? ⟨w.heap.size, 2, none⟩ = some (.int .i64 hi) := Hbr2.out.cell 2); (have y23 : wr2.cell? ⟨w.heap.size, 3, none⟩ = some (.slice ao k cap) := Hbr2.out.cell 3)) | (go_at_call 13; refine (hr3z _ (by first | exact HBr2.out | exact Below.drew HBr2.out | exact Below.drew (Below.drew HBr2.out) | exact Below.drew (Below.drew (Below.drew HBr2.out)))).mono ?_; rintro e wr3 ⟨rfl, kr3⟩; (have HBr3 := Lib.hid (show Below w.heap.size w wr3 by first | exact HBr2.out.trans (kr3.mono HBr2.out.size) | exact (Below.drew HBr2.out).trans (kr3.mono HBr2.out.size) | exact (Below.drew (Below.drew HBr2.out)).trans (kr3.mono HBr2.out.size) | exact (Below.drew (Below.drew (Below.drew HBr2.out))).trans (kr3.mono HBr2.out.size))); (have Hbr3 := Lib.hid (show Has wr3 w.heap.size [.int .i64 s, .int .i64 lo, .int .i64 hi, .slice ao k cap] 24 from Hbr2.out.of (kr3.block _ (by exact Hbr2.out.lt)))); (have y30 : wr3.cell? ⟨w.heap.size, 0, none⟩ = some (.int .i64 s) := Hbr3.out.cell 0); (have y31 : wr3.cell? ⟨w.heap.size, 1, none⟩ = some (.int .i64 lo) := Hbr3.out.cell 1); (have y32 : wr3.cell? ⟨w.heap.size, 2, none⟩ = some (.int .i64 hi) := Hbr3.out.cell 2); (have y33 : wr3.cell? ⟨w.heap.size, 3, none⟩ = some (.slice ao k cap) := Hbr3.out.cell 3)))
        have Hnr1 := Lib.hid (Hnz6.out.step kr1 rfl)
        have Har1 := Lib.hid (Haz6.out.step kr1 rfl)
        have Hfr1 := Lib.hid (Hfz6.out.step kr1 rfl)
        have Hvr1 := Lib.hid (Hvz6.out.step kr1 rfl)
        have Hrr1 := Lib.hid (Hrz6.out.step kr1 rfl)
        have Hnr2 := Lib.hid (Hnr1.out.step kr2 rfl)
        have Har2 := Lib.hid (Har1.out.step kr2 rfl)
        have Hfr2 := Lib.hid (Hfr1.out.step kr2 rfl)
        have Hvr2 := Lib.hid (Hvr1.out.step kr2 rfl)
        have Hrr2 := Lib.hid (Hrr1.out.step kr2 rfl)
        have Hnr3 := Lib.hid (Hnr2.out.step kr3 rfl)
        have Har3 := Lib.hid (Har2.out.step kr3 rfl)
        have Hfr3 := Lib.hid (Hfr2.out.step kr3 rfl)
        have Hvr3 := Lib.hid (Hvr2.out.step kr3 rfl)
        have Hrr3 := Lib.hid (Hrr2.out.step kr3 rfl)
        clear kr1 kr2 kr3 hr1z hr2z hr3z y10 y11 y12 y13 y20 y21 y22 y23 y30 y31 y32 y33 qb0_6 qb1_6 qb2_6 qb3_6 lb_6
        have hsz2 := sizes_any a b c wr3
        rw [hsz] at hsz2
        go_wp2_with fail
        refine hsz2.mono ?_
        rintro e wq ⟨rfl, rfl⟩
        clear hsz2
        have qn0_9 : wr3.cell? ⟨wz1.heap.size, 0, none⟩ = some (.int .i64 0) := Hnr3.out.cell 0
        have qn1_9 : wr3.cell? ⟨wz1.heap.size, 1, none⟩ = some (.int .i64 0) := Hnr3.out.cell 1
        have qn2_9 : wr3.cell? ⟨wz1.heap.size, 2, none⟩ = some (.int .i64 0) := Hnr3.out.cell 2
        have qn3_9 : wr3.cell? ⟨wz1.heap.size, 3, none⟩ = some (.slice none 0 0) := Hnr3.out.cell 3
        have ln_9 : wz1.heap.size < wr3.heap.size := Hnr3.out.lt
        have hcz10 := same10_any 0 0 0 0 0 0 [] [] _ _ wr3 (ReadsI.nil _) (ReadsI.nil _)
        rw [sameB_refl] at hcz10
        go_wp2_with fail
        refine hcz10.mono ?_
        rintro e wz10 ⟨rfl, kz10⟩
        clear hcz10 qn0_9 qn1_9 qn2_9 qn3_9 ln_9
        have HBz10 := Lib.hid (HBr3.out.trans (kz10.mono (Nat.le_trans hbase HBr3.out.size)))
        have Hbz10 := Lib.hid (Hbr3.out.call kz10)
        have Hnz10 := Lib.hid (Hnr3.out.call kz10)
        have Haz10 := Lib.hid (Har3.out.call kz10)
        have Hfz10 := Lib.hid (Hfr3.out.call kz10)
        have Hvz10 := Lib.hid (Hvr3.out.below kz10)
        have Hrz10 := Lib.hid (Hrr3.out.below kz10)
        clear kz10
        have qb0_10 : wz10.cell? ⟨w.heap.size, 0, none⟩ = some (.int .i64 s) := Hbz10.out.cell 0
        have qb1_10 : wz10.cell? ⟨w.heap.size, 1, none⟩ = some (.int .i64 lo) := Hbz10.out.cell 1
        have qb2_10 : wz10.cell? ⟨w.heap.size, 2, none⟩ = some (.int .i64 hi) := Hbz10.out.cell 2
        have qb3_10 : wz10.cell? ⟨w.heap.size, 3, none⟩ = some (.slice ao k cap) := Hbz10.out.cell 3
        have lb_10 : w.heap.size < wz10.heap.size := Hbz10.out.lt
        have hcz11 := rright10_any s lo hi xs _ wz10 (HX.out.below HBz10.out)
        rw [hg] at hcz11
        go_wp2_with fail
        refine hcz11.mono ?_
        rintro e wz11 ⟨rfl, kz11⟩
        clear hcz11 qb0_10 qb1_10 qb2_10 qb3_10 lb_10
        have HBz11 := Lib.hid (HBz10.out.trans (kz11.mono (Nat.le_trans hbase HBz10.out.size)))
        have Hbz11 := Lib.hid (Hbz10.out.call kz11)
        have Hnz11 := Lib.hid (Hnz10.out.call kz11)
        have Haz11 := Lib.hid (Haz10.out.call kz11)
        have Hfz11 := Lib.hid (Hfz10.out.call kz11)
        have Hvz11 := Lib.hid (Hvz10.out.below kz11)
        have Hrz11 := Lib.hid (Hrz10.out.below kz11)
        clear kz11
        have qb0_11 : wz11.cell? ⟨w.heap.size, 0, none⟩ = some (.int .i64 s) := Hbz11.out.cell 0
        have qb1_11 : wz11.cell? ⟨w.heap.size, 1, none⟩ = some (.int .i64 lo) := Hbz11.out.cell 1
        have qb2_11 : wz11.cell? ⟨w.heap.size, 2, none⟩ = some (.int .i64 hi) := Hbz11.out.cell 2
        have qb3_11 : wz11.cell? ⟨w.heap.size, 3, none⟩ = some (.slice ao k cap) := Hbz11.out.cell 3
        have lb_11 : w.heap.size < wz11.heap.size := Hbz11.out.lt
        have qf0_11 : wz11.cell? ⟨wz5.heap.size, 0, none⟩ = some (.int .i64 s) := Hfz11.out.cell 0
        have qf1_11 : wz11.cell? ⟨wz5.heap.size, 1, none⟩ = some (.int .i64 lo) := Hfz11.out.cell 1
        have qf2_11 : wz11.cell? ⟨wz5.heap.size, 2, none⟩ = some (.int .i64 hi) := Hfz11.out.cell 2
        have qf3_11 : wz11.cell? ⟨wz5.heap.size, 3, none⟩ = some (.slice none 0 0) := Hfz11.out.cell 3
        have lf_11 : wz5.heap.size < wz11.heap.size := Hfz11.out.lt
        have hcz12 := same10_any s lo hi s lo hi [] [] _ _ wz11 (ReadsI.nil _) (ReadsI.nil _)
        rw [sameB_refl] at hcz12
        go_wp2_with fail
        refine hcz12.mono ?_
        rintro e wz12 ⟨rfl, kz12⟩
        clear hcz12 qb0_11 qb1_11 qb2_11 qb3_11 lb_11 qf0_11 qf1_11 qf2_11 qf3_11 lf_11
        have HBz12 := Lib.hid (HBz11.out.trans (kz12.mono (Nat.le_trans hbase HBz11.out.size)))
        have Hbz12 := Lib.hid (Hbz11.out.call kz12)
        have Hnz12 := Lib.hid (Hnz11.out.call kz12)
        have Haz12 := Lib.hid (Haz11.out.call kz12)
        have Hfz12 := Lib.hid (Hfz11.out.call kz12)
        have Hvz12 := Lib.hid (Hvz11.out.below kz12)
        have Hrz12 := Lib.hid (Hrz11.out.below kz12)
        clear kz12
        have qb0_12 : wz12.cell? ⟨w.heap.size, 0, none⟩ = some (.int .i64 s) := Hbz12.out.cell 0
        have qb1_12 : wz12.cell? ⟨w.heap.size, 1, none⟩ = some (.int .i64 lo) := Hbz12.out.cell 1
        have qb2_12 : wz12.cell? ⟨w.heap.size, 2, none⟩ = some (.int .i64 hi) := Hbz12.out.cell 2
        have qb3_12 : wz12.cell? ⟨w.heap.size, 3, none⟩ = some (.slice ao k cap) := Hbz12.out.cell 3
        have lb_12 : w.heap.size < wz12.heap.size := Hbz12.out.lt
        have hcz13 := fits_any s lo hi x ao k cap wz12
        rw [decide_eq_true hf] at hcz13
        go_wp2_with fail
        refine hcz13.mono ?_
        rintro e wz13 ⟨rfl, kz13⟩
        clear hcz13 qb0_12 qb1_12 qb2_12 qb3_12 lb_12
        have HBz13 := Lib.hid (HBz12.out.trans (kz13.mono (Nat.le_trans hbase HBz12.out.size)))
        have Hbz13 := Lib.hid (Hbz12.out.call kz13)
        have Hnz13 := Lib.hid (Hnz12.out.call kz13)
        have Haz13 := Lib.hid (Haz12.out.call kz13)
        have Hfz13 := Lib.hid (Hfz12.out.call kz13)
        have Hvz13 := Lib.hid (Hvz12.out.below kz13)
        have Hrz13 := Lib.hid (Hrz12.out.below kz13)
        clear kz13
        have qb0_13 : wz13.cell? ⟨w.heap.size, 0, none⟩ = some (.int .i64 s) := Hbz13.out.cell 0
        have qb1_13 : wz13.cell? ⟨w.heap.size, 1, none⟩ = some (.int .i64 lo) := Hbz13.out.cell 1
        have qb2_13 : wz13.cell? ⟨w.heap.size, 2, none⟩ = some (.int .i64 hi) := Hbz13.out.cell 2
        have qb3_13 : wz13.cell? ⟨w.heap.size, 3, none⟩ = some (.slice ao k cap) := Hbz13.out.cell 3
        have lb_13 : w.heap.size < wz13.heap.size := Hbz13.out.lt
        have hcz14 := radd10_any s lo hi x xs _ wz13 (HX.out.below HBz13.out) (by rw [hkl]; omega)
        rw [hzs, hrow] at hcz14
        go_wp2_with fail
        refine hcz14.mono ?_
        rintro e wz14 ⟨v2, r2, rfl, hv2, hr2, kz14⟩
        clear hcz14 qb0_13 qb1_13 qb2_13 qb3_13 lb_13
        have HBz14 := Lib.hid (HBz13.out.trans (kz14.mono (Nat.le_trans hbase HBz13.out.size)))
        have Hbz14 := Lib.hid (Hbz13.out.call kz14)
        have Hnz14 := Lib.hid (Hnz13.out.call kz14)
        have Haz14 := Lib.hid (Haz13.out.call kz14)
        have Hfz14 := Lib.hid (Hfz13.out.call kz14)
        have Hvz14 := Lib.hid (Hvz13.out.below kz14)
        have Hrz14 := Lib.hid (Hrz13.out.below kz14)
        clear kz14
        obtain ⟨av2, cv2, hve, -⟩ := hv2.reads
        obtain ⟨ar2, cr2, hre, -⟩ := hr2.reads
        subst hve hre
        obtain ⟨zn2, hzn2⟩ : ∃ zn2, zs.length = zn2 := ⟨_, rfl⟩
        obtain ⟨rn2, hrn2⟩ : ∃ rn2, row.length = rn2 := ⟨_, rfl⟩
        have HV2 := Lib.hid hv2.reads
        have HR2 := Lib.hid hr2.reads
        rw [hzn2] at HV2 ⊢
        rw [hrn2] at HR2 ⊢
        clear hv2 hr2
        obtain ⟨wz15, hwz15⟩ : ∃ wz15, wz14.alloc (.cells #[.int .i64 s, .int .i64 lo, .int .i64 hi, .slice av2 zn2 cv2] 24) = wz15 := ⟨_, rfl⟩
        have kz15 : Below wz14.heap.size wz14 wz15 := by rw [← hwz15]; exact (Below.refl _ _).alloc (Nat.le_refl _) _
        have Hcz15 := Lib.hid (show Has wz15 wz14.heap.size [.int .i64 s, .int .i64 lo, .int .i64 hi, .slice av2 zn2 cv2] 24 by rw [← hwz15]; exact Has.new _ _ _)
        have HWz15 := Lib.hid hwz15
        clear hwz15
        have HBz15 := Lib.hid (HBz14.out.trans (kz15.mono (Nat.le_trans hbase HBz14.out.size)))
        have Hbz15 := Lib.hid (Hbz14.out.call kz15)
        have Hnz15 := Lib.hid (Hnz14.out.call kz15)
        have Haz15 := Lib.hid (Haz14.out.call kz15)
        have Hfz15 := Lib.hid (Hfz14.out.call kz15)
        have Hvz15 := Lib.hid (Hvz14.out.below kz15)
        have Hrz15 := Lib.hid (Hrz14.out.below kz15)
        have Hv2z15 := Lib.hid (HV2.out.below kz15)
        have Hr2z15 := Lib.hid (HR2.out.below kz15)
        clear kz15
        have qa0_15 : wz14.cell? ⟨wz3.heap.size, 0, none⟩ = some (.int .i64 s) := Haz14.out.cell 0
        have qa1_15 : wz14.cell? ⟨wz3.heap.size, 1, none⟩ = some (.int .i64 lo) := Haz14.out.cell 1
        have qa2_15 : wz14.cell? ⟨wz3.heap.size, 2, none⟩ = some (.int .i64 hi) := Haz14.out.cell 2
        have qa3_15 : wz14.cell? ⟨wz3.heap.size, 3, none⟩ = some (.slice av zn cv) := Haz14.out.cell 3
        have la_15 : wz3.heap.size < wz14.heap.size := Haz14.out.lt
        have hcz16 := same10_any s lo hi s lo hi zs zs _ _ wz15 (Hvz15.out) (Hv2z15.out)
        rw [sameB_refl] at hcz16
        go_wp2_with fail
        rw [HWz15.out]
        refine hcz16.mono ?_
        rintro e wz16 ⟨rfl, kz16⟩
        clear hcz16 qa0_15 qa1_15 qa2_15 qa3_15 la_15
        have HBz16 := Lib.hid (HBz15.out.trans (kz16.mono (Nat.le_trans hbase HBz15.out.size)))
        have Hbz16 := Lib.hid (Hbz15.out.call kz16)
        have Hnz16 := Lib.hid (Hnz15.out.call kz16)
        have Haz16 := Lib.hid (Haz15.out.call kz16)
        have Hfz16 := Lib.hid (Hfz15.out.call kz16)
        have Hcz16 := Lib.hid (Hcz15.out.call kz16)
        have Hvz16 := Lib.hid (Hvz15.out.below kz16)
        have Hrz16 := Lib.hid (Hrz15.out.below kz16)
        have Hv2z16 := Lib.hid (Hv2z15.out.below kz16)
        have Hr2z16 := Lib.hid (Hr2z15.out.below kz16)
        clear kz16
        have hin := ints_any row row _ _ wz16 Hrz16.out Hr2z16.out
        rw [decide_eq_true rfl] at hin
        go_wp2_with fail
        refine hin.mono ?_
        rintro e wl ⟨rfl, mm, rfl⟩
        have HBl := Lib.hid (Below.drewN HBz16.out mm)
        clear hin
        go_wp2
        go_ret
        exact ⟨rfl, HBl.out⟩
      · skip
        have qb0_0 : wc.cell? ⟨w.heap.size, 0, none⟩ = some (.int .i64 s) := HB0.out.cell 0
        have qb1_0 : wc.cell? ⟨w.heap.size, 1, none⟩ = some (.int .i64 lo) := HB0.out.cell 1
        have qb2_0 : wc.cell? ⟨w.heap.size, 2, none⟩ = some (.int .i64 hi) := HB0.out.cell 2
        have qb3_0 : wc.cell? ⟨w.heap.size, 3, none⟩ = some (.slice ao k cap) := HB0.out.cell 3
        have lb_0 : w.heap.size < wc.heap.size := HB0.out.lt
        have hcz1 := new_no a b c wc hsz
        go_wp2_with fail
        refine hcz1.mono ?_
        rintro e wz1 ⟨rfl, kz1⟩
        clear hcz1 qb0_0 qb1_0 qb2_0 qb3_0 lb_0
        have HBz1 := Lib.hid (HB1.out.trans (kz1.mono (Nat.le_trans hbase HB1.out.size)))
        have Hbz1 := Lib.hid (HB0.out.call kz1)
        clear kz1
        obtain ⟨wz2, hwz2⟩ : ∃ wz2, wz1.alloc (.cells #[.int .i64 0, .int .i64 0, .int .i64 0, .slice none 0 0] 24) = wz2 := ⟨_, rfl⟩
        have kz2 : Below wz1.heap.size wz1 wz2 := by rw [← hwz2]; exact (Below.refl _ _).alloc (Nat.le_refl _) _
        have Hnz2 := Lib.hid (show Has wz2 wz1.heap.size [.int .i64 0, .int .i64 0, .int .i64 0, .slice none 0 0] 24 by rw [← hwz2]; exact Has.new _ _ _)
        have HWz2 := Lib.hid hwz2
        clear hwz2
        have HBz2 := Lib.hid (HBz1.out.trans (kz2.mono (Nat.le_trans hbase HBz1.out.size)))
        have Hbz2 := Lib.hid (Hbz1.out.call kz2)
        clear kz2
        have qb0_2 : wz1.cell? ⟨w.heap.size, 0, none⟩ = some (.int .i64 s) := Hbz1.out.cell 0
        have qb1_2 : wz1.cell? ⟨w.heap.size, 1, none⟩ = some (.int .i64 lo) := Hbz1.out.cell 1
        have qb2_2 : wz1.cell? ⟨w.heap.size, 2, none⟩ = some (.int .i64 hi) := Hbz1.out.cell 2
        have qb3_2 : wz1.cell? ⟨w.heap.size, 3, none⟩ = some (.slice ao k cap) := Hbz1.out.cell 3
        have lb_2 : w.heap.size < wz1.heap.size := Hbz1.out.lt
        have hcz3 := add_out s lo hi x xs _ wz2 (HX.out.below HBz2.out) hg hf
        go_wp2_with fail
        rw [HWz2.out]
        refine hcz3.mono ?_
        rintro e wz3 ⟨rfl, kz3⟩
        clear hcz3 qb0_2 qb1_2 qb2_2 qb3_2 lb_2
        have HBz3 := Lib.hid (HBz2.out.trans (kz3.mono (Nat.le_trans hbase HBz2.out.size)))
        have Hbz3 := Lib.hid (Hbz2.out.call kz3)
        have Hnz3 := Lib.hid (Hnz2.out.call kz3)
        clear kz3
        obtain ⟨wz4, hwz4⟩ : ∃ wz4, wz3.alloc (.cells #[.int .i64 0, .int .i64 0, .int .i64 0, .slice none 0 0] 24) = wz4 := ⟨_, rfl⟩
        have kz4 : Below wz3.heap.size wz3 wz4 := by rw [← hwz4]; exact (Below.refl _ _).alloc (Nat.le_refl _) _
        have Haz4 := Lib.hid (show Has wz4 wz3.heap.size [.int .i64 0, .int .i64 0, .int .i64 0, .slice none 0 0] 24 by rw [← hwz4]; exact Has.new _ _ _)
        have HWz4 := Lib.hid hwz4
        clear hwz4
        have HBz4 := Lib.hid (HBz3.out.trans (kz4.mono (Nat.le_trans hbase HBz3.out.size)))
        have Hbz4 := Lib.hid (Hbz3.out.call kz4)
        have Hnz4 := Lib.hid (Hnz3.out.call kz4)
        clear kz4
        have qb0_4 : wz3.cell? ⟨w.heap.size, 0, none⟩ = some (.int .i64 s) := Hbz3.out.cell 0
        have qb1_4 : wz3.cell? ⟨w.heap.size, 1, none⟩ = some (.int .i64 lo) := Hbz3.out.cell 1
        have qb2_4 : wz3.cell? ⟨w.heap.size, 2, none⟩ = some (.int .i64 hi) := Hbz3.out.cell 2
        have qb3_4 : wz3.cell? ⟨w.heap.size, 3, none⟩ = some (.slice ao k cap) := Hbz3.out.cell 3
        have lb_4 : w.heap.size < wz3.heap.size := Hbz3.out.lt
        have hcz5 := flush_ok s lo hi xs _ wz4 (HX.out.below HBz4.out) hg
        rw [hkl] at hcz5
        go_wp2_with fail
        rw [HWz4.out]
        refine hcz5.mono ?_
        rintro e wz5 ⟨rfl, kz5⟩
        clear hcz5 qb0_4 qb1_4 qb2_4 qb3_4 lb_4
        have HBz5 := Lib.hid (HBz4.out.trans (kz5.mono (Nat.le_trans hbase HBz4.out.size)))
        have Hbz5 := Lib.hid (Hbz4.out.call kz5)
        have Hnz5 := Lib.hid (Hnz4.out.call kz5)
        have Haz5 := Lib.hid (Haz4.out.call kz5)
        clear kz5
        obtain ⟨wz6, hwz6⟩ : ∃ wz6, wz5.alloc (.cells #[.int .i64 s, .int .i64 lo, .int .i64 hi, .slice none 0 0] 24) = wz6 := ⟨_, rfl⟩
        have kz6 : Below wz5.heap.size wz5 wz6 := by rw [← hwz6]; exact (Below.refl _ _).alloc (Nat.le_refl _) _
        have Hfz6 := Lib.hid (show Has wz6 wz5.heap.size [.int .i64 s, .int .i64 lo, .int .i64 hi, .slice none 0 0] 24 by rw [← hwz6]; exact Has.new _ _ _)
        have HWz6 := Lib.hid hwz6
        clear hwz6
        have HBz6 := Lib.hid (HBz5.out.trans (kz6.mono (Nat.le_trans hbase HBz5.out.size)))
        have Hbz6 := Lib.hid (Hbz5.out.call kz6)
        have Hnz6 := Lib.hid (Hnz5.out.call kz6)
        have Haz6 := Lib.hid (Haz5.out.call kz6)
        clear kz6
        go_upto_region 5 with fail
        rw [HWz6.out]
        have qb0_6 : wz6.cell? ⟨w.heap.size, 0, none⟩ = some (.int .i64 s) := Hbz6.out.cell 0
        have qb1_6 : wz6.cell? ⟨w.heap.size, 1, none⟩ = some (.int .i64 lo) := Hbz6.out.cell 1
        have qb2_6 : wz6.cell? ⟨w.heap.size, 2, none⟩ = some (.int .i64 hi) := Hbz6.out.cell 2
        have qb3_6 : wz6.cell? ⟨w.heap.size, 3, none⟩ = some (.slice ao k cap) := Hbz6.out.cell 3
        have lb_6 : w.heap.size < wz6.heap.size := Hbz6.out.lt
        have hr1z := fun W (h : Below w.heap.size w W) => right10_any s lo hi xs _ W (HX.out.below h)
        have hr2z := fun W (h : Below w.heap.size w W) => rright10_any s lo hi xs _ W (HX.out.below h)
        rw [hg] at hr1z hr2z
        have hr3z := fun W (_ : Below w.heap.size w W) => alive10_any W
        go_region_held3 (fun W => W.cell? ⟨w.heap.size, 0, none⟩ = some (.int .i64 s) ∧ W.cell? ⟨w.heap.size, 1, none⟩ = some (.int .i64 lo) ∧ W.cell? ⟨w.heap.size, 2, none⟩ = some (.int .i64 hi) ∧ W.cell? ⟨w.heap.size, 3, none⟩ = some (.slice ao k cap)) (first | exact ⟨y30, y31, y32, y33⟩ | exact ⟨y20, y21, y22, y23⟩ | exact ⟨y10, y11, y12, y13⟩ | exact ⟨qb0_6, qb1_6, qb2_6, qb3_6⟩ | simp [go_sem, *]) (first | (go_at_call 11; refine (hr1z _ (by first | exact HBz6.out | exact Below.drew HBz6.out | exact Below.drew (Below.drew HBz6.out) | exact Below.drew (Below.drew (Below.drew HBz6.out)))).mono ?_; rintro e wr1 ⟨rfl, kr1⟩; (have HBr1 := Lib.hid (show Below w.heap.size w wr1 by first | exact HBz6.out.trans (kr1.mono HBz6.out.size) | exact (Below.drew HBz6.out).trans (kr1.mono HBz6.out.size) | exact (Below.drew (Below.drew HBz6.out)).trans (kr1.mono HBz6.out.size) | exact (Below.drew (Below.drew (Below.drew HBz6.out))).trans (kr1.mono HBz6.out.size))); (have Hbr1 := Lib.hid (show Has wr1 w.heap.size [.int .i64 s, .int .i64 lo, .int .i64 hi, .slice ao k cap] 24 from Hbz6.out.of (kr1.block _ (by exact Hbz6.out.lt)))); (have y10 : wr1.cell? ⟨w.heap.size, 0, none⟩ = some (.int .i64 s) := Hbr1.out.cell 0); (have y11 : wr1.cell? ⟨w.heap.size, 1, none⟩ = some (.int .i64 lo) := Hbr1.out.cell 1); (have y12 : wr1.cell? ⟨w.heap.size, 2, none⟩ = some (.int .i64 hi) := Hbr1.out.cell 2); (have y13 : wr1.cell? ⟨w.heap.size, 3, none⟩ = some (.slice ao k cap) := Hbr1.out.cell 3)) | (go_at_call 12; refine (hr2z _ (by first | exact HBr1.out | exact Below.drew HBr1.out | exact Below.drew (Below.drew HBr1.out) | exact Below.drew (Below.drew (Below.drew HBr1.out)))).mono ?_; rintro e wr2 ⟨rfl, kr2⟩; (have HBr2 := Lib.hid (show Below w.heap.size w wr2 by first | exact HBr1.out.trans (kr2.mono HBr1.out.size) | exact (Below.drew HBr1.out).trans (kr2.mono HBr1.out.size) | exact (Below.drew (Below.drew HBr1.out)).trans (kr2.mono HBr1.out.size) | exact (Below.drew (Below.drew (Below.drew HBr1.out))).trans (kr2.mono HBr1.out.size))); (have Hbr2 := Lib.hid (show Has wr2 w.heap.size [.int .i64 s, .int .i64 lo, .int .i64 hi, .slice ao k cap] 24 from Hbr1.out.of (kr2.block _ (by exact Hbr1.out.lt)))); (have y20 : wr2.cell? ⟨w.heap.size, 0, none⟩ = some (.int .i64 s) := Hbr2.out.cell 0); (have y21 : wr2.cell? ⟨w.heap.size, 1, none⟩ = some (.int .i64 lo) := Hbr2.out.cell 1); (have y22 : wr2.cell? ⟨w.heap.size, 2, none⟩ = some (.int .i64 hi) := Hbr2.out.cell 2); (have y23 : wr2.cell? ⟨w.heap.size, 3, none⟩ = some (.slice ao k cap) := Hbr2.out.cell 3)) | (go_at_call 13; refine (hr3z _ (by first | exact HBr2.out | exact Below.drew HBr2.out | exact Below.drew (Below.drew HBr2.out) | exact Below.drew (Below.drew (Below.drew HBr2.out)))).mono ?_; rintro e wr3 ⟨rfl, kr3⟩; (have HBr3 := Lib.hid (show Below w.heap.size w wr3 by first | exact HBr2.out.trans (kr3.mono HBr2.out.size) | exact (Below.drew HBr2.out).trans (kr3.mono HBr2.out.size) | exact (Below.drew (Below.drew HBr2.out)).trans (kr3.mono HBr2.out.size) | exact (Below.drew (Below.drew (Below.drew HBr2.out))).trans (kr3.mono HBr2.out.size))); (have Hbr3 := Lib.hid (show Has wr3 w.heap.size [.int .i64 s, .int .i64 lo, .int .i64 hi, .slice ao k cap] 24 from Hbr2.out.of (kr3.block _ (by exact Hbr2.out.lt)))); (have y30 : wr3.cell? ⟨w.heap.size, 0, none⟩ = some (.int .i64 s) := Hbr3.out.cell 0); (have y31 : wr3.cell? ⟨w.heap.size, 1, none⟩ = some (.int .i64 lo) := Hbr3.out.cell 1); (have y32 : wr3.cell? ⟨w.heap.size, 2, none⟩ = some (.int .i64 hi) := Hbr3.out.cell 2); (have y33 : wr3.cell? ⟨w.heap.size, 3, none⟩ = some (.slice ao k cap) := Hbr3.out.cell 3)))
        have Hnr1 := Lib.hid (Hnz6.out.step kr1 rfl)
        have Har1 := Lib.hid (Haz6.out.step kr1 rfl)
        have Hfr1 := Lib.hid (Hfz6.out.step kr1 rfl)
        have Hnr2 := Lib.hid (Hnr1.out.step kr2 rfl)
        have Har2 := Lib.hid (Har1.out.step kr2 rfl)
        have Hfr2 := Lib.hid (Hfr1.out.step kr2 rfl)
        have Hnr3 := Lib.hid (Hnr2.out.step kr3 rfl)
        have Har3 := Lib.hid (Har2.out.step kr3 rfl)
        have Hfr3 := Lib.hid (Hfr2.out.step kr3 rfl)
        clear kr1 kr2 kr3 hr1z hr2z hr3z y10 y11 y12 y13 y20 y21 y22 y23 y30 y31 y32 y33 qb0_6 qb1_6 qb2_6 qb3_6 lb_6
        have hsz2 := sizes_any a b c wr3
        rw [hsz] at hsz2
        go_wp2_with fail
        refine hsz2.mono ?_
        rintro e wq ⟨rfl, rfl⟩
        clear hsz2
        have qn0_9 : wr3.cell? ⟨wz1.heap.size, 0, none⟩ = some (.int .i64 0) := Hnr3.out.cell 0
        have qn1_9 : wr3.cell? ⟨wz1.heap.size, 1, none⟩ = some (.int .i64 0) := Hnr3.out.cell 1
        have qn2_9 : wr3.cell? ⟨wz1.heap.size, 2, none⟩ = some (.int .i64 0) := Hnr3.out.cell 2
        have qn3_9 : wr3.cell? ⟨wz1.heap.size, 3, none⟩ = some (.slice none 0 0) := Hnr3.out.cell 3
        have ln_9 : wz1.heap.size < wr3.heap.size := Hnr3.out.lt
        have hcz10 := same10_any 0 0 0 0 0 0 [] [] _ _ wr3 (ReadsI.nil _) (ReadsI.nil _)
        rw [sameB_refl] at hcz10
        go_wp2_with fail
        refine hcz10.mono ?_
        rintro e wz10 ⟨rfl, kz10⟩
        clear hcz10 qn0_9 qn1_9 qn2_9 qn3_9 ln_9
        have HBz10 := Lib.hid (HBr3.out.trans (kz10.mono (Nat.le_trans hbase HBr3.out.size)))
        have Hbz10 := Lib.hid (Hbr3.out.call kz10)
        have Hnz10 := Lib.hid (Hnr3.out.call kz10)
        have Haz10 := Lib.hid (Har3.out.call kz10)
        have Hfz10 := Lib.hid (Hfr3.out.call kz10)
        clear kz10
        have qb0_10 : wz10.cell? ⟨w.heap.size, 0, none⟩ = some (.int .i64 s) := Hbz10.out.cell 0
        have qb1_10 : wz10.cell? ⟨w.heap.size, 1, none⟩ = some (.int .i64 lo) := Hbz10.out.cell 1
        have qb2_10 : wz10.cell? ⟨w.heap.size, 2, none⟩ = some (.int .i64 hi) := Hbz10.out.cell 2
        have qb3_10 : wz10.cell? ⟨w.heap.size, 3, none⟩ = some (.slice ao k cap) := Hbz10.out.cell 3
        have lb_10 : w.heap.size < wz10.heap.size := Hbz10.out.lt
        have hcz11 := rright10_any s lo hi xs _ wz10 (HX.out.below HBz10.out)
        rw [hg] at hcz11
        go_wp2_with fail
        refine hcz11.mono ?_
        rintro e wz11 ⟨rfl, kz11⟩
        clear hcz11 qb0_10 qb1_10 qb2_10 qb3_10 lb_10
        have HBz11 := Lib.hid (HBz10.out.trans (kz11.mono (Nat.le_trans hbase HBz10.out.size)))
        have Hbz11 := Lib.hid (Hbz10.out.call kz11)
        have Hnz11 := Lib.hid (Hnz10.out.call kz11)
        have Haz11 := Lib.hid (Haz10.out.call kz11)
        have Hfz11 := Lib.hid (Hfz10.out.call kz11)
        clear kz11
        have qb0_11 : wz11.cell? ⟨w.heap.size, 0, none⟩ = some (.int .i64 s) := Hbz11.out.cell 0
        have qb1_11 : wz11.cell? ⟨w.heap.size, 1, none⟩ = some (.int .i64 lo) := Hbz11.out.cell 1
        have qb2_11 : wz11.cell? ⟨w.heap.size, 2, none⟩ = some (.int .i64 hi) := Hbz11.out.cell 2
        have qb3_11 : wz11.cell? ⟨w.heap.size, 3, none⟩ = some (.slice ao k cap) := Hbz11.out.cell 3
        have lb_11 : w.heap.size < wz11.heap.size := Hbz11.out.lt
        have qf0_11 : wz11.cell? ⟨wz5.heap.size, 0, none⟩ = some (.int .i64 s) := Hfz11.out.cell 0
        have qf1_11 : wz11.cell? ⟨wz5.heap.size, 1, none⟩ = some (.int .i64 lo) := Hfz11.out.cell 1
        have qf2_11 : wz11.cell? ⟨wz5.heap.size, 2, none⟩ = some (.int .i64 hi) := Hfz11.out.cell 2
        have qf3_11 : wz11.cell? ⟨wz5.heap.size, 3, none⟩ = some (.slice none 0 0) := Hfz11.out.cell 3
        have lf_11 : wz5.heap.size < wz11.heap.size := Hfz11.out.lt
        have hcz12 := same10_any s lo hi s lo hi [] [] _ _ wz11 (ReadsI.nil _) (ReadsI.nil _)
        rw [sameB_refl] at hcz12
        go_wp2_with fail
        refine hcz12.mono ?_
        rintro e wz12 ⟨rfl, kz12⟩
        clear hcz12 qb0_11 qb1_11 qb2_11 qb3_11 lb_11 qf0_11 qf1_11 qf2_11 qf3_11 lf_11
        have HBz12 := Lib.hid (HBz11.out.trans (kz12.mono (Nat.le_trans hbase HBz11.out.size)))
        have Hbz12 := Lib.hid (Hbz11.out.call kz12)
        have Hnz12 := Lib.hid (Hnz11.out.call kz12)
        have Haz12 := Lib.hid (Haz11.out.call kz12)
        have Hfz12 := Lib.hid (Hfz11.out.call kz12)
        clear kz12
        have qb0_12 : wz12.cell? ⟨w.heap.size, 0, none⟩ = some (.int .i64 s) := Hbz12.out.cell 0
        have qb1_12 : wz12.cell? ⟨w.heap.size, 1, none⟩ = some (.int .i64 lo) := Hbz12.out.cell 1
        have qb2_12 : wz12.cell? ⟨w.heap.size, 2, none⟩ = some (.int .i64 hi) := Hbz12.out.cell 2
        have qb3_12 : wz12.cell? ⟨w.heap.size, 3, none⟩ = some (.slice ao k cap) := Hbz12.out.cell 3
        have lb_12 : w.heap.size < wz12.heap.size := Hbz12.out.lt
        have hcz13 := fits_any s lo hi x ao k cap wz12
        rw [decide_eq_false hf] at hcz13
        go_wp2_with fail
        refine hcz13.mono ?_
        rintro e wz13 ⟨rfl, kz13⟩
        clear hcz13 qb0_12 qb1_12 qb2_12 qb3_12 lb_12
        have HBz13 := Lib.hid (HBz12.out.trans (kz13.mono (Nat.le_trans hbase HBz12.out.size)))
        have Hbz13 := Lib.hid (Hbz12.out.call kz13)
        have Hnz13 := Lib.hid (Hnz12.out.call kz13)
        have Haz13 := Lib.hid (Haz12.out.call kz13)
        have Hfz13 := Lib.hid (Hfz12.out.call kz13)
        clear kz13
        have qa0_13 : wz13.cell? ⟨wz3.heap.size, 0, none⟩ = some (.int .i64 0) := Haz13.out.cell 0
        have qa1_13 : wz13.cell? ⟨wz3.heap.size, 1, none⟩ = some (.int .i64 0) := Haz13.out.cell 1
        have qa2_13 : wz13.cell? ⟨wz3.heap.size, 2, none⟩ = some (.int .i64 0) := Haz13.out.cell 2
        have qa3_13 : wz13.cell? ⟨wz3.heap.size, 3, none⟩ = some (.slice none 0 0) := Haz13.out.cell 3
        have la_13 : wz3.heap.size < wz13.heap.size := Haz13.out.lt
        have hcz14 := same10_any 0 0 0 0 0 0 [] [] _ _ wz13 (ReadsI.nil _) (ReadsI.nil _)
        rw [sameB_refl] at hcz14
        go_wp2_with fail
        refine hcz14.mono ?_
        rintro e wz14 ⟨rfl, kz14⟩
        clear hcz14 qa0_13 qa1_13 qa2_13 qa3_13 la_13
        have HBz14 := Lib.hid (HBz13.out.trans (kz14.mono (Nat.le_trans hbase HBz13.out.size)))
        have Hbz14 := Lib.hid (Hbz13.out.call kz14)
        have Hnz14 := Lib.hid (Hnz13.out.call kz14)
        have Haz14 := Lib.hid (Haz13.out.call kz14)
        have Hfz14 := Lib.hid (Hfz13.out.call kz14)
        clear kz14
        go_wp2
        go_ret
        exact ⟨rfl, HBz14.out⟩
end Go.Proofs.Ytnpgofkdfckioaa
