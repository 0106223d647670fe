/- The law of NelsonTells: its walk. -/
import Derived.Test.YtjonpcpcokapkaaNelK
import Derived.Test.YtjonpcpcokapkaaIntsEq
namespace Go.Proofs.Ytjonpcpcokapkaa
open Go.RowKit

theorem ReadsI.step {w W w' : World} {v : Value} {xs : List Int} (h : ReadsI w v xs) (k : Below W.heap.size W w') (e : W.heap = w.heap) : ReadsI w' v xs := by
  obtain ⟨ao, cap, h1, h2, h3, h4⟩ := h
  refine ⟨ao, cap, h1, h2, h3, fun i hi => ?_⟩
  obtain ⟨b, off, h5, h6, h7⟩ := h4 i hi
  refine ⟨b, off, h5, by have := k.size; rw [e] at this; omega, ?_⟩
  rw [← h7]
  exact World.cell?_of_block (w := w) ((k.block b (by rw [e]; exact h6)).trans (by rw [e]))
theorem tellV_eq (l : List Int) (h : masksB l = true) : tellV l = .agg #[.int .i64 (telT l 1), .int .i64 (telT l 2), .int .i64 (telT l 3), .int .i64 (telT l 4), .int .i64 (telT l 5), .int .i64 (telT l 6), .int .i64 (telT l 7), .int .i64 (telT l 8)] := by
  have e : ∀ k, telT l k = tellN k l := fun k => if_pos h
  rw [e 1, e 2, e 3, e 4, e 5, e 6, e 7, e 8]
  rfl
set_option linter.unusedSimpArgs false in
set_option linter.unusedVariables false in
set_option maxHeartbeats 8000000 in
set_option maxRecDepth 100000 in
theorem tells14_core (m : Int) (ao : Option Addr) (n k cap : Nat) (T : Nat → Int) (E F : Int) (pl : List Int) (ok mk : Bool) (w : World)
    (kf : ∀ W, Calls Try.prog 8 #[.slice ao n cap] W fun e w' => e = .returned (.slice ao k cap) ∧ W = w')
    (k1 : (∀ W, Below w.heap.size w W → Calls Try.prog 13 #[.slice ao k cap] W fun e w' => e = .returned (.tuple #[.agg #[.int .i64 (T 1), .int .i64 (T 2), .int .i64 (T 3), .int .i64 (T 4), .int .i64 (T 5), .int .i64 (T 6), .int .i64 (T 7), .int .i64 (T 8)], .int .i64 E]) ∧ Below W.heap.size W w'))
    (k2 : ∀ W, Below w.heap.size w W → Calls Try.prog 14 #[.slice ao k cap, .int .i64 m] W fun e w' => ∃ v', e = .returned (.tuple #[v', .int .i64 F]) ∧ ReadsI w' v' pl ∧ Below W.heap.size W w')
    (k3 : (∀ W, Below w.heap.size w W → Calls Try.prog 15 #[.slice ao k cap] W fun e w' => e = .returned (.bool ok) ∧ W = w')) (k4 : (∀ W, Calls Try.prog 16 #[.int .i64 m] W fun e w' => e = .returned (.bool mk) ∧ W = w'))
    (ka : (∀ W, Calls Try.prog 11 #[] W fun e w' => e = .returned (.bool true) ∧ Below W.heap.size W w'))
    (h1 : ok = false → E = 1 ∧ F = 1 ∧ (∀ j, T j = 0) ∧ pl = []) (h2 : ok = true → E = 0 ∧ (∀ W, Below w.heap.size w W → Calls Try.prog 19 #[.slice ao k cap] W fun e w' => e = .returned (.agg #[.int .i64 (T 1), .int .i64 (T 2), .int .i64 (T 3), .int .i64 (T 4), .int .i64 (T 5), .int .i64 (T 6), .int .i64 (T 7), .int .i64 (T 8)]) ∧ Below W.heap.size W w'))
    (h3 : ok = true → mk = false → F = 1 ∧ pl = []) (h4 : ok = true → mk = true → F = 0 ∧ ∀ W, Below w.heap.size w W → Calls Try.prog 18 #[.slice ao k cap, .int .i64 m] W fun e w' => ∃ v', e = .returned v' ∧ ReadsI w' v' pl ∧ Below W.heap.size W w') :
    Calls Try.prog 4 #[.slice ao n cap, .int .i64 m] w fun e w' => e = .returned (.bool true) ∧ Below w.heap.size w w' := by
  have KF := Lib.hid kf; have K1 := Lib.hid (k1 w (Below.refl _ _)); have K2 := Lib.hid k2; have K3 := Lib.hid k3; have K4 := Lib.hid k4; have KA := Lib.hid ka; have H1 := Lib.hid h1; have H2 := Lib.hid h2; have H3 := Lib.hid h3; have H4 := Lib.hid h4
  have HB1 := Lib.hid (Below.refl w.heap.size w)
  have hbase := Nat.le_refl w.heap.size
  clear kf k1 k2 k3 k4 ka h1 h2 h3 h4
  go_enter Try.func4, Try.ntmps4
  go_wp2_with fail
  refine (KF.out _).mono ?_
  rintro e w1 ⟨rfl, rfl⟩
  have hcz1 := K1.out
  go_wp2_with fail
  refine hcz1.mono ?_
  rintro e wz1 ⟨rfl, kz1⟩
  clear hcz1
  have HBz1 := Lib.hid (HB1.out.trans (kz1.mono (Nat.le_trans hbase HB1.out.size)))
  clear kz1
  obtain ⟨wz2, hwz2⟩ : ∃ wz2, wz1.alloc (.cells #[.int .i64 (T 1), .int .i64 (T 2), .int .i64 (T 3), .int .i64 (T 4), .int .i64 (T 5), .int .i64 (T 6), .int .i64 (T 7), .int .i64 (T 8)] 31) = wz2 := ⟨_, rfl⟩
  have kz2 : Below wz1.heap.size wz1 wz2 := by rw [← hwz2]; exact (Below.refl _ _).alloc (Nat.le_refl _) _
  have Haz2 := Lib.hid (show Has wz2 wz1.heap.size [.int .i64 (T 1), .int .i64 (T 2), .int .i64 (T 3), .int .i64 (T 4), .int .i64 (T 5), .int .i64 (T 6), .int .i64 (T 7), .int .i64 (T 8)] 31 by rw [← hwz2]; exact Has.new _ _ _)
  have HWz2 := Lib.hid hwz2
  clear hwz2
  have HBz2 := Lib.hid (HBz1.out.trans (kz2.mono (Nat.le_trans hbase HBz1.out.size)))
  clear kz2
  go_upto_region 3 with fail
  rw [HWz2.out]
  have hcz3 := K2.out wz2 HBz2.out
  go_wp2_with fail
  refine hcz3.mono ?_
  rintro e wz3 ⟨v1, rfl, hv1, kz3⟩
  clear hcz3
  have HBz3 := Lib.hid (HBz2.out.trans (kz3.mono (Nat.le_trans hbase HBz2.out.size)))
  have Haz3 := Lib.hid (Haz2.out.call kz3)
  clear kz3
  obtain ⟨aoL, capL, hve⟩ := hv1.shape
  subst hve
  obtain ⟨nL, hnL⟩ : ∃ q, pl.length = q := ⟨_, rfl⟩
  rw [hnL] at hv1 ⊢
  have HV1 := Lib.hid hv1
  have HNL := Lib.hid hnL
  clear hv1 hnL
  have hcz4 := KA.out wz3
  go_wp2_with fail
  refine hcz4.mono ?_
  rintro e wz4 ⟨rfl, kz4⟩
  clear hcz4
  have HBz4 := Lib.hid (HBz3.out.trans (kz4.mono (Nat.le_trans hbase HBz3.out.size)))
  have Haz4 := Lib.hid (Haz3.out.call kz4)
  have Hvz4 := Lib.hid (HV1.out.below kz4)
  clear kz4
  go_wp2_with fail
  refine (K3.out wz4 HBz4.out).mono ?_
  rintro e w9 ⟨rfl, rfl⟩
  cases ok with
  | false =>
    obtain ⟨rfl, rfl, hT, hp⟩ := H1.out rfl
    obtain rfl : nL = 0 := by rw [← HNL.out, hp]; rfl
    have hq := eqI8 0 0 0 0 0 0 0 0
    have c0 : wz4.cell? ⟨wz1.heap.size, 0, none⟩ = some (.int .i64 0) := (Haz4.out.cell 0).trans (by rw [← hT 1]; rfl)
    have c1 : wz4.cell? ⟨wz1.heap.size, 1, none⟩ = some (.int .i64 0) := (Haz4.out.cell 1).trans (by rw [← hT 2]; rfl)
    have c2 : wz4.cell? ⟨wz1.heap.size, 2, none⟩ = some (.int .i64 0) := (Haz4.out.cell 2).trans (by rw [← hT 3]; rfl)
    have c3 : wz4.cell? ⟨wz1.heap.size, 3, none⟩ = some (.int .i64 0) := (Haz4.out.cell 3).trans (by rw [← hT 4]; rfl)
    have c4 : wz4.cell? ⟨wz1.heap.size, 4, none⟩ = some (.int .i64 0) := (Haz4.out.cell 4).trans (by rw [← hT 5]; rfl)
    have c5 : wz4.cell? ⟨wz1.heap.size, 5, none⟩ = some (.int .i64 0) := (Haz4.out.cell 5).trans (by rw [← hT 6]; rfl)
    have c6 : wz4.cell? ⟨wz1.heap.size, 6, none⟩ = some (.int .i64 0) := (Haz4.out.cell 6).trans (by rw [← hT 7]; rfl)
    have c7 : wz4.cell? ⟨wz1.heap.size, 7, none⟩ = some (.int .i64 0) := (Haz4.out.cell 7).trans (by rw [← hT 8]; rfl)
    have cl := Haz4.out.lt
    clear hT hp
    go_wp2
    go_ret
    exact ⟨by first | rfl | simp, HBz4.out⟩
  | true =>
    obtain ⟨rfl, h2⟩ := H2.out rfl
    have K5 := Lib.hid h2
    clear h2
    go_wp2_with fail
    refine (K4.out wz4).mono ?_
    rintro e w9 ⟨rfl, rfl⟩
    cases mk with
    | false =>
      obtain ⟨rfl, hp⟩ := H3.out (by simp) (by simp)
      obtain rfl : nL = 0 := by rw [← HNL.out, hp]; rfl
      clear hp
      have hq := eqI8 (T 1) (T 2) (T 3) (T 4) (T 5) (T 6) (T 7) (T 8)
      go_upto_region 13 with fail
      have qa0_4 : wz4.cell? ⟨wz1.heap.size, 0, none⟩ = some (.int .i64 (T 1)) := Haz4.out.cell 0
      have qa1_4 : wz4.cell? ⟨wz1.heap.size, 1, none⟩ = some (.int .i64 (T 2)) := Haz4.out.cell 1
      have qa2_4 : wz4.cell? ⟨wz1.heap.size, 2, none⟩ = some (.int .i64 (T 3)) := Haz4.out.cell 2
      have qa3_4 : wz4.cell? ⟨wz1.heap.size, 3, none⟩ = some (.int .i64 (T 4)) := Haz4.out.cell 3
      have qa4_4 : wz4.cell? ⟨wz1.heap.size, 4, none⟩ = some (.int .i64 (T 5)) := Haz4.out.cell 4
      have qa5_4 : wz4.cell? ⟨wz1.heap.size, 5, none⟩ = some (.int .i64 (T 6)) := Haz4.out.cell 5
      have qa6_4 : wz4.cell? ⟨wz1.heap.size, 6, none⟩ = some (.int .i64 (T 7)) := Haz4.out.cell 6
      have qa7_4 : wz4.cell? ⟨wz1.heap.size, 7, none⟩ = some (.int .i64 (T 8)) := Haz4.out.cell 7
      have la_4 : wz1.heap.size < wz4.heap.size := Haz4.out.lt
      go_region_held3 (fun W => W.cell? ⟨wz1.heap.size, 0, none⟩ = some (.int .i64 (T 1)) ∧ W.cell? ⟨wz1.heap.size, 1, none⟩ = some (.int .i64 (T 2)) ∧ W.cell? ⟨wz1.heap.size, 2, none⟩ = some (.int .i64 (T 3)) ∧ W.cell? ⟨wz1.heap.size, 3, none⟩ = some (.int .i64 (T 4)) ∧ W.cell? ⟨wz1.heap.size, 4, none⟩ = some (.int .i64 (T 5)) ∧ W.cell? ⟨wz1.heap.size, 5, none⟩ = some (.int .i64 (T 6)) ∧ W.cell? ⟨wz1.heap.size, 6, none⟩ = some (.int .i64 (T 7)) ∧ W.cell? ⟨wz1.heap.size, 7, none⟩ = some (.int .i64 (T 8))) (first | exact ⟨ya50, ya51, ya52, ya53, ya54, ya55, ya56, ya57⟩ | exact ⟨qa0_4, qa1_4, qa2_4, qa3_4, qa4_4, qa5_4, qa6_4, qa7_4⟩ | simp [go_sem, *]) (first | (go_at_call 19; refine (K5.out _ (by first | exact HBz4.out | exact Below.drew (HBz4.out) | exact Below.drew (Below.drew (HBz4.out)) | exact Below.drew (Below.drew (Below.drew (HBz4.out))))).mono ?_; rintro e wr5 ⟨rfl, kr5⟩; (have HBr5 := Lib.hid (show Below w.heap.size w wr5 by first | exact (HBz4.out).trans (kr5.mono (by have := HBz4.out.size; first | omega | (simp; omega) | simp)) | exact (Below.drew (HBz4.out)).trans (kr5.mono (by have := HBz4.out.size; first | omega | (simp; omega) | simp)) | exact (Below.drew (Below.drew (HBz4.out))).trans (kr5.mono (by have := HBz4.out.size; first | omega | (simp; omega) | simp)) | exact (Below.drew (Below.drew (Below.drew (HBz4.out)))).trans (kr5.mono (by have := HBz4.out.size; first | omega | (simp; omega) | simp)))); (have Har5 := Lib.hid (show Has wr5 (wz1.heap.size) [.int .i64 (T 1), .int .i64 (T 2), .int .i64 (T 3), .int .i64 (T 4), .int .i64 (T 5), .int .i64 (T 6), .int .i64 (T 7), .int .i64 (T 8)] 31 from Haz4.out.step kr5 rfl)); (have ya50 : wr5.cell? ⟨wz1.heap.size, 0, none⟩ = some (.int .i64 (T 1)) := Har5.out.cell 0); (have ya51 : wr5.cell? ⟨wz1.heap.size, 1, none⟩ = some (.int .i64 (T 2)) := Har5.out.cell 1); (have ya52 : wr5.cell? ⟨wz1.heap.size, 2, none⟩ = some (.int .i64 (T 3)) := Har5.out.cell 2); (have ya53 : wr5.cell? ⟨wz1.heap.size, 3, none⟩ = some (.int .i64 (T 4)) := Har5.out.cell 3); (have ya54 : wr5.cell? ⟨wz1.heap.size, 4, none⟩ = some (.int .i64 (T 5)) := Har5.out.cell 4); (have ya55 : wr5.cell? ⟨wz1.heap.size, 5, none⟩ = some (.int .i64 (T 6)) := Har5.out.cell 5); (have ya56 : wr5.cell? ⟨wz1.heap.size, 6, none⟩ = some (.int .i64 (T 7)) := Har5.out.cell 6); (have ya57 : wr5.cell? ⟨wz1.heap.size, 7, none⟩ = some (.int .i64 (T 8)) := Har5.out.cell 7); (have la5 : wz1.heap.size < wr5.heap.size := Har5.out.lt)))
      have Hvr5 := Lib.hid (Hvz4.out.step kr5 rfl)
      clear kr5 ya50 ya51 ya52 ya53 ya54 ya55 ya56 ya57 la5 qa0_4 qa1_4 qa2_4 qa3_4 qa4_4 qa5_4 qa6_4 qa7_4 la_4
      go_wp2
      go_ret
      exact ⟨by first | rfl | simp, HBr5.out⟩
    | true =>
      obtain ⟨rfl, h4⟩ := H4.out (by simp) (by simp)
      have K6 := Lib.hid h4
      clear h4
      have hcz5 := K6.out wz4 HBz4.out
      go_wp2_with fail
      refine hcz5.mono ?_
      rintro e wz5 ⟨v2, rfl, hv2, kz5⟩
      clear hcz5
      have HBz5 := Lib.hid (HBz4.out.trans (kz5.mono (Nat.le_trans hbase HBz4.out.size)))
      have Haz5 := Lib.hid (Haz4.out.call kz5)
      have Hvz5 := Lib.hid (Hvz4.out.below kz5)
      clear kz5
      have HV2 := Lib.hid hv2
      clear hv2
      have hin := ints_any pl pl (.slice aoL nL capL) v2 wz5 Hvz5.out HV2.out
      rw [decide_eq_true rfl] at hin
      have HIN := Lib.hid hin
      clear hin
      go_wp2_with fail
      refine HIN.out.mono ?_
      rintro e w9 ⟨rfl, mm, rfl⟩
      have HAD := Lib.hid (show Has (wz5.drewN mm) (wz1.heap.size) [.int .i64 (T 1), .int .i64 (T 2), .int .i64 (T 3), .int .i64 (T 4), .int .i64 (T 5), .int .i64 (T 6), .int .i64 (T 7), .int .i64 (T 8)] 31 from Haz5.out.of rfl)
      have HBD := Lib.hid (Below.drewN HBz5.out mm)
      obtain ⟨w10, hw10⟩ : ∃ W, wz5.drewN mm = W := ⟨_, rfl⟩
      rw [hw10] at HAD HBD ⊢
      clear hw10
      have hq := eqI8 (T 1) (T 2) (T 3) (T 4) (T 5) (T 6) (T 7) (T 8)
      go_upto_region 13 with fail
      have qa0_8 : w10.cell? ⟨wz1.heap.size, 0, none⟩ = some (.int .i64 (T 1)) := HAD.out.cell 0
      have qa1_8 : w10.cell? ⟨wz1.heap.size, 1, none⟩ = some (.int .i64 (T 2)) := HAD.out.cell 1
      have qa2_8 : w10.cell? ⟨wz1.heap.size, 2, none⟩ = some (.int .i64 (T 3)) := HAD.out.cell 2
      have qa3_8 : w10.cell? ⟨wz1.heap.size, 3, none⟩ = some (.int .i64 (T 4)) := HAD.out.cell 3
      have qa4_8 : w10.cell? ⟨wz1.heap.size, 4, none⟩ = some (.int .i64 (T 5)) := HAD.out.cell 4
      have qa5_8 : w10.cell? ⟨wz1.heap.size, 5, none⟩ = some (.int .i64 (T 6)) := HAD.out.cell 5
      have qa6_8 : w10.cell? ⟨wz1.heap.size, 6, none⟩ = some (.int .i64 (T 7)) := HAD.out.cell 6
      have qa7_8 : w10.cell? ⟨wz1.heap.size, 7, none⟩ = some (.int .i64 (T 8)) := HAD.out.cell 7
      have la_8 : wz1.heap.size < w10.heap.size := HAD.out.lt
      go_region_held3 (fun W => W.cell? ⟨wz1.heap.size, 0, none⟩ = some (.int .i64 (T 1)) ∧ W.cell? ⟨wz1.heap.size, 1, none⟩ = some (.int .i64 (T 2)) ∧ W.cell? ⟨wz1.heap.size, 2, none⟩ = some (.int .i64 (T 3)) ∧ W.cell? ⟨wz1.heap.size, 3, none⟩ = some (.int .i64 (T 4)) ∧ W.cell? ⟨wz1.heap.size, 4, none⟩ = some (.int .i64 (T 5)) ∧ W.cell? ⟨wz1.heap.size, 5, none⟩ = some (.int .i64 (T 6)) ∧ W.cell? ⟨wz1.heap.size, 6, none⟩ = some (.int .i64 (T 7)) ∧ W.cell? ⟨wz1.heap.size, 7, none⟩ = some (.int .i64 (T 8))) (first | exact ⟨ya90, ya91, ya92, ya93, ya94, ya95, ya96, ya97⟩ | exact ⟨qa0_8, qa1_8, qa2_8, qa3_8, qa4_8, qa5_8, qa6_8, qa7_8⟩ | simp [go_sem, *]) (first | (go_at_call 19; refine (K5.out _ (by first | exact HBD.out | exact Below.drew (HBD.out) | exact Below.drew (Below.drew (HBD.out)) | exact Below.drew (Below.drew (Below.drew (HBD.out))))).mono ?_; rintro e wr9 ⟨rfl, kr9⟩; (have HBr9 := Lib.hid (show Below w.heap.size w wr9 by first | exact (HBD.out).trans (kr9.mono (by have := HBD.out.size; first | omega | (simp; omega) | simp)) | exact (Below.drew (HBD.out)).trans (kr9.mono (by have := HBD.out.size; first | omega | (simp; omega) | simp)) | exact (Below.drew (Below.drew (HBD.out))).trans (kr9.mono (by have := HBD.out.size; first | omega | (simp; omega) | simp)) | exact (Below.drew (Below.drew (Below.drew (HBD.out)))).trans (kr9.mono (by have := HBD.out.size; first | omega | (simp; omega) | simp)))); (have Har9 := Lib.hid (show Has wr9 (wz1.heap.size) [.int .i64 (T 1), .int .i64 (T 2), .int .i64 (T 3), .int .i64 (T 4), .int .i64 (T 5), .int .i64 (T 6), .int .i64 (T 7), .int .i64 (T 8)] 31 from HAD.out.step kr9 rfl)); (have ya90 : wr9.cell? ⟨wz1.heap.size, 0, none⟩ = some (.int .i64 (T 1)) := Har9.out.cell 0); (have ya91 : wr9.cell? ⟨wz1.heap.size, 1, none⟩ = some (.int .i64 (T 2)) := Har9.out.cell 1); (have ya92 : wr9.cell? ⟨wz1.heap.size, 2, none⟩ = some (.int .i64 (T 3)) := Har9.out.cell 2); (have ya93 : wr9.cell? ⟨wz1.heap.size, 3, none⟩ = some (.int .i64 (T 4)) := Har9.out.cell 3); (have ya94 : wr9.cell? ⟨wz1.heap.size, 4, none⟩ = some (.int .i64 (T 5)) := Har9.out.cell 4); (have ya95 : wr9.cell? ⟨wz1.heap.size, 5, none⟩ = some (.int .i64 (T 6)) := Har9.out.cell 5); (have ya96 : wr9.cell? ⟨wz1.heap.size, 6, none⟩ = some (.int .i64 (T 7)) := Har9.out.cell 6); (have ya97 : wr9.cell? ⟨wz1.heap.size, 7, none⟩ = some (.int .i64 (T 8)) := Har9.out.cell 7); (have la9 : wz1.heap.size < wr9.heap.size := Har9.out.lt)))
      clear kr9 ya90 ya91 ya92 ya93 ya94 ya95 ya96 ya97 la9 qa0_8 qa1_8 qa2_8 qa3_8 qa4_8 qa5_8 qa6_8 qa7_8 la_8
      go_wp2
      go_ret
      exact ⟨by first | rfl | simp, HBr9.out⟩
theorem tells14_walk (H : NelCode) (l : List Int) (m : Int) (v : Value) (w : World) (hr : ReadsI w v l) :
    Calls Try.prog 4 #[v, .int .i64 m] w fun e w' => e = .returned (.bool true) ∧ Below w.heap.size w w' := by
  obtain ⟨ao, cap, rfl, hf⟩ := few14_any l v w hr
  have hr17 := hr.few14 17
  have hl17 : (l.take 17).length ≤ 1000 := by rw [List.length_take]; omega
  refine tells14_core m ao _ _ cap (telT (l.take 17)) (telE (l.take 17)) (pshE (l.take 17) m) (pshL (l.take 17) m) (masksB (l.take 17)) (maskB m) w hf (fun W hW => H.tell _ _ W hl17 (hr17.below hW)) (fun W hW => H.push _ m _ W hl17 (hr17.below hW))
    (fun W hW => rmasks14_any _ _ W (by omega) (hr17.below hW)) (fun W => rmask13_any m W) (fun W => alive14_any H W) (fun h => ?_) (fun h => ?_) (fun h h2 => ?_) (fun h h2 => ?_)
  · unfold telE pshE pshL telT
    rw [h]
    exact ⟨rfl, rfl, fun j => rfl, rfl⟩
  · refine ⟨?_, fun W hW => ?_⟩
    · unfold telE
      rw [if_pos h]
    · rw [← tellV_eq _ h]
      exact rtell14_any _ (masksB_ok h).2 _ W (hr17.below hW)
  · unfold pshE pshL
    rw [h, h2]
    exact ⟨rfl, rfl⟩
  · unfold pshE pshL
    rw [h, h2]
    refine ⟨rfl, fun W hW => ?_⟩
    exact (rpush14_any _ m _ W hl17 (hr17.below hW)).mono fun e w' ⟨v', h1, h2, h3⟩ => ⟨v', h1, h2.reads, h3⟩
end Go.Proofs.Ytjonpcpcokapkaa
