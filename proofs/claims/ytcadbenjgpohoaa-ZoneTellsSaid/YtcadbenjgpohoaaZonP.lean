/- The law of ZoneTells: its walk. -/
import Derived.Test.YtcadbenjgpohoaaZonM
import Derived.Test.YtcadbenjgpohoaaZonC
namespace Go.Proofs.Ytcadbenjgpohoaa
open Go.RowKit

theorem rclasses_ends (m : Int) (h1 : 1 ≤ m) (h2 : m ≤ 511) (ea eb : Int) (ha : endLo m 9 = ea) (hb : endHi m 9 = eb) : (∀ W, Calls Try.prog 13 #[.int .i64 m] W fun e w' => ∃ g p cap : Nat, e = .returned (.slice (some ⟨g, 0, none⟩) (p + 1) cap) ∧ p ≤ 8 ∧ p + 1 ≤ cap ∧ g < w'.heap.size ∧ w'.cell? ⟨g, 0, none⟩ = some (.int .i64 ea) ∧ w'.cell? ⟨g, p, none⟩ = some (.int .i64 eb) ∧ Below W.heap.size W w') := by
  intro W
  refine (rclasses13_any m W).mono ?_
  rintro e w' ⟨v', rfl, hr, hbl⟩
  obtain ⟨e1, e2⟩ := ends_classes h1 h2
  rw [ha] at e1
  rw [hb] at e2
  have hlen : (classesN m).length ≤ 9 := clsL_len m 9
  have h0 : w'.ownsRow W.heap.size 3 1 v' (classesN m).length ((classesN m).map (Value.int .i64)) := hr
  rcases h0.2 with ⟨h3, h4⟩ | ⟨g, cap, cur, hv, hB, hg, hl, hc, hs, ht⟩
  · exact absurd (List.eq_nil_of_length_eq_zero h4) (classes_some h1 h2)
  · have hp : 0 < (classesN m).length := List.length_pos_iff.2 (classes_some h1 h2)
    obtain ⟨p, hpe⟩ : ∃ p, (classesN m).length = p + 1 := ⟨(classesN m).length - 1, by omega⟩
    have hat : ∀ i z, (classesN m)[i]? = some z → w'.cell? ⟨g, i, none⟩ = some (.int .i64 z) := fun i z hz => by
      have := h0.cells (g := g) (by rw [hv]; rfl) i (.int .i64 z) (by rw [List.getElem?_map, hz]; rfl)
      have e : (⟨g, 0, none⟩ : Addr).add i = ⟨g, 0 + i, none⟩ := by unfold Addr.add; split <;> simp_all
      rw [e, Nat.zero_add] at this
      exact this
    rw [hpe] at hlen hl e2
    refine ⟨g, p, cap, by rw [hv, hpe], by omega, hl, (Array.getElem?_eq_some_iff.1 hg).1, hat 0 _ e1, hat p _ e2, hbl⟩
set_option linter.unusedSimpArgs false in
set_option linter.unusedVariables false in
set_option maxHeartbeats 8000000 in
set_option maxRecDepth 100000 in
theorem tells13_core (d m c cr ce ea eb ef : Int) (vh vl : Nat) (X mk vb : Bool) (w : World)
    (k1 : (∀ W, Calls Try.prog 7 #[.int .i64 d, .agg #[.int .u64 (vh : Nat), .int .u64 (vl : Nat)]] W fun e w' => e = .returned (.tuple #[.int .i64 cr, .int .i64 ce]) ∧ Below W.heap.size W w'))
    (k2 : (∀ W, Calls Try.prog 8 #[.int .i64 m] W fun e w' => e = .returned (.tuple #[.int .i64 ea, .int .i64 eb, .int .i64 ef]) ∧ Below W.heap.size W w'))
    (k3 : (∀ W, Calls Try.prog 9 #[.int .i64 m, .int .i64 c] W fun e w' => e = .returned (.bool X) ∧ Below W.heap.size W w')) (k4 : (∀ W, Calls Try.prog 10 #[.int .i64 m, .int .i64 c] W fun e w' => e = .returned (.bool X) ∧ Below W.heap.size W w'))
    (k5 : (∀ W, Calls Try.prog 12 #[.int .i64 m] W fun e w' => e = .returned (.bool mk) ∧ Below W.heap.size W w')) (k6 : (∀ W, Calls Try.prog 14 #[.agg #[.int .u64 (vh : Nat), .int .u64 (vl : Nat)]] W fun e w' => e = .returned (.bool vb) ∧ Below W.heap.size W w'))
    (h1 : mk = false → ef = 1 ∧ ea = 0 ∧ eb = 0) (h2 : mk = true → ef = 0 ∧ (∀ W, Calls Try.prog 13 #[.int .i64 m] W fun e w' => ∃ g p cap : Nat, e = .returned (.slice (some ⟨g, 0, none⟩) (p + 1) cap) ∧ p ≤ 8 ∧ p + 1 ≤ cap ∧ g < w'.heap.size ∧ w'.cell? ⟨g, 0, none⟩ = some (.int .i64 ea) ∧ w'.cell? ⟨g, p, none⟩ = some (.int .i64 eb) ∧ Below W.heap.size W w'))
    (h3 : vb = false → ce = 1 ∧ cr = 0) (h4 : vb = true → ce = 0 ∧ (∀ W, Calls Try.prog 15 #[.int .i64 d, .agg #[.int .u64 (vh : Nat), .int .u64 (vl : Nat)]] W fun e w' => e = .returned (.int .i64 cr) ∧ Below W.heap.size W w')) :
    Calls Try.prog 3 #[.int .i64 d, .agg #[.int .u64 (vh : Nat), .int .u64 (vl : Nat)], .int .i64 m, .int .i64 c] w fun e w' => e = .returned (.bool true) ∧ Below w.heap.size w w' := by
  have K1 := Lib.hid k1; have K2 := Lib.hid k2; have K3 := Lib.hid k3; have K4 := Lib.hid k4; have K5 := Lib.hid k5; have K6 := Lib.hid k6
  have H1 := Lib.hid h1; have H2 := Lib.hid h2; have H3 := Lib.hid h3; have H4 := Lib.hid h4
  have KA := Lib.hid (fun W => alive13_any W)
  obtain ⟨w2, hw2⟩ : ∃ w2, w.alloc (.cells #[.int .u64 (vh : Nat), .int .u64 (vl : Nat)] 24) = w2 := ⟨_, rfl⟩
  have HB2 := Lib.hid (show Below w.heap.size w w2 by rw [← hw2]; exact (Below.refl _ _).alloc (Nat.le_refl _) _)
  have HV2 := Lib.hid (show Has w2 w.heap.size [.int .u64 (vh : Nat), .int .u64 (vl : Nat)] 24 by rw [← hw2]; exact Has.new w _ _)
  have HW2 := Lib.hid hw2
  have hbase := Nat.le_refl w.heap.size
  clear k1 k2 k3 k4 k5 k6 h1 h2 h3 h4 hw2
  go_enter Try.func3, Try.ntmps3
  go_upto_region 1 with fail
  rw [HW2.out]
  have qv0_0 : w2.cell? ⟨w.heap.size, 0, none⟩ = some (.int .u64 (vh : Nat)) := HV2.out.cell 0
  have qv1_0 : w2.cell? ⟨w.heap.size, 1, none⟩ = some (.int .u64 (vl : Nat)) := HV2.out.cell 1
  have lv_0 : w.heap.size < w2.heap.size := HV2.out.lt
  have hcz1 := K1.out w2
  go_wp2_with fail
  refine hcz1.mono ?_
  rintro e wz1 ⟨rfl, kz1⟩
  clear hcz1 qv0_0 qv1_0 lv_0
  have HBz1 := Lib.hid (HB2.out.trans (kz1.mono (Nat.le_trans hbase HB2.out.size)))
  have Hvz1 := Lib.hid (HV2.out.call kz1)
  clear kz1
  have hcz2 := K2.out wz1
  go_wp2_with fail
  refine hcz2.mono ?_
  rintro e wz2 ⟨rfl, kz2⟩
  clear hcz2
  have HBz2 := Lib.hid (HBz1.out.trans (kz2.mono (Nat.le_trans hbase HBz1.out.size)))
  have Hvz2 := Lib.hid (Hvz1.out.call kz2)
  clear kz2
  have hxn : (X != X) = false := by cases X <;> rfl
  have hcz3 := K3.out wz2
  go_wp2_with fail
  refine hcz3.mono ?_
  rintro e wz3 ⟨rfl, kz3⟩
  clear hcz3
  have HBz3 := Lib.hid (HBz2.out.trans (kz3.mono (Nat.le_trans hbase HBz2.out.size)))
  have Hvz3 := Lib.hid (Hvz2.out.call kz3)
  clear kz3
  have hcz4 := K4.out wz3
  go_wp2_with fail
  refine hcz4.mono ?_
  rintro e wz4 ⟨rfl, kz4⟩
  clear hcz4
  have HBz4 := Lib.hid (HBz3.out.trans (kz4.mono (Nat.le_trans hbase HBz3.out.size)))
  have Hvz4 := Lib.hid (Hvz3.out.call kz4)
  clear kz4
  have hcz5 := KA.out wz4
  go_wp2_with fail
  refine hcz5.mono ?_
  rintro e wz5 ⟨rfl, kz5⟩
  clear hcz5
  have HBz5 := Lib.hid (HBz4.out.trans (kz5.mono (Nat.le_trans hbase HBz4.out.size)))
  have Hvz5 := Lib.hid (Hvz4.out.call kz5)
  clear kz5
  clear hxn
  have hcz6 := K5.out wz5
  go_wp2_with fail
  refine hcz6.mono ?_
  rintro e wz6 ⟨rfl, kz6⟩
  clear hcz6
  have HBz6 := Lib.hid (HBz5.out.trans (kz6.mono (Nat.le_trans hbase HBz5.out.size)))
  have Hvz6 := Lib.hid (Hvz5.out.call kz6)
  clear kz6
  cases mk with
  | false =>
    obtain ⟨rfl, rfl, rfl⟩ := H1.out rfl
    have qv0_6 : wz6.cell? ⟨w.heap.size, 0, none⟩ = some (.int .u64 (vh : Nat)) := Hvz6.out.cell 0
    have qv1_6 : wz6.cell? ⟨w.heap.size, 1, none⟩ = some (.int .u64 (vl : Nat)) := Hvz6.out.cell 1
    have lv_6 : w.heap.size < wz6.heap.size := Hvz6.out.lt
    have hcz7 := K6.out wz6
    go_wp2_with fail
    refine hcz7.mono ?_
    rintro e wz7 ⟨rfl, kz7⟩
    clear hcz7 qv0_6 qv1_6 lv_6
    have HBz7 := Lib.hid (HBz6.out.trans (kz7.mono (Nat.le_trans hbase HBz6.out.size)))
    have Hvz7 := Lib.hid (Hvz6.out.call kz7)
    clear kz7
    cases vb with
    | false =>
      obtain ⟨rfl, rfl⟩ := H3.out rfl
      go_wp2
      go_ret
      exact ⟨rfl, HBz7.out⟩
    | true =>
      obtain ⟨rfl, h4⟩ := H4.out rfl
      have K7 := Lib.hid h4
      clear h4
      have qv0_7 : wz7.cell? ⟨w.heap.size, 0, none⟩ = some (.int .u64 (vh : Nat)) := Hvz7.out.cell 0
      have qv1_7 : wz7.cell? ⟨w.heap.size, 1, none⟩ = some (.int .u64 (vl : Nat)) := Hvz7.out.cell 1
      have lv_7 : w.heap.size < wz7.heap.size := Hvz7.out.lt
      have hcz8 := K7.out wz7
      go_wp2_with fail
      refine hcz8.mono ?_
      rintro e wz8 ⟨rfl, kz8⟩
      clear hcz8 qv0_7 qv1_7 lv_7
      have HBz8 := Lib.hid (HBz7.out.trans (kz8.mono (Nat.le_trans hbase HBz7.out.size)))
      have Hvz8 := Lib.hid (Hvz7.out.call kz8)
      clear kz8
      go_wp2
      go_ret
      exact ⟨rfl, HBz8.out⟩
  | true =>
    obtain ⟨rfl, h2⟩ := H2.out rfl
    have K8 := Lib.hid h2
    clear h2
    have hcz7 := K8.out wz6
    go_wp2_with fail
    refine hcz7.mono ?_
    rintro e wz7 ⟨g, p, cap, rfl, hp8, hpc, hgl, hg0, hgp, kz7⟩
    clear hcz7
    have HBz7 := Lib.hid (HBz6.out.trans (kz7.mono (Nat.le_trans hbase HBz6.out.size)))
    have Hvz7 := Lib.hid (Hvz6.out.call kz7)
    clear kz7
    have hb0 : (0 : Int) ≤ 0 ∧ (0 : Int) < (p : Int) + 1 := by omega
    have hb1 : (0 : Int) ≤ (p : Int) ∧ (p : Int) < (p : Int) + 1 := by omega
    have qv0_7 : wz7.cell? ⟨w.heap.size, 0, none⟩ = some (.int .u64 (vh : Nat)) := Hvz7.out.cell 0
    have qv1_7 : wz7.cell? ⟨w.heap.size, 1, none⟩ = some (.int .u64 (vl : Nat)) := Hvz7.out.cell 1
    have lv_7 : w.heap.size < wz7.heap.size := Hvz7.out.lt
    have hcz8 := K6.out wz7
    go_wp2_with fail
    refine hcz8.mono ?_
    rintro e wz8 ⟨rfl, kz8⟩
    clear hcz8 qv0_7 qv1_7 lv_7
    have HBz8 := Lib.hid (HBz7.out.trans (kz8.mono (Nat.le_trans hbase HBz7.out.size)))
    have Hvz8 := Lib.hid (Hvz7.out.call kz8)
    clear kz8
    cases vb with
    | false =>
      obtain ⟨rfl, rfl⟩ := H3.out rfl
      go_wp2
      go_ret
      exact ⟨rfl, HBz8.out⟩
    | true =>
      obtain ⟨rfl, h4⟩ := H4.out rfl
      have K7 := Lib.hid h4
      clear h4
      have qv0_8 : wz8.cell? ⟨w.heap.size, 0, none⟩ = some (.int .u64 (vh : Nat)) := Hvz8.out.cell 0
      have qv1_8 : wz8.cell? ⟨w.heap.size, 1, none⟩ = some (.int .u64 (vl : Nat)) := Hvz8.out.cell 1
      have lv_8 : w.heap.size < wz8.heap.size := Hvz8.out.lt
      have hcz9 := K7.out wz8
      go_wp2_with fail
      refine hcz9.mono ?_
      rintro e wz9 ⟨rfl, kz9⟩
      clear hcz9 qv0_8 qv1_8 lv_8
      have HBz9 := Lib.hid (HBz8.out.trans (kz9.mono (Nat.le_trans hbase HBz8.out.size)))
      have Hvz9 := Lib.hid (Hvz8.out.call kz9)
      clear kz9
      go_wp2
      go_ret
      exact ⟨rfl, HBz9.out⟩
theorem tells13_walk (d : Int) (v : Nat) (m c : Int) (hd : IsInt d) (_hv : v < M128) (_hm : IsInt m) (_hc : IsInt c) (w : World) :
    Calls Try.prog 3 #[.int .i64 d, .agg #[.int .u64 (hi v : Nat), .int .u64 (lo v : Nat)], .int .i64 m, .int .i64 c] w fun e w' => e = .returned (.bool true) ∧ Below w.heap.size w w' := by
  have k6 := fun W => rvar13_any (hi v) (lo v) W
  rw [hi_var] at k6
  have kb : ∀ (f : FuncId) (args : Array Value) (r : Value), (∀ W, Calls Try.prog f args W fun e w' => e = .returned r ∧ w' = W) → ∀ W, Calls Try.prog f args W fun e w' => e = .returned r ∧ Below W.heap.size W w' :=
    fun f args r h W => (h W).mono fun e w' ⟨h1, h2⟩ => ⟨h1, by rw [h2]; exact Below.refl _ _⟩
  by_cases h : 1 ≤ m ∧ m ≤ 511
  · have k5 := fun W => rmask13_any m W
    rw [show maskB m = true from decide_eq_true h] at k5
    exact tells13_core d m c (clsR d v) (clsE v) (endLo m 9) (endHi m 9) 0 (hi v) (lo v) (bitB m c) true _ w (fun W => cls13_any d v hd W) (kb _ _ _ fun W => ends13_ok m h W) (kb _ _ _ fun W => has13_any m c W)
      (kb _ _ _ fun W => (rhas13_any m c W).mono fun e w' ⟨h1, h2⟩ => ⟨h1, h2.symm⟩) (kb _ _ _ fun W => (k5 W).mono fun e w' ⟨h1, h2⟩ => ⟨h1, h2.symm⟩) k6 (fun h => by cases h) (fun _ => ⟨rfl, rclasses_ends m h.1 h.2 _ _ rfl rfl⟩)
      (fun hq => by have := of_decide_eq_false hq; unfold clsR clsE; rw [if_neg this, if_neg this]; exact ⟨rfl, rfl⟩)
      (fun hq => by have := of_decide_eq_true hq; unfold clsR clsE; rw [if_pos this, if_pos this]; exact ⟨rfl, fun W => rclass13_any d v hd this W⟩)
  · have k5 := fun W => rmask13_any m W
    rw [show maskB m = false from decide_eq_false h] at k5
    exact tells13_core d m c (clsR d v) (clsE v) 0 0 1 (hi v) (lo v) (bitB m c) false _ w (fun W => cls13_any d v hd W) (kb _ _ _ fun W => ends13_no m h W) (kb _ _ _ fun W => has13_any m c W)
      (kb _ _ _ fun W => (rhas13_any m c W).mono fun e w' ⟨h1, h2⟩ => ⟨h1, h2.symm⟩) (kb _ _ _ fun W => (k5 W).mono fun e w' ⟨h1, h2⟩ => ⟨h1, h2.symm⟩) k6 (fun _ => ⟨rfl, rfl, rfl⟩) (fun h => by cases h)
      (fun hq => by have := of_decide_eq_false hq; unfold clsR clsE; rw [if_neg this, if_neg this]; exact ⟨rfl, rfl⟩)
      (fun hq => by have := of_decide_eq_true hq; unfold clsR clsE; rw [if_pos this, if_pos this]; exact ⟨rfl, fun W => rclass13_any d v hd this W⟩)
end Go.Proofs.Ytcadbenjgpohoaa
