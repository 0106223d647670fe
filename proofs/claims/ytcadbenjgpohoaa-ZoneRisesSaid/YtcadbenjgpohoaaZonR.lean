/- The law of ZoneRises: its walk. -/
import Derived.Test.YtcadbenjgpohoaaZonM
namespace Go.Proofs.Ytcadbenjgpohoaa
open Go.RowKit

set_option linter.unusedSimpArgs false in
set_option linter.unusedVariables false in
set_option maxHeartbeats 8000000 in
set_option maxRecDepth 100000 in
theorem rises13_core (a b A B C P Q R T E G : Int) (u v p q : Nat) (w : World) (hB : IsInt B)
    (hA : A = min a b) (hBB : B = max a b) (hC : C = max B (-9223372036854775807)) (hp : p = min u v) (hq : q = max u v)
    (kl : (∀ W, Calls Try.prog 18 #[.agg #[.int .u64 (hi v : Nat), .int .u64 (lo v : Nat)], .agg #[.int .u64 (hi u : Nat), .int .u64 (lo u : Nat)]] W fun e w' => e = .returned (.bool (decide (v < u))) ∧ Below W.heap.size W w'))
    (k1 : (∀ W, Calls Try.prog 7 #[.int .i64 A, .agg #[.int .u64 (hi q : Nat), .int .u64 (lo q : Nat)]] W fun e w' => e = .returned (.tuple #[.int .i64 P, .int .i64 E]) ∧ Below W.heap.size W w')) (k2 : (∀ W, Calls Try.prog 7 #[.int .i64 B, .agg #[.int .u64 (hi q : Nat), .int .u64 (lo q : Nat)]] W fun e w' => e = .returned (.tuple #[.int .i64 Q, .int .i64 E]) ∧ Below W.heap.size W w')) (k3 : (∀ W, Calls Try.prog 7 #[.int .i64 B, .agg #[.int .u64 (hi p : Nat), .int .u64 (lo p : Nat)]] W fun e w' => e = .returned (.tuple #[.int .i64 R, .int .i64 G]) ∧ Below W.heap.size W w'))
    (k4 : (∀ W, Calls Try.prog 7 #[.int .i64 C, .agg #[.int .u64 (hi q : Nat), .int .u64 (lo q : Nat)]] W fun e w' => e = .returned (.tuple #[.int .i64 T, .int .i64 E]) ∧ Below W.heap.size W w')) (k5 : (∀ W, Calls Try.prog 7 #[.int .i64 (-C), .agg #[.int .u64 (hi q : Nat), .int .u64 (lo q : Nat)]] W fun e w' => e = .returned (.tuple #[.int .i64 (-T), .int .i64 E]) ∧ Below W.heap.size W w'))
    (hE : E = 1 ∨ E = 0 ∧ G = 0 ∧ P ≤ Q ∧ -4 ≤ P ∧ Q ≤ 4 ∧ (Q = 0 ↔ B = 0) ∧ (0 ≤ B → Q ≤ R) ∧ (B ≤ 0 → R ≤ Q) ∧ -4 ≤ T ∧ T ≤ 4) :
    Calls Try.prog 6 #[.int .i64 a, .int .i64 b, .agg #[.int .u64 (hi u : Nat), .int .u64 (lo u : Nat)], .agg #[.int .u64 (hi v : Nat), .int .u64 (lo v : Nat)]] w fun e w' => e = .returned (.bool true) ∧ Below w.heap.size w w' := by
  have KL := Lib.hid kl; have K1 := Lib.hid k1; have K2 := Lib.hid k2; have K3 := Lib.hid k3; have K4 := Lib.hid k4; have K5 := Lib.hid k5
  have HA := Lib.hid hA; have HBB := Lib.hid hBB; have HC := Lib.hid hC; have HP := Lib.hid hp; have HQ := Lib.hid hq; have HE := Lib.hid hE; have HIB := Lib.hid hB
  have KA := Lib.hid (fun W => alive13_any W)
  clear kl k1 k2 k3 k4 k5 hA hBB hC hp hq hE hB
  obtain ⟨w2, hw2⟩ : ∃ w2, (w.alloc (.cells #[.int .u64 (hi u : Nat), .int .u64 (lo u : Nat)] 24)).alloc (.cells #[.int .u64 (hi v : Nat), .int .u64 (lo v : Nat)] 24) = w2 := ⟨_, rfl⟩
  have HB2 := Lib.hid (show Below w.heap.size w w2 by rw [← hw2]; exact ((Below.refl _ _).alloc (Nat.le_refl _) _).alloc (by simp) _)
  have Hu2 := Lib.hid (show Has w2 w.heap.size [.int .u64 (hi u : Nat), .int .u64 (lo u : Nat)] 24 by rw [← hw2]; exact (Has.new w _ _).alloc _)
  have Hv2 := Lib.hid (show Has w2 (w.heap.size + 1) [.int .u64 (hi v : Nat), .int .u64 (lo v : Nat)] 24 by
    rw [← hw2]
    have := Has.new (w.alloc (.cells #[.int .u64 (hi u : Nat), .int .u64 (lo u : Nat)] 24)) [.int .u64 (hi v : Nat), .int .u64 (lo v : Nat)] 24
    rw [show (w.alloc (.cells #[.int .u64 (hi u : Nat), .int .u64 (lo u : Nat)] 24)).heap.size = w.heap.size + 1 by simp] at this
    exact this)
  have HW2 := Lib.hid hw2
  clear hw2
  have hbase := Nat.le_refl w.heap.size
  go_enter Try.func6, Try.ntmps6
  go_upto_region 1 with fail
  rw [HW2.out]
  go_upto_if 21 with fail
  go_cut [0, 1] (fun s0 s1 wx => s0 = .int .i64 A ∧ s1 = .int .i64 B ∧ wx = w2)
  case first =>
    by_cases c : b < a
    · have hA := HA.out
      have hB := HBB.out
      obtain rfl : A = b := by omega
      obtain rfl : B = a := by omega
      clear hA hB
      go_wp2_with fail
      go_meet
      exact ⟨rfl, rfl, rfl⟩
    · have hA := HA.out
      have hB := HBB.out
      obtain rfl : A = a := by omega
      obtain rfl : B = b := by omega
      clear hA hB
      go_wp2_with fail
      go_meet
      exact ⟨rfl, rfl, rfl⟩
  case rest =>
    obtain ⟨rfl, rfl, rfl⟩ := hcut
    clear HA HBB
    have qv0_0 : wc.cell? ⟨w.heap.size + 1, 0, none⟩ = some (.int .u64 (hi v : Nat)) := Hv2.out.cell 0
    have qv1_0 : wc.cell? ⟨w.heap.size + 1, 1, none⟩ = some (.int .u64 (lo v : Nat)) := Hv2.out.cell 1
    have lv_0 : w.heap.size + 1 < wc.heap.size := Hv2.out.lt
    have qu0_0 : wc.cell? ⟨w.heap.size, 0, none⟩ = some (.int .u64 (hi u : Nat)) := Hu2.out.cell 0
    have qu1_0 : wc.cell? ⟨w.heap.size, 1, none⟩ = some (.int .u64 (lo u : Nat)) := Hu2.out.cell 1
    have lu_0 : w.heap.size < wc.heap.size := Hu2.out.lt
    have hcz1 := KL.out wc
    go_wp2_with fail
    refine hcz1.mono ?_
    rintro e wz1 ⟨rfl, kz1⟩
    clear hcz1 qv0_0 qv1_0 lv_0 qu0_0 qu1_0 lu_0
    have HBz1 := Lib.hid (HB2.out.trans (kz1.mono (Nat.le_trans hbase HB2.out.size)))
    have Huz1 := Lib.hid (Hu2.out.call kz1)
    have Hvz1 := Lib.hid (Hv2.out.call kz1)
    clear kz1
    go_upto_if 26 with fail
    go_cut [] (fun wx => Hid (Has wx w.heap.size [.int .u64 (hi p : Nat), .int .u64 (lo p : Nat)] 24) ∧ Hid (Has wx (w.heap.size + 1) [.int .u64 (hi q : Nat), .int .u64 (lo q : Nat)] 24) ∧ Hid (Below w.heap.size w wx))
    case first =>
      have hp := HP.out
      have hq := HQ.out
      by_cases c : v < u
      · have e1 : p = v := by omega
        have e2 : q = u := by omega
        have cd : decide (v < u) = true := decide_eq_true c
        rw [cd]
        have E1 := Lib.hid e1; have E2 := Lib.hid e2
        clear hp hq c cd e1 e2
        have qv0_1 : wz1.cell? ⟨w.heap.size + 1, 0, none⟩ = some (.int .u64 (hi v : Nat)) := Hvz1.out.cell 0
        have qv1_1 : wz1.cell? ⟨w.heap.size + 1, 1, none⟩ = some (.int .u64 (lo v : Nat)) := Hvz1.out.cell 1
        have lv_1 : w.heap.size + 1 < wz1.heap.size := Hvz1.out.lt
        have qu0_1 : wz1.cell? ⟨w.heap.size, 0, none⟩ = some (.int .u64 (hi u : Nat)) := Huz1.out.cell 0
        have qu1_1 : wz1.cell? ⟨w.heap.size, 1, none⟩ = some (.int .u64 (lo u : Nat)) := Huz1.out.cell 1
        have lu_1 : w.heap.size < wz1.heap.size := Huz1.out.lt
        have zv0_1 : wz1.frozen? ⟨w.heap.size + 1, 0, none⟩ = false := Hvz1.out.frozen 0
        have zv1_1 : wz1.frozen? ⟨w.heap.size + 1, 1, none⟩ = false := Hvz1.out.frozen 1
        have zu0_1 : wz1.frozen? ⟨w.heap.size, 0, none⟩ = false := Huz1.out.frozen 0
        have zu1_1 : wz1.frozen? ⟨w.heap.size, 1, none⟩ = false := Huz1.out.frozen 1
        go_wp2_with fail
        go_meet
        rw [E1.out, E2.out]
        exact ⟨Lib.hid ((((Huz1.out.set 0 (.int .u64 (hi v : Nat))).set 1 (.int .u64 (lo v : Nat))).other (p := ⟨w.heap.size + 1, 0, none⟩) (by dsimp only; omega) (.int .u64 (hi u : Nat))).other (p := ⟨w.heap.size + 1, 1, none⟩) (by dsimp only; omega) (.int .u64 (lo u : Nat))), Lib.hid ((((Hvz1.out.other (p := ⟨w.heap.size, 0, none⟩) (by dsimp only; omega) (.int .u64 (hi v : Nat))).other (p := ⟨w.heap.size, 1, none⟩) (by dsimp only; omega) (.int .u64 (lo v : Nat))).set 0 (.int .u64 (hi u : Nat))).set 1 (.int .u64 (lo u : Nat))), Lib.hid ((((HBz1.out.setCell (p := ⟨w.heap.size, 0, none⟩) (by dsimp only; omega) (.int .u64 (hi v : Nat))).setCell (p := ⟨w.heap.size, 1, none⟩) (by dsimp only; omega) (.int .u64 (lo v : Nat))).setCell (p := ⟨w.heap.size + 1, 0, none⟩) (by dsimp only; omega) (.int .u64 (hi u : Nat))).setCell (p := ⟨w.heap.size + 1, 1, none⟩) (by dsimp only; omega) (.int .u64 (lo u : Nat)))⟩
      · have e1 : p = u := by omega
        have e2 : q = v := by omega
        have cd : decide (v < u) = false := decide_eq_false c
        rw [cd]
        have E1 := Lib.hid e1; have E2 := Lib.hid e2
        clear hp hq c cd e1 e2
        go_wp2_with fail
        go_meet
        rw [E1.out, E2.out]
        exact ⟨Huz1, Hvz1, HBz1⟩
    case rest =>
      obtain ⟨Hu5, Hv5, HB5⟩ := hcut
      obtain ⟨w5, hw5⟩ : ∃ w5 : World, w5 = wc := ⟨_, rfl⟩
      rw [← hw5] at Hu5 Hv5 HB5 ⊢
      clear hw5
      have qv0_10 : w5.cell? ⟨w.heap.size + 1, 0, none⟩ = some (.int .u64 (hi q : Nat)) := Hv5.out.cell 0
      have qv1_10 : w5.cell? ⟨w.heap.size + 1, 1, none⟩ = some (.int .u64 (lo q : Nat)) := Hv5.out.cell 1
      have lv_10 : w.heap.size + 1 < w5.heap.size := Hv5.out.lt
      have hcz11 := K1.out w5
      go_wp2_with fail
      refine hcz11.mono ?_
      rintro e wz11 ⟨rfl, kz11⟩
      clear hcz11 qv0_10 qv1_10 lv_10
      have HBz11 := Lib.hid (HB5.out.trans (kz11.mono (Nat.le_trans hbase HB5.out.size)))
      have Huz11 := Lib.hid (Hu5.out.call kz11)
      have Hvz11 := Lib.hid (Hv5.out.call kz11)
      clear kz11
      have qv0_11 : wz11.cell? ⟨w.heap.size + 1, 0, none⟩ = some (.int .u64 (hi q : Nat)) := Hvz11.out.cell 0
      have qv1_11 : wz11.cell? ⟨w.heap.size + 1, 1, none⟩ = some (.int .u64 (lo q : Nat)) := Hvz11.out.cell 1
      have lv_11 : w.heap.size + 1 < wz11.heap.size := Hvz11.out.lt
      have hcz12 := K2.out wz11
      go_wp2_with fail
      refine hcz12.mono ?_
      rintro e wz12 ⟨rfl, kz12⟩
      clear hcz12 qv0_11 qv1_11 lv_11
      have HBz12 := Lib.hid (HBz11.out.trans (kz12.mono (Nat.le_trans hbase HBz11.out.size)))
      have Huz12 := Lib.hid (Huz11.out.call kz12)
      have Hvz12 := Lib.hid (Hvz11.out.call kz12)
      clear kz12
      have qu0_12 : wz12.cell? ⟨w.heap.size, 0, none⟩ = some (.int .u64 (hi p : Nat)) := Huz12.out.cell 0
      have qu1_12 : wz12.cell? ⟨w.heap.size, 1, none⟩ = some (.int .u64 (lo p : Nat)) := Huz12.out.cell 1
      have lu_12 : w.heap.size < wz12.heap.size := Huz12.out.lt
      have hcz13 := K3.out wz12
      go_wp2_with fail
      refine hcz13.mono ?_
      rintro e wz13 ⟨rfl, kz13⟩
      clear hcz13 qu0_12 qu1_12 lu_12
      have HBz13 := Lib.hid (HBz12.out.trans (kz13.mono (Nat.le_trans hbase HBz12.out.size)))
      have Huz13 := Lib.hid (Huz12.out.call kz13)
      have Hvz13 := Lib.hid (Hvz12.out.call kz13)
      clear kz13
      rcases HE.out with rfl | ⟨rfl, rfl, n1, n2, n3, n4, n5, n6, n7, n8⟩
      · skip
        have hcz14 := KA.out wz13
        go_wp2_with fail
        refine hcz14.mono ?_
        rintro e wz14 ⟨rfl, kz14⟩
        clear hcz14
        have HBz14 := Lib.hid (HBz13.out.trans (kz14.mono (Nat.le_trans hbase HBz13.out.size)))
        have Huz14 := Lib.hid (Huz13.out.call kz14)
        have Hvz14 := Lib.hid (Hvz13.out.call kz14)
        clear kz14
        go_wp2
        go_ret
        exact ⟨rfl, HBz14.out⟩
      · skip
        have g1 : ¬ Q < P := by omega
        have g2 : ¬ P < -4 := by omega
        have g3 : ¬ 4 < Q := by omega
        have HT7 := Lib.hid n7; have HT8 := Lib.hid n8
        go_upto_region 10 with fail
        go_cut [105] (fun s105 wx => s105 = .bool false ∧ Hid (Has wx w.heap.size [.int .u64 (hi p : Nat), .int .u64 (lo p : Nat)] 24) ∧ Hid (Has wx (w.heap.size + 1) [.int .u64 (hi q : Nat), .int .u64 (lo q : Nat)] 24) ∧ Hid (Below w.heap.size w wx))
        case first =>
          rcases Int.lt_trichotomy B 0 with cb | cb | cb
          · skip
            have b1 : ¬ 0 ≤ B := by omega
            have b2 : B ≤ 0 := by omega
            have b3 : ¬ Q < R := by have := n6 b2; omega
            have z1 : (B == 0) = false := beq_false_of_ne (by omega)
            have z2 : (Q == 0) = false := beq_false_of_ne (fun h => by have := n4.1 h; omega)
            clear n1 n2 n3 n4 n5 n6 n7 n8 cb
            have hcz14 := KA.out wz13
            go_wp2_with fail
            refine hcz14.mono ?_
            rintro e wz14 ⟨rfl, kz14⟩
            clear hcz14
            have HBz14 := Lib.hid (HBz13.out.trans (kz14.mono (Nat.le_trans hbase HBz13.out.size)))
            have Huz14 := Lib.hid (Huz13.out.call kz14)
            have Hvz14 := Lib.hid (Hvz13.out.call kz14)
            clear kz14
            go_wp2_with fail
            go_meet
            exact ⟨by first | rfl | (simp [g1, g2, g3]; done), Huz14, Hvz14, HBz14⟩
          · skip
            have b1 : 0 ≤ B := by omega
            have b2 : B ≤ 0 := by omega
            have b3 : ¬ R < Q := by have := n5 b1; omega
            have b4 : ¬ Q < R := by have := n6 b2; omega
            have z1 : (B == 0) = true := by rw [cb]; rfl
            have z2 : (Q == 0) = true := by rw [n4.2 cb]; rfl
            clear n1 n2 n3 n4 n5 n6 n7 n8 cb
            have hcz14 := KA.out wz13
            go_wp2_with fail
            refine hcz14.mono ?_
            rintro e wz14 ⟨rfl, kz14⟩
            clear hcz14
            have HBz14 := Lib.hid (HBz13.out.trans (kz14.mono (Nat.le_trans hbase HBz13.out.size)))
            have Huz14 := Lib.hid (Huz13.out.call kz14)
            have Hvz14 := Lib.hid (Hvz13.out.call kz14)
            clear kz14
            go_wp2_with fail
            go_meet
            exact ⟨by first | rfl | (simp [g1, g2, g3]; done), Huz14, Hvz14, HBz14⟩
          · skip
            have b1 : 0 ≤ B := by omega
            have b2 : ¬ B ≤ 0 := by omega
            have b3 : ¬ R < Q := by have := n5 b1; omega
            have z1 : (B == 0) = false := beq_false_of_ne (by omega)
            have z2 : (Q == 0) = false := beq_false_of_ne (fun h => by have := n4.1 h; omega)
            clear n1 n2 n3 n4 n5 n6 n7 n8 cb
            have hcz14 := KA.out wz13
            go_wp2_with fail
            refine hcz14.mono ?_
            rintro e wz14 ⟨rfl, kz14⟩
            clear hcz14
            have HBz14 := Lib.hid (HBz13.out.trans (kz14.mono (Nat.le_trans hbase HBz13.out.size)))
            have Huz14 := Lib.hid (Huz13.out.call kz14)
            have Hvz14 := Lib.hid (Hvz13.out.call kz14)
            clear kz14
            go_wp2_with fail
            go_meet
            exact ⟨by first | rfl | (simp [g1, g2, g3]; done), Huz14, Hvz14, HBz14⟩
        case rest =>
          obtain ⟨rfl, Hu7, Hv7, HB7⟩ := hcut
          obtain ⟨w7, hw7⟩ : ∃ w7 : World, w7 = wc := ⟨_, rfl⟩
          rw [← hw7] at Hu7 Hv7 HB7 ⊢
          clear hw7 g1 g2 g3 n1 n2 n3 n4 n5 n6 n7 n8
          have hib := HIB.out
          unfold IsInt at hib
          have hCC := HC.out
          rcases Int.lt_trichotomy B (-9223372036854775807) with cb | cb | cb
          · skip
            have b1 : ¬ (-9223372036854775807) < B := by omega
            have b2 : ¬ (-9223372036854775807) ≤ B := by omega
            have b3 : B ≤ -9223372036854775807 := by omega
            obtain rfl : C = -9223372036854775807 := by omega
            have HCC := Lib.hid hCC
            clear hCC
            have qv0_30 : w7.cell? ⟨w.heap.size + 1, 0, none⟩ = some (.int .u64 (hi q : Nat)) := Hv7.out.cell 0
            have qv1_30 : w7.cell? ⟨w.heap.size + 1, 1, none⟩ = some (.int .u64 (lo q : Nat)) := Hv7.out.cell 1
            have lv_30 : w.heap.size + 1 < w7.heap.size := Hv7.out.lt
            have hcz31 := K4.out w7
            go_wp2_with fail
            refine hcz31.mono ?_
            rintro e wz31 ⟨rfl, kz31⟩
            clear hcz31 qv0_30 qv1_30 lv_30
            have HBz31 := Lib.hid (HB7.out.trans (kz31.mono (Nat.le_trans hbase HB7.out.size)))
            have Huz31 := Lib.hid (Hu7.out.call kz31)
            have Hvz31 := Lib.hid (Hv7.out.call kz31)
            clear kz31
            have qv0_31 : wz31.cell? ⟨w.heap.size + 1, 0, none⟩ = some (.int .u64 (hi q : Nat)) := Hvz31.out.cell 0
            have qv1_31 : wz31.cell? ⟨w.heap.size + 1, 1, none⟩ = some (.int .u64 (lo q : Nat)) := Hvz31.out.cell 1
            have lv_31 : w.heap.size + 1 < wz31.heap.size := Hvz31.out.lt
            have hcz32 := K5.out wz31
            go_wp2_with fail
            refine hcz32.mono ?_
            rintro e wz32 ⟨rfl, kz32⟩
            clear hcz32 qv0_31 qv1_31 lv_31
            have HBz32 := Lib.hid (HBz31.out.trans (kz32.mono (Nat.le_trans hbase HBz31.out.size)))
            have Huz32 := Lib.hid (Huz31.out.call kz32)
            have Hvz32 := Lib.hid (Hvz31.out.call kz32)
            clear kz32
            have t7 := HT7.out
            have t8 := HT8.out
            have htt : (-T == -T) = true := beq_self_eq_true _
            go_wp2
            go_ret
            exact ⟨by first | rfl | simp, HBz32.out⟩
          · skip
            obtain rfl : C = B := by omega
            subst cb
            have HCC := Lib.hid hCC
            clear hCC
            have qv0_30 : w7.cell? ⟨w.heap.size + 1, 0, none⟩ = some (.int .u64 (hi q : Nat)) := Hv7.out.cell 0
            have qv1_30 : w7.cell? ⟨w.heap.size + 1, 1, none⟩ = some (.int .u64 (lo q : Nat)) := Hv7.out.cell 1
            have lv_30 : w.heap.size + 1 < w7.heap.size := Hv7.out.lt
            have hcz31 := K4.out w7
            go_wp2_with fail
            refine hcz31.mono ?_
            rintro e wz31 ⟨rfl, kz31⟩
            clear hcz31 qv0_30 qv1_30 lv_30
            have HBz31 := Lib.hid (HB7.out.trans (kz31.mono (Nat.le_trans hbase HB7.out.size)))
            have Huz31 := Lib.hid (Hu7.out.call kz31)
            have Hvz31 := Lib.hid (Hv7.out.call kz31)
            clear kz31
            have qv0_31 : wz31.cell? ⟨w.heap.size + 1, 0, none⟩ = some (.int .u64 (hi q : Nat)) := Hvz31.out.cell 0
            have qv1_31 : wz31.cell? ⟨w.heap.size + 1, 1, none⟩ = some (.int .u64 (lo q : Nat)) := Hvz31.out.cell 1
            have lv_31 : w.heap.size + 1 < wz31.heap.size := Hvz31.out.lt
            have hcz32 := K5.out wz31
            go_wp2_with fail
            refine hcz32.mono ?_
            rintro e wz32 ⟨rfl, kz32⟩
            clear hcz32 qv0_31 qv1_31 lv_31
            have HBz32 := Lib.hid (HBz31.out.trans (kz32.mono (Nat.le_trans hbase HBz31.out.size)))
            have Huz32 := Lib.hid (Huz31.out.call kz32)
            have Hvz32 := Lib.hid (Hvz31.out.call kz32)
            clear kz32
            have t7 := HT7.out
            have t8 := HT8.out
            have htt : (-T == -T) = true := beq_self_eq_true _
            go_wp2
            go_ret
            exact ⟨by first | rfl | simp, HBz32.out⟩
          · skip
            have b1 : ¬ B < -9223372036854775807 := by omega
            have b2 : ¬ B ≤ -9223372036854775807 := by omega
            have b3 : -9223372036854775807 ≤ B := by omega
            obtain rfl : C = B := by omega
            have HCC := Lib.hid hCC
            clear hCC
            have qv0_30 : w7.cell? ⟨w.heap.size + 1, 0, none⟩ = some (.int .u64 (hi q : Nat)) := Hv7.out.cell 0
            have qv1_30 : w7.cell? ⟨w.heap.size + 1, 1, none⟩ = some (.int .u64 (lo q : Nat)) := Hv7.out.cell 1
            have lv_30 : w.heap.size + 1 < w7.heap.size := Hv7.out.lt
            have hcz31 := K4.out w7
            go_wp2_with fail
            refine hcz31.mono ?_
            rintro e wz31 ⟨rfl, kz31⟩
            clear hcz31 qv0_30 qv1_30 lv_30
            have HBz31 := Lib.hid (HB7.out.trans (kz31.mono (Nat.le_trans hbase HB7.out.size)))
            have Huz31 := Lib.hid (Hu7.out.call kz31)
            have Hvz31 := Lib.hid (Hv7.out.call kz31)
            clear kz31
            have qv0_31 : wz31.cell? ⟨w.heap.size + 1, 0, none⟩ = some (.int .u64 (hi q : Nat)) := Hvz31.out.cell 0
            have qv1_31 : wz31.cell? ⟨w.heap.size + 1, 1, none⟩ = some (.int .u64 (lo q : Nat)) := Hvz31.out.cell 1
            have lv_31 : w.heap.size + 1 < wz31.heap.size := Hvz31.out.lt
            have hcz32 := K5.out wz31
            go_wp2_with fail
            refine hcz32.mono ?_
            rintro e wz32 ⟨rfl, kz32⟩
            clear hcz32 qv0_31 qv1_31 lv_31
            have HBz32 := Lib.hid (HBz31.out.trans (kz32.mono (Nat.le_trans hbase HBz31.out.size)))
            have Huz32 := Lib.hid (Huz31.out.call kz32)
            have Hvz32 := Lib.hid (Hvz31.out.call kz32)
            clear kz32
            have t7 := HT7.out
            have t8 := HT8.out
            have htt : (-T == -T) = true := beq_self_eq_true _
            go_wp2
            go_ret
            exact ⟨by first | rfl | simp, HBz32.out⟩
theorem rises13_walk (a b : Int) (u v : Nat) (ha : IsInt a) (hb : IsInt b) (hu : u < M128) (hv : v < M128) (w : World) :
    Calls Try.prog 6 #[.int .i64 a, .int .i64 b, .agg #[.int .u64 (hi u : Nat), .int .u64 (lo u : Nat)], .agg #[.int .u64 (hi v : Nat), .int .u64 (lo v : Nat)]] w fun e w' => e = .returned (.bool true) ∧ Below w.heap.size w w' := by
  have hA : IsInt (min a b) := by unfold IsInt at *; omega
  have hB : IsInt (max a b) := by unfold IsInt at *; omega
  have hC : IsInt (max (max a b) (-9223372036854775807)) := by unfold IsInt at *; omega
  have hC' : IsInt (-(max (max a b) (-9223372036854775807))) := by unfold IsInt at *; omega
  have hn : clsR (-(max (max a b) (-9223372036854775807))) (max u v) = -clsR (max (max a b) (-9223372036854775807)) (max u v) := by
    unfold clsR
    split
    · exact clsN_neg _ _
    · rfl
  refine rises13_core a b _ _ _ _ _ _ _ _ _ u v _ _ w hB rfl rfl rfl rfl rfl (fun W => less_num v u hv hu W) (fun W => cls13_any _ _ hA W) (fun W => cls13_any _ _ hB W) (fun W => cls13_any _ _ hB W) (fun W => cls13_any _ _ hC W) (fun W => hn ▸ cls13_any _ _ hC' W) ?_
  by_cases h : max u v < 21267647932558653966460912964485513216
  · right
    have h2 : min u v < 21267647932558653966460912964485513216 := by omega
    unfold clsR clsE
    simp only [if_pos h, if_pos h2]
    have b1 := clsN_bounds (min a b) (max u v)
    have b2 := clsN_bounds (max a b) (max u v)
    have b3 := clsN_bounds (max (max a b) (-9223372036854775807)) (max u v)
    exact ⟨trivial, trivial, clsN_rise (by omega) _, b1.1, b2.2, clsN_eq_zero _ _, fun hh => clsN_fall (by omega) hh, fun hh => clsN_fall' (by omega) hh, b3.1, b3.2⟩
  · left
    unfold clsE
    rw [if_neg h]
end Go.Proofs.Ytcadbenjgpohoaa
