/- The law of ZoneHolds: its walk. -/
import Derived.Test.YtcadbenjgpohoaaZonM
import Derived.Lib.MinMax
namespace Go.Proofs.Ytcadbenjgpohoaa
open Go.RowKit

theorem run_min3 (w : World) (ts : Array TypeId) (t : TypeId) (x y z : Int) : (Builtin.min_ ts t #[.int .i64 x, .int .i64 y, .int .i64 z]).run Try.prog w = .ok (.int .i64 (min (min x y) z)) w := by
  have e : (if z < (if y < x then y else x) then z else (if y < x then y else x)) = min (min x y) z := by
    rw [Int.min_def, Int.min_def]
    repeat' split
    all_goals omega
  simp [Builtin.min_, Builtin.min2, e]
theorem run_max3 (w : World) (ts : Array TypeId) (t : TypeId) (x y z : Int) : (Builtin.max_ ts t #[.int .i64 x, .int .i64 y, .int .i64 z]).run Try.prog w = .ok (.int .i64 (max (max x y) z)) w := by
  have e : (if z > (if y > x then y else x) then z else (if y > x then y else x)) = max (max x y) z := by
    rw [Int.max_def, Int.max_def]
    repeat' split
    all_goals omega
  simp [Builtin.max_, Builtin.max2, e]
set_option linter.unusedSimpArgs false in
set_option linter.unusedVariables false in
set_option maxHeartbeats 16000000 in
set_option maxRecDepth 100000 in
theorem holds13_core (a b c A Z X M E K F O : Int) (u v y v1 P Q R U1 : Nat) (w : World) (hu : u < M128) (hv : v < M128) (hy : y < M128)
    (hA : A = min (min a b) c) (hZ : Z = max (max a b) c) (hX : X = max (min a b) (min (max a b) c))
    (hU1 : U1 = min u v) (hv1 : v1 = max u v) (hR : R = max v1 y) (hP : P = min U1 (min v1 y)) (hQ : Q = max U1 (min v1 y)) (V2 : Nat) (hV2 : V2 = min v1 y)
    (k1 : (∀ W, Calls Try.prog 16 #[.agg #[.int .i64 A, .int .i64 Z], .agg #[.int .u64 (hi P : Nat), .int .u64 (lo P : Nat)], .agg #[.int .u64 (hi R : Nat), .int .u64 (lo R : Nat)]] W fun e w' => e = .returned (.tuple #[.int .i64 M, .int .i64 E]) ∧ Below W.heap.size W w')) (k2 : (∀ W, Calls Try.prog 7 #[.int .i64 X, .agg #[.int .u64 (hi Q : Nat), .int .u64 (lo Q : Nat)]] W fun e w' => e = .returned (.tuple #[.int .i64 K, .int .i64 F]) ∧ Below W.heap.size W w'))
    (hE : E = 1 ∧ M = 0 ∨ E = 0 ∧ F = 0 ∧ (∀ W, Calls Try.prog 16 #[.agg #[.int .i64 X, .int .i64 X], .agg #[.int .u64 (hi Q : Nat), .int .u64 (lo Q : Nat)], .agg #[.int .u64 (hi Q : Nat), .int .u64 (lo Q : Nat)]] W fun e w' => e = .returned (.tuple #[.int .i64 O, .int .i64 0]) ∧ Below W.heap.size W w') ∧ (∀ W, Calls Try.prog 8 #[.int .i64 O] W fun e w' => e = .returned (.tuple #[.int .i64 K, .int .i64 K, .int .i64 0]) ∧ Below W.heap.size W w') ∧ (∀ W, Calls Try.prog 9 #[.int .i64 M, .int .i64 K] W fun e w' => e = .returned (.bool true) ∧ Below W.heap.size W w')) :
    Calls Try.prog 5 #[.int .i64 a, .int .i64 b, .int .i64 c, .agg #[.int .u64 (hi u : Nat), .int .u64 (lo u : Nat)], .agg #[.int .u64 (hi v : Nat), .int .u64 (lo v : Nat)], .agg #[.int .u64 (hi y : Nat), .int .u64 (lo y : Nat)]] w fun e w' => e = .returned (.bool true) ∧ Below w.heap.size w w' := by
  have K1 := Lib.hid k1; have K2 := Lib.hid k2; have HE := Lib.hid hE
  have KL1 := Lib.hid (fun W => less_num v u hv hu W)
  have KL2 := Lib.hid (fun W => less_num y v1 hy (show v1 < M128 by omega) W)
  have KL3 := Lib.hid (fun W => less_num V2 U1 (show V2 < M128 by omega) (show U1 < M128 by omega) W)
  have HA := Lib.hid hA; have HZ := Lib.hid hZ; have HX := Lib.hid hX; have HU1 := Lib.hid hU1; have HV1 := Lib.hid hv1; have HR := Lib.hid hR; have HV2 := Lib.hid hV2
  have HP := Lib.hid (show P = min U1 V2 by omega); have HQ := Lib.hid (show Q = max U1 V2 by omega)
  have KA := Lib.hid (fun W => alive13_any W)
  clear k1 k2 hE hA hZ hX hU1 hv1 hR hP hQ hV2 hu hv hy
  obtain ⟨w2, hw2⟩ : ∃ w2, ((w.alloc (.cells #[.int .u64 (hi u : Nat), .int .u64 (lo u : Nat)] 24)).alloc (.cells #[.int .u64 (hi v : Nat), .int .u64 (lo v : Nat)] 24)).alloc (.cells #[.int .u64 (hi y : Nat), .int .u64 (lo y : Nat)] 24) = w2 := ⟨_, rfl⟩
  have HB2 := Lib.hid (show Below w.heap.size w w2 by rw [← hw2]; exact (((Below.refl _ _).alloc (Nat.le_refl _) _).alloc (by simp) _).alloc (by simp; omega) _)
  have Hu2 := Lib.hid (show Has w2 w.heap.size [.int .u64 (hi u : Nat), .int .u64 (lo u : Nat)] 24 by rw [← hw2]; exact ((Has.new w _ _).alloc _).alloc _)
  have Hv2 := Lib.hid (show Has w2 (w.heap.size + 1) [.int .u64 (hi v : Nat), .int .u64 (lo v : Nat)] 24 by
    rw [← hw2]
    have := (Has.new (w.alloc (.cells #[.int .u64 (hi u : Nat), .int .u64 (lo u : Nat)] 24)) [.int .u64 (hi v : Nat), .int .u64 (lo v : Nat)] 24).alloc (.cells #[.int .u64 (hi y : Nat), .int .u64 (lo y : Nat)] 24)
    rw [show (w.alloc (.cells #[.int .u64 (hi u : Nat), .int .u64 (lo u : Nat)] 24)).heap.size = w.heap.size + 1 by simp] at this
    exact this)
  have Hy2 := Lib.hid (show Has w2 (w.heap.size + 2) [.int .u64 (hi y : Nat), .int .u64 (lo y : Nat)] 24 by
    rw [← hw2]
    have := Has.new ((w.alloc (.cells #[.int .u64 (hi u : Nat), .int .u64 (lo u : Nat)] 24)).alloc (.cells #[.int .u64 (hi v : Nat), .int .u64 (lo v : Nat)] 24)) [.int .u64 (hi y : Nat), .int .u64 (lo y : Nat)] 24
    rw [show ((w.alloc (.cells #[.int .u64 (hi u : Nat), .int .u64 (lo u : Nat)] 24)).alloc (.cells #[.int .u64 (hi v : Nat), .int .u64 (lo v : Nat)] 24)).heap.size = w.heap.size + 2 by simp] at this
    exact this)
  have HW2 := Lib.hid hw2
  clear hw2
  have hbase := Nat.le_refl w.heap.size
  go_enter Try.func5, Try.ntmps5
  go_upto_region 1 with fail
  rw [HW2.out]
  have hm3 : ∀ ts t W, (Builtin.min_ ts t #[.int .i64 a, .int .i64 b, .int .i64 c]).run Try.prog W = .ok (.int .i64 A) W := fun ts t W => by rw [run_min3, HA.out]
  have hM3 : ∀ ts t W, (Builtin.max_ ts t #[.int .i64 a, .int .i64 b, .int .i64 c]).run Try.prog W = .ok (.int .i64 Z) W := fun ts t W => by rw [run_max3, HZ.out]
  go_cut [13, 14] (fun s13 s14 wx => s13 = .int .i64 A ∧ s14 = .int .i64 Z ∧ wx = w2)
  case first =>
    go_wp2_with fail
    go_meet
    exact ⟨rfl, rfl, rfl⟩
  case rest =>
    obtain ⟨rfl, rfl, rfl⟩ := hcut
    clear hm3 hM3 HA HZ
    go_upto_region 3 with fail
    rw [← HX.out]
    clear HX
    have qv0_0 : wc.cell? ⟨w.heap.size + 1, 0, none⟩ = some (.int .u64 (hi v : Nat)) := Hv2.out.cell 0
    have qv1_0 : wc.cell? ⟨w.heap.size + 1, 1, none⟩ = some (.int .u64 (lo v : Nat)) := Hv2.out.cell 1
    have lv_0 : w.heap.size + 1 < wc.heap.size := Hv2.out.lt
    have qu0_0 : wc.cell? ⟨w.heap.size, 0, none⟩ = some (.int .u64 (hi u : Nat)) := Hu2.out.cell 0
    have qu1_0 : wc.cell? ⟨w.heap.size, 1, none⟩ = some (.int .u64 (lo u : Nat)) := Hu2.out.cell 1
    have lu_0 : w.heap.size < wc.heap.size := Hu2.out.lt
    have hcz1 := KL1.out wc
    go_wp2_with fail
    refine hcz1.mono ?_
    rintro e wz1 ⟨rfl, kz1⟩
    clear hcz1 qv0_0 qv1_0 lv_0 qu0_0 qu1_0 lu_0
    have HBz1 := Lib.hid (HB2.out.trans (kz1.mono (Nat.le_trans hbase HB2.out.size)))
    have Huz1 := Lib.hid (Hu2.out.call kz1)
    have Hvz1 := Lib.hid (Hv2.out.call kz1)
    have Hyz1 := Lib.hid (Hy2.out.call kz1)
    clear kz1
    go_upto_if 44 with fail
    go_cut [] (fun wx => Hid (Has wx (w.heap.size) [.int .u64 (hi U1 : Nat), .int .u64 (lo U1 : Nat)] 24) ∧ Hid (Has wx (w.heap.size + 1) [.int .u64 (hi v1 : Nat), .int .u64 (lo v1 : Nat)] 24) ∧ Hid (Has wx (w.heap.size + 2) [.int .u64 (hi y : Nat), .int .u64 (lo y : Nat)] 24) ∧ Hid (Below w.heap.size w wx))
    case first =>
      have hlo := HU1.out
      have hhi := HV1.out
      by_cases cc : v < u
      · have E1 := Lib.hid (show U1 = v by omega)
        have E2 := Lib.hid (show v1 = u by omega)
        rw [show ltW v u = true from decide_eq_true cc]
        clear hlo hhi cc
        have qu0_1 : wz1.cell? ⟨w.heap.size, 0, none⟩ = some (.int .u64 (hi u : Nat)) := Huz1.out.cell 0
        have qu1_1 : wz1.cell? ⟨w.heap.size, 1, none⟩ = some (.int .u64 (lo u : Nat)) := Huz1.out.cell 1
        have lu_1 : w.heap.size < wz1.heap.size := Huz1.out.lt
        have qv0_1 : wz1.cell? ⟨w.heap.size + 1, 0, none⟩ = some (.int .u64 (hi v : Nat)) := Hvz1.out.cell 0
        have qv1_1 : wz1.cell? ⟨w.heap.size + 1, 1, none⟩ = some (.int .u64 (lo v : Nat)) := Hvz1.out.cell 1
        have lv_1 : w.heap.size + 1 < wz1.heap.size := Hvz1.out.lt
        have zu0_1 : wz1.frozen? ⟨w.heap.size, 0, none⟩ = false := Huz1.out.frozen 0
        have zu1_1 : wz1.frozen? ⟨w.heap.size, 1, none⟩ = false := Huz1.out.frozen 1
        have zv0_1 : wz1.frozen? ⟨w.heap.size + 1, 0, none⟩ = false := Hvz1.out.frozen 0
        have zv1_1 : wz1.frozen? ⟨w.heap.size + 1, 1, none⟩ = false := Hvz1.out.frozen 1
        go_wp2_with fail
        go_meet
        rw [E1.out, E2.out]
        exact ⟨Lib.hid ((((Huz1.out.set 0 (.int .u64 (hi v : Nat))).set 1 (.int .u64 (lo v : Nat))).other (p := ⟨w.heap.size + 1, 0, none⟩) (by dsimp only; omega) (.int .u64 (hi u : Nat))).other (p := ⟨w.heap.size + 1, 1, none⟩) (by dsimp only; omega) (.int .u64 (lo u : Nat))), Lib.hid ((((Hvz1.out.other (p := ⟨w.heap.size, 0, none⟩) (by dsimp only; omega) (.int .u64 (hi v : Nat))).other (p := ⟨w.heap.size, 1, none⟩) (by dsimp only; omega) (.int .u64 (lo v : Nat))).set 0 (.int .u64 (hi u : Nat))).set 1 (.int .u64 (lo u : Nat))), Lib.hid ((((Hyz1.out.other (p := ⟨w.heap.size, 0, none⟩) (by dsimp only; omega) (.int .u64 (hi v : Nat))).other (p := ⟨w.heap.size, 1, none⟩) (by dsimp only; omega) (.int .u64 (lo v : Nat))).other (p := ⟨w.heap.size + 1, 0, none⟩) (by dsimp only; omega) (.int .u64 (hi u : Nat))).other (p := ⟨w.heap.size + 1, 1, none⟩) (by dsimp only; omega) (.int .u64 (lo u : Nat))), Lib.hid ((((HBz1.out.setCell (p := ⟨w.heap.size, 0, none⟩) (by dsimp only; omega) (.int .u64 (hi v : Nat))).setCell (p := ⟨w.heap.size, 1, none⟩) (by dsimp only; omega) (.int .u64 (lo v : Nat))).setCell (p := ⟨w.heap.size + 1, 0, none⟩) (by dsimp only; omega) (.int .u64 (hi u : Nat))).setCell (p := ⟨w.heap.size + 1, 1, none⟩) (by dsimp only; omega) (.int .u64 (lo u : Nat)))⟩
      · have E1 := Lib.hid (show U1 = u by omega)
        have E2 := Lib.hid (show v1 = v by omega)
        rw [show ltW v u = false from decide_eq_false cc]
        clear hlo hhi cc
        go_wp2_with fail
        go_meet
        rw [E1.out, E2.out]
        exact ⟨Huz1, Hvz1, Hyz1, HBz1⟩
    case rest =>
      obtain ⟨Hu21, Hv21, Hy21, HB21⟩ := hcut
      obtain ⟨w21, hw21⟩ : ∃ w21 : World, w21 = wc := ⟨_, rfl⟩
      rw [← hw21] at Hu21 Hv21 Hy21 HB21 ⊢
      clear hw21
      have qy0_6 : w21.cell? ⟨w.heap.size + 2, 0, none⟩ = some (.int .u64 (hi y : Nat)) := Hy21.out.cell 0
      have qy1_6 : w21.cell? ⟨w.heap.size + 2, 1, none⟩ = some (.int .u64 (lo y : Nat)) := Hy21.out.cell 1
      have ly_6 : w.heap.size + 2 < w21.heap.size := Hy21.out.lt
      have qv0_6 : w21.cell? ⟨w.heap.size + 1, 0, none⟩ = some (.int .u64 (hi v1 : Nat)) := Hv21.out.cell 0
      have qv1_6 : w21.cell? ⟨w.heap.size + 1, 1, none⟩ = some (.int .u64 (lo v1 : Nat)) := Hv21.out.cell 1
      have lv_6 : w.heap.size + 1 < w21.heap.size := Hv21.out.lt
      have hcz7 := KL2.out w21
      go_wp2_with fail
      refine hcz7.mono ?_
      rintro e wz7 ⟨rfl, kz7⟩
      clear hcz7 qy0_6 qy1_6 ly_6 qv0_6 qv1_6 lv_6
      have HBz7 := Lib.hid (HB21.out.trans (kz7.mono (Nat.le_trans hbase HB21.out.size)))
      have Huz7 := Lib.hid (Hu21.out.call kz7)
      have Hvz7 := Lib.hid (Hv21.out.call kz7)
      have Hyz7 := Lib.hid (Hy21.out.call kz7)
      clear kz7
      go_upto_if 49 with fail
      go_cut [] (fun wx => Hid (Has wx (w.heap.size) [.int .u64 (hi U1 : Nat), .int .u64 (lo U1 : Nat)] 24) ∧ Hid (Has wx (w.heap.size + 1) [.int .u64 (hi V2 : Nat), .int .u64 (lo V2 : Nat)] 24) ∧ Hid (Has wx (w.heap.size + 2) [.int .u64 (hi R : Nat), .int .u64 (lo R : Nat)] 24) ∧ Hid (Below w.heap.size w wx))
      case first =>
        have hlo := HV2.out
        have hhi := HR.out
        by_cases cc : y < v1
        · have E1 := Lib.hid (show V2 = y by omega)
          have E2 := Lib.hid (show R = v1 by omega)
          rw [show ltW y v1 = true from decide_eq_true cc]
          clear hlo hhi cc
          have qv0_7 : wz7.cell? ⟨w.heap.size + 1, 0, none⟩ = some (.int .u64 (hi v1 : Nat)) := Hvz7.out.cell 0
          have qv1_7 : wz7.cell? ⟨w.heap.size + 1, 1, none⟩ = some (.int .u64 (lo v1 : Nat)) := Hvz7.out.cell 1
          have lv_7 : w.heap.size + 1 < wz7.heap.size := Hvz7.out.lt
          have qy0_7 : wz7.cell? ⟨w.heap.size + 2, 0, none⟩ = some (.int .u64 (hi y : Nat)) := Hyz7.out.cell 0
          have qy1_7 : wz7.cell? ⟨w.heap.size + 2, 1, none⟩ = some (.int .u64 (lo y : Nat)) := Hyz7.out.cell 1
          have ly_7 : w.heap.size + 2 < wz7.heap.size := Hyz7.out.lt
          have zv0_7 : wz7.frozen? ⟨w.heap.size + 1, 0, none⟩ = false := Hvz7.out.frozen 0
          have zv1_7 : wz7.frozen? ⟨w.heap.size + 1, 1, none⟩ = false := Hvz7.out.frozen 1
          have zy0_7 : wz7.frozen? ⟨w.heap.size + 2, 0, none⟩ = false := Hyz7.out.frozen 0
          have zy1_7 : wz7.frozen? ⟨w.heap.size + 2, 1, none⟩ = false := Hyz7.out.frozen 1
          go_wp2_with fail
          go_meet
          rw [E1.out, E2.out]
          exact ⟨Lib.hid ((((Huz7.out.other (p := ⟨w.heap.size + 1, 0, none⟩) (by dsimp only; omega) (.int .u64 (hi y : Nat))).other (p := ⟨w.heap.size + 1, 1, none⟩) (by dsimp only; omega) (.int .u64 (lo y : Nat))).other (p := ⟨w.heap.size + 2, 0, none⟩) (by dsimp only; omega) (.int .u64 (hi v1 : Nat))).other (p := ⟨w.heap.size + 2, 1, none⟩) (by dsimp only; omega) (.int .u64 (lo v1 : Nat))), Lib.hid ((((Hvz7.out.set 0 (.int .u64 (hi y : Nat))).set 1 (.int .u64 (lo y : Nat))).other (p := ⟨w.heap.size + 2, 0, none⟩) (by dsimp only; omega) (.int .u64 (hi v1 : Nat))).other (p := ⟨w.heap.size + 2, 1, none⟩) (by dsimp only; omega) (.int .u64 (lo v1 : Nat))), Lib.hid ((((Hyz7.out.other (p := ⟨w.heap.size + 1, 0, none⟩) (by dsimp only; omega) (.int .u64 (hi y : Nat))).other (p := ⟨w.heap.size + 1, 1, none⟩) (by dsimp only; omega) (.int .u64 (lo y : Nat))).set 0 (.int .u64 (hi v1 : Nat))).set 1 (.int .u64 (lo v1 : Nat))), Lib.hid ((((HBz7.out.setCell (p := ⟨w.heap.size + 1, 0, none⟩) (by dsimp only; omega) (.int .u64 (hi y : Nat))).setCell (p := ⟨w.heap.size + 1, 1, none⟩) (by dsimp only; omega) (.int .u64 (lo y : Nat))).setCell (p := ⟨w.heap.size + 2, 0, none⟩) (by dsimp only; omega) (.int .u64 (hi v1 : Nat))).setCell (p := ⟨w.heap.size + 2, 1, none⟩) (by dsimp only; omega) (.int .u64 (lo v1 : Nat)))⟩
        · have E1 := Lib.hid (show V2 = v1 by omega)
          have E2 := Lib.hid (show R = y by omega)
          rw [show ltW y v1 = false from decide_eq_false cc]
          clear hlo hhi cc
          go_wp2_with fail
          go_meet
          rw [E1.out, E2.out]
          exact ⟨Huz7, Hvz7, Hyz7, HBz7⟩
      case rest =>
        obtain ⟨Hu22, Hv22, Hy22, HB22⟩ := hcut
        obtain ⟨w22, hw22⟩ : ∃ w22 : World, w22 = wc := ⟨_, rfl⟩
        rw [← hw22] at Hu22 Hv22 Hy22 HB22 ⊢
        clear hw22
        have qv0_12 : w22.cell? ⟨w.heap.size + 1, 0, none⟩ = some (.int .u64 (hi V2 : Nat)) := Hv22.out.cell 0
        have qv1_12 : w22.cell? ⟨w.heap.size + 1, 1, none⟩ = some (.int .u64 (lo V2 : Nat)) := Hv22.out.cell 1
        have lv_12 : w.heap.size + 1 < w22.heap.size := Hv22.out.lt
        have qu0_12 : w22.cell? ⟨w.heap.size, 0, none⟩ = some (.int .u64 (hi U1 : Nat)) := Hu22.out.cell 0
        have qu1_12 : w22.cell? ⟨w.heap.size, 1, none⟩ = some (.int .u64 (lo U1 : Nat)) := Hu22.out.cell 1
        have lu_12 : w.heap.size < w22.heap.size := Hu22.out.lt
        have hcz13 := KL3.out w22
        go_wp2_with fail
        refine hcz13.mono ?_
        rintro e wz13 ⟨rfl, kz13⟩
        clear hcz13 qv0_12 qv1_12 lv_12 qu0_12 qu1_12 lu_12
        have HBz13 := Lib.hid (HB22.out.trans (kz13.mono (Nat.le_trans hbase HB22.out.size)))
        have Huz13 := Lib.hid (Hu22.out.call kz13)
        have Hvz13 := Lib.hid (Hv22.out.call kz13)
        have Hyz13 := Lib.hid (Hy22.out.call kz13)
        clear kz13
        go_upto_if 54 with fail
        go_cut [] (fun wx => Hid (Has wx (w.heap.size) [.int .u64 (hi P : Nat), .int .u64 (lo P : Nat)] 24) ∧ Hid (Has wx (w.heap.size + 1) [.int .u64 (hi Q : Nat), .int .u64 (lo Q : Nat)] 24) ∧ Hid (Has wx (w.heap.size + 2) [.int .u64 (hi R : Nat), .int .u64 (lo R : Nat)] 24) ∧ Hid (Below w.heap.size w wx))
        case first =>
          have hlo := HP.out
          have hhi := HQ.out
          by_cases cc : V2 < U1
          · have E1 := Lib.hid (show P = V2 by omega)
            have E2 := Lib.hid (show Q = U1 by omega)
            rw [show ltW V2 U1 = true from decide_eq_true cc]
            clear hlo hhi cc
            have qu0_13 : wz13.cell? ⟨w.heap.size, 0, none⟩ = some (.int .u64 (hi U1 : Nat)) := Huz13.out.cell 0
            have qu1_13 : wz13.cell? ⟨w.heap.size, 1, none⟩ = some (.int .u64 (lo U1 : Nat)) := Huz13.out.cell 1
            have lu_13 : w.heap.size < wz13.heap.size := Huz13.out.lt
            have qv0_13 : wz13.cell? ⟨w.heap.size + 1, 0, none⟩ = some (.int .u64 (hi V2 : Nat)) := Hvz13.out.cell 0
            have qv1_13 : wz13.cell? ⟨w.heap.size + 1, 1, none⟩ = some (.int .u64 (lo V2 : Nat)) := Hvz13.out.cell 1
            have lv_13 : w.heap.size + 1 < wz13.heap.size := Hvz13.out.lt
            have zu0_13 : wz13.frozen? ⟨w.heap.size, 0, none⟩ = false := Huz13.out.frozen 0
            have zu1_13 : wz13.frozen? ⟨w.heap.size, 1, none⟩ = false := Huz13.out.frozen 1
            have zv0_13 : wz13.frozen? ⟨w.heap.size + 1, 0, none⟩ = false := Hvz13.out.frozen 0
            have zv1_13 : wz13.frozen? ⟨w.heap.size + 1, 1, none⟩ = false := Hvz13.out.frozen 1
            go_wp2_with fail
            go_meet
            rw [E1.out, E2.out]
            exact ⟨Lib.hid ((((Huz13.out.set 0 (.int .u64 (hi V2 : Nat))).set 1 (.int .u64 (lo V2 : Nat))).other (p := ⟨w.heap.size + 1, 0, none⟩) (by dsimp only; omega) (.int .u64 (hi U1 : Nat))).other (p := ⟨w.heap.size + 1, 1, none⟩) (by dsimp only; omega) (.int .u64 (lo U1 : Nat))), Lib.hid ((((Hvz13.out.other (p := ⟨w.heap.size, 0, none⟩) (by dsimp only; omega) (.int .u64 (hi V2 : Nat))).other (p := ⟨w.heap.size, 1, none⟩) (by dsimp only; omega) (.int .u64 (lo V2 : Nat))).set 0 (.int .u64 (hi U1 : Nat))).set 1 (.int .u64 (lo U1 : Nat))), Lib.hid ((((Hyz13.out.other (p := ⟨w.heap.size, 0, none⟩) (by dsimp only; omega) (.int .u64 (hi V2 : Nat))).other (p := ⟨w.heap.size, 1, none⟩) (by dsimp only; omega) (.int .u64 (lo V2 : Nat))).other (p := ⟨w.heap.size + 1, 0, none⟩) (by dsimp only; omega) (.int .u64 (hi U1 : Nat))).other (p := ⟨w.heap.size + 1, 1, none⟩) (by dsimp only; omega) (.int .u64 (lo U1 : Nat))), Lib.hid ((((HBz13.out.setCell (p := ⟨w.heap.size, 0, none⟩) (by dsimp only; omega) (.int .u64 (hi V2 : Nat))).setCell (p := ⟨w.heap.size, 1, none⟩) (by dsimp only; omega) (.int .u64 (lo V2 : Nat))).setCell (p := ⟨w.heap.size + 1, 0, none⟩) (by dsimp only; omega) (.int .u64 (hi U1 : Nat))).setCell (p := ⟨w.heap.size + 1, 1, none⟩) (by dsimp only; omega) (.int .u64 (lo U1 : Nat)))⟩
          · have E1 := Lib.hid (show P = U1 by omega)
            have E2 := Lib.hid (show Q = V2 by omega)
            rw [show ltW V2 U1 = false from decide_eq_false cc]
            clear hlo hhi cc
            go_wp2_with fail
            go_meet
            rw [E1.out, E2.out]
            exact ⟨Huz13, Hvz13, Hyz13, HBz13⟩
        case rest =>
          obtain ⟨Hu23, Hv23, Hy23, HB23⟩ := hcut
          obtain ⟨w23, hw23⟩ : ∃ w23 : World, w23 = wc := ⟨_, rfl⟩
          rw [← hw23] at Hu23 Hv23 Hy23 HB23 ⊢
          clear hw23
          have qu0_18 : w23.cell? ⟨w.heap.size, 0, none⟩ = some (.int .u64 (hi P : Nat)) := Hu23.out.cell 0
          have qu1_18 : w23.cell? ⟨w.heap.size, 1, none⟩ = some (.int .u64 (lo P : Nat)) := Hu23.out.cell 1
          have lu_18 : w.heap.size < w23.heap.size := Hu23.out.lt
          have qy0_18 : w23.cell? ⟨w.heap.size + 2, 0, none⟩ = some (.int .u64 (hi R : Nat)) := Hy23.out.cell 0
          have qy1_18 : w23.cell? ⟨w.heap.size + 2, 1, none⟩ = some (.int .u64 (lo R : Nat)) := Hy23.out.cell 1
          have ly_18 : w.heap.size + 2 < w23.heap.size := Hy23.out.lt
          have hcz19 := K1.out w23
          go_wp2_with fail
          refine hcz19.mono ?_
          rintro e wz19 ⟨rfl, kz19⟩
          clear hcz19 qu0_18 qu1_18 lu_18 qy0_18 qy1_18 ly_18
          have HBz19 := Lib.hid (HB23.out.trans (kz19.mono (Nat.le_trans hbase HB23.out.size)))
          have Huz19 := Lib.hid (Hu23.out.call kz19)
          have Hvz19 := Lib.hid (Hv23.out.call kz19)
          have Hyz19 := Lib.hid (Hy23.out.call kz19)
          clear kz19
          have qv0_19 : wz19.cell? ⟨w.heap.size + 1, 0, none⟩ = some (.int .u64 (hi Q : Nat)) := Hvz19.out.cell 0
          have qv1_19 : wz19.cell? ⟨w.heap.size + 1, 1, none⟩ = some (.int .u64 (lo Q : Nat)) := Hvz19.out.cell 1
          have lv_19 : w.heap.size + 1 < wz19.heap.size := Hvz19.out.lt
          have hcz20 := K2.out wz19
          go_wp2_with fail
          refine hcz20.mono ?_
          rintro e wz20 ⟨rfl, kz20⟩
          clear hcz20 qv0_19 qv1_19 lv_19
          have HBz20 := Lib.hid (HBz19.out.trans (kz20.mono (Nat.le_trans hbase HBz19.out.size)))
          have Huz20 := Lib.hid (Huz19.out.call kz20)
          have Hvz20 := Lib.hid (Hvz19.out.call kz20)
          have Hyz20 := Lib.hid (Hyz19.out.call kz20)
          clear kz20
          rcases HE.out with ⟨rfl, rfl⟩ | ⟨rfl, rfl, k3, k4, k5⟩
          · skip
            have hcz21 := KA.out wz20
            go_wp2_with fail
            refine hcz21.mono ?_
            rintro e wz21 ⟨rfl, kz21⟩
            clear hcz21
            have HBz21 := Lib.hid (HBz20.out.trans (kz21.mono (Nat.le_trans hbase HBz20.out.size)))
            have Huz21 := Lib.hid (Huz20.out.call kz21)
            have Hvz21 := Lib.hid (Hvz20.out.call kz21)
            have Hyz21 := Lib.hid (Hyz20.out.call kz21)
            clear kz21
            go_wp2
            go_ret
            exact ⟨rfl, HBz21.out⟩
          · skip
            have K3 := Lib.hid k3; have K4 := Lib.hid k4; have K5 := Lib.hid k5
            clear k3 k4 k5
            have qv0_20 : wz20.cell? ⟨w.heap.size + 1, 0, none⟩ = some (.int .u64 (hi Q : Nat)) := Hvz20.out.cell 0
            have qv1_20 : wz20.cell? ⟨w.heap.size + 1, 1, none⟩ = some (.int .u64 (lo Q : Nat)) := Hvz20.out.cell 1
            have lv_20 : w.heap.size + 1 < wz20.heap.size := Hvz20.out.lt
            have hcz21 := K3.out wz20
            go_wp2_with fail
            refine hcz21.mono ?_
            rintro e wz21 ⟨rfl, kz21⟩
            clear hcz21 qv0_20 qv1_20 lv_20
            have HBz21 := Lib.hid (HBz20.out.trans (kz21.mono (Nat.le_trans hbase HBz20.out.size)))
            have Huz21 := Lib.hid (Huz20.out.call kz21)
            have Hvz21 := Lib.hid (Hvz20.out.call kz21)
            have Hyz21 := Lib.hid (Hyz20.out.call kz21)
            clear kz21
            have hcz22 := K4.out wz21
            go_wp2_with fail
            refine hcz22.mono ?_
            rintro e wz22 ⟨rfl, kz22⟩
            clear hcz22
            have HBz22 := Lib.hid (HBz21.out.trans (kz22.mono (Nat.le_trans hbase HBz21.out.size)))
            have Huz22 := Lib.hid (Huz21.out.call kz22)
            have Hvz22 := Lib.hid (Hvz21.out.call kz22)
            have Hyz22 := Lib.hid (Hyz21.out.call kz22)
            clear kz22
            have hcz23 := KA.out wz22
            go_wp2_with fail
            refine hcz23.mono ?_
            rintro e wz23 ⟨rfl, kz23⟩
            clear hcz23
            have HBz23 := Lib.hid (HBz22.out.trans (kz23.mono (Nat.le_trans hbase HBz22.out.size)))
            have Huz23 := Lib.hid (Huz22.out.call kz23)
            have Hvz23 := Lib.hid (Hvz22.out.call kz23)
            have Hyz23 := Lib.hid (Hyz22.out.call kz23)
            clear kz23
            have hcz24 := K5.out wz23
            go_wp2_with fail
            refine hcz24.mono ?_
            rintro e wz24 ⟨rfl, kz24⟩
            clear hcz24
            have HBz24 := Lib.hid (HBz23.out.trans (kz24.mono (Nat.le_trans hbase HBz23.out.size)))
            have Huz24 := Lib.hid (Huz23.out.call kz24)
            have Hvz24 := Lib.hid (Hvz23.out.call kz24)
            have Hyz24 := Lib.hid (Hyz23.out.call kz24)
            clear kz24
            go_wp2
            go_ret
            exact ⟨by first | rfl | simp, HBz24.out⟩
theorem holds13_walk (a b c : Int) (u v y : Nat) (ha : IsInt a) (hb : IsInt b) (hc : IsInt c) (hu : u < M128) (hv : v < M128) (hy : y < M128) (w : World) :
    Calls Try.prog 5 #[.int .i64 a, .int .i64 b, .int .i64 c, .agg #[.int .u64 (hi u : Nat), .int .u64 (lo u : Nat)], .agg #[.int .u64 (hi v : Nat), .int .u64 (lo v : Nat)], .agg #[.int .u64 (hi y : Nat), .int .u64 (lo y : Nat)]] w fun e w' => e = .returned (.bool true) ∧ Below w.heap.size w w' := by
  obtain ⟨A, hA⟩ : ∃ A, A = min (min a b) c := ⟨_, rfl⟩
  obtain ⟨Z, hZ⟩ : ∃ Z, Z = max (max a b) c := ⟨_, rfl⟩
  obtain ⟨X, hX⟩ : ∃ X, X = max (min a b) (min (max a b) c) := ⟨_, rfl⟩
  obtain ⟨U1, hU1⟩ : ∃ U1, U1 = min u v := ⟨_, rfl⟩
  obtain ⟨v1, hv1⟩ : ∃ v1, v1 = max u v := ⟨_, rfl⟩
  obtain ⟨R, hR⟩ : ∃ R, R = max v1 y := ⟨_, rfl⟩
  obtain ⟨P, hP⟩ : ∃ P, P = min U1 (min v1 y) := ⟨_, rfl⟩
  obtain ⟨Q, hQ⟩ : ∃ Q, Q = max U1 (min v1 y) := ⟨_, rfl⟩
  have iA : IsInt A := by unfold IsInt at *; omega
  have iZ : IsInt Z := by unfold IsInt at *; omega
  have iX : IsInt X := by unfold IsInt at *; omega
  have n1 : A ≤ X := by omega
  have n2 : X ≤ Z := by omega
  have n3 : P ≤ Q := by omega
  have n4 : Q ≤ R := by omega
  have lR : R < M128 := by omega
  refine holds13_core a b c A Z X (hulR A Z P R) (hulE A Z P R) (clsR X Q) (clsE Q) (hulR X X Q Q) u v y v1 P Q R U1 w hu hv hy hA hZ hX hU1 hv1 hR hP hQ _ rfl (fun W => hull13_any A Z P R iA iZ (by omega) lR W) (fun W => cls13_any X Q iX W) ?_
  by_cases h : R < 21267647932558653966460912964485513216
  · right
    have p1 : hullP A Z P R := ⟨by omega, by omega, h⟩
    have p2 : hullP X X Q Q := ⟨Int.le_refl _, Nat.le_refl _, by omega⟩
    have hq : Q < 21267647932558653966460912964485513216 := by omega
    have k3 := fun W => hull13_any X X Q Q iX iX (by omega) (by omega) W
    unfold hulR hulE at k3
    simp only [if_pos p2] at k3
    rw [(box_one X Q).1, (box_one X Q).2] at k3
    obtain ⟨cb1, cb2⟩ := clsN_bounds X Q
    obtain ⟨m1, m2⟩ := mask_bounds cb1 (Int.le_refl _) cb2
    obtain ⟨e1, e2⟩ := ends_one cb1 cb2
    have k4 := fun W => ends13_ok (maskN (clsN X Q) (clsN X Q)) ⟨m1, m2⟩ W
    rw [e1, e2] at k4
    obtain ⟨b1, b2, b3⟩ := box_bounds A Z P R
    have hh := mask_has b1 b2 b3 (box_has n1 n2 n3 n4)
    have k5 := fun W => has13_any (maskN (leastN A Z P R) (mostN A Z P R)) (clsN X Q) W
    rw [hh] at k5
    have hO : hulR X X Q Q = maskN (clsN X Q) (clsN X Q) := by unfold hulR; rw [if_pos p2, (box_one X Q).1, (box_one X Q).2]
    have kb : ∀ (f : FuncId) (args : Array Value) (r : Value), (∀ W, Calls Try.prog f args W fun e w' => e = .returned r ∧ w' = W) → ∀ W, Calls Try.prog f args W fun e w' => e = .returned r ∧ Below W.heap.size W w' :=
      fun f args r h W => (h W).mono fun e w' ⟨h1, h2⟩ => ⟨h1, by rw [h2]; exact Below.refl _ _⟩
    rw [hO]
    unfold hulR hulE clsR clsE
    rw [if_pos p1, if_pos p1, if_pos hq, if_pos hq]
    exact ⟨rfl, rfl, k3, kb _ _ _ k4, kb _ _ _ k5⟩
  · left
    have p1 : ¬ hullP A Z P R := fun q => h q.2.2
    unfold hulR hulE
    rw [if_neg p1, if_neg p1]
    exact ⟨rfl, rfl⟩
end Go.Proofs.Ytcadbenjgpohoaa
