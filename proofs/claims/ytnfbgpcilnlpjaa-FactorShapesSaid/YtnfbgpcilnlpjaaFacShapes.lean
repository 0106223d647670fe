/- The law FactorShapes, walked. -/
import Derived.Test.YtnfbgpcilnlpjaaFacD
import Derived.Test.YtnfbgpcilnlpjaaFacNear
namespace Go.Proofs.Ytnfbgpcilnlpjaa
open Go.RowKit

theorem shapes_one : ∀ j, j < 9 → 89700000000000000 ≤ fac 0 j * fac 3 j * fac 0 j * fac 3 j * ((j : Int) + 2) ∧ fac 0 j * fac 3 j * fac 0 j * fac 3 j * ((j : Int) + 2) ≤ 90300000000000000 ∧ (0 < fac 1 j → fac 1 j + fac 2 j = 20000) ∧ (0 < fac 5 j → fac 5 j + fac 6 j = 20000) ∧ 10000 < fac 2 j ∧ 10000 < fac 6 j ∧
    fac 0 j * fac 3 j ≤ 1000000000000 ∧ fac 0 j * fac 3 j * fac 0 j ≤ 1000000000000000000 ∧ fac 0 j * fac 3 j * fac 0 j * fac 3 j ≤ 1000000000000000000 ∧ 0 ≤ fac 0 j * fac 3 j ∧ 0 ≤ fac 0 j * fac 3 j * fac 0 j ∧ 0 ≤ fac 0 j * fac 3 j * fac 0 j * fac 3 j := by decide
theorem shapes_two : ∀ j, j < 8 → fac 0 (j + 1) < fac 0 j ∧ fac 2 (j + 1) < fac 2 j ∧ fac 4 (j + 1) < fac 4 j ∧ fac 6 (j + 1) < fac 6 j ∧ fac 3 j < fac 3 (j + 1) ∧ fac 1 j ≤ fac 1 (j + 1) ∧ fac 5 j ≤ fac 5 (j + 1) := by decide

def StayRel (w : World) (b c : Nat) (l m : List Value) (_ y : Value) (wr : World) : Prop := ∃ i : Nat, i ≤ 4 ∧ y = .int .i64 (i : Nat) ∧ Has wr b l 25 ∧ Has wr c m 25 ∧ Has wr (c + 1) [.int .i64 0, .int .i64 2, .int .i64 4, .int .i64 6] 3 ∧ Below w.heap.size w wr

set_option maxRecDepth 100000 in
set_option maxHeartbeats 4000000 in
theorem fshapes_core (n : Int) (J : Nat) (l0 l1 l2 l3 l4 l5 l6 m0 m1 m2 m3 m4 m5 m6 y1 y2 y3 X P Q D s1 s2 : Int) (w : World)
    (hJ : wrap64 (2 + (wrap64 (n.tmod 9 + 9)).tmod 9) = (J : Int) + 2) (hJ8 : J ≤ 8)
    (a1 : ∀ w, Calls Try.prog 7 #[.int .i64 ((J : Nat) + 2)] w fun en w' => en = .returned (.tuple #[.agg #[.int .i64 l0, .int .i64 l1, .int .i64 l2, .int .i64 l3, .int .i64 l4, .int .i64 l5, .int .i64 l6], .int .i64 0]) ∧ Below w.heap.size w w')
    (a2 : J < 8 → ∀ w, Calls Try.prog 7 #[.int .i64 ((J : Nat) + 3)] w fun en w' => en = .returned (.tuple #[.agg #[.int .i64 m0, .int .i64 m1, .int .i64 m2, .int .i64 m3, .int .i64 m4, .int .i64 m5, .int .i64 m6], .int .i64 0]) ∧ Below w.heap.size w w')
    (e1 : wrap64 (l0 * l3) = y1) (e2 : wrap64 (y1 * l0) = y2) (e3 : wrap64 (y2 * l3) = y3) (e4 : wrap64 (y3 * ((J : Int) + 2)) = X)
    (e5 : wrap64 (X - 90000000000000000) = P) (e6 : wrap64 (90000000000000000 - X) = Q) (hD : D = max P Q) (hD2 : D ≤ 300000000000000)
    (e7 : wrap64 (l1 + l2) = s1) (e8 : wrap64 (l5 + l6) = s2) (h1 : 0 < l1 → s1 = 20000) (h2 : 0 < l5 → s2 = 20000) (h3 : 10000 < l2) (h4 : 10000 < l6)
    (hm : J < 8 → m0 < l0 ∧ m2 < l2 ∧ m4 < l4 ∧ m6 < l6 ∧ l3 < m3 ∧ l1 ≤ m1 ∧ l5 ≤ m5) :
    Calls Try.prog 4 #[.int .i64 n] w fun en w' => en = .returned (.bool true) ∧ Below w.heap.size w w' := by
  have ZhJ := Lib.hid hJ
  have ZhJ8 := Lib.hid hJ8
  have Za1 := Lib.hid a1
  have Za2 := Lib.hid a2
  have Ze1 := Lib.hid e1
  have Ze2 := Lib.hid e2
  have Ze3 := Lib.hid e3
  have Ze4 := Lib.hid e4
  have Ze5 := Lib.hid e5
  have Ze6 := Lib.hid e6
  have ZhD := Lib.hid hD
  have ZhD2 := Lib.hid hD2
  have Ze7 := Lib.hid e7
  have Ze8 := Lib.hid e8
  have Zh1 := Lib.hid h1
  have Zh2 := Lib.hid h2
  have Zh3 := Lib.hid h3
  have Zh4 := Lib.hid h4
  have Zhm := Lib.hid hm
  clear hJ hJ8 a1 a2 e1 e2 e3 e4 e5 e6 hD hD2 e7 e8 h1 h2 h3 h4 hm
  have ML : Hid (∀ w, Calls Try.prog 9 #[] w fun en w' => en = .returned (.bool true) ∧ Below w.heap.size w w') := Lib.hid alive9
  go_enter Try.func4, Try.ntmps4
  go_upto_region 2 with fail
  rw [ZhJ.out]
  go_wp2_with fail
  refine (Za1.out _).mono ?_
  rintro e x1 ⟨rfl, hb⟩
  have HN1 := Lib.hid (Has.new x1 [.int .i64 l0, .int .i64 l1, .int .i64 l2, .int .i64 l3, .int .i64 l4, .int .i64 l5, .int .i64 l6] 25)
  have HB1 : Hid (Below w.heap.size w (x1.alloc (.cells #[.int .i64 l0, .int .i64 l1, .int .i64 l2, .int .i64 l3, .int .i64 l4, .int .i64 l5, .int .i64 l6] 25))) := Lib.hid (hb.alloc hb.size _)
  clear hb
  go_wp2_with fail
  refine (ML.out _).mono ?_
  rintro e x2 ⟨rfl, hb⟩
  have HA : Hid (Has x2 x1.heap.size [.int .i64 l0, .int .i64 l1, .int .i64 l2, .int .i64 l3, .int .i64 l4, .int .i64 l5, .int .i64 l6] 25) := Lib.hid (HN1.out.call hb)
  have HB2 : Hid (Below w.heap.size w x2) := Lib.hid (HB1.out.trans (hb.mono HB1.out.size))
  have hlt : x1.heap.size < x2.heap.size := HA.out.lt
  clear hb HN1 HB1
  have cl0 : x2.cell? ⟨x1.heap.size, 0, none⟩ = some (.int .i64 l0) := HA.out.cell 0
  have cl1 : x2.cell? ⟨x1.heap.size, 1, none⟩ = some (.int .i64 l1) := HA.out.cell 1
  have cl2 : x2.cell? ⟨x1.heap.size, 2, none⟩ = some (.int .i64 l2) := HA.out.cell 2
  have cl3 : x2.cell? ⟨x1.heap.size, 3, none⟩ = some (.int .i64 l3) := HA.out.cell 3
  have cl4 : x2.cell? ⟨x1.heap.size, 4, none⟩ = some (.int .i64 l4) := HA.out.cell 4
  have cl5 : x2.cell? ⟨x1.heap.size, 5, none⟩ = some (.int .i64 l5) := HA.out.cell 5
  have cl6 : x2.cell? ⟨x1.heap.size, 6, none⟩ = some (.int .i64 l6) := HA.out.cell 6
  have E1 := Ze1.out; have E2 := Ze2.out; have E3 := Ze3.out; have E4 := Ze4.out
  go_upto_region 6 with fail
  rw [Ze4.out]
  clear E1 E2 E3 E4 Ze1 Ze2 Ze3 Ze4
  go_cut [6] (fun x wx => x = .int .i64 D ∧ wx = x2)
  case first =>
    have E5 := Ze5.out; have E6 := Ze6.out
    by_cases hp : P < Q
    · have e : D = Q := by have := ZhD.out; omega
      have EE := Lib.hid e
      clear e
      go_wp2_with fail
      go_meet
      exact ⟨by rw [EE.out], rfl⟩
    · have e : D = P := by have := ZhD.out; omega
      have EE := Lib.hid e
      clear e
      go_wp2_with fail
      go_meet
      exact ⟨by rw [EE.out], rfl⟩
  case rest =>
    obtain ⟨rfl, rfl⟩ := hcut
    rename World => x2
    clear Ze5 Ze6 ZhD
    go_upto_region 7 with fail
    go_cut [82] (fun x wx => x = .bool false ∧ wx = x2)
    case first =>
      have d3 : decide (l2 ≤ 10000) = false := decide_eq_false (by have := Zh3.out; omega)
      have d4 : decide (l6 ≤ 10000) = false := decide_eq_false (by have := Zh4.out; omega)
      have d0 : decide (300000000000000 < D) = false := decide_eq_false (by have := ZhD2.out; omega)
      have E7 := Ze7.out; have E8 := Ze8.out
      by_cases q1 : 0 < l1
      · have e1 := Zh1.out q1
        subst e1
        by_cases q2 : 0 < l5
        · have e2 := Zh2.out q2
          subst e2
          go_wp2_with fail
          go_meet
          exact ⟨rfl, rfl⟩
        · go_wp2_with fail
          go_meet
          exact ⟨rfl, rfl⟩
      · by_cases q2 : 0 < l5
        · have e2 := Zh2.out q2
          subst e2
          go_wp2_with fail
          go_meet
          exact ⟨rfl, rfl⟩
        · go_wp2_with fail
          go_meet
          exact ⟨rfl, rfl⟩
    case rest =>
      obtain ⟨rfl, rfl⟩ := hcut
      rename World => x2
      clear ZhD2 Ze7 Ze8 Zh1 Zh2 Zh3 Zh4
      by_cases h8 : J = 8
      · subst h8
        go_wp2_with fail
        go_ret
        exact ⟨rfl, HB2.out⟩
      · have A2 := Lib.hid (Za2.out (by have := ZhJ8.out; omega))
        have HM := Lib.hid (Zhm.out (by have := ZhJ8.out; omega))
        have hj : (J : Int) < 8 := by have := ZhJ8.out; omega
        go_wp2_with fail
        refine (A2.out _).mono ?_
        rintro e x3 ⟨rfl, hb⟩
        have HA3 : Hid (Has x3 x1.heap.size [.int .i64 l0, .int .i64 l1, .int .i64 l2, .int .i64 l3, .int .i64 l4, .int .i64 l5, .int .i64 l6] 25) := Lib.hid (HA.out.call hb)
        have HN3 := Lib.hid (Has.new x3 [.int .i64 m0, .int .i64 m1, .int .i64 m2, .int .i64 m3, .int .i64 m4, .int .i64 m5, .int .i64 m6] 25)
        have HB3 := Lib.hid (HB2.out.trans (hb.mono HB2.out.size))
        have HB4 : Hid (Below w.heap.size w (x3.alloc (.cells #[.int .i64 m0, .int .i64 m1, .int .i64 m2, .int .i64 m3, .int .i64 m4, .int .i64 m5, .int .i64 m6] 25))) := Lib.hid (HB3.out.alloc HB3.out.size _)
        have HA4 : Hid (Has (x3.alloc (.cells #[.int .i64 m0, .int .i64 m1, .int .i64 m2, .int .i64 m3, .int .i64 m4, .int .i64 m5, .int .i64 m6] 25)) x1.heap.size [.int .i64 l0, .int .i64 l1, .int .i64 l2, .int .i64 l3, .int .i64 l4, .int .i64 l5, .int .i64 l6] 25) := Lib.hid (HA3.out.alloc _)
        clear hb HA HB2 HA3 HB3 cl0 cl1 cl2 cl3 cl4 cl5 cl6 hlt
        go_wp2_with fail
        have HI5 := Lib.hid (Has.new (x3.alloc (.cells #[.int .i64 m0, .int .i64 m1, .int .i64 m2, .int .i64 m3, .int .i64 m4, .int .i64 m5, .int .i64 m6] 25)) [.int .i64 0, .int .i64 2, .int .i64 4, .int .i64 6] 3)
        have HL5 := Lib.hid (HA4.out.alloc (.cells #[.int .i64 0, .int .i64 2, .int .i64 4, .int .i64 6] 3))
        have HM5 := Lib.hid (HN3.out.alloc (.cells #[.int .i64 0, .int .i64 2, .int .i64 4, .int .i64 6] 3))
        have HB5 := Lib.hid (HB4.out.alloc HB4.out.size (.cells #[.int .i64 0, .int .i64 2, .int .i64 4, .int .i64 6] 3))
        rw [show (x3.alloc (.cells #[.int .i64 m0, .int .i64 m1, .int .i64 m2, .int .i64 m3, .int .i64 m4, .int .i64 m5, .int .i64 m6] 25)).heap.size = x3.heap.size + 1 by simp] at HI5
        clear HB4 HA4 HN3
        generalize hW : (x3.alloc (.cells #[.int .i64 m0, .int .i64 m1, .int .i64 m2, .int .i64 m3, .int .i64 m4, .int .i64 m5, .int .i64 m6] 25)).alloc (.cells #[.int .i64 0, .int .i64 2, .int .i64 4, .int .i64 6] 3) = W at HI5 HL5 HM5 HB5 ⊢
        clear hW
        go_loopw [10, 93] (StayRel w x1.heap.size x3.heap.size [.int .i64 l0, .int .i64 l1, .int .i64 l2, .int .i64 l3, .int .i64 l4, .int .i64 l5, .int .i64 l6] [.int .i64 m0, .int .i64 m1, .int .i64 m2, .int .i64 m3, .int .i64 m4, .int .i64 m5, .int .i64 m6]) (fun _ y _ => 4 - (intOf y).toNat)
        case atStart => exact ⟨0, by omega, rfl, HL5.out, HM5.out, HI5.out, HB5.out⟩
        case round =>
          obtain ⟨i, hi, rfl, hL6, hM6, hI6, hB6⟩ := hrel
          clear HL5 HM5 HI5 HB5
          have HL5 := Lib.hid hL6
          have HM5 := Lib.hid hM6
          have HI5 := Lib.hid hI6
          have HB5 := Lib.hid hB6
          clear hL6 hM6 hI6 hB6
          rename World => V
          rcases (by omega : i = 4 ∨ i = 0 ∨ i = 1 ∨ i = 2 ∨ i = 3) with rfl | rfl | rfl | rfl | rfl
          · obtain ⟨_, _, _, _, h1, h2, h3⟩ := HM.out
            have cl1 : V.cell? ⟨x1.heap.size, 1, none⟩ = some (.int .i64 l1) := HL5.out.cell 1
            have cm1 : V.cell? ⟨x3.heap.size, 1, none⟩ = some (.int .i64 m1) := HM5.out.cell 1
            have cl3 : V.cell? ⟨x1.heap.size, 3, none⟩ = some (.int .i64 l3) := HL5.out.cell 3
            have cm3 : V.cell? ⟨x3.heap.size, 3, none⟩ = some (.int .i64 m3) := HM5.out.cell 3
            have cl5 : V.cell? ⟨x1.heap.size, 5, none⟩ = some (.int .i64 l5) := HL5.out.cell 5
            have cm5 : V.cell? ⟨x3.heap.size, 5, none⟩ = some (.int .i64 m5) := HM5.out.cell 5
            have hq : V.heap.size = V.heap.size := rfl
            clear hq
            go_wp2_with fail
            go_ret
            exact ⟨rfl, HB5.out⟩
          · have hm := HM.out
            have hlt : m0 < l0 := by omega
            clear hm
            have ci : V.cell? ⟨x3.heap.size + 1, 0, none⟩ = some (.int .i64 0) := HI5.out.cell 0
            have cl : V.cell? ⟨x1.heap.size, 0, none⟩ = some (.int .i64 l0) := HL5.out.cell 0
            have cm : V.cell? ⟨x3.heap.size, 0, none⟩ = some (.int .i64 m0) := HM5.out.cell 0
            go_wp2_with fail
            go_quiet (fail)
            go_wp2_with fail
            refine ⟨⟨0 + 1, by omega, rfl, HL5.out, HM5.out, HI5.out, ⟨HB5.out.os, HB5.out.tape, HB5.out.output, HB5.out.size, HB5.out.block⟩⟩, ?_⟩
            simp [intOf]
          · have hm := HM.out
            have hlt : m2 < l2 := by omega
            clear hm
            have ci : V.cell? ⟨x3.heap.size + 1, 1, none⟩ = some (.int .i64 2) := HI5.out.cell 1
            have cl : V.cell? ⟨x1.heap.size, 2, none⟩ = some (.int .i64 l2) := HL5.out.cell 2
            have cm : V.cell? ⟨x3.heap.size, 2, none⟩ = some (.int .i64 m2) := HM5.out.cell 2
            go_wp2_with fail
            go_quiet (fail)
            go_wp2_with fail
            refine ⟨⟨1 + 1, by omega, rfl, HL5.out, HM5.out, HI5.out, ⟨HB5.out.os, HB5.out.tape, HB5.out.output, HB5.out.size, HB5.out.block⟩⟩, ?_⟩
            simp [intOf]
          · have hm := HM.out
            have hlt : m4 < l4 := by omega
            clear hm
            have ci : V.cell? ⟨x3.heap.size + 1, 2, none⟩ = some (.int .i64 4) := HI5.out.cell 2
            have cl : V.cell? ⟨x1.heap.size, 4, none⟩ = some (.int .i64 l4) := HL5.out.cell 4
            have cm : V.cell? ⟨x3.heap.size, 4, none⟩ = some (.int .i64 m4) := HM5.out.cell 4
            go_wp2_with fail
            go_quiet (fail)
            go_wp2_with fail
            refine ⟨⟨2 + 1, by omega, rfl, HL5.out, HM5.out, HI5.out, ⟨HB5.out.os, HB5.out.tape, HB5.out.output, HB5.out.size, HB5.out.block⟩⟩, ?_⟩
            simp [intOf]
          · have hm := HM.out
            have hlt : m6 < l6 := by omega
            clear hm
            have ci : V.cell? ⟨x3.heap.size + 1, 3, none⟩ = some (.int .i64 6) := HI5.out.cell 3
            have cl : V.cell? ⟨x1.heap.size, 6, none⟩ = some (.int .i64 l6) := HL5.out.cell 6
            have cm : V.cell? ⟨x3.heap.size, 6, none⟩ = some (.int .i64 m6) := HM5.out.cell 6
            go_wp2_with fail
            go_quiet (fail)
            go_wp2_with fail
            refine ⟨⟨3 + 1, by omega, rfl, HL5.out, HM5.out, HI5.out, ⟨HB5.out.os, HB5.out.tape, HB5.out.output, HB5.out.size, HB5.out.block⟩⟩, ?_⟩
            simp [intOf]


set_option maxRecDepth 100000 in
theorem fshapes_walk (n : Int) (_ : IsInt n) (w : World) :
    Calls Try.prog 4 #[.int .i64 n] w fun en w' => en = .returned (.bool true) ∧ Below w.heap.size w w' := by
  obtain ⟨J, hJ, eJ⟩ := size_of n
  obtain ⟨b1, b2, b3, b4, b5, b6, b7, b8, b9, b10, b11, b12⟩ := shapes_one J hJ
  have hr := fun k (hk : k < 7) => fac_row k hk J hJ
  have h1 := hr 1 (by omega)
  have h2 := hr 2 (by omega)
  have h5 := hr 5 (by omega)
  have h6 := hr 6 (by omega)
  refine fshapes_core n J (fac 0 J) (fac 1 J) (fac 2 J) (fac 3 J) (fac 4 J) (fac 5 J) (fac 6 J) (fac 0 (J + 1)) (fac 1 (J + 1)) (fac 2 (J + 1)) (fac 3 (J + 1)) (fac 4 (J + 1)) (fac 5 (J + 1)) (fac 6 (J + 1))
    (fac 0 J * fac 3 J) (fac 0 J * fac 3 J * fac 0 J) (fac 0 J * fac 3 J * fac 0 J * fac 3 J) (fac 0 J * fac 3 J * fac 0 J * fac 3 J * ((J : Int) + 2)) _ _ _ (fac 1 J + fac 2 J) (fac 5 J + fac 6 J) w eJ (by omega) (fun w => all_any J hJ w) (fun h w => ?_)
    (wrap64_in (by unfold IsInt; omega)) (wrap64_in (by unfold IsInt; omega)) (wrap64_in (by unfold IsInt; omega)) (wrap64_in (by unfold IsInt; omega)) (wrap64_in (by unfold IsInt; omega)) (wrap64_in (by unfold IsInt; omega)) rfl (by omega)
    (wrap64_in (by unfold IsInt; omega)) (wrap64_in (by unfold IsInt; omega)) b3 b4 b5 b6 (fun h => ?_)
  · have := all_any (J + 1) (by omega) w
    rwa [show (((J + 1 : Nat) : Int) + 2) = (J : Int) + 3 by omega] at this
  · have := shapes_two J h
    omega
end Go.Proofs.Ytnfbgpcilnlpjaa
