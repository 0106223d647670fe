/- The law SpanHolds, walked: it answers true at every six ints, and nothing that was in memory before is changed. -/
import Derived.Test.YtacnaencmbnjpaaAlive5
namespace Go.Proofs.Ytacnaencmbnjpaa
open Go.RowKit

set_option maxRecDepth 100000 in
set_option maxHeartbeats 1000000 in
theorem sholds_core (a b c d e f p x q r y s A0 A1 Ae Az S0 S1 Se Sz U0 U1 Ue Uz D0 D1 De Dd Du : Int) (w : World)
    (m1 : ∀ w, Calls Try.prog 25 #[.int .i64 a, .int .i64 b, .int .i64 c] w fun en w' => en = .returned (.tuple #[.agg #[.int .i64 p, .int .i64 q], .int .i64 x]) ∧ Below w.heap.size w w')
    (m2 : ∀ w, Calls Try.prog 25 #[.int .i64 d, .int .i64 e, .int .i64 f] w fun en w' => en = .returned (.tuple #[.agg #[.int .i64 r, .int .i64 s], .int .i64 y]) ∧ Below w.heap.size w w')
    (m3 : ∀ w, Calls Try.prog 11 #[.agg #[.int .i64 p, .int .i64 q]] w fun en w' => en = .returned (.bool true) ∧ Below w.heap.size w w')
    (m4 : ∀ w, Calls Try.prog 13 #[.agg #[.int .i64 p, .int .i64 q], .int .i64 x] w fun en w' => en = .returned (.bool true) ∧ Below w.heap.size w w')
    (m5 : ∀ w, Calls Try.prog 13 #[.agg #[.int .i64 r, .int .i64 s], .int .i64 y] w fun en w' => en = .returned (.bool true) ∧ Below w.heap.size w w')
    (oA : ∀ w, Calls Try.prog 9 #[.agg #[.int .i64 p, .int .i64 q], .agg #[.int .i64 r, .int .i64 s]] w fun en w' => en = .returned (.tuple #[.agg #[.int .i64 A0, .int .i64 A1], .int .i64 Ae]) ∧ Below w.heap.size w w')
    (hA : (Ae = 0 ∧ (∀ w, Calls Try.prog 26 #[.int .i64 x, .int .i64 y] w fun en w' => en = .returned (.tuple #[.int .i64 Az, .int .i64 0]) ∧ Below w.heap.size w w') ∧ (∀ w, Calls Try.prog 13 #[.agg #[.int .i64 A0, .int .i64 A1], .int .i64 Az] w fun en w' => en = .returned (.bool true) ∧ Below w.heap.size w w')) ∨ (Ae == 0) = false)
    (oS : ∀ w, Calls Try.prog 10 #[.agg #[.int .i64 p, .int .i64 q], .agg #[.int .i64 r, .int .i64 s]] w fun en w' => en = .returned (.tuple #[.agg #[.int .i64 S0, .int .i64 S1], .int .i64 Se]) ∧ Below w.heap.size w w')
    (hS : (Se = 0 ∧ (∀ w, Calls Try.prog 27 #[.int .i64 x, .int .i64 y] w fun en w' => en = .returned (.tuple #[.int .i64 Sz, .int .i64 0]) ∧ Below w.heap.size w w') ∧ (∀ w, Calls Try.prog 13 #[.agg #[.int .i64 S0, .int .i64 S1], .int .i64 Sz] w fun en w' => en = .returned (.bool true) ∧ Below w.heap.size w w')) ∨ (Se == 0) = false)
    (oU : ∀ w, Calls Try.prog 19 #[.agg #[.int .i64 p, .int .i64 q], .agg #[.int .i64 r, .int .i64 s]] w fun en w' => en = .returned (.tuple #[.agg #[.int .i64 U0, .int .i64 U1], .int .i64 Ue]) ∧ Below w.heap.size w w')
    (hU : (Ue = 0 ∧ (∀ w, Calls Try.prog 28 #[.int .i64 x, .int .i64 y] w fun en w' => en = .returned (.tuple #[.int .i64 Uz, .int .i64 0]) ∧ Below w.heap.size w w') ∧ (∀ w, Calls Try.prog 13 #[.agg #[.int .i64 U0, .int .i64 U1], .int .i64 Uz] w fun en w' => en = .returned (.bool true) ∧ Below w.heap.size w w')) ∨ (Ue == 0) = false)
    (oD : ∀ w, Calls Try.prog 20 #[.agg #[.int .i64 p, .int .i64 q], .agg #[.int .i64 r, .int .i64 s]] w fun en w' => en = .returned (.tuple #[.agg #[.int .i64 D0, .int .i64 D1], .int .i64 De]) ∧ Below w.heap.size w w')
    (hD : (De = 0 ∧ (∀ w, Calls Try.prog 29 #[.int .i64 x, .int .i64 1, .int .i64 y, .int .i64 0] w fun en w' => en = .returned (.tuple #[.int .i64 Dd, .int .i64 0]) ∧ Below w.heap.size w w') ∧ (∀ w, Calls Try.prog 29 #[.int .i64 x, .int .i64 1, .int .i64 y, .int .i64 1] w fun en w' => en = .returned (.tuple #[.int .i64 Du, .int .i64 0]) ∧ Below w.heap.size w w') ∧ (∀ w, Calls Try.prog 13 #[.agg #[.int .i64 D0, .int .i64 D1], .int .i64 Dd] w fun en w' => en = .returned (.bool true) ∧ Below w.heap.size w w') ∧ (∀ w, Calls Try.prog 13 #[.agg #[.int .i64 D0, .int .i64 D1], .int .i64 Du] w fun en w' => en = .returned (.bool true) ∧ Below w.heap.size w w')) ∨ (De = 4 ∧ D0 = 0 ∧ D1 = 0 ∧ (∀ w, Calls Try.prog 13 #[.agg #[.int .i64 r, .int .i64 s], .int .i64 0] w fun en w' => en = .returned (.bool true) ∧ Below w.heap.size w w')) ∨ (De = 5 ∧ D0 = 0 ∧ D1 = 0 ∧ (∀ w, Calls Try.prog 13 #[.agg #[.int .i64 r, .int .i64 s], .int .i64 0] w fun en w' => en = .returned (.bool false) ∧ Below w.heap.size w w'))) :
    Calls Try.prog 5 #[.int .i64 a, .int .i64 b, .int .i64 c, .int .i64 d, .int .i64 e, .int .i64 f] w fun en w' => en = .returned (.bool true) ∧ Below w.heap.size w w' := by
  have M1 := Lib.hid m1; have M2 := Lib.hid m2; have M3 := Lib.hid m3; have M4 := Lib.hid m4; have M5 := Lib.hid m5; have OA := Lib.hid oA; have OS := Lib.hid oS; have OU := Lib.hid oU; have OD := Lib.hid oD
  clear m1 m2 m3 m4 m5 oA oS oU oD
  have XA := Lib.hid hA
  have XS := Lib.hid hS
  have XU := Lib.hid hU
  have XD := Lib.hid hD
  clear hA hS hU hD
  go_enter Try.func5, Try.ntmps5
  go_wp2_with fail
  refine (M1.out _).mono ?_
  rintro e w1 ⟨rfl, hb⟩
  have kw : Below w.heap.size w w1 := (Below.refl w.heap.size w).trans (hb.mono (Nat.le_refl _))
  have HW1 := Lib.hid kw
  clear hb kw
  go_wp2_with fail
  refine (M2.out _).mono ?_
  rintro e w2 ⟨rfl, hb⟩
  have kp : Blk w2 w1.heap.size #[.int .i64 p, .int .i64 q] := (Blk.new _ _ _).call hb
  have kw : Below w.heap.size w w2 := (HW1.out.alloc HW1.out.size _).trans (hb.mono (by have := HW1.out.size; simp; omega))
  clear HW1
  have Bp := Lib.hid kp
  have HW2 := Lib.hid kw
  clear hb kw kp
  have lp := Bp.out.lt
  have cp0 : w2.cell? ⟨w1.heap.size, 0, none⟩ = some (.int .i64 p) := Bp.out.cell rfl
  have cp1 : w2.cell? ⟨w1.heap.size, 1, none⟩ = some (.int .i64 q) := Bp.out.cell rfl
  go_wp2_with fail
  refine (M3.out _).mono ?_
  rintro e w3 ⟨rfl, hb⟩
  have kp : Blk w3 w1.heap.size #[.int .i64 p, .int .i64 q] := (Bp.out.alloc _).call hb
  have kr : Blk w3 w2.heap.size #[.int .i64 r, .int .i64 s] := (Blk.new _ _ _).call hb
  have kw : Below w.heap.size w w3 := (HW2.out.alloc HW2.out.size _).trans (hb.mono (by have := HW2.out.size; simp; omega))
  clear lp cp0 cp1 Bp HW2
  have Bp := Lib.hid kp
  have Br := Lib.hid kr
  have HW3 := Lib.hid kw
  clear hb kw kp kr
  have lp := Bp.out.lt
  have cp0 : w3.cell? ⟨w1.heap.size, 0, none⟩ = some (.int .i64 p) := Bp.out.cell rfl
  have cp1 : w3.cell? ⟨w1.heap.size, 1, none⟩ = some (.int .i64 q) := Bp.out.cell rfl
  go_wp2_with fail
  refine (M4.out _).mono ?_
  rintro e w4 ⟨rfl, hb⟩
  have kp : Blk w4 w1.heap.size #[.int .i64 p, .int .i64 q] := Bp.out.call hb
  have kr : Blk w4 w2.heap.size #[.int .i64 r, .int .i64 s] := Br.out.call hb
  have kw : Below w.heap.size w w4 := HW3.out.trans (hb.mono HW3.out.size)
  clear lp cp0 cp1 Bp Br HW3
  have Bp := Lib.hid kp
  have Br := Lib.hid kr
  have HW4 := Lib.hid kw
  clear hb kw kp kr
  have lp := Bp.out.lt
  have cp0 : w4.cell? ⟨w1.heap.size, 0, none⟩ = some (.int .i64 p) := Bp.out.cell rfl
  have cp1 : w4.cell? ⟨w1.heap.size, 1, none⟩ = some (.int .i64 q) := Bp.out.cell rfl
  have lr := Br.out.lt
  have cr0 : w4.cell? ⟨w2.heap.size, 0, none⟩ = some (.int .i64 r) := Br.out.cell rfl
  have cr1 : w4.cell? ⟨w2.heap.size, 1, none⟩ = some (.int .i64 s) := Br.out.cell rfl
  go_wp2_with fail
  refine (M5.out _).mono ?_
  rintro e w5 ⟨rfl, hb⟩
  have kp : Blk w5 w1.heap.size #[.int .i64 p, .int .i64 q] := Bp.out.call hb
  have kr : Blk w5 w2.heap.size #[.int .i64 r, .int .i64 s] := Br.out.call hb
  have kw : Below w.heap.size w w5 := HW4.out.trans (hb.mono HW4.out.size)
  clear lp cp0 cp1 lr cr0 cr1 Bp Br HW4
  have Bp := Lib.hid kp
  have Br := Lib.hid kr
  have HW5 := Lib.hid kw
  clear hb kw kp kr
  go_wp2_with fail
  refine (alive5 _).mono ?_
  rintro e w6 ⟨rfl, hb⟩
  have kp : Blk w6 w1.heap.size #[.int .i64 p, .int .i64 q] := Bp.out.call hb
  have kr : Blk w6 w2.heap.size #[.int .i64 r, .int .i64 s] := Br.out.call hb
  have kw : Below w.heap.size w w6 := HW5.out.trans (hb.mono HW5.out.size)
  clear Bp Br HW5
  have Bp := Lib.hid kp
  have Br := Lib.hid kr
  have HW6 := Lib.hid kw
  clear hb kw kp kr
  have lp := Bp.out.lt
  have cp0 : w6.cell? ⟨w1.heap.size, 0, none⟩ = some (.int .i64 p) := Bp.out.cell rfl
  have cp1 : w6.cell? ⟨w1.heap.size, 1, none⟩ = some (.int .i64 q) := Bp.out.cell rfl
  have lr := Br.out.lt
  have cr0 : w6.cell? ⟨w2.heap.size, 0, none⟩ = some (.int .i64 r) := Br.out.cell rfl
  have cr1 : w6.cell? ⟨w2.heap.size, 1, none⟩ = some (.int .i64 s) := Br.out.cell rfl
  go_wp2_with fail
  refine (OA.out _).mono ?_
  rintro e w7 ⟨rfl, hb⟩
  have kp : Blk w7 w1.heap.size #[.int .i64 p, .int .i64 q] := Bp.out.call hb
  have kr : Blk w7 w2.heap.size #[.int .i64 r, .int .i64 s] := Br.out.call hb
  have kw : Below w.heap.size w w7 := HW6.out.trans (hb.mono HW6.out.size)
  clear lp cp0 cp1 lr cr0 cr1 Bp Br HW6
  have Bp := Lib.hid kp
  have Br := Lib.hid kr
  have HW7 := Lib.hid kw
  clear hb kw kp kr
  go_upto_if 75 with fail
  go_cut [19, 20] (fun _ _ wx => Hid (Blk wx w1.heap.size #[.int .i64 p, .int .i64 q] ∧ Blk wx w2.heap.size #[.int .i64 r, .int .i64 s] ∧ Below w.heap.size w wx))
  case first =>
    rcases XA.out with ⟨he, mx, my⟩ | he
    · subst he
      have MX := Lib.hid mx; have MY := Lib.hid my; clear mx my
      go_wp2_with fail
      refine (MX.out _).mono ?_
      rintro e w8 ⟨rfl, hb⟩
      have kp : Blk w8 w1.heap.size #[.int .i64 p, .int .i64 q] := (Bp.out.alloc _).call hb
      have kr : Blk w8 w2.heap.size #[.int .i64 r, .int .i64 s] := (Br.out.alloc _).call hb
      have ks : Blk w8 w7.heap.size #[.int .i64 A0, .int .i64 A1] := (Blk.new _ _ _).call hb
      have kw : Below w.heap.size w w8 := (HW7.out.alloc HW7.out.size _).trans (hb.mono (by have := HW7.out.size; simp; omega))
      clear Bp Br HW7
      have Bp := Lib.hid kp
      have Br := Lib.hid kr
      have Bs := Lib.hid ks
      have HW8 := Lib.hid kw
      clear hb kw kp kr ks
      have ls := Bs.out.lt
      have cs0 : w8.cell? ⟨w7.heap.size, 0, none⟩ = some (.int .i64 A0) := Bs.out.cell rfl
      have cs1 : w8.cell? ⟨w7.heap.size, 1, none⟩ = some (.int .i64 A1) := Bs.out.cell rfl
      go_wp2_with fail
      refine (MY.out _).mono ?_
      rintro e w9 ⟨rfl, hb⟩
      have kp : Blk w9 w1.heap.size #[.int .i64 p, .int .i64 q] := Bp.out.call hb
      have kr : Blk w9 w2.heap.size #[.int .i64 r, .int .i64 s] := Br.out.call hb
      have ks : Blk w9 w7.heap.size #[.int .i64 A0, .int .i64 A1] := Bs.out.call hb
      have kw : Below w.heap.size w w9 := HW8.out.trans (hb.mono HW8.out.size)
      clear ls cs0 cs1 Bp Br Bs HW8
      have Bp := Lib.hid kp
      have Br := Lib.hid kr
      have Bs := Lib.hid ks
      have HW9 := Lib.hid kw
      clear hb kw kp kr ks
      go_wp2_with fail
      go_meet
      exact Lib.hid ⟨Bp.out, Br.out, HW9.out⟩
    · go_wp2_with fail
      go_meet
      exact Lib.hid ⟨(Bp.out.alloc _), (Br.out.alloc _), (HW7.out.alloc HW7.out.size _)⟩
  case rest =>
    rename World => wc0
    clear Bp Br HW7
    have Bp := Lib.hid hcut.out.1
    have Br := Lib.hid hcut.out.2.1
    have Hwc0 := Lib.hid hcut.out.2.2
    clear hcut
    have lp := Bp.out.lt
    have cp0 : wc0.cell? ⟨w1.heap.size, 0, none⟩ = some (.int .i64 p) := Bp.out.cell rfl
    have cp1 : wc0.cell? ⟨w1.heap.size, 1, none⟩ = some (.int .i64 q) := Bp.out.cell rfl
    have lr := Br.out.lt
    have cr0 : wc0.cell? ⟨w2.heap.size, 0, none⟩ = some (.int .i64 r) := Br.out.cell rfl
    have cr1 : wc0.cell? ⟨w2.heap.size, 1, none⟩ = some (.int .i64 s) := Br.out.cell rfl
    go_wp2_with fail
    refine (OS.out _).mono ?_
    rintro e w8 ⟨rfl, hb⟩
    have kp : Blk w8 w1.heap.size #[.int .i64 p, .int .i64 q] := Bp.out.call hb
    have kr : Blk w8 w2.heap.size #[.int .i64 r, .int .i64 s] := Br.out.call hb
    have kw : Below w.heap.size w w8 := Hwc0.out.trans (hb.mono Hwc0.out.size)
    clear lp cp0 cp1 lr cr0 cr1 Bp Br Hwc0
    have Bp := Lib.hid kp
    have Br := Lib.hid kr
    have HW8 := Lib.hid kw
    clear hb kw kp kr
    go_upto_if 97 with fail
    go_cut [23, 24] (fun _ _ wx => Hid (Blk wx w1.heap.size #[.int .i64 p, .int .i64 q] ∧ Blk wx w2.heap.size #[.int .i64 r, .int .i64 s] ∧ Below w.heap.size w wx))
    case first =>
      rcases XS.out with ⟨he, mx, my⟩ | he
      · subst he
        have MX := Lib.hid mx; have MY := Lib.hid my; clear mx my
        go_wp2_with fail
        refine (MX.out _).mono ?_
        rintro e w9 ⟨rfl, hb⟩
        have kp : Blk w9 w1.heap.size #[.int .i64 p, .int .i64 q] := (Bp.out.alloc _).call hb
        have kr : Blk w9 w2.heap.size #[.int .i64 r, .int .i64 s] := (Br.out.alloc _).call hb
        have kt : Blk w9 w8.heap.size #[.int .i64 S0, .int .i64 S1] := (Blk.new _ _ _).call hb
        have kw : Below w.heap.size w w9 := (HW8.out.alloc HW8.out.size _).trans (hb.mono (by have := HW8.out.size; simp; omega))
        clear Bp Br HW8
        have Bp := Lib.hid kp
        have Br := Lib.hid kr
        have Bt := Lib.hid kt
        have HW9 := Lib.hid kw
        clear hb kw kp kr kt
        have lt := Bt.out.lt
        have ct0 : w9.cell? ⟨w8.heap.size, 0, none⟩ = some (.int .i64 S0) := Bt.out.cell rfl
        have ct1 : w9.cell? ⟨w8.heap.size, 1, none⟩ = some (.int .i64 S1) := Bt.out.cell rfl
        go_wp2_with fail
        refine (MY.out _).mono ?_
        rintro e w10 ⟨rfl, hb⟩
        have kp : Blk w10 w1.heap.size #[.int .i64 p, .int .i64 q] := Bp.out.call hb
        have kr : Blk w10 w2.heap.size #[.int .i64 r, .int .i64 s] := Br.out.call hb
        have kt : Blk w10 w8.heap.size #[.int .i64 S0, .int .i64 S1] := Bt.out.call hb
        have kw : Below w.heap.size w w10 := HW9.out.trans (hb.mono HW9.out.size)
        clear lt ct0 ct1 Bp Br Bt HW9
        have Bp := Lib.hid kp
        have Br := Lib.hid kr
        have Bt := Lib.hid kt
        have HW10 := Lib.hid kw
        clear hb kw kp kr kt
        go_wp2_with fail
        go_meet
        exact Lib.hid ⟨Bp.out, Br.out, HW10.out⟩
      · go_wp2_with fail
        go_meet
        exact Lib.hid ⟨(Bp.out.alloc _), (Br.out.alloc _), (HW8.out.alloc HW8.out.size _)⟩
    case rest =>
      rename World => wc1
      clear Bp Br HW8
      have Bp := Lib.hid hcut.out.1
      have Br := Lib.hid hcut.out.2.1
      have Hwc1 := Lib.hid hcut.out.2.2
      clear hcut
      have lp := Bp.out.lt
      have cp0 : wc1.cell? ⟨w1.heap.size, 0, none⟩ = some (.int .i64 p) := Bp.out.cell rfl
      have cp1 : wc1.cell? ⟨w1.heap.size, 1, none⟩ = some (.int .i64 q) := Bp.out.cell rfl
      have lr := Br.out.lt
      have cr0 : wc1.cell? ⟨w2.heap.size, 0, none⟩ = some (.int .i64 r) := Br.out.cell rfl
      have cr1 : wc1.cell? ⟨w2.heap.size, 1, none⟩ = some (.int .i64 s) := Br.out.cell rfl
      go_wp2_with fail
      refine (OU.out _).mono ?_
      rintro e w9 ⟨rfl, hb⟩
      have kp : Blk w9 w1.heap.size #[.int .i64 p, .int .i64 q] := Bp.out.call hb
      have kr : Blk w9 w2.heap.size #[.int .i64 r, .int .i64 s] := Br.out.call hb
      have kw : Below w.heap.size w w9 := Hwc1.out.trans (hb.mono Hwc1.out.size)
      clear lp cp0 cp1 lr cr0 cr1 Bp Br Hwc1
      have Bp := Lib.hid kp
      have Br := Lib.hid kr
      have HW9 := Lib.hid kw
      clear hb kw kp kr
      go_upto_if 119 with fail
      go_cut [27, 28] (fun _ _ wx => Hid (Blk wx w1.heap.size #[.int .i64 p, .int .i64 q] ∧ Blk wx w2.heap.size #[.int .i64 r, .int .i64 s] ∧ Below w.heap.size w wx))
      case first =>
        rcases XU.out with ⟨he, mx, my⟩ | he
        · subst he
          have MX := Lib.hid mx; have MY := Lib.hid my; clear mx my
          go_wp2_with fail
          refine (MX.out _).mono ?_
          rintro e w10 ⟨rfl, hb⟩
          have kp : Blk w10 w1.heap.size #[.int .i64 p, .int .i64 q] := (Bp.out.alloc _).call hb
          have kr : Blk w10 w2.heap.size #[.int .i64 r, .int .i64 s] := (Br.out.alloc _).call hb
          have ku : Blk w10 w9.heap.size #[.int .i64 U0, .int .i64 U1] := (Blk.new _ _ _).call hb
          have kw : Below w.heap.size w w10 := (HW9.out.alloc HW9.out.size _).trans (hb.mono (by have := HW9.out.size; simp; omega))
          clear Bp Br HW9
          have Bp := Lib.hid kp
          have Br := Lib.hid kr
          have Bu := Lib.hid ku
          have HW10 := Lib.hid kw
          clear hb kw kp kr ku
          have lu := Bu.out.lt
          have cu0 : w10.cell? ⟨w9.heap.size, 0, none⟩ = some (.int .i64 U0) := Bu.out.cell rfl
          have cu1 : w10.cell? ⟨w9.heap.size, 1, none⟩ = some (.int .i64 U1) := Bu.out.cell rfl
          go_wp2_with fail
          refine (MY.out _).mono ?_
          rintro e w11 ⟨rfl, hb⟩
          have kp : Blk w11 w1.heap.size #[.int .i64 p, .int .i64 q] := Bp.out.call hb
          have kr : Blk w11 w2.heap.size #[.int .i64 r, .int .i64 s] := Br.out.call hb
          have ku : Blk w11 w9.heap.size #[.int .i64 U0, .int .i64 U1] := Bu.out.call hb
          have kw : Below w.heap.size w w11 := HW10.out.trans (hb.mono HW10.out.size)
          clear lu cu0 cu1 Bp Br Bu HW10
          have Bp := Lib.hid kp
          have Br := Lib.hid kr
          have Bu := Lib.hid ku
          have HW11 := Lib.hid kw
          clear hb kw kp kr ku
          go_wp2_with fail
          go_meet
          exact Lib.hid ⟨Bp.out, Br.out, HW11.out⟩
        · go_wp2_with fail
          go_meet
          exact Lib.hid ⟨(Bp.out.alloc _), (Br.out.alloc _), (HW9.out.alloc HW9.out.size _)⟩
      case rest =>
        rename World => wc2
        clear Bp Br HW9
        have Bp := Lib.hid hcut.out.1
        have Br := Lib.hid hcut.out.2.1
        have Hwc2 := Lib.hid hcut.out.2.2
        clear hcut
        have lp := Bp.out.lt
        have cp0 : wc2.cell? ⟨w1.heap.size, 0, none⟩ = some (.int .i64 p) := Bp.out.cell rfl
        have cp1 : wc2.cell? ⟨w1.heap.size, 1, none⟩ = some (.int .i64 q) := Bp.out.cell rfl
        have lr := Br.out.lt
        have cr0 : wc2.cell? ⟨w2.heap.size, 0, none⟩ = some (.int .i64 r) := Br.out.cell rfl
        have cr1 : wc2.cell? ⟨w2.heap.size, 1, none⟩ = some (.int .i64 s) := Br.out.cell rfl
        go_wp2_with fail
        refine (OD.out _).mono ?_
        rintro e w10 ⟨rfl, hb⟩
        have kp : Blk w10 w1.heap.size #[.int .i64 p, .int .i64 q] := Bp.out.call hb
        have kr : Blk w10 w2.heap.size #[.int .i64 r, .int .i64 s] := Br.out.call hb
        have kw : Below w.heap.size w w10 := Hwc2.out.trans (hb.mono Hwc2.out.size)
        clear lp cp0 cp1 lr cr0 cr1 Bp Br Hwc2
        have Bp := Lib.hid kp
        have Br := Lib.hid kr
        have HW10 := Lib.hid kw
        clear hb kw kp kr
        rcases XD.out with ⟨rfl, mx, my, mv, mw⟩ | ⟨rfl, rfl, rfl, mx⟩ | ⟨rfl, rfl, rfl, mx⟩
        · have MX := Lib.hid mx; have MY := Lib.hid my; have MV := Lib.hid mv; have MW := Lib.hid mw; clear mx my mv mw
          go_wp2_with fail
          refine (MX.out _).mono ?_
          rintro e w11 ⟨rfl, hb⟩
          have kp : Blk w11 w1.heap.size #[.int .i64 p, .int .i64 q] := (Bp.out.alloc _).call hb
          have kr : Blk w11 w2.heap.size #[.int .i64 r, .int .i64 s] := (Br.out.alloc _).call hb
          have kd : Blk w11 w10.heap.size #[.int .i64 D0, .int .i64 D1] := (Blk.new _ _ _).call hb
          have kw : Below w.heap.size w w11 := (HW10.out.alloc HW10.out.size _).trans (hb.mono (by have := HW10.out.size; simp; omega))
          clear Bp Br HW10
          have Bp := Lib.hid kp
          have Br := Lib.hid kr
          have Bd := Lib.hid kd
          have HW11 := Lib.hid kw
          clear hb kw kp kr kd
          go_wp2_with fail
          refine (MY.out _).mono ?_
          rintro e w12 ⟨rfl, hb⟩
          have kp : Blk w12 w1.heap.size #[.int .i64 p, .int .i64 q] := Bp.out.call hb
          have kr : Blk w12 w2.heap.size #[.int .i64 r, .int .i64 s] := Br.out.call hb
          have kd : Blk w12 w10.heap.size #[.int .i64 D0, .int .i64 D1] := Bd.out.call hb
          have kw : Below w.heap.size w w12 := HW11.out.trans (hb.mono HW11.out.size)
          clear Bp Br Bd HW11
          have Bp := Lib.hid kp
          have Br := Lib.hid kr
          have Bd := Lib.hid kd
          have HW12 := Lib.hid kw
          clear hb kw kp kr kd
          have ld := Bd.out.lt
          have cd0 : w12.cell? ⟨w10.heap.size, 0, none⟩ = some (.int .i64 D0) := Bd.out.cell rfl
          have cd1 : w12.cell? ⟨w10.heap.size, 1, none⟩ = some (.int .i64 D1) := Bd.out.cell rfl
          go_wp2_with fail
          refine (MV.out _).mono ?_
          rintro e w13 ⟨rfl, hb⟩
          have kp : Blk w13 w1.heap.size #[.int .i64 p, .int .i64 q] := Bp.out.call hb
          have kr : Blk w13 w2.heap.size #[.int .i64 r, .int .i64 s] := Br.out.call hb
          have kd : Blk w13 w10.heap.size #[.int .i64 D0, .int .i64 D1] := Bd.out.call hb
          have kw : Below w.heap.size w w13 := HW12.out.trans (hb.mono HW12.out.size)
          clear ld cd0 cd1 Bp Br Bd HW12
          have Bp := Lib.hid kp
          have Br := Lib.hid kr
          have Bd := Lib.hid kd
          have HW13 := Lib.hid kw
          clear hb kw kp kr kd
          have ld := Bd.out.lt
          have cd0 : w13.cell? ⟨w10.heap.size, 0, none⟩ = some (.int .i64 D0) := Bd.out.cell rfl
          have cd1 : w13.cell? ⟨w10.heap.size, 1, none⟩ = some (.int .i64 D1) := Bd.out.cell rfl
          go_wp2_with fail
          refine (MW.out _).mono ?_
          rintro e w14 ⟨rfl, hb⟩
          have kp : Blk w14 w1.heap.size #[.int .i64 p, .int .i64 q] := Bp.out.call hb
          have kr : Blk w14 w2.heap.size #[.int .i64 r, .int .i64 s] := Br.out.call hb
          have kd : Blk w14 w10.heap.size #[.int .i64 D0, .int .i64 D1] := Bd.out.call hb
          have kw : Below w.heap.size w w14 := HW13.out.trans (hb.mono HW13.out.size)
          clear ld cd0 cd1 Bp Br Bd HW13
          have Bp := Lib.hid kp
          have Br := Lib.hid kr
          have Bd := Lib.hid kd
          have HW14 := Lib.hid kw
          clear hb kw kp kr kd
          go_wp2_with fail
          go_ret
          exact ⟨rfl, HW14.out⟩
        · have MX := Lib.hid mx; clear mx
          have lr := Br.out.lt
          have cr0 : w10.cell? ⟨w2.heap.size, 0, none⟩ = some (.int .i64 r) := Br.out.cell rfl
          have cr1 : w10.cell? ⟨w2.heap.size, 1, none⟩ = some (.int .i64 s) := Br.out.cell rfl
          go_wp2_with fail
          refine (MX.out _).mono ?_
          rintro e w11 ⟨rfl, hb⟩
          have kp : Blk w11 w1.heap.size #[.int .i64 p, .int .i64 q] := (Bp.out.alloc _).call hb
          have kr : Blk w11 w2.heap.size #[.int .i64 r, .int .i64 s] := (Br.out.alloc _).call hb
          have kd : Blk w11 w10.heap.size #[.int .i64 0, .int .i64 0] := (Blk.new _ _ _).call hb
          have kw : Below w.heap.size w w11 := (HW10.out.alloc HW10.out.size _).trans (hb.mono (by have := HW10.out.size; simp; omega))
          clear lr cr0 cr1 Bp Br HW10
          have Bp := Lib.hid kp
          have Br := Lib.hid kr
          have Bd := Lib.hid kd
          have HW11 := Lib.hid kw
          clear hb kw kp kr kd
          have ld := Bd.out.lt
          have cd0 : w11.cell? ⟨w10.heap.size, 0, none⟩ = some (.int .i64 0) := Bd.out.cell rfl
          have cd1 : w11.cell? ⟨w10.heap.size, 1, none⟩ = some (.int .i64 0) := Bd.out.cell rfl
          go_wp2_with fail
          go_ret
          exact ⟨rfl, HW11.out⟩
        · have MX := Lib.hid mx; clear mx
          have lr := Br.out.lt
          have cr0 : w10.cell? ⟨w2.heap.size, 0, none⟩ = some (.int .i64 r) := Br.out.cell rfl
          have cr1 : w10.cell? ⟨w2.heap.size, 1, none⟩ = some (.int .i64 s) := Br.out.cell rfl
          go_wp2_with fail
          refine (MX.out _).mono ?_
          rintro e w11 ⟨rfl, hb⟩
          have kp : Blk w11 w1.heap.size #[.int .i64 p, .int .i64 q] := (Bp.out.alloc _).call hb
          have kr : Blk w11 w2.heap.size #[.int .i64 r, .int .i64 s] := (Br.out.alloc _).call hb
          have kd : Blk w11 w10.heap.size #[.int .i64 0, .int .i64 0] := (Blk.new _ _ _).call hb
          have kw : Below w.heap.size w w11 := (HW10.out.alloc HW10.out.size _).trans (hb.mono (by have := HW10.out.size; simp; omega))
          clear lr cr0 cr1 Bp Br HW10
          have Bp := Lib.hid kp
          have Br := Lib.hid kr
          have Bd := Lib.hid kd
          have HW11 := Lib.hid kw
          clear hb kw kp kr kd
          have ld := Bd.out.lt
          have cd0 : w11.cell? ⟨w10.heap.size, 0, none⟩ = some (.int .i64 0) := Bd.out.cell rfl
          have cd1 : w11.cell? ⟨w10.heap.size, 1, none⟩ = some (.int .i64 0) := Bd.out.cell rfl
          go_wp2_with fail
          go_ret
          exact ⟨rfl, HW11.out⟩
end Go.Proofs.Ytacnaencmbnjpaa
