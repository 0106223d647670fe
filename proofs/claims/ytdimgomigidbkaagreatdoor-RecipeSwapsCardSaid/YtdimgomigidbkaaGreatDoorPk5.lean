/- Texts of one proof, put together: RecD, RecE, RcA, RcB, RcC. -/
import Derived.Test.YtdimgomigidbkaaGreatDoorPk4
import Derived.Lib.SliceRun
import Derived.Laws.IdiomCopy
/- The reference of stage 8: may a channel be? -/
namespace Go.Proofs.YtdimgomigidbkaaGreatDoor
open Go.RowKit

def okF (c : Ch) (k : Nat) : Bool := (!needB c.ch k || withinB c.ch k (c.f k)) && (mayB c.ch k || decide (c.f k = 0))
theorem chB_eq (c : Ch) : chB c = (wordB c.name && (decide (0 ≤ c.chart) && decide (c.chart ≤ 7)) && (List.range 12).all (okF c) && (!needB c.ch 1 || decide (c.f 1 < c.f 2)) &&
    ((decide (c.f 10 = 0) && decide (c.f 11 = 0)) || (withinB c.ch 10 (c.f 10) && withinB c.ch 11 (c.f 11) && decide (c.f 10 < c.f 11)))) := by
  have e : rightB 1 c.name 0 = wordB c.name := by
    rw [right_word, decide_eq_true rfl, Bool.true_and]
    rfl
  unfold chB
  rw [e]
  rfl
theorem ok_all {c : Ch} (h : ∀ j, j < 12 → okF c j = true) : (List.range 12).all (okF c) = true := List.all_eq_true.2 fun k hk => h k (List.mem_range.1 hk)
theorem ok_not {c : Ch} {k : Nat} (hk : k < 12) (h : okF c k = false) : (List.range 12).all (okF c) = false := by
  cases e : (List.range 12).all (okF c) with
  | false => rfl
  | true => rw [List.all_eq_true.1 e k (List.mem_range.2 hk)] at h; cases h
def box1 (w : World) (c : Ch) : World := w.alloc (.cells (chL c).toArray 37)
theorem box1_below (w : World) (c : Ch) : Below w.heap.size w (box1 w c) := (Below.refl _ w).alloc (Nat.le_refl _) _
theorem box1_has (w : World) (c : Ch) : Has (box1 w c) w.heap.size (chL c) 37 := Has.new w (chL c) 37
def ChanRel (c : Ch) (w : World) (i : Value) (wr : World) : Prop := ∃ k : Nat, k ≤ 12 ∧ i = .int .i64 (k : Nat) ∧ (∀ j, j < k → okF c j = true) ∧ Below w.heap.size w wr ∧ Has wr w.heap.size (chL c) 37
theorem chan_early (c : Ch) (w : World) (hn : c.name.length ≤ 100000) (h : ¬ (wordB c.name = true ∧ 0 ≤ c.chart ∧ c.chart ≤ 7)) :
    Calls Tryz.prog 27 #[chV c] w fun e w' => e = .returned (.bool (chB c)) ∧ Below w.heap.size w w' := by
  have hb1 := box1_below w c
  obtain ⟨x0, x1, x2, x3, x4, x5, x6, x7, x8, x9, x10, x11, x12, x13⟩ := (box1_has w c).chan
  have e : chB c = false := by
    rw [chB_eq]
    cases e1 : wordB c.name
    · simp
    · have : ¬ (0 ≤ c.chart ∧ c.chart ≤ 7) := fun k => h ⟨e1, k.1, k.2⟩
      by_cases h0 : 0 ≤ c.chart
      · rw [decide_eq_false (p := c.chart ≤ 7) (by omega)]; simp
      · rw [decide_eq_false (p := 0 ≤ c.chart) h0]; simp
  rw [e]
  clear e
  have hw := fun W => rword_any c.name W hn
  unfold chV box1 at *
  by_cases h1 : wordB c.name = true
  · rw [h1] at hw
    by_cases h0 : 0 ≤ c.chart
    · have q : decide (c.chart < 0) = false := decide_eq_false (by omega)
      have q2 : decide (7 < c.chart) = true := decide_eq_true (by have : ¬ c.chart ≤ 7 := fun k => h ⟨h1, h0, k⟩; omega)
      clear h h1 h0
      go_enter Tryz.func27, Tryz.ntmps27
      go_wp2_with fail
      refine (hw _).mono ?_
      rintro e w2 ⟨rfl, rfl⟩
      clear hw
      go_wp2
      go_ret
      exact ⟨rfl, hb1⟩
    · have q : decide (c.chart < 0) = true := decide_eq_true (by omega)
      clear h h1 h0
      go_enter Tryz.func27, Tryz.ntmps27
      go_wp2_with fail
      refine (hw _).mono ?_
      rintro e w2 ⟨rfl, rfl⟩
      clear hw
      go_wp2
      go_ret
      exact ⟨rfl, hb1⟩
  · have h1 : wordB c.name = false := by simpa using h1
    rw [h1] at hw
    clear h h1
    go_enter Tryz.func27, Tryz.ntmps27
    go_wp2_with fail
    refine (hw _).mono ?_
    rintro e w2 ⟨rfl, rfl⟩
    clear hw
    go_wp2
    go_ret
    exact ⟨rfl, hb1⟩
theorem Has.chanA {w : World} {b a : Nat} {c : Ch} {T : TypeId} (h : Has w b (chL c) T) (hc : c.chart = (a : Int)) : w.cell? ⟨b, 0, none⟩ = some (.string (bs c.name)) ∧ w.cell? ⟨b, 1, none⟩ = some (.int .i64 (a : Int)) ∧ w.cell? ⟨b, 2, none⟩ = some (.int .i64 (c.f 0)) ∧ w.cell? ⟨b, 3, none⟩ = some (.int .i64 (c.f 1)) ∧ w.cell? ⟨b, 4, none⟩ = some (.int .i64 (c.f 2)) ∧ w.cell? ⟨b, 5, none⟩ = some (.int .i64 (c.f 3)) ∧ w.cell? ⟨b, 6, none⟩ = some (.int .i64 (c.f 4)) ∧ w.cell? ⟨b, 7, none⟩ = some (.int .i64 (c.f 5)) ∧ w.cell? ⟨b, 8, none⟩ = some (.int .i64 (c.f 6)) ∧ w.cell? ⟨b, 9, none⟩ = some (.int .i64 (c.f 7)) ∧ w.cell? ⟨b, 10, none⟩ = some (.int .i64 (c.f 8)) ∧ w.cell? ⟨b, 11, none⟩ = some (.int .i64 (c.f 9)) ∧ w.cell? ⟨b, 12, none⟩ = some (.int .i64 (c.f 10)) ∧ w.cell? ⟨b, 13, none⟩ = some (.int .i64 (c.f 11)) := by
  have := h.chan
  rw [hc] at this
  exact this
def chVA (c : Ch) (a : Nat) : Value := .agg #[.string (bs c.name), .int .i64 (a : Int), .int .i64 (c.f 0), .int .i64 (c.f 1), .int .i64 (c.f 2), .int .i64 (c.f 3), .int .i64 (c.f 4), .int .i64 (c.f 5), .int .i64 (c.f 6), .int .i64 (c.f 7), .int .i64 (c.f 8), .int .i64 (c.f 9), .int .i64 (c.f 10), .int .i64 (c.f 11)]
theorem chVA_eq {c : Ch} {a : Nat} (hc : c.chart = (a : Int)) : chV c = chVA c a := by unfold chV chVA; rw [hc]
set_option maxHeartbeats 4000000 in
set_option maxRecDepth 100000 in
theorem chan_main (c : Ch) (a : Nat) (w : World) (hn : c.name.length ≤ 100000) (hw1 : wordB c.name = true) (ha : a < 8) (hca : c.chart = (a : Int)) :
    Calls Tryz.prog 27 #[chV c] w fun e w' => e = .returned (.bool (chB c)) ∧ Below w.heap.size w w' := by
  have hb1 := box1_below w c
  have hx1 := box1_has w c
  have hch : c.ch = a := by unfold Ch.ch; rw [hca]; rfl
  obtain ⟨X, hX⟩ : ∃ X, chB c = X := ⟨_, rfl⟩
  have hEq := chB_eq c
  rw [hw1, decide_eq_true (p := 0 ≤ c.chart) (by omega), decide_eq_true (p := c.chart ≤ 7) (by omega), hX, hch] at hEq
  simp only [Bool.true_and] at hEq
  rw [hX]
  have HE := Lib.hid hEq
  have HCA := Lib.hid hca
  have HCH := Lib.hid hch
  have hw := fun W => rword_any c.name W hn
  rw [hw1] at hw
  have hget := fun k hk W => get_any c k hk W
  rw [chVA_eq hca] at hget ⊢
  have q1 : decide ((a : Int) < 0) = false := decide_eq_false (by omega)
  have q2 : decide (7 < (a : Int)) = false := decide_eq_false (by omega)
  obtain ⟨x0, x1, x2, x3, x4, x5, x6, x7, x8, x9, x10, x11, x12, x13⟩ := hx1.chanA hca
  have hbox : box1 w c = w.alloc (.cells #[.string (bs c.name), .int .i64 (a : Int), .int .i64 (c.f 0), .int .i64 (c.f 1), .int .i64 (c.f 2), .int .i64 (c.f 3), .int .i64 (c.f 4), .int .i64 (c.f 5), .int .i64 (c.f 6), .int .i64 (c.f 7), .int .i64 (c.f 8), .int .i64 (c.f 9), .int .i64 (c.f 10), .int .i64 (c.f 11)] 37) := by unfold box1 chL; rw [hca]
  rw [hbox] at hb1 hx1 x0 x1 x2 x3 x4 x5 x6 x7 x8 x9 x10 x11 x12 x13
  unfold chVA at hget ⊢
  clear hX hEq hca hch hw1 hbox
  go_enter Tryz.func27, Tryz.ntmps27
  go_wp2_with fail
  refine (hw _).mono ?_
  rintro e w0 ⟨rfl, rfl⟩
  clear hw x0 x1 x2 x3 x4 x5 x6 x7 x8 x9 x10 x11 x12 x13
  obtain ⟨y0, y1, y2, y3, y4, y5, y6, y7, y8, y9, y10, y11, y12, y13⟩ := hx1.chanA HCA.out
  go_wp2
  go_loopw [3] (ChanRel c w) (fun i _ => 12 - (intOf i).toNat)
  case atStart => exact ⟨0, by decide, rfl, fun j hj => absurd hj (Nat.not_lt_zero _), hb1, hx1⟩
  case round =>
    obtain ⟨k, hk, rfl, hok, hb, hx⟩ := hrel
    clear y0 y1 y2 y3 y4 y5 y6 y7 y8 y9 y10 y11 y12 y13 hb1 hx1
    obtain ⟨x0, x1, x2, x3, x4, x5, x6, x7, x8, x9, x10, x11, x12, x13⟩ := hx.chanA HCA.out
    by_cases hl : k < 12
    · have hg := hget k hl wr
      have hnd := fun W => need_any a k ha hl W
      have hwi := fun W => within_any a k ha hl (c.f k) W
      have hma := fun W => may_any a k ha hl W
      have hdef : okF c k = ((!needB a k || withinB a k (c.f k)) && (mayB a k || decide (c.f k = 0))) := by unfold okF; rw [HCH.out]
      have hmn : needB a k = true → mayB a k = true := fun h => by unfold mayB; rw [h]; rfl
      have hfin : okF c k = false → X = false := fun h => by rw [HE.out, ok_not hl h]; simp
      have hgo : okF c k = true → ∀ j, j < k + 1 → okF c j = true := fun h j hj => by
        by_cases e : j = k
        · rw [e]; exact h
        · exact hok j (by omega)
      have HFIN := Lib.hid hfin
      have HGO := Lib.hid hgo
      clear hok hfin hgo hget
      obtain ⟨z, hz⟩ : ∃ z, c.f k = z := ⟨_, rfl⟩
      rw [hz] at hg hwi hdef
      clear hz
      generalize needB a k = n at hnd hdef hmn
      generalize withinB a k z = i at hwi hdef
      generalize mayB a k = m at hma hdef hmn
      cases n
      · cases m
        · by_cases hz : z = 0
          · have qz : (z != 0) = false := by rw [hz]; rfl
            rw [decide_eq_true hz] at hdef
            clear hz hwi hmn
            go_wp2_with fail
            refine (hg).mono ?_
            rintro e w1 ⟨rfl, hw1⟩
            have hbw1 := hb.trans (hw1.mono hb.size)
            have hxw1 := hx.call hw1
            obtain ⟨_, w1c, -⟩ := hxw1.chanA HCA.out
            clear hg x0 x1 x2 x3 x4 x5 x6 x7 x8 x9 x10 x11 x12 x13
            go_wp2_with fail
            refine (hnd _).mono ?_
            rintro e w2 ⟨rfl, hw2⟩
            have hbw2 := hbw1.trans (hw2.mono hbw1.size)
            have hxw2 := hxw1.call hw2
            obtain ⟨_, w2c, -⟩ := hxw2.chanA HCA.out
            go_wp2_with fail
            refine (hma _).mono ?_
            rintro e w3 ⟨rfl, hw3⟩
            have hbw3 := hbw2.trans (hw3.mono hbw2.size)
            have hxw3 := hxw2.call hw3
            obtain ⟨_, w3c, -⟩ := hxw3.chanA HCA.out
            have HGO2 := Lib.hid (HGO.out hdef)
            clear HFIN HGO hdef
            go_wp2
            go_roundw
            case rel => exact ⟨k + 1, hl, by go_num, HGO2.out, hbw3, hxw3⟩
            case measure => simp [intOf]; omega
          · have qz : (z != 0) = true := bne_iff_ne.2 hz
            rw [decide_eq_false hz] at hdef
            clear hz hwi hmn
            go_wp2_with fail
            refine (hg).mono ?_
            rintro e w1 ⟨rfl, hw1⟩
            have hbw1 := hb.trans (hw1.mono hb.size)
            have hxw1 := hx.call hw1
            obtain ⟨_, w1c, -⟩ := hxw1.chanA HCA.out
            clear hg x0 x1 x2 x3 x4 x5 x6 x7 x8 x9 x10 x11 x12 x13
            go_wp2_with fail
            refine (hnd _).mono ?_
            rintro e w2 ⟨rfl, hw2⟩
            have hbw2 := hbw1.trans (hw2.mono hbw1.size)
            have hxw2 := hxw1.call hw2
            obtain ⟨_, w2c, -⟩ := hxw2.chanA HCA.out
            go_wp2_with fail
            refine (hma _).mono ?_
            rintro e w3 ⟨rfl, hw3⟩
            have hbw3 := hbw2.trans (hw3.mono hbw2.size)
            have hxw3 := hxw2.call hw3
            obtain ⟨_, w3c, -⟩ := hxw3.chanA HCA.out
            have HX := Lib.hid (HFIN.out hdef)
            clear HFIN HGO hdef
            go_wp2
            go_ret
            exact ⟨(congrArg (fun z => Ending.returned (.bool z)) HX.out).symm, hbw3⟩
        · clear hwi hmn
          go_wp2_with fail
          refine (hg).mono ?_
          rintro e w1 ⟨rfl, hw1⟩
          have hbw1 := hb.trans (hw1.mono hb.size)
          have hxw1 := hx.call hw1
          obtain ⟨_, w1c, -⟩ := hxw1.chanA HCA.out
          clear hg x0 x1 x2 x3 x4 x5 x6 x7 x8 x9 x10 x11 x12 x13
          go_wp2_with fail
          refine (hnd _).mono ?_
          rintro e w2 ⟨rfl, hw2⟩
          have hbw2 := hbw1.trans (hw2.mono hbw1.size)
          have hxw2 := hxw1.call hw2
          obtain ⟨_, w2c, -⟩ := hxw2.chanA HCA.out
          go_wp2_with fail
          refine (hma _).mono ?_
          rintro e w3 ⟨rfl, hw3⟩
          have hbw3 := hbw2.trans (hw3.mono hbw2.size)
          have hxw3 := hxw2.call hw3
          obtain ⟨_, w3c, -⟩ := hxw3.chanA HCA.out
          have HGO2 := Lib.hid (HGO.out hdef)
          clear HFIN HGO hdef
          go_wp2
          go_roundw
          case rel => exact ⟨k + 1, hl, by go_num, HGO2.out, hbw3, hxw3⟩
          case measure => simp [intOf]; omega
      · obtain rfl := hmn rfl
        clear hmn
        cases i
        · clear hma
          go_wp2_with fail
          refine (hg).mono ?_
          rintro e w1 ⟨rfl, hw1⟩
          have hbw1 := hb.trans (hw1.mono hb.size)
          have hxw1 := hx.call hw1
          obtain ⟨_, w1c, -⟩ := hxw1.chanA HCA.out
          clear hg x0 x1 x2 x3 x4 x5 x6 x7 x8 x9 x10 x11 x12 x13
          go_wp2_with fail
          refine (hnd _).mono ?_
          rintro e w2 ⟨rfl, hw2⟩
          have hbw2 := hbw1.trans (hw2.mono hbw1.size)
          have hxw2 := hxw1.call hw2
          obtain ⟨_, w2c, -⟩ := hxw2.chanA HCA.out
          go_wp2_with fail
          refine (hwi _).mono ?_
          rintro e w3 ⟨rfl, hw3⟩
          have hbw3 := hbw2.trans (hw3.mono hbw2.size)
          have hxw3 := hxw2.call hw3
          obtain ⟨_, w3c, -⟩ := hxw3.chanA HCA.out
          have HX := Lib.hid (HFIN.out hdef)
          clear HFIN HGO hdef
          go_wp2
          go_ret
          exact ⟨(congrArg (fun z => Ending.returned (.bool z)) HX.out).symm, hbw3⟩
        · go_wp2_with fail
          refine (hg).mono ?_
          rintro e w1 ⟨rfl, hw1⟩
          have hbw1 := hb.trans (hw1.mono hb.size)
          have hxw1 := hx.call hw1
          obtain ⟨_, w1c, -⟩ := hxw1.chanA HCA.out
          clear hg x0 x1 x2 x3 x4 x5 x6 x7 x8 x9 x10 x11 x12 x13
          go_wp2_with fail
          refine (hnd _).mono ?_
          rintro e w2 ⟨rfl, hw2⟩
          have hbw2 := hbw1.trans (hw2.mono hbw1.size)
          have hxw2 := hxw1.call hw2
          obtain ⟨_, w2c, -⟩ := hxw2.chanA HCA.out
          go_wp2_with fail
          refine (hwi _).mono ?_
          rintro e w3 ⟨rfl, hw3⟩
          have hbw3 := hbw2.trans (hw3.mono hbw2.size)
          have hxw3 := hxw2.call hw3
          obtain ⟨_, w3c, -⟩ := hxw3.chanA HCA.out
          go_wp2_with fail
          refine (hma _).mono ?_
          rintro e w4 ⟨rfl, hw4⟩
          have hbw4 := hbw3.trans (hw4.mono hbw3.size)
          have hxw4 := hxw3.call hw4
          obtain ⟨_, w4c, -⟩ := hxw4.chanA HCA.out
          have HGO2 := Lib.hid (HGO.out hdef)
          clear HFIN HGO hdef
          go_wp2
          go_roundw
          case rel => exact ⟨k + 1, hl, by go_num, HGO2.out, hbw4, hxw4⟩
          case measure => simp [intOf]; omega
    · obtain rfl : k = 12 := by omega
      have hall := ok_all hok
      have h2 := HE.out
      rw [hall, Bool.true_and] at h2
      have hn1 := fun W => need_any a 1 ha (by decide) W
      have hw10 := fun W => within_any a 10 ha (by decide) (c.f 10) W
      have hw11 := fun W => within_any a 11 ha (by decide) (c.f 11) W
      generalize needB a 1 = n at hn1 h2
      generalize withinB a 10 (c.f 10) = i at hw10 h2
      generalize withinB a 11 (c.f 11) = m at hw11 h2
      clear hget hok hall
      obtain ⟨u1, hu1⟩ : ∃ z, c.f 1 = z := ⟨_, rfl⟩
      obtain ⟨u2, hu2⟩ : ∃ z, c.f 2 = z := ⟨_, rfl⟩
      obtain ⟨u10, hu10⟩ : ∃ z, c.f 10 = z := ⟨_, rfl⟩
      obtain ⟨u11, hu11⟩ : ∃ z, c.f 11 = z := ⟨_, rfl⟩
      rw [hu1] at x3 h2
      rw [hu2] at x4 h2
      rw [hu10] at x12 h2 hw10
      rw [hu11] at x13 h2 hw11
      have HL := Lib.hid (show ∀ W, Below wr.heap.size wr W → W.cell? ⟨w.heap.size, 1, none⟩ = some (.int .i64 (a : Int)) ∧ W.cell? ⟨w.heap.size, 3, none⟩ = some (.int .i64 u1) ∧ W.cell? ⟨w.heap.size, 4, none⟩ = some (.int .i64 u2) ∧ W.cell? ⟨w.heap.size, 12, none⟩ = some (.int .i64 u10) ∧ W.cell? ⟨w.heap.size, 13, none⟩ = some (.int .i64 u11) from fun W hW => by
        obtain ⟨_, p1, _, p3, p4, _, _, _, _, _, _, _, p12, p13⟩ := (hx.call hW).chanA HCA.out
        rw [hu1] at p3
        rw [hu2] at p4
        rw [hu10] at p12
        rw [hu11] at p13
        exact ⟨p1, p3, p4, p12, p13⟩)
      clear x0 x2 x5 x6 x7 x8 x9 x10 x11 hu1 hu2 hu10 hu11
      cases n
      · simp only [Bool.not_false, Bool.true_or, Bool.true_and] at h2
        by_cases z10 : u10 = 0
        · by_cases z11 : u11 = 0
          · have r10 : (u10 == 0) = true := by rw [z10]; rfl
            have r11 : (u11 == 0) = true := by rw [z11]; rfl
            rw [decide_eq_true z10, decide_eq_true z11] at h2
            have HX := Lib.hid (show X = true from by rw [h2]; rfl)
            clear h2 HE z10 z11 hw10 hw11
            go_wp2_with fail
            refine (hn1 _).mono ?_
            rintro e w1 ⟨rfl, hw1⟩
            have gw1 := hw1
            obtain ⟨p1w1, p3w1, p4w1, p12w1, p13w1⟩ := HL.out _ gw1
            clear x1 x3 x4 x12 x13
            clear hn1
            go_wp2
            go_ret
            exact ⟨(congrArg (fun z => Ending.returned (.bool z)) HX.out).symm, hb.trans (gw1.mono hb.size)⟩
          · have r10 : (u10 == 0) = true := by rw [z10]; rfl
            have r11 : (u11 == 0) = false := beq_false_of_ne z11
            rw [decide_eq_true z10, decide_eq_false z11] at h2
            clear z10 z11
            cases i
            · have HX := Lib.hid (show X = false from by rw [h2]; simp)
              clear h2 HE hw11
              go_wp2_with fail
              refine (hn1 _).mono ?_
              rintro e w1 ⟨rfl, hw1⟩
              have gw1 := hw1
              obtain ⟨p1w1, p3w1, p4w1, p12w1, p13w1⟩ := HL.out _ gw1
              clear x1 x3 x4 x12 x13
              clear hn1
              go_wp2_with fail
              refine (hw10 _).mono ?_
              rintro e w2 ⟨rfl, hw2⟩
              have gw2 := gw1.trans (hw2.mono gw1.size)
              obtain ⟨p1w2, p3w2, p4w2, p12w2, p13w2⟩ := HL.out _ gw2
              go_wp2
              go_ret
              exact ⟨(congrArg (fun z => Ending.returned (.bool z)) HX.out).symm, hb.trans (gw2.mono hb.size)⟩
            · cases m
              · have HX := Lib.hid (show X = false from by rw [h2]; simp)
                clear h2 HE
                go_wp2_with fail
                refine (hn1 _).mono ?_
                rintro e w1 ⟨rfl, hw1⟩
                have gw1 := hw1
                obtain ⟨p1w1, p3w1, p4w1, p12w1, p13w1⟩ := HL.out _ gw1
                clear x1 x3 x4 x12 x13
                clear hn1
                go_wp2_with fail
                refine (hw10 _).mono ?_
                rintro e w2 ⟨rfl, hw2⟩
                have gw2 := gw1.trans (hw2.mono gw1.size)
                obtain ⟨p1w2, p3w2, p4w2, p12w2, p13w2⟩ := HL.out _ gw2
                go_wp2_with fail
                refine (hw11 _).mono ?_
                rintro e w3 ⟨rfl, hw3⟩
                have gw3 := gw2.trans (hw3.mono gw2.size)
                obtain ⟨p1w3, p3w3, p4w3, p12w3, p13w3⟩ := HL.out _ gw3
                go_wp2
                go_ret
                exact ⟨(congrArg (fun z => Ending.returned (.bool z)) HX.out).symm, hb.trans (gw3.mono hb.size)⟩
              · obtain ⟨y, hy⟩ : ∃ y, decide (u10 < u11) = y := ⟨_, rfl⟩
                rw [hy] at h2
                have HX := Lib.hid (show X = y from by rw [h2]; simp)
                clear h2 HE
                go_wp2_with fail
                refine (hn1 _).mono ?_
                rintro e w1 ⟨rfl, hw1⟩
                have gw1 := hw1
                obtain ⟨p1w1, p3w1, p4w1, p12w1, p13w1⟩ := HL.out _ gw1
                clear x1 x3 x4 x12 x13
                clear hn1
                go_wp2_with fail
                refine (hw10 _).mono ?_
                rintro e w2 ⟨rfl, hw2⟩
                have gw2 := gw1.trans (hw2.mono gw1.size)
                obtain ⟨p1w2, p3w2, p4w2, p12w2, p13w2⟩ := HL.out _ gw2
                go_wp2_with fail
                refine (hw11 _).mono ?_
                rintro e w3 ⟨rfl, hw3⟩
                have gw3 := gw2.trans (hw3.mono gw2.size)
                obtain ⟨p1w3, p3w3, p4w3, p12w3, p13w3⟩ := HL.out _ gw3
                go_wp2
                go_ret
                exact ⟨(congrArg (fun z => Ending.returned (.bool z)) HX.out).symm, hb.trans (gw3.mono hb.size)⟩
        · have r10 : (u10 == 0) = false := beq_false_of_ne z10
          rw [decide_eq_false z10] at h2
          clear z10
          cases i
          · have HX := Lib.hid (show X = false from by rw [h2]; simp)
            clear h2 HE hw11
            go_wp2_with fail
            refine (hn1 _).mono ?_
            rintro e w1 ⟨rfl, hw1⟩
            have gw1 := hw1
            obtain ⟨p1w1, p3w1, p4w1, p12w1, p13w1⟩ := HL.out _ gw1
            clear x1 x3 x4 x12 x13
            clear hn1
            go_wp2_with fail
            refine (hw10 _).mono ?_
            rintro e w2 ⟨rfl, hw2⟩
            have gw2 := gw1.trans (hw2.mono gw1.size)
            obtain ⟨p1w2, p3w2, p4w2, p12w2, p13w2⟩ := HL.out _ gw2
            go_wp2
            go_ret
            exact ⟨(congrArg (fun z => Ending.returned (.bool z)) HX.out).symm, hb.trans (gw2.mono hb.size)⟩
          · cases m
            · have HX := Lib.hid (show X = false from by rw [h2]; simp)
              clear h2 HE
              go_wp2_with fail
              refine (hn1 _).mono ?_
              rintro e w1 ⟨rfl, hw1⟩
              have gw1 := hw1
              obtain ⟨p1w1, p3w1, p4w1, p12w1, p13w1⟩ := HL.out _ gw1
              clear x1 x3 x4 x12 x13
              clear hn1
              go_wp2_with fail
              refine (hw10 _).mono ?_
              rintro e w2 ⟨rfl, hw2⟩
              have gw2 := gw1.trans (hw2.mono gw1.size)
              obtain ⟨p1w2, p3w2, p4w2, p12w2, p13w2⟩ := HL.out _ gw2
              go_wp2_with fail
              refine (hw11 _).mono ?_
              rintro e w3 ⟨rfl, hw3⟩
              have gw3 := gw2.trans (hw3.mono gw2.size)
              obtain ⟨p1w3, p3w3, p4w3, p12w3, p13w3⟩ := HL.out _ gw3
              go_wp2
              go_ret
              exact ⟨(congrArg (fun z => Ending.returned (.bool z)) HX.out).symm, hb.trans (gw3.mono hb.size)⟩
            · obtain ⟨y, hy⟩ : ∃ y, decide (u10 < u11) = y := ⟨_, rfl⟩
              rw [hy] at h2
              have HX := Lib.hid (show X = y from by rw [h2]; simp)
              clear h2 HE
              go_wp2_with fail
              refine (hn1 _).mono ?_
              rintro e w1 ⟨rfl, hw1⟩
              have gw1 := hw1
              obtain ⟨p1w1, p3w1, p4w1, p12w1, p13w1⟩ := HL.out _ gw1
              clear x1 x3 x4 x12 x13
              clear hn1
              go_wp2_with fail
              refine (hw10 _).mono ?_
              rintro e w2 ⟨rfl, hw2⟩
              have gw2 := gw1.trans (hw2.mono gw1.size)
              obtain ⟨p1w2, p3w2, p4w2, p12w2, p13w2⟩ := HL.out _ gw2
              go_wp2_with fail
              refine (hw11 _).mono ?_
              rintro e w3 ⟨rfl, hw3⟩
              have gw3 := gw2.trans (hw3.mono gw2.size)
              obtain ⟨p1w3, p3w3, p4w3, p12w3, p13w3⟩ := HL.out _ gw3
              go_wp2
              go_ret
              exact ⟨(congrArg (fun z => Ending.returned (.bool z)) HX.out).symm, hb.trans (gw3.mono hb.size)⟩
      · by_cases hlt : u1 < u2
        · have r12 : decide (u2 ≤ u1) = false := decide_eq_false (by omega)
          rw [decide_eq_true hlt] at h2
          simp only [Bool.not_true, Bool.or_true, Bool.true_and] at h2
          clear hlt
          by_cases z10 : u10 = 0
          · by_cases z11 : u11 = 0
            · have r10 : (u10 == 0) = true := by rw [z10]; rfl
              have r11 : (u11 == 0) = true := by rw [z11]; rfl
              rw [decide_eq_true z10, decide_eq_true z11] at h2
              have HX := Lib.hid (show X = true from by rw [h2]; rfl)
              clear h2 HE z10 z11 hw10 hw11
              go_wp2_with fail
              refine (hn1 _).mono ?_
              rintro e w1 ⟨rfl, hw1⟩
              have gw1 := hw1
              obtain ⟨p1w1, p3w1, p4w1, p12w1, p13w1⟩ := HL.out _ gw1
              clear x1 x3 x4 x12 x13
              clear hn1
              go_wp2
              go_ret
              exact ⟨(congrArg (fun z => Ending.returned (.bool z)) HX.out).symm, hb.trans (gw1.mono hb.size)⟩
            · have r10 : (u10 == 0) = true := by rw [z10]; rfl
              have r11 : (u11 == 0) = false := beq_false_of_ne z11
              rw [decide_eq_true z10, decide_eq_false z11] at h2
              clear z10 z11
              cases i
              · have HX := Lib.hid (show X = false from by rw [h2]; simp)
                clear h2 HE hw11
                go_wp2_with fail
                refine (hn1 _).mono ?_
                rintro e w1 ⟨rfl, hw1⟩
                have gw1 := hw1
                obtain ⟨p1w1, p3w1, p4w1, p12w1, p13w1⟩ := HL.out _ gw1
                clear x1 x3 x4 x12 x13
                clear hn1
                go_wp2_with fail
                refine (hw10 _).mono ?_
                rintro e w2 ⟨rfl, hw2⟩
                have gw2 := gw1.trans (hw2.mono gw1.size)
                obtain ⟨p1w2, p3w2, p4w2, p12w2, p13w2⟩ := HL.out _ gw2
                go_wp2
                go_ret
                exact ⟨(congrArg (fun z => Ending.returned (.bool z)) HX.out).symm, hb.trans (gw2.mono hb.size)⟩
              · cases m
                · have HX := Lib.hid (show X = false from by rw [h2]; simp)
                  clear h2 HE
                  go_wp2_with fail
                  refine (hn1 _).mono ?_
                  rintro e w1 ⟨rfl, hw1⟩
                  have gw1 := hw1
                  obtain ⟨p1w1, p3w1, p4w1, p12w1, p13w1⟩ := HL.out _ gw1
                  clear x1 x3 x4 x12 x13
                  clear hn1
                  go_wp2_with fail
                  refine (hw10 _).mono ?_
                  rintro e w2 ⟨rfl, hw2⟩
                  have gw2 := gw1.trans (hw2.mono gw1.size)
                  obtain ⟨p1w2, p3w2, p4w2, p12w2, p13w2⟩ := HL.out _ gw2
                  go_wp2_with fail
                  refine (hw11 _).mono ?_
                  rintro e w3 ⟨rfl, hw3⟩
                  have gw3 := gw2.trans (hw3.mono gw2.size)
                  obtain ⟨p1w3, p3w3, p4w3, p12w3, p13w3⟩ := HL.out _ gw3
                  go_wp2
                  go_ret
                  exact ⟨(congrArg (fun z => Ending.returned (.bool z)) HX.out).symm, hb.trans (gw3.mono hb.size)⟩
                · obtain ⟨y, hy⟩ : ∃ y, decide (u10 < u11) = y := ⟨_, rfl⟩
                  rw [hy] at h2
                  have HX := Lib.hid (show X = y from by rw [h2]; simp)
                  clear h2 HE
                  go_wp2_with fail
                  refine (hn1 _).mono ?_
                  rintro e w1 ⟨rfl, hw1⟩
                  have gw1 := hw1
                  obtain ⟨p1w1, p3w1, p4w1, p12w1, p13w1⟩ := HL.out _ gw1
                  clear x1 x3 x4 x12 x13
                  clear hn1
                  go_wp2_with fail
                  refine (hw10 _).mono ?_
                  rintro e w2 ⟨rfl, hw2⟩
                  have gw2 := gw1.trans (hw2.mono gw1.size)
                  obtain ⟨p1w2, p3w2, p4w2, p12w2, p13w2⟩ := HL.out _ gw2
                  go_wp2_with fail
                  refine (hw11 _).mono ?_
                  rintro e w3 ⟨rfl, hw3⟩
                  have gw3 := gw2.trans (hw3.mono gw2.size)
                  obtain ⟨p1w3, p3w3, p4w3, p12w3, p13w3⟩ := HL.out _ gw3
                  go_wp2
                  go_ret
                  exact ⟨(congrArg (fun z => Ending.returned (.bool z)) HX.out).symm, hb.trans (gw3.mono hb.size)⟩
          · have r10 : (u10 == 0) = false := beq_false_of_ne z10
            rw [decide_eq_false z10] at h2
            clear z10
            cases i
            · have HX := Lib.hid (show X = false from by rw [h2]; simp)
              clear h2 HE hw11
              go_wp2_with fail
              refine (hn1 _).mono ?_
              rintro e w1 ⟨rfl, hw1⟩
              have gw1 := hw1
              obtain ⟨p1w1, p3w1, p4w1, p12w1, p13w1⟩ := HL.out _ gw1
              clear x1 x3 x4 x12 x13
              clear hn1
              go_wp2_with fail
              refine (hw10 _).mono ?_
              rintro e w2 ⟨rfl, hw2⟩
              have gw2 := gw1.trans (hw2.mono gw1.size)
              obtain ⟨p1w2, p3w2, p4w2, p12w2, p13w2⟩ := HL.out _ gw2
              go_wp2
              go_ret
              exact ⟨(congrArg (fun z => Ending.returned (.bool z)) HX.out).symm, hb.trans (gw2.mono hb.size)⟩
            · cases m
              · have HX := Lib.hid (show X = false from by rw [h2]; simp)
                clear h2 HE
                go_wp2_with fail
                refine (hn1 _).mono ?_
                rintro e w1 ⟨rfl, hw1⟩
                have gw1 := hw1
                obtain ⟨p1w1, p3w1, p4w1, p12w1, p13w1⟩ := HL.out _ gw1
                clear x1 x3 x4 x12 x13
                clear hn1
                go_wp2_with fail
                refine (hw10 _).mono ?_
                rintro e w2 ⟨rfl, hw2⟩
                have gw2 := gw1.trans (hw2.mono gw1.size)
                obtain ⟨p1w2, p3w2, p4w2, p12w2, p13w2⟩ := HL.out _ gw2
                go_wp2_with fail
                refine (hw11 _).mono ?_
                rintro e w3 ⟨rfl, hw3⟩
                have gw3 := gw2.trans (hw3.mono gw2.size)
                obtain ⟨p1w3, p3w3, p4w3, p12w3, p13w3⟩ := HL.out _ gw3
                go_wp2
                go_ret
                exact ⟨(congrArg (fun z => Ending.returned (.bool z)) HX.out).symm, hb.trans (gw3.mono hb.size)⟩
              · obtain ⟨y, hy⟩ : ∃ y, decide (u10 < u11) = y := ⟨_, rfl⟩
                rw [hy] at h2
                have HX := Lib.hid (show X = y from by rw [h2]; simp)
                clear h2 HE
                go_wp2_with fail
                refine (hn1 _).mono ?_
                rintro e w1 ⟨rfl, hw1⟩
                have gw1 := hw1
                obtain ⟨p1w1, p3w1, p4w1, p12w1, p13w1⟩ := HL.out _ gw1
                clear x1 x3 x4 x12 x13
                clear hn1
                go_wp2_with fail
                refine (hw10 _).mono ?_
                rintro e w2 ⟨rfl, hw2⟩
                have gw2 := gw1.trans (hw2.mono gw1.size)
                obtain ⟨p1w2, p3w2, p4w2, p12w2, p13w2⟩ := HL.out _ gw2
                go_wp2_with fail
                refine (hw11 _).mono ?_
                rintro e w3 ⟨rfl, hw3⟩
                have gw3 := gw2.trans (hw3.mono gw2.size)
                obtain ⟨p1w3, p3w3, p4w3, p12w3, p13w3⟩ := HL.out _ gw3
                go_wp2
                go_ret
                exact ⟨(congrArg (fun z => Ending.returned (.bool z)) HX.out).symm, hb.trans (gw3.mono hb.size)⟩
        · have r12 : decide (u2 ≤ u1) = true := decide_eq_true (by omega)
          rw [decide_eq_false hlt] at h2
          have HX := Lib.hid (show X = false from by rw [h2]; simp)
          clear h2 HE hlt hw10 hw11
          go_wp2_with fail
          refine (hn1 _).mono ?_
          rintro e w1 ⟨rfl, hw1⟩
          have gw1 := hw1
          obtain ⟨p1w1, p3w1, p4w1, p12w1, p13w1⟩ := HL.out _ gw1
          clear x1 x3 x4 x12 x13
          clear hn1
          go_wp2
          go_ret
          exact ⟨(congrArg (fun z => Ending.returned (.bool z)) HX.out).symm, hb.trans (gw1.mono hb.size)⟩
theorem chan_any (c : Ch) (w : World) (hn : c.name.length ≤ 100000) :
    Calls Tryz.prog 27 #[chV c] w fun e w' => e = .returned (.bool (chB c)) ∧ Below w.heap.size w w' := by
  by_cases h : wordB c.name = true ∧ 0 ≤ c.chart ∧ c.chart ≤ 7
  · obtain ⟨h1, h2, h3⟩ := h
    exact chan_main c c.chart.toNat w hn h1 (by omega) (by omega)
  · exact chan_early c w hn h
end Go.Proofs.YtdimgomigidbkaaGreatDoor
/- Rows of channels, read; the reference of stage 8: are two recipes the same, may one be? -/
namespace Go.Proofs.YtdimgomigidbkaaGreatDoor
open Go.RowKit

def ch0 : Ch := ⟨[], 0, fun _ => 0⟩
def nthC (l : List Ch) (i : Nat) : Ch := l.getD i ch0
theorem nthC_get (l : List Ch) (i : Nat) (h : i < l.length) : nthC l i = l[i]'h := by
  unfold nthC
  rw [List.getD_eq_getElem?_getD, List.getElem?_eq_getElem h]
  rfl
/-- A channel's cells, at an address. -/
structure ChAt (w : World) (b o : Nat) (c : Ch) : Prop where
  c0 : w.cell? ⟨b, o, none⟩ = some (.string (bs c.name))
  c1 : w.cell? ⟨b, o + 1, none⟩ = some (.int .i64 c.chart)
  c2 : w.cell? ⟨b, o + 2, none⟩ = some (.int .i64 (c.f 0))
  c3 : w.cell? ⟨b, o + 3, none⟩ = some (.int .i64 (c.f 1))
  c4 : w.cell? ⟨b, o + 4, none⟩ = some (.int .i64 (c.f 2))
  c5 : w.cell? ⟨b, o + 5, none⟩ = some (.int .i64 (c.f 3))
  c6 : w.cell? ⟨b, o + 6, none⟩ = some (.int .i64 (c.f 4))
  c7 : w.cell? ⟨b, o + 7, none⟩ = some (.int .i64 (c.f 5))
  c8 : w.cell? ⟨b, o + 8, none⟩ = some (.int .i64 (c.f 6))
  c9 : w.cell? ⟨b, o + 9, none⟩ = some (.int .i64 (c.f 7))
  c10 : w.cell? ⟨b, o + 10, none⟩ = some (.int .i64 (c.f 8))
  c11 : w.cell? ⟨b, o + 11, none⟩ = some (.int .i64 (c.f 9))
  c12 : w.cell? ⟨b, o + 12, none⟩ = some (.int .i64 (c.f 10))
  c13 : w.cell? ⟨b, o + 13, none⟩ = some (.int .i64 (c.f 11))
theorem ChAt.below {w w' : World} {b o B : Nat} {c : Ch} (h : ChAt w b o c) (hb : Below B w w') (hB : b < B) : ChAt w' b o c :=
  ⟨(hb.cell hB).trans h.c0, (hb.cell hB).trans h.c1, (hb.cell hB).trans h.c2, (hb.cell hB).trans h.c3, (hb.cell hB).trans h.c4, (hb.cell hB).trans h.c5, (hb.cell hB).trans h.c6, (hb.cell hB).trans h.c7, (hb.cell hB).trans h.c8, (hb.cell hB).trans h.c9, (hb.cell hB).trans h.c10, (hb.cell hB).trans h.c11, (hb.cell hB).trans h.c12, (hb.cell hB).trans h.c13⟩
/-- A slice value that reads as these channels. -/
def ReadsC (w : World) (v : Value) (l : List Ch) : Prop :=
  ∃ ao cap, v = .slice ao l.length cap ∧ l.length ≤ cap ∧ cap ≤ maxLen ∧ ∀ i, i < l.length → ∃ b off, ao = some ⟨b, off, none⟩ ∧ b < w.heap.size ∧ ChAt w b (off + i * 14) (nthC l i)
theorem ReadsC.below {w w' : World} {v : Value} {l : List Ch} (h : ReadsC w v l) (hb : Below w.heap.size w w') : ReadsC w' v l := by
  obtain ⟨ao, cap, h1, h2, h3, h4⟩ := h
  refine ⟨ao, cap, h1, h2, h3, fun i hi => ?_⟩
  obtain ⟨b, off, h5, h6, h7⟩ := h4 i hi
  exact ⟨b, off, h5, Nat.lt_of_lt_of_le h6 hb.size, h7.below hb h6⟩
theorem ReadsC.nil (w : World) : ReadsC w (.slice none 0 0) [] := ⟨none, 0, rfl, Nat.le_refl _, Nat.zero_le _, fun _ hi => absurd hi (Nat.not_lt_zero _)⟩
theorem eqChan (s : ByteArray) (q f0 f1 f2 f3 f4 f5 f6 f7 f8 f9 f10 f11 : Int) (w : World) : (Op.equalIn 10000 37 (.agg #[.string s, .int .i64 q, .int .i64 f0, .int .i64 f1, .int .i64 f2, .int .i64 f3, .int .i64 f4, .int .i64 f5, .int .i64 f6, .int .i64 f7, .int .i64 f8, .int .i64 f9, .int .i64 f10, .int .i64 f11]) (.agg #[.string s, .int .i64 q, .int .i64 f0, .int .i64 f1, .int .i64 f2, .int .i64 f3, .int .i64 f4, .int .i64 f5, .int .i64 f6, .int .i64 f7, .int .i64 f8, .int .i64 f9, .int .i64 f10, .int .i64 f11])).run Tryz.prog w = .ok true w := by
  go_simp
/-- A round of a loop over a recipe that lies in a block of the call's own. -/
def BoxRel (n : Nat) (w : World) (bs : List (Nat × Value)) (i : Value) (wr : World) : Prop := ∃ k : Nat, k ≤ n ∧ i = .int .i64 (k : Nat) ∧ Below w.heap.size w wr ∧ ∀ x ∈ bs, Has wr x.1 [x.2] 24
set_option maxHeartbeats 1000000 in
set_option maxRecDepth 100000 in
theorem sameC_any (l : List Ch) (va vb : Value) (w : World) (hm : l.length ≤ 100000) (ha : ReadsC w va l) (hb : ReadsC w vb l) :
    Calls Tryz.prog 11 #[.agg #[va], .agg #[vb]] w fun e w' => e = .returned (.bool true) ∧ Below w.heap.size w w' := by
  have heq := eqChan
  obtain ⟨a1, p1, rfl, hl1, hm1, hc1⟩ := ha
  obtain ⟨a2, p2, rfl, hl2, hm2, hc2⟩ := hb
  unfold maxLen at hm1 hm2
  have HA := Lib.hid hc1
  have HB := Lib.hid hc2
  clear hc1 hc2
  obtain ⟨n, hn⟩ : ∃ n, l.length = n := ⟨_, rfl⟩
  have HN := Lib.hid hn
  rw [hn] at hm hl1 hl2 ⊢
  clear hn
  have h0 := (Has.new w [.slice a1 n p1] 24).alloc (.cells #[.slice a2 n p2] 24)
  have h1 := Has.new (w.alloc (.cells #[.slice a1 n p1] 24)) [.slice a2 n p2] 24
  rw [show (w.alloc (.cells #[.slice a1 n p1] 24)).heap.size = w.heap.size + 1 by simp] at h1
  have hB := ((Below.refl w.heap.size w).alloc (Nat.le_refl _) (.cells #[.slice a1 n p1] 24)).alloc (by simp) (.cells #[.slice a2 n p2] 24)
  go_enter Tryz.func11, Tryz.ntmps11
  go_wp2
  go_loopw [16] (BoxRel n w [(w.heap.size, .slice a1 n p1), (w.heap.size + 1, .slice a2 n p2)]) (fun i _ => n - (intOf i).toNat)
  case atStart => exact ⟨0, Nat.zero_le _, rfl, hB, fun x hx => by
    simp only [List.mem_cons, List.not_mem_nil, or_false] at hx
    rcases hx with rfl | rfl
    · exact h0
    · exact h1⟩
  case round =>
    obtain ⟨k, hk, rfl, hb, hx⟩ := hrel
    have g0 := hx _ (List.mem_cons_self)
    have g1 := hx _ (List.mem_cons_of_mem _ List.mem_cons_self)
    have d0 : wr.cell? ⟨w.heap.size, 0, none⟩ = some (.slice a1 n p1) := g0.cell 0
    have d1 : wr.cell? ⟨w.heap.size + 1, 0, none⟩ = some (.slice a2 n p2) := g1.cell 0
    clear h0 h1 hB
    by_cases hl : k < n
    · obtain ⟨b1, o1, rfl, hlt1, hd1⟩ := HA.out k (by rw [HN.out]; exact hl)
      obtain ⟨b2, o2, rfl, hlt2, hd2⟩ := HB.out k (by rw [HN.out]; exact hl)
      obtain ⟨x0, x1, x2, x3, x4, x5, x6, x7, x8, x9, x10, x11, x12, x13⟩ := hd1.below hb hlt1
      obtain ⟨y0, y1, y2, y3, y4, y5, y6, y7, y8, y9, y10, y11, y12, y13⟩ := hd2.below hb hlt2
      have HX := Lib.hid hx
      clear hd1 hd2 HA HB hx g0 g1
      generalize nthC l k = c at x0 x1 x2 x3 x4 x5 x6 x7 x8 x9 x10 x11 x12 x13 y0 y1 y2 y3 y4 y5 y6 y7 y8 y9 y10 y11 y12 y13
      obtain ⟨cn, cc, f⟩ := c
      dsimp only at x0 x1 x2 x3 x4 x5 x6 x7 x8 x9 x10 x11 x12 x13 y0 y1 y2 y3 y4 y5 y6 y7 y8 y9 y10 y11 y12 y13
      generalize f 0 = f0 at x2 y2
      generalize f 1 = f1 at x3 y3
      generalize f 2 = f2 at x4 y4
      generalize f 3 = f3 at x5 y5
      generalize f 4 = f4 at x6 y6
      generalize f 5 = f5 at x7 y7
      generalize f 6 = f6 at x8 y8
      generalize f 7 = f7 at x9 y9
      generalize f 8 = f8 at x10 y10
      generalize f 9 = f9 at x11 y11
      generalize f 10 = f10 at x12 y12
      generalize f 11 = f11 at x13 y13
      have he := heq (bs cn) cc f0 f1 f2 f3 f4 f5 f6 f7 f8 f9 f10 f11
      clear heq
      go_wp2
      go_quiet (fail)
      go_wp2
      go_roundw
      case rel => exact ⟨k + 1, hl, by go_num, hb.trans ⟨rfl, rfl, rfl, Nat.le_refl _, fun _ _ => rfl⟩, fun x h => (HX.out x h).call ⟨rfl, rfl, rfl, Nat.le_refl _, fun _ _ => rfl⟩⟩
      case measure => simp [intOf]; omega
    · clear HA HB hx
      go_wp2
      go_ret
      exact ⟨rfl, hb⟩
end Go.Proofs.YtdimgomigidbkaaGreatDoor
/- Stage 8's code: rows of fields, searches, closures. -/
namespace Go.Proofs.YtdimgomigidbkaaGreatDoor
open Go.RowKit

def foundI (l : List Int) (x : Int) : Option Nat := l.findIdx? (· == x)
theorem foundI_at {l : List Int} {x : Int} {k : Nat} (hk : k < l.length) (h1 : l.getD k 0 = x) (h2 : ∀ j, j < k → l.getD j 0 ≠ x) : foundI l x = some k := by
  unfold foundI
  rw [List.findIdx?_eq_some_iff_getElem]
  have ge : ∀ j (hj : j < l.length), l.getD j 0 = l[j] := fun j hj => by rw [List.getD_eq_getElem?_getD, List.getElem?_eq_getElem hj]; rfl
  refine ⟨hk, by rw [← ge k hk, h1]; exact beq_self_eq_true x, fun j hj => ?_⟩
  have := h2 j hj
  rw [ge j (by omega)] at this
  simpa using this
theorem foundI_none {l : List Int} {x : Int} (h : ∀ j, j < l.length → l.getD j 0 ≠ x) : foundI l x = none := by
  unfold foundI
  rw [List.findIdx?_eq_none_iff]
  intro y hy
  obtain ⟨j, hj, rfl⟩ := List.getElem_of_mem hy
  have := h j hj
  rw [List.getD_eq_getElem?_getD, List.getElem?_eq_getElem hj] at this
  simpa using this
def FindRelI (l : List Int) (x : Int) (n : Nat) (i : Value) : Prop := ∃ k : Nat, k ≤ n ∧ i = .int .i64 (k : Nat) ∧ ∀ j, j < k → l.getD j 0 ≠ x
theorem indexI_any (l : List Int) (v : Value) (x : Int) (w : World) (hr : ReadsI w v l) (hm : l.length ≤ 1000) :
    Calls Tryz.prog 103 #[v, .int .i64 x] w fun e w' => e = .returned (.int .i64 (found (foundI l x))) ∧ w = w' := by
  obtain ⟨ao, cap, rfl, hlc, hcm, hc⟩ := hr
  unfold maxLen at hcm
  have HC := Lib.hid hc
  obtain ⟨n, hn⟩ : ∃ n, l.length = n := ⟨_, rfl⟩
  have HN := Lib.hid hn
  obtain ⟨R, hR⟩ : ∃ R, found (foundI l x) = R := ⟨_, rfl⟩
  have HR := Lib.hid hR
  rw [hR]
  rw [hn] at hlc hm ⊢
  clear hn hc hR
  go_enter Tryz.func103, Tryz.ntmps103
  go_wp2
  go_loop [8] (FindRelI l x n) (fun i => n - (intOf i).toNat)
  case atStart => exact ⟨0, Nat.zero_le _, rfl, fun j hj => absurd hj (Nat.not_lt_zero _)⟩
  case round =>
    obtain ⟨k, hk, rfl, hno⟩ := hrel
    have HNO := Lib.hid hno
    clear hno
    by_cases hl : k < n
    · obtain ⟨b, off, rfl, hlt, hcell⟩ := HC.out k (by rw [HN.out]; exact hl)
      by_cases he : l.getD k 0 = x
      · have hf := foundI_at (by rw [HN.out]; exact hl) he HNO.out
        have e1 : R = (k : Int) := by rw [← HR.out, hf]; rfl
        have HE1 := Lib.hid e1
        rw [he] at hcell
        clear hf he e1
        go_wp2
        go_ret
        exact ⟨(congrArg (fun z => Ending.returned (.int .i64 z)) HE1.out).symm, rfl⟩
      · have HNO2 := Lib.hid (show ∀ j, j < k + 1 → l.getD j 0 ≠ x from fun j hj => by
          by_cases c : j = k
          · rw [c]; exact he
          · exact HNO.out j (by omega))
        have heq : (x == l.getD k 0) = false := beq_false_of_ne (fun e => he e.symm)
        clear he
        generalize l.getD k 0 = u at hcell heq
        go_wp2
        go_round
        case rel => exact ⟨k + 1, hl, by go_num, HNO2.out⟩
        case measure => simp [intOf]; omega
    · have hf := foundI_none (l := l) (x := x) fun j hj => HNO.out j (by rw [HN.out] at hj; omega)
      have e1 : R = -1 := by rw [← HR.out, hf]; rfl
      have HE1 := Lib.hid e1
      clear hf e1 HC
      go_wp2
      go_ret
      exact ⟨(congrArg (fun z => Ending.returned (.int .i64 z)) HE1.out).symm, rfl⟩
theorem foundI_mem (l : List Int) (x : Int) : decide (0 ≤ found (foundI l x)) = l.contains x := by
  cases h : foundI l x with
  | none =>
    have h2 : ∀ y ∈ l, (y == x) = false := List.findIdx?_eq_none_iff.1 h
    rw [show found none = -1 from rfl, decide_eq_false (by omega)]
    symm
    rw [List.contains_eq_any_beq, List.any_eq_false]
    intro y hy e
    have := h2 y hy
    rw [eq_of_beq e] at this
    simp at this
  | some k =>
    obtain ⟨hk, h1, -⟩ := List.findIdx?_eq_some_iff_getElem.1 h
    rw [show found (some k) = (k : Int) from rfl, decide_eq_true (by omega)]
    symm
    rw [List.contains_iff_mem]
    have := eq_of_beq h1
    rw [← this]
    exact List.getElem_mem hk
theorem containsI_any (l : List Int) (v : Value) (x : Int) (w : World) (hr : ReadsI w v l) (hm : l.length ≤ 1000) :
    Calls Tryz.prog 96 #[v, .int .i64 x] w fun e w' => e = .returned (.bool (l.contains x)) ∧ w = w' := by
  have hi := indexI_any l v x w hr hm
  have hf := foundI_mem l x
  rw [← hf]
  clear hf
  generalize found (foundI l x) = z at hi
  go_enter Tryz.func96, Tryz.ntmps96
  go_wp2_with fail
  refine hi.mono ?_
  rintro e w1 ⟨rfl, rfl⟩
  go_wp2
  go_ret
  exact ⟨by simp, rfl⟩
/-- slices.Index of texts. -/
theorem indexS_any (ws : List (List UInt8)) (v : Value) (s : List UInt8) (w : World) (hr : ReadsS w v ws) (hm : ws.length ≤ 1000) :
    Calls Tryz.prog 89 #[v, .string (bs s)] w fun e w' => e = .returned (.int .i64 (found (findW ws s))) ∧ w = w' := by
  obtain ⟨b, off, cap, rfl, hlc, hcm, hlt, hc⟩ := hr
  unfold maxLen at hcm
  have HC := Lib.hid hc
  obtain ⟨n, hn⟩ : ∃ n, ws.length = n := ⟨_, rfl⟩
  have HN := Lib.hid hn
  obtain ⟨R, hR⟩ : ∃ R, found (findW ws s) = R := ⟨_, rfl⟩
  have HR := Lib.hid hR
  rw [hR]
  rw [hn] at hlc hm ⊢
  clear hn hc hR
  have hsz := bs_size s
  go_enter Tryz.func89, Tryz.ntmps89
  go_wp2
  go_loop [8] (FindRel ws s n) (fun i => n - (intOf i).toNat)
  case atStart => exact ⟨0, Nat.zero_le _, rfl, fun j hj => absurd hj (Nat.not_lt_zero _)⟩
  case round =>
    obtain ⟨k, hk, rfl, hno⟩ := hrel
    have HNO := Lib.hid hno
    clear hno
    by_cases hl : k < n
    · have hcell := HC.out k (by rw [HN.out]; exact hl)
      by_cases he : ws.getD k [] = s
      · have hf := findW_at (by rw [HN.out]; exact hl) he HNO.out
        have e1 : R = (k : Int) := by rw [← HR.out, hf]; rfl
        have HE1 := Lib.hid e1
        have heq : ((bs s).toList == (bs (ws.getD k [])).toList) = true := by rw [he]; exact beq_self_eq_true _
        clear hf he e1
        generalize ws.getD k [] = u at hcell heq
        go_wp2
        go_ret
        exact ⟨(congrArg (fun z => Ending.returned (.int .i64 z)) HE1.out).symm, rfl⟩
      · have HNO2 := Lib.hid (show ∀ j, j < k + 1 → ws.getD j [] ≠ s from fun j hj => by
          by_cases c : j = k
          · rw [c]; exact he
          · exact HNO.out j (by omega))
        have heq : ((bs s).toList == (bs (ws.getD k [])).toList) = false := by rw [bs_toList, bs_toList]; exact beq_false_of_ne (fun e => he e.symm)
        clear he
        generalize ws.getD k [] = u at hcell heq
        go_wp2
        go_round
        case rel => exact ⟨k + 1, hl, by go_num, HNO2.out⟩
        case measure => simp [intOf]; omega
    · have hf := findW_none (ws := ws) (s := s) fun j hj => HNO.out j (by rw [HN.out] at hj; omega)
      have e1 : R = -1 := by rw [← HR.out, hf]; rfl
      have HE1 := Lib.hid e1
      clear hf e1
      go_wp2
      go_ret
      exact ⟨(congrArg (fun z => Ending.returned (.int .i64 z)) HE1.out).symm, rfl⟩

/-! ### Rows of fields -/
def nCh (r : Nat) : Nat := (rCh r).length
/-- A field's cells, at an address; cv: the blocks of charts. -/
structure FldAt (w : World) (cv : Nat → Nat) (b o r : Nat) : Prop where
  c0 : w.cell? ⟨b, o, none⟩ = some (.string (bs (rowW r)))
  c1 : w.cell? ⟨b, o + 1, none⟩ = some (.int .i64 (rLo r))
  c2 : w.cell? ⟨b, o + 2, none⟩ = some (.int .i64 (rHi r))
  c3 : w.cell? ⟨b, o + 3, none⟩ = some (.slice (some ⟨cv r, 0, none⟩) (nCh r) (nCh r))
  c4 : w.cell? ⟨b, o + 4, none⟩ = some (.bool (rNeed r))
def fldL (cv : Nat → Nat) (r : Nat) : List Value := [.string (bs (rowW r)), .int .i64 (rLo r), .int .i64 (rHi r), .slice (some ⟨cv r, 0, none⟩) (nCh r) (nCh r), .bool (rNeed r)]
def fldV (cv : Nat → Nat) (r : Nat) : Value := .agg #[.string (bs (rowW r)), .int .i64 (rLo r), .int .i64 (rHi r), .slice (some ⟨cv r, 0, none⟩) (nCh r) (nCh r), .bool (rNeed r)]
theorem FldAt.below {w w' : World} {cv : Nat → Nat} {b o r B : Nat} (h : FldAt w cv b o r) (hb : Below B w w') (hB : b < B) : FldAt w' cv b o r :=
  ⟨(hb.cell hB).trans h.c0, (hb.cell hB).trans h.c1, (hb.cell hB).trans h.c2, (hb.cell hB).trans h.c3, (hb.cell hB).trans h.c4⟩
theorem FldAt.of {w w' : World} {cv : Nat → Nat} {b o r : Nat} (h : FldAt w cv b o r) (e : w'.heap[b]? = w.heap[b]?) : FldAt w' cv b o r := by
  have : ∀ i, w'.cell? ⟨b, i, none⟩ = w.cell? ⟨b, i, none⟩ := fun i => World.cell?_of_block (a := ⟨b, i, none⟩) e
  exact ⟨(this _).trans h.c0, (this _).trans h.c1, (this _).trans h.c2, (this _).trans h.c3, (this _).trans h.c4⟩
/-- A slice of fields. -/
def ReadsF (w : World) (cv : Nat → Nat) (v : Value) (l : List Nat) : Prop :=
  ∃ ao cap, v = .slice ao l.length cap ∧ l.length ≤ cap ∧ cap ≤ maxLen ∧ ∀ i, i < l.length → ∃ b off, ao = some ⟨b, off, none⟩ ∧ b < w.heap.size ∧ FldAt w cv b (off + i * 5) (l.getD i 0)
theorem ReadsF.below {w w' : World} {cv : Nat → Nat} {v : Value} {l : List Nat} (h : ReadsF w cv v l) (hb : Below w.heap.size w w') : ReadsF w' cv v l := by
  obtain ⟨ao, cap, h1, h2, h3, h4⟩ := h
  refine ⟨ao, cap, h1, h2, h3, fun i hi => ?_⟩
  obtain ⟨b, off, h5, h6, h7⟩ := h4 i hi
  exact ⟨b, off, h5, Nat.lt_of_lt_of_le h6 hb.size, h7.below hb h6⟩
theorem ReadsF.nil (cv : Nat → Nat) (w : World) : ReadsF w cv (.slice none 0 0) [] := ⟨none, 0, rfl, Nat.le_refl _, Nat.zero_le _, fun _ hi => absurd hi (Nat.not_lt_zero _)⟩
/-- Only one block below, and new ones, may have been written. -/
def WB (b : Nat) (w w' : World) : Prop := w.grownBy w' (some b)
theorem WB.refl (b : Nat) (w : World) : WB b w w := ⟨rfl, rfl, rfl, Nat.le_refl _, fun _ _ _ => rfl⟩
theorem WB.trans {b : Nat} {x y z : World} (h : WB b x y) (k : WB b y z) : WB b x z :=
  ⟨k.os.trans h.os, k.tape.trans h.tape, k.output.trans h.output, Nat.le_trans h.size k.size, fun i hi hx => (k.block i (Nat.lt_of_lt_of_le hi h.size) hx).trans (h.block i hi hx)⟩
theorem WB.of {b : Nat} {x y : World} (h : Below x.heap.size x y) : WB b x y := ⟨h.os, h.tape, h.output, h.size, fun i hi _ => h.block i hi⟩
theorem WB.call {b : Nat} {x y z : World} (h : WB b x y) (k : Below y.heap.size y z) : WB b x z := h.trans (WB.of k)
theorem WB.alloc {b : Nat} {x y : World} (h : WB b x y) (o : Obj) : WB b x (y.alloc o) := h.call ((Below.refl _ _).alloc (Nat.le_refl _) _)
theorem WB.set {b : Nat} (w : World) (i : Nat) (v : Value) : WB b w (w.setCell ⟨b, i, none⟩ v) := ⟨rfl, rfl, rfl, by simp, fun k _ hk => Below.heap_setCell _ _ _ _ (fun e => hk (by rw [e]))⟩
/-- A store into a block that is new since x. -/
theorem WB.own {b : Nat} {x y : World} (h : WB b x y) {c : Nat} (hc : x.heap.size ≤ c) (i : Nat) (v : Value) : WB b x (y.setCell ⟨c, i, none⟩ v) :=
  ⟨h.os, h.tape, h.output, by have := h.size; simpa using this, fun k hk hx => (Below.heap_setCell _ _ _ _ (show k ≠ c by omega)).trans (h.block k hk hx)⟩
theorem WB.has {b k : Nat} {w w' : World} {cs : List Value} {T : TypeId} (h : WB b w w') (hk : k ≠ b) (hh : Has w k cs T) : Has w' k cs T := hh.of (h.block k hh.lt (by simpa using hk))
theorem WB.low {b B : Nat} {w w' : World} (h : WB b w w') (hB : B ≤ b) (hs : B ≤ w.heap.size) : Below B w w' := ⟨h.os, h.tape, h.output, h.size, fun k hk => h.block k (by omega) (by simp; omega)⟩
theorem ReadsF.kept {w w' : World} {cv : Nat → Nat} {v : Value} {l : List Nat} {b : Nat} (h : ReadsF w cv v l) (hb : WB b w w') (hne : v.ownBlock ≠ some b) : ReadsF w' cv v l := by
  obtain ⟨ao, cap, rfl, h2, h3, h4⟩ := h
  refine ⟨ao, cap, rfl, h2, h3, fun i hi => ?_⟩
  obtain ⟨c, off, rfl, h6, h7⟩ := h4 i hi
  have hcb : c ≠ b := fun e => hne (by rw [e]; rfl)
  exact ⟨c, off, rfl, Nat.lt_of_lt_of_le h6 hb.size, h7.of (hb.block c h6 (by simpa using hcb))⟩

/-! ### A predicate on fields -/
/-- What a function value answers of a field, in whatever world is met. -/
def PredF (g : Nat) (lb : Array Value) (cv : Nat → Nat) (p : Nat → Bool) (K : World → Prop) : Prop :=
  ∀ (r : Nat) (W : World), r < 13 → K W → Calls Tryz.prog g (#[fldV cv r] ++ lb) W fun e w' => e = .returned (.bool (p r)) ∧ Below W.heap.size W w'
structure Stay (K : World → Prop) (b : Nat) : Prop where
  call : ∀ W W', K W → Below W.heap.size W W' → K W'
  own : ∀ W i v, K W → K (W.setCell ⟨b, i, none⟩ v)
def foundF (l : List Nat) (p : Nat → Bool) : Option Nat := l.findIdx? p
theorem foundF_at {l : List Nat} {p : Nat → Bool} {k : Nat} (hk : k < l.length) (h1 : p (l.getD k 0) = true) (h2 : ∀ j, j < k → p (l.getD j 0) = false) : foundF l p = some k := by
  unfold foundF
  rw [List.findIdx?_eq_some_iff_getElem]
  have ge : ∀ j (hj : j < l.length), l.getD j 0 = l[j] := fun j hj => by rw [List.getD_eq_getElem?_getD, List.getElem?_eq_getElem hj]; rfl
  refine ⟨hk, by rw [← ge k hk, h1], fun j hj => ?_⟩
  have := h2 j hj
  rw [ge j (by omega)] at this
  rw [this]; decide
theorem foundF_none {l : List Nat} {p : Nat → Bool} (h : ∀ j, j < l.length → p (l.getD j 0) = false) : foundF l p = none := by
  unfold foundF
  rw [List.findIdx?_eq_none_iff]
  intro y hy
  obtain ⟨j, hj, rfl⟩ := List.getElem_of_mem hy
  have := h j hj
  rw [List.getD_eq_getElem?_getD, List.getElem?_eq_getElem hj] at this
  exact this
def FindRelF (l : List Nat) (p : Nat → Bool) (n : Nat) (w : World) (i : Value) (wr : World) : Prop := ∃ k : Nat, k ≤ n ∧ i = .int .i64 (k : Nat) ∧ (∀ j, j < k → p (l.getD j 0) = false) ∧ Below w.heap.size w wr
set_option maxHeartbeats 1000000 in
theorem indexF_any (l : List Nat) (cv : Nat → Nat) (v : Value) (g : Nat) (lb : Array Value) (p : Nat → Bool) (K : World → Prop) (w : World) (eg : ∀ args w, (callFunc g args).run Tryz.prog w = .ok (.enter g args) w)
    (hr : ReadsF w cv v l) (hm : l.length ≤ 1000) (hl : ∀ r ∈ l, r < 13) (hp : PredF g lb cv p K) (hK : ∀ W, Below w.heap.size w W → K W) :
    Calls Tryz.prog 93 #[v, .func (.func g) #[] lb] w fun e w' => e = .returned (.int .i64 (found (foundF l p))) ∧ Below w.heap.size w w' := by
  obtain ⟨ao, cap, rfl, hlc, hcm, hc⟩ := hr
  unfold maxLen at hcm
  have HC := Lib.hid hc
  obtain ⟨n, hn⟩ : ∃ n, l.length = n := ⟨_, rfl⟩
  have HN := Lib.hid hn
  have HL := Lib.hid hl
  obtain ⟨R, hR⟩ : ∃ R, found (foundF l p) = R := ⟨_, rfl⟩
  have HR := Lib.hid hR
  rw [hR]
  rw [hn] at hlc hm ⊢
  clear hn hc hR hl
  go_enter Tryz.func93, Tryz.ntmps93
  go_wp2
  go_loopw [8] (FindRelF l p n w) (fun i _ => n - (intOf i).toNat)
  case atStart => exact ⟨0, Nat.zero_le _, rfl, fun j hj => absurd hj (Nat.not_lt_zero _), Below.refl _ _⟩
  case round =>
    obtain ⟨k, hk, rfl, hno, hb⟩ := hrel
    have HNO := Lib.hid hno
    clear hno
    by_cases hl : k < n
    · obtain ⟨b, off, rfl, hlt, hd⟩ := HC.out k (by rw [HN.out]; exact hl)
      obtain ⟨x0, x1, x2, x3, x4⟩ := hd.below hb hlt
      have hr13 : l.getD k 0 < 13 := HL.out _ (getD_mem l k (by rw [HN.out]; exact hl))
      have hcall := hp (l.getD k 0) wr hr13 (hK wr hb)
      obtain ⟨y, hy⟩ : ∃ y, p (l.getD k 0) = y := ⟨_, rfl⟩
      rw [hy] at hcall
      unfold fldV at hcall
      clear hd hr13
      cases y
      · have HNO2 := Lib.hid (show ∀ j, j < k + 1 → p (l.getD j 0) = false from fun j hj => by
          by_cases c : j = k
          · rw [c]; exact hy
          · exact HNO.out j (by omega))
        clear hy
        generalize l.getD k 0 = r at x0 x1 x2 x3 x4 hcall
        go_wp2_with fail
        refine hcall.mono ?_
        rintro e w2 ⟨rfl, h2⟩
        have hb2 := hb.trans (h2.mono hb.size)
        clear hcall h2
        go_wp2
        go_roundw
        case rel => exact ⟨k + 1, hl, by go_num, HNO2.out, hb2⟩
        case measure => simp [intOf]; omega
      · have hf := foundF_at (by rw [HN.out]; exact hl) hy HNO.out
        have e1 : R = (k : Int) := by rw [← HR.out, hf]; rfl
        have HE1 := Lib.hid e1
        clear hf e1 hy
        generalize l.getD k 0 = r at x0 x1 x2 x3 x4 hcall
        go_wp2_with fail
        refine hcall.mono ?_
        rintro e w2 ⟨rfl, h2⟩
        have hb2 := hb.trans (h2.mono hb.size)
        clear hcall h2
        go_wp2
        go_ret
        exact ⟨(congrArg (fun z => Ending.returned (.int .i64 z)) HE1.out).symm, hb2⟩
    · have hf := foundF_none (l := l) (p := p) fun j hj => HNO.out j (by rw [HN.out] at hj; omega)
      have e1 : R = -1 := by rw [← HR.out, hf]; rfl
      have HE1 := Lib.hid e1
      clear hf e1 HC
      go_wp2
      go_ret
      exact ⟨(congrArg (fun z => Ending.returned (.int .i64 z)) HE1.out).symm, hb⟩
/-! ### find, have, fits -/
theorem found_word (l : List Nat) (s : List UInt8) : foundF l (fun r => decide (rowW r = s)) = findW (l.map rowW) s := by
  unfold foundF findW
  rw [List.findIdx?_map]
  congr 1
  funext r
  show decide (rowW r = s) = (rowW r == s)
  by_cases h : rowW r = s
  · rw [decide_eq_true h, h]; exact (beq_self_eq_true s).symm
  · rw [decide_eq_false h]; exact (beq_false_of_ne h).symm
theorem find1_any (cv : Nat → Nat) (s : List UInt8) (c : Nat) : PredF 108 #[.pointer (some ⟨c, 0, none⟩)] cv (fun r => decide (rowW r = s)) (fun W => Has W c [.string (bs s)] 9) := by
  intro r W hr hW
  have d0 : W.cell? ⟨c, 0, none⟩ = some (.string (bs s)) := hW.cell 0
  have hlt := hW.lt
  have h0 := (Below.refl W.heap.size W).alloc (Nat.le_refl _) (.cells #[.string (bs (rowW r)), .int .i64 (rLo r), .int .i64 (rHi r), .slice (some ⟨cv r, 0, none⟩) (nCh r) (nCh r), .bool (rNeed r)] 104)
  obtain ⟨y, hy⟩ : ∃ y, decide (rowW r = s) = y := ⟨_, rfl⟩
  have q : ((bs (rowW r)).toList == (bs s).toList) = y := by
    rw [bs_toList, bs_toList, ← hy]
    by_cases h : rowW r = s
    · rw [decide_eq_true h, h]; exact beq_self_eq_true s
    · rw [decide_eq_false h]; exact beq_false_of_ne h
  dsimp only
  rw [hy]
  unfold fldV
  clear hy hW
  generalize rowW r = u at *
  generalize rLo r = u1 at *
  generalize rHi r = u2 at *
  generalize cv r = u3 at *
  generalize nCh r = u5 at *
  generalize rNeed r = u4 at *
  show Calls _ _ #[_, _] _ _
  go_enter Tryz.func108, Tryz.ntmps108
  go_wp2
  go_ret
  exact ⟨rfl, h0⟩
theorem findF_any (l : List Nat) (cv : Nat → Nat) (v : Value) (s : List UInt8) (w : World) (hr : ReadsF w cv v l) (hm : l.length ≤ 1000) (hl : ∀ r ∈ l, r < 13) :
    Calls Tryz.prog 98 #[v, .string (bs s)] w fun e w' => e = .returned (.int .i64 (found (findW (l.map rowW) s))) ∧ Below w.heap.size w w' := by
  have hb := (Below.refl w.heap.size w).alloc (Nat.le_refl _) (.cells #[.string (bs s)] 9)
  have hi := indexF_any l cv v 108 #[.pointer (some ⟨w.heap.size, 0, none⟩)] _ _ (w.alloc (.cells #[.string (bs s)] 9)) (fun args w => by go_simp) (hr.below hb) hm hl (find1_any cv s w.heap.size)
    (fun W hW => (Has.new w [.string (bs s)] 9).call hW)
  rw [found_word] at hi
  generalize found (findW (l.map rowW) s) = z at *
  clear hr
  go_enter Tryz.func98, Tryz.ntmps98
  go_wp2_with fail
  refine hi.mono ?_
  rintro e w2 ⟨rfl, h2⟩
  go_wp2
  go_ret
  exact ⟨rfl, hb.trans (h2.mono hb.size)⟩
theorem have_any (l : List Nat) (cv : Nat → Nat) (v : Value) (s : List UInt8) (w : World) (hr : ReadsF w cv v l) (hm : l.length ≤ 1000) (hl : ∀ r ∈ l, r < 13) :
    Calls Tryz.prog 83 #[v, .string (bs s)] w fun e w' => e = .returned (.bool (findW (l.map rowW) s).isSome) ∧ Below w.heap.size w w' := by
  have hi := findF_any l cv v s w hr hm hl
  have hd : decide (0 ≤ found (findW (l.map rowW) s)) = (findW (l.map rowW) s).isSome := by
    cases findW (l.map rowW) s with
    | none => rfl
    | some k => exact decide_eq_true (by show (0 : Int) ≤ (k : Int); omega)
  rw [← hd]
  clear hd hr
  generalize found (findW (l.map rowW) s) = z at *
  go_enter Tryz.func83, Tryz.ntmps83
  go_wp2_with fail
  refine hi.mono ?_
  rintro e w2 ⟨rfl, h2⟩
  go_wp2
  go_ret
  exact ⟨by simp, h2⟩
theorem fits_any (cv : Nat → Nat) (r : Nat) (x : Int) (w : World) :
    Calls Tryz.prog 52 #[fldV cv r, .int .i64 x] w fun e w' => e = .returned (.bool (rowFit r x)) ∧ Below w.heap.size w w' := by
  have h0 := (Below.refl w.heap.size w).alloc (Nat.le_refl _) (.cells #[.string (bs (rowW r)), .int .i64 (rLo r), .int .i64 (rHi r), .slice (some ⟨cv r, 0, none⟩) (nCh r) (nCh r), .bool (rNeed r)] 104)
  unfold fldV rowFit
  generalize rowW r = u at *
  generalize rLo r = u1 at *
  generalize rHi r = u2 at *
  generalize cv r = u3 at *
  generalize nCh r = u5 at *
  generalize rNeed r = u4 at *
  by_cases h1 : u1 ≤ x
  · rw [decide_eq_true h1, Bool.true_and]
    go_enter Tryz.func52, Tryz.ntmps52
    go_wp2
    go_ret
    exact ⟨by simp, h0⟩
  · rw [decide_eq_false h1, Bool.false_and]
    have h1' : x < u1 := by omega
    clear h1
    go_enter Tryz.func52, Tryz.ntmps52
    go_wp2
    go_ret
    exact ⟨by simp, h0⟩
end Go.Proofs.YtdimgomigidbkaaGreatDoor
/- Stage 8's code: slices.DeleteFunc of fields. -/
namespace Go.Proofs.YtdimgomigidbkaaGreatDoor
open Go.RowKit

/-- A block of N fields. -/
structure FBlk (w : World) (cv : Nat → Nat) (rb N : Nat) (m : Nat → Nat) : Prop where
  has : ∃ cs, N * 5 ≤ cs.length ∧ Has w rb cs 104
  at' : ∀ i, i < N → FldAt w cv rb (i * 5) (m i)
theorem FBlk.lt {w : World} {cv : Nat → Nat} {rb N : Nat} {m : Nat → Nat} (h : FBlk w cv rb N m) : rb < w.heap.size := by
  obtain ⟨cs, -, h1⟩ := h.has
  exact h1.lt
theorem FBlk.of {w w' : World} {cv : Nat → Nat} {rb N : Nat} {m : Nat → Nat} (h : FBlk w cv rb N m) (e : w'.heap[rb]? = w.heap[rb]?) : FBlk w' cv rb N m := by
  obtain ⟨cs, h0, h1⟩ := h.has
  exact ⟨⟨cs, h0, h1.of e⟩, fun i hi => (h.at' i hi).of e⟩
theorem FBlk.call {w w' : World} {cv : Nat → Nat} {rb N : Nat} {m : Nat → Nat} (h : FBlk w cv rb N m) (hb : Below w.heap.size w w') : FBlk w' cv rb N m := h.of (hb.block rb h.lt)
theorem FBlk.frozen {w : World} {cv : Nat → Nat} {rb N : Nat} {m : Nat → Nat} (h : FBlk w cv rb N m) (i : Nat) : w.frozen? ⟨rb, i, none⟩ = false := by
  obtain ⟨cs, -, h1⟩ := h.has
  exact h1.frozen i
theorem FBlk.ext {w : World} {cv : Nat → Nat} {rb N : Nat} {m m' : Nat → Nat} (h : FBlk w cv rb N m) (e : ∀ i, i < N → m i = m' i) : FBlk w cv rb N m' :=
  ⟨h.has, fun i hi => by rw [← e i hi]; exact h.at' i hi⟩
theorem FBlk.reads {w : World} {cv : Nat → Nat} {rb N cap : Nat} {l : List Nat} (h : FBlk w cv rb N (fun i => l.getD i 0)) (hl : l.length ≤ N) (hN : N ≤ cap) (hc : cap ≤ maxLen) : ReadsF w cv (.slice (some ⟨rb, 0, none⟩) l.length cap) l :=
  ⟨_, cap, rfl, by omega, hc, fun i hi => ⟨rb, 0, rfl, h.lt, by rw [Nat.zero_add]; exact h.at' i (by omega)⟩⟩
def put5 (w : World) (cv : Nat → Nat) (rb o r : Nat) : World :=
  ((((w.setCell ⟨rb, o, none⟩ (.string (bs (rowW r)))).setCell ⟨rb, o + 1, none⟩ (.int .i64 (rLo r))).setCell ⟨rb, o + 2, none⟩ (.int .i64 (rHi r))).setCell ⟨rb, o + 3, none⟩ (.slice (some ⟨cv r, 0, none⟩) (nCh r) (nCh r))).setCell ⟨rb, o + 4, none⟩ (.bool (rNeed r))
theorem setCell_same {w : World} {b o : Nat} {v u : Value} (h : w.cell? ⟨b, o, none⟩ = some u) : (w.setCell ⟨b, o, none⟩ v).cell? ⟨b, o, none⟩ = some v := by
  apply World.cell?_setCell_same
  exact h
theorem setCell_far {w : World} {b o o' : Nat} {v : Value} (h : o ≠ o') : (w.setCell ⟨b, o, none⟩ v).cell? ⟨b, o', none⟩ = w.cell? ⟨b, o', none⟩ :=
  World.cell?_setCell_other _ _ _ _ (fun e => h (by injection e))
theorem put5_far {w : World} {cv : Nat → Nat} {rb o r o' : Nat} (h : o' < o ∨ o + 5 ≤ o') : (put5 w cv rb o r).cell? ⟨rb, o', none⟩ = w.cell? ⟨rb, o', none⟩ := by
  unfold put5
  rw [setCell_far (by omega), setCell_far (by omega), setCell_far (by omega), setCell_far (by omega), setCell_far (by omega)]
theorem put5_at {w : World} {cv cv' : Nat → Nat} {rb o r r' : Nat} (h : FldAt w cv' rb o r') : FldAt (put5 w cv rb o r) cv rb o r := by
  obtain ⟨h0, h1, h2, h3, h4⟩ := h
  unfold put5
  refine ⟨?_, ?_, ?_, ?_, ?_⟩
  · rw [setCell_far (by omega), setCell_far (by omega), setCell_far (by omega), setCell_far (by omega)]; exact setCell_same h0
  · rw [setCell_far (by omega), setCell_far (by omega), setCell_far (by omega)]; exact setCell_same (by rw [setCell_far (by omega)]; exact h1)
  · rw [setCell_far (by omega), setCell_far (by omega)]; exact setCell_same (by rw [setCell_far (by omega), setCell_far (by omega)]; exact h2)
  · rw [setCell_far (by omega)]; exact setCell_same (by rw [setCell_far (by omega), setCell_far (by omega), setCell_far (by omega)]; exact h3)
  · exact setCell_same (by rw [setCell_far (by omega), setCell_far (by omega), setCell_far (by omega), setCell_far (by omega)]; exact h4)
theorem FBlk.put {w : World} {cv : Nat → Nat} {rb N : Nat} {m : Nat → Nat} (h : FBlk w cv rb N m) {i : Nat} (hi : i < N) (r : Nat) : FBlk (put5 w cv rb (i * 5) r) cv rb N (fun k => if k = i then r else m k) := by
  obtain ⟨cs, h0, h1⟩ := h.has
  refine ⟨⟨_, ?_, ((((h1.set (i * 5) _).set (i * 5 + 1) _).set (i * 5 + 2) _).set (i * 5 + 3) _).set (i * 5 + 4) _⟩, fun k hk => ?_⟩
  · simp only [List.length_set]; exact h0
  · by_cases e : k = i
    · subst e
      simp only [if_pos]
      exact put5_at (h.at' k hk)
    · simp only [if_neg e]
      obtain ⟨a0, a1, a2, a3, a4⟩ := h.at' k hk
      have far : ∀ j, j < 5 → (put5 w cv rb (i * 5) r).cell? ⟨rb, k * 5 + j, none⟩ = w.cell? ⟨rb, k * 5 + j, none⟩ := fun j hj => put5_far (by omega)
      exact ⟨(far 0 (by omega)).trans a0, (far 1 (by omega)).trans a1, (far 2 (by omega)).trans a2, (far 3 (by omega)).trans a3, (far 4 (by omega)).trans a4⟩
theorem WB.put5 {x y : World} {cv : Nat → Nat} {rb o r : Nat} (h : WB rb x y) : WB rb x (put5 y cv rb o r) :=
  ((((h.trans (WB.set _ _ _)).trans (WB.set _ _ _)).trans (WB.set _ _ _)).trans (WB.set _ _ _)).trans (WB.set _ _ _)
theorem sets_other (b : Nat) : ∀ (vs : List Value) (o : Nat) (w : World) (k : Nat), k ≠ b → (w.setCells b o vs).heap[k]? = w.heap[k]?
  | [], _, _, _, _ => rfl
  | v :: r, o, w, k, hk => by
    rw [World.setCells, sets_other b r (o + 1) _ k hk]
    exact Below.heap_setCell _ _ _ _ hk
theorem sets_has (b : Nat) (T : TypeId) : ∀ (vs : List Value) (o : Nat) (w : World) (cs : List Value), Has w b cs T → ∃ cs', cs'.length = cs.length ∧ Has (w.setCells b o vs) b cs' T
  | [], _, _, cs, h => ⟨cs, rfl, h⟩
  | v :: r, o, w, cs, h => by
    obtain ⟨cs', h1, h2⟩ := sets_has b T r (o + 1) _ _ (h.set o v)
    exact ⟨cs', by rw [h1, List.length_set], h2⟩
theorem sets_same (b : Nat) : ∀ (vs : List Value) (o : Nat) (w : World), (w.setCells b o vs).os = w.os ∧ (w.setCells b o vs).tape = w.tape ∧ (w.setCells b o vs).output = w.output ∧ (w.setCells b o vs).heap.size = w.heap.size
  | [], _, _ => ⟨rfl, rfl, rfl, rfl⟩
  | v :: r, o, w => by
    rw [World.setCells]
    obtain ⟨h1, h2, h3, h4⟩ := sets_same b r (o + 1) (w.setCell ⟨b, o, none⟩ v)
    exact ⟨h1, h2, h3, by rw [h4]; simp⟩
theorem WB.sets {b : Nat} {x y : World} (h : WB b x y) (o : Nat) (vs : List Value) : WB b x (y.setCells b o vs) := by
  obtain ⟨h1, h2, h3, h4⟩ := sets_same b vs o y
  exact ⟨h1.trans h.os, h2.trans h.tape, h3.trans h.output, by rw [h4]; exact h.size, fun k hk hx => (sets_other b vs o y k (fun e => hx (by rw [e]))).trans (h.block k hk hx)⟩
def zerosF (n : Nat) : List Value := (Builtin.zeroCells #[.string ⟨#[]⟩, .int .i64 0, .int .i64 0, .slice none 0 0, .bool false] n).toList
/-- clear: what stands ahead stays. -/
theorem clear_any (w : World) (cv : Nat → Nat) (rb N i cap : Nat) (m : Nat → Nat) (h : FBlk w cv rb N m) (hi : i < N) (ty : TypeId) :
    (Builtin.clear_ #[100] ty #[.slice (some ⟨rb, i * 5, none⟩) (N - i) (cap - i)]).run Tryz.prog w = .ok (.tuple #[]) (w.setCells rb (i * 5) (zerosF (N - i))) := by
  unfold zerosF
  obtain ⟨cs, h0, h1⟩ := h.has
  have hlen : ((Builtin.zeroCells #[.string ⟨#[]⟩, .int .i64 0, .int .i64 0, .slice none 0 0, .bool false] (N - i)).toList).length = (N - i) * 5 := by
    simp [Builtin.zeroCells]
  have hst := run_storeCells_cells (P := Tryz.prog) rb (i * 5) ((Builtin.zeroCells #[.string ⟨#[]⟩, .int .i64 0, .int .i64 0, .slice none 0 0, .bool false] (N - i)).toList) 0 w
    (fun j hj => by rw [hlen] at hj; rw [h1.cell, List.getElem?_eq_getElem (by omega)]; rfl) (fun j _ => h1.frozen _) (fun v hv => by
      simp [Builtin.zeroCells] at hv
      obtain ⟨k, hk, rfl⟩ := hv
      have h5 : k % 5 = 0 ∨ k % 5 = 1 ∨ k % 5 = 2 ∨ k % 5 = 3 ∨ k % 5 = 4 := by omega
      rcases h5 with e | e | e | e | e <;> rw [e] <;> rfl)
  obtain ⟨q, hq⟩ : ∃ q, N - i = q + 1 := ⟨N - i - 1, by omega⟩
  rw [hq] at hst ⊢
  rw [Nat.add_zero] at hst
  simp [Builtin.clear_, run_underlying Tryz.underlying100, hst, Value.cells]
def keptL (p : Nat → Bool) (l : List Nat) (j : Nat) : List Nat := (l.take j).filter fun r => !p r
theorem keptL_succ (p : Nat → Bool) (l : List Nat) (j : Nat) (hj : j < l.length) : keptL p l (j + 1) = keptL p l j ++ (if p (l.getD j 0) then [] else [l.getD j 0]) := by
  have e : l.getD j 0 = l[j] := by rw [List.getD_eq_getElem?_getD, List.getElem?_eq_getElem hj]; rfl
  unfold keptL
  rw [List.take_add_one, List.filter_append, e, List.getElem?_eq_getElem hj]
  show _ ++ List.filter _ [l[j]] = _
  cases h : p l[j] <;> simp [h]
theorem keptL_len (p : Nat → Bool) (l : List Nat) (j : Nat) : (keptL p l j).length ≤ j := by
  unfold keptL
  exact Nat.le_trans (List.length_filter_le _ _) (by rw [List.length_take]; omega)
theorem keptL_none (p : Nat → Bool) (l : List Nat) (j : Nat) (hj : j ≤ l.length) (h : ∀ k, k < j → p (l.getD k 0) = false) : keptL p l j = l.take j := by
  unfold keptL
  refine List.filter_eq_self.2 fun r hr => ?_
  obtain ⟨k, hk, rfl⟩ := List.getElem_of_mem hr
  rw [List.length_take] at hk
  have := h k (by omega)
  rw [List.getD_eq_getElem?_getD, List.getElem?_eq_getElem (by omega)] at this
  rw [List.getElem_take]
  simpa using this
theorem keptL_all (p : Nat → Bool) (l : List Nat) : keptL p l l.length = l.filter fun r => !p r := by unfold keptL; rw [List.take_length]
theorem foundF_some {l : List Nat} {p : Nat → Bool} {k : Nat} (h : foundF l p = some k) : k < l.length ∧ p (l.getD k 0) = true ∧ ∀ j, j < k → p (l.getD j 0) = false := by
  unfold foundF at h
  rw [List.findIdx?_eq_some_iff_getElem] at h
  obtain ⟨hk, h1, h2⟩ := h
  have ge : ∀ j (hj : j < l.length), l.getD j 0 = l[j] := fun j hj => by rw [List.getD_eq_getElem?_getD, List.getElem?_eq_getElem hj]; rfl
  refine ⟨hk, by rw [ge k hk]; exact h1, fun j hj => ?_⟩
  rw [ge j (by omega)]
  have := h2 j hj
  simpa using this
theorem foundF_no {l : List Nat} {p : Nat → Bool} (h : foundF l p = none) : ∀ j, j < l.length → p (l.getD j 0) = false := by
  unfold foundF at h
  rw [List.findIdx?_eq_none_iff] at h
  intro j hj
  rw [List.getD_eq_getElem?_getD, List.getElem?_eq_getElem hj]
  exact h _ (List.getElem_mem hj)
theorem getD_left (x y : List Nat) (k : Nat) (h : k < x.length) : (x ++ y).getD k 0 = x.getD k 0 := by
  rw [List.getD_eq_getElem?_getD, List.getD_eq_getElem?_getD, List.getElem?_append_left h]
theorem getD_last (x : List Nat) (r : Nat) : (x ++ [r]).getD x.length 0 = r := by
  rw [List.getD_eq_getElem?_getD, List.getElem?_append_right (Nat.le_refl _), Nat.sub_self]
  rfl
def DelRel (l : List Nat) (p : Nat → Bool) (cv : Nat → Nat) (rb N : Nat) (K : World → Prop) (w : World) (i j : Value) (wr : World) : Prop :=
  ∃ (a b : Nat) (m : Nat → Nat), i = .int .i64 (a : Nat) ∧ j = .int .i64 (b : Nat) ∧ a < b ∧ b ≤ N ∧ (keptL p l b).length = a ∧ (∀ k, k < a → m k = (keptL p l b).getD k 0) ∧ (∀ k, b ≤ k → m k = l.getD k 0) ∧ FBlk wr cv rb N m ∧ WB rb w wr ∧ K wr
set_option maxHeartbeats 4000000 in
set_option maxRecDepth 100000 in
theorem delF_any (l : List Nat) (cv : Nat → Nat) (rb cap : Nat) (g : Nat) (lb : Array Value) (p : Nat → Bool) (K : World → Prop) (w : World) (eg : ∀ args w, (callFunc g args).run Tryz.prog w = .ok (.enter g args) w)
    (hB : FBlk w cv rb l.length (fun i => l.getD i 0)) (hm : l.length ≤ 1000) (hlc : l.length ≤ cap) (hcm : cap ≤ maxLen) (hl : ∀ r ∈ l, r < 13) (hp : PredF g lb cv p K) (hS : Stay K rb) (hK0 : K w) :
    Calls Tryz.prog 79 #[.slice (some ⟨rb, 0, none⟩) l.length cap, .func (.func g) #[] lb] w fun e w' =>
      e = .returned (.slice (some ⟨rb, 0, none⟩) (l.filter fun r => !p r).length cap) ∧ FBlk w' cv rb (l.filter fun r => !p r).length (fun i => (l.filter fun r => !p r).getD i 0) ∧ WB rb w w' := by
  have hlt0 := hB.lt
  have hix := indexF_any l cv (.slice (some ⟨rb, 0, none⟩) l.length cap) g lb p K w eg (hB.reads (Nat.le_refl _) hlc hcm) hm hl hp (fun W hW => hS.call _ _ hK0 hW)
  have HL := Lib.hid hl
  have hkall := keptL_all p l
  unfold maxLen at hcm
  rw [← hkall]
  clear hkall hl
  obtain ⟨N, hN⟩ : ∃ N, l.length = N := ⟨_, rfl⟩
  have HN := Lib.hid hN
  rw [hN] at hix hB hm hlc ⊢
  clear hN
  have HP := Lib.hid hp
  have HS := Lib.hid hS
  clear hp hS
  cases hf : foundF l p with
  | none =>
    have e := keptL_none p l N (by rw [HN.out]; exact Nat.le_refl _) (fun k hk => foundF_no hf k (by rw [HN.out]; exact hk))
    rw [List.take_of_length_le (by rw [HN.out]; exact Nat.le_refl _)] at e
    rw [e, HN.out]
    rw [hf, show found none = -1 from rfl] at hix
    have HB := Lib.hid hB
    clear e hf hB
    go_enter Tryz.func79, Tryz.ntmps79
    go_wp2_with fail
    refine hix.mono ?_
    rintro e w1 ⟨rfl, h1⟩
    go_wp2
    go_ret
    exact ⟨rfl, HB.out.call h1, WB.of h1⟩
  | some k0 =>
    obtain ⟨f1, f2, f3⟩ := foundF_some hf
    have e0 := keptL_none p l k0 (by omega) f3
    have e1 : keptL p l (k0 + 1) = l.take k0 := by rw [keptL_succ p l k0 f1, f2, e0, if_pos rfl, List.append_nil]
    have hk0 : k0 < N := by rw [← HN.out]; exact f1
    have hq : ((k0 : Int) == -1) = false := beq_false_of_ne (by omega)
    rw [hf, show found (some k0) = (k0 : Int) from rfl] at hix
    have hstart : ∀ w1, Below w.heap.size w w1 → DelRel l p cv rb N K w (.int .i64 (k0 : Nat)) (.int .i64 ((k0 : Int) + 1)) w1 := fun w1 h1 =>
      ⟨k0, k0 + 1, _, rfl, rfl, by omega, by omega, by rw [e1, List.length_take]; omega, fun k hk => by
        rw [e1, List.getD_eq_getElem?_getD, List.getD_eq_getElem?_getD, List.getElem?_take_of_lt hk], fun k _ => rfl, hB.call h1, WB.of h1, HS.out.call _ _ hK0 h1⟩
    have HST := Lib.hid hstart
    clear hstart e0 e1 f1 f2 f3 hf hB
    obtain ⟨A, hA⟩ : ∃ A, (keptL p l N).length = A := ⟨_, rfl⟩
    have HA := Lib.hid hA
    rw [hA]
    clear hA
    go_enter Tryz.func79, Tryz.ntmps79
    go_wp2_with fail
    refine hix.mono ?_
    rintro e w1 ⟨rfl, h1⟩
    clear hix
    go_wp2
    go_loopw [5, 6] (DelRel l p cv rb N K w) (fun _ j _ => N - (intOf j).toNat)
    case atStart => exact HST.out _ h1
    case round =>
      obtain ⟨a, b, m, rfl, rfl, hab, hbN, hlen, hma, hmb, hblk, hwb, hkw⟩ := hrel
      clear h1
      have hrlt := hblk.lt
      by_cases hl : b < N
      · obtain ⟨x0, x1, x2, x3, x4⟩ := hblk.at' b hl
        rw [hmb b (Nat.le_refl _)] at x0 x1 x2 x3 x4
        have hr13 : l.getD b 0 < 13 := HL.out _ (getD_mem l b (by rw [HN.out]; exact hl))
        have hsucc := keptL_succ p l b (by rw [HN.out]; exact hl)
        have hba := (Below.refl wr.heap.size wr).alloc (Nat.le_refl _) (.cells (fldL cv (l.getD b 0)).toArray 104)
        have hbx := hblk.call hba
        have hwx := hwb.call hba
        have hkx := HS.out.call _ _ hkw hba
        have hnx := Has.new wr (fldL cv (l.getD b 0)) 104
        have hcall := HP.out (l.getD b 0) _ hr13 hkx
        obtain ⟨y, hy⟩ : ∃ y, p (l.getD b 0) = y := ⟨_, rfl⟩
        rw [hy] at hcall hsucc
        have HKX := Lib.hid hkx
        clear hba hr13 hy hkw hwb hkx
        unfold fldV at hcall
        unfold fldL at hcall hbx hwx hnx HKX
        cases y
        · rw [if_neg (by decide)] at hsucc
          have HREL := Lib.hid (show ∀ W, FBlk W cv rb N (fun k => if k = a then l.getD b 0 else m k) → WB rb w W → K W → DelRel l p cv rb N K w (.int .i64 ((a : Int) + 1)) (.int .i64 ((b : Int) + 1)) W from fun W q1 q2 q3 => by
            refine ⟨a + 1, b + 1, _, rfl, rfl, by omega, by omega, ?_, fun k hk => ?_, fun k hk => ?_, q1, q2, q3⟩
            · rw [hsucc, List.length_append, hlen]; rfl
            · rw [hsucc]
              by_cases e : k = a
              · rw [if_pos e, e, ← hlen, getD_last]
              · rw [if_neg e, hma k (by omega), getD_left _ _ _ (by omega)]
            · rw [if_neg (by omega), hmb k (by omega)])
          have haN : a < N := by omega
          obtain ⟨z0, z1, z2, z3, z4⟩ := hblk.at' a haN
          clear hsucc hma hmb hlen hblk z0 z1 z2 z3 z4
          generalize l.getD b 0 = r at *
          go_wp2_with fail
          refine hcall.mono ?_
          rintro e w2 ⟨rfl, h2⟩
          have hn2 := hnx.call h2
          have hb2 := hbx.call h2
          have hw2 := hwx.call h2
          have hk2 := HS.out.call _ _ HKX.out h2
          have hsz : wr.heap.size + 1 ≤ w2.heap.size := by have := h2.size; simpa using this
          have d0 : w2.cell? ⟨wr.heap.size, 0, none⟩ = _ := hn2.cell 0
          have d1 : w2.cell? ⟨wr.heap.size, 1, none⟩ = _ := hn2.cell 1
          have d2 : w2.cell? ⟨wr.heap.size, 2, none⟩ = _ := hn2.cell 2
          have d3 : w2.cell? ⟨wr.heap.size, 3, none⟩ = _ := hn2.cell 3
          have d4 : w2.cell? ⟨wr.heap.size, 4, none⟩ = _ := hn2.cell 4
          obtain ⟨z0, z1, z2, z3, z4⟩ := hb2.at' a haN
          have g0 := hb2.frozen (a * 5)
          have g1 := hb2.frozen (a * 5 + 1)
          have g2 := hb2.frozen (a * 5 + 2)
          have g3 := hb2.frozen (a * 5 + 3)
          have g4 := hb2.frozen (a * 5 + 4)
          have hput := hb2.put haN r
          have hwp := hw2.put5 (cv := cv) (o := a * 5) (r := r)
          have hkp := HS.out.own _ (a * 5 + 4) (.bool (rNeed r)) (HS.out.own _ (a * 5 + 3) (.slice (some ⟨cv r, 0, none⟩) (nCh r) (nCh r)) (HS.out.own _ (a * 5 + 2) (.int .i64 (rHi r)) (HS.out.own _ (a * 5 + 1) (.int .i64 (rLo r)) (HS.out.own _ (a * 5) (.string (bs (rowW r))) hk2))))
          unfold put5 at hput hwp
          have HR := Lib.hid (HREL.out _ hput hwp hkp)
          clear hput hwp hkp HREL hcall hbx hwx hnx hb2 hw2 hk2 HKX
          go_wp2
          go_roundw
          case rel => exact HR.out
          case measure => simp [intOf]; omega
        · rw [if_pos rfl, List.append_nil] at hsucc
          have HREL := Lib.hid (show ∀ W, FBlk W cv rb N m → WB rb w W → K W → DelRel l p cv rb N K w (.int .i64 (a : Nat)) (.int .i64 ((b : Int) + 1)) W from fun W q1 q2 q3 =>
            ⟨a, b + 1, m, rfl, rfl, by omega, by omega, by rw [hsucc]; exact hlen, fun k hk => by rw [hsucc]; exact hma k hk, fun k hk => hmb k (by omega), q1, q2, q3⟩)
          clear hsucc hma hmb hlen hblk
          generalize l.getD b 0 = r at *
          go_wp2_with fail
          refine hcall.mono ?_
          rintro e w2 ⟨rfl, h2⟩
          have HR := Lib.hid (HREL.out _ (hbx.call h2) (hwx.call h2) (HS.out.call _ _ HKX.out h2))
          clear HREL hcall hbx hwx hnx HKX h2
          go_wp2
          go_roundw
          case rel => exact HR.out
          case measure => simp [intOf]; omega
      · obtain rfl : b = N := by omega
        have haN : a < b := hab
        have hcl := clear_any wr cv rb b a cap m hblk haN
        have hF : FBlk (wr.setCells rb (a * 5) (zerosF (b - a))) cv rb a (fun i => (keptL p l b).getD i 0) ∧ WB rb w (wr.setCells rb (a * 5) (zerosF (b - a))) := by
          refine ⟨⟨?_, fun k hk => ?_⟩, hwb.sets _ _⟩
          · obtain ⟨cs, q0, q1⟩ := hblk.has
            obtain ⟨cs', q2, q3⟩ := sets_has rb _ (zerosF (b - a)) (a * 5) wr cs q1
            exact ⟨cs', by rw [q2]; omega, q3⟩
          · rw [← hma k hk]
            obtain ⟨z0, z1, z2, z3, z4⟩ := hblk.at' k (by omega)
            have far : ∀ j, j < 5 → (wr.setCells rb (a * 5) (zerosF (b - a))).cell? ⟨rb, k * 5 + j, none⟩ = wr.cell? ⟨rb, k * 5 + j, none⟩ := fun j hj => World.cell?_setCells_out rb _ _ _ _ (fun _ _ => Or.inl (by dsimp only; omega))
            exact ⟨(far 0 (by omega)).trans z0, (far 1 (by omega)).trans z1, (far 2 (by omega)).trans z2, (far 3 (by omega)).trans z3, (far 4 (by omega)).trans z4⟩
        have hAa : a = A := by rw [← HA.out, hlen]
        subst hAa
        have HF := Lib.hid hF
        clear hF hma hmb hblk hwb hkw hlen HST HP HS
        go_wp2
        go_ret
        exact ⟨rfl, HF.out⟩
end Go.Proofs.YtdimgomigidbkaaGreatDoor
/- Stage 8's code: the table of fields, a chart's fields, what is told of a channel. -/
namespace Go.Proofs.YtdimgomigidbkaaGreatDoor
open Go.RowKit

/-- Blocks laid one after another. -/
def allocs (w : World) : List (List Value × TypeId) → World
  | [] => w
  | x :: r => allocs (w.alloc (.cells x.1.toArray x.2)) r
theorem allocs_below : ∀ (l : List (List Value × TypeId)) (w : World), Below w.heap.size w (allocs w l)
  | [], w => Below.refl _ w
  | x :: r, w => ((Below.refl _ w).alloc (Nat.le_refl _) (.cells x.1.toArray x.2)).trans ((allocs_below r _).mono (by simp))
theorem allocs_has : ∀ (l : List (List Value × TypeId)) (w : World) (k : Nat) (x : List Value × TypeId), l[k]? = some x → Has (allocs w l) (w.heap.size + k) x.1 x.2
  | [], _, _, _, h => by simp at h
  | y :: r, w, 0, x, h => by
    simp only [List.getElem?_cons_zero, Option.some.injEq] at h
    subst h
    exact (Has.new w y.1 y.2).call (allocs_below r _)
  | y :: r, w, k + 1, x, h => by
    have := allocs_has r (w.alloc (.cells y.1.toArray y.2)) k x (by simpa using h)
    rw [show (w.alloc (.cells y.1.toArray y.2)).heap.size + k = w.heap.size + (k + 1) by simp; omega] at this
    exact this
def cvT : List Nat := [5, 6, 2, 2, 1, 0, 3, 7, 8, 9, 10, 4, 4]
def cvOf (B r : Nat) : Nat := B + cvT.getD r 0
def cells13 (B : Nat) : List Value := (List.range 13).flatMap (fldL (cvOf B))
def tabL (B : Nat) : List (List Value × TypeId) := [([.int .i64 0, .int .i64 1, .int .i64 2, .int .i64 3, .int .i64 4, .int .i64 5, .int .i64 6, .int .i64 7], 3), ([.int .i64 0, .int .i64 1, .int .i64 2, .int .i64 3, .int .i64 4, .int .i64 5], 3), ([.int .i64 0, .int .i64 1, .int .i64 6, .int .i64 7], 3), ([.int .i64 6, .int .i64 7], 3), ([.int .i64 0, .int .i64 1], 3), ([.int .i64 0], 3), ([.int .i64 2, .int .i64 3, .int .i64 5], 3), ([.int .i64 6], 3), ([.int .i64 6], 3), ([.int .i64 7], 3), ([.int .i64 7], 3), (cells13 B, 104)]
/-- The charts' slices, which lie in no block of fields. -/
def Chs (cv : Nat → Nat) (rb : Nat) (w : World) : Prop := ∀ r, r < 13 → cv r ≠ rb ∧ cv r < w.heap.size ∧ ∀ i, i < nCh r → w.cell? ⟨cv r, i, none⟩ = some (.int .i64 ((rCh r).getD i 0))
theorem Chs.call {cv : Nat → Nat} {rb : Nat} {w w' : World} (h : Chs cv rb w) (hb : Below w.heap.size w w') : Chs cv rb w' := fun r hr => by
  obtain ⟨h1, h2, h3⟩ := h r hr
  exact ⟨h1, Nat.lt_of_lt_of_le h2 hb.size, fun i hi => (hb.cell h2).trans (h3 i hi)⟩
theorem Chs.own {cv : Nat → Nat} {rb : Nat} {w : World} (h : Chs cv rb w) (i : Nat) (v : Value) : Chs cv rb (w.setCell ⟨rb, i, none⟩ v) := fun r hr => by
  obtain ⟨h1, h2, h3⟩ := h r hr
  exact ⟨h1, by simpa using h2, fun j hj => (World.cell?_setCell_far _ _ _ _ (fun e => h1 e.symm)).trans (h3 j hj)⟩
theorem Chs.reads {cv : Nat → Nat} {rb : Nat} {w : World} (h : Chs cv rb w) {r : Nat} (hr : r < 13) : ReadsI w (.slice (some ⟨cv r, 0, none⟩) (nCh r) (nCh r)) (rCh r) := by
  obtain ⟨h1, h2, h3⟩ := h r hr
  have hm : ∀ r, r < 13 → (rCh r).length ≤ 8 := by decide
  refine ⟨_, _, rfl, Nat.le_refl _, ?_, fun i hi => ⟨cv r, 0, rfl, h2, by rw [Nat.zero_add]; exact h3 i hi⟩⟩
  have := hm r hr
  unfold maxLen nCh
  omega
theorem tab_row (B : Nat) : ∀ r, r < 13 → (cells13 B)[r * 5]? = some (.string (bs (rowW r))) ∧ (cells13 B)[r * 5 + 1]? = some (.int .i64 (rLo r)) ∧ (cells13 B)[r * 5 + 2]? = some (.int .i64 (rHi r)) ∧
    (cells13 B)[r * 5 + 3]? = some (.slice (some ⟨cvOf B r, 0, none⟩) (nCh r) (nCh r)) ∧ (cells13 B)[r * 5 + 4]? = some (.bool (rNeed r)) := by
  intro r hr
  have h : r = 0 ∨ r = 1 ∨ r = 2 ∨ r = 3 ∨ r = 4 ∨ r = 5 ∨ r = 6 ∨ r = 7 ∨ r = 8 ∨ r = 9 ∨ r = 10 ∨ r = 11 ∨ r = 12 := by omega
  rcases h with rfl | rfl | rfl | rfl | rfl | rfl | rfl | rfl | rfl | rfl | rfl | rfl | rfl <;> exact ⟨rfl, rfl, rfl, rfl, rfl⟩
theorem tab_chs (B : Nat) : ∀ r, r < 13 → ∃ x, (tabL B)[cvT.getD r 0]? = some x ∧ cvT.getD r 0 < 11 ∧ ∀ i, i < nCh r → x.1[i]? = some (.int .i64 ((rCh r).getD i 0)) := by
  intro r hr
  have h : r = 0 ∨ r = 1 ∨ r = 2 ∨ r = 3 ∨ r = 4 ∨ r = 5 ∨ r = 6 ∨ r = 7 ∨ r = 8 ∨ r = 9 ∨ r = 10 ∨ r = 11 ∨ r = 12 := by omega
  have key : ∀ (x : List Value × TypeId) (l : List Int), x.1 = l.map (Value.int .i64) → ∀ i, i < l.length → x.1[i]? = some (.int .i64 (l.getD i 0)) := fun x l e i hi => by
    rw [e, List.getElem?_map, List.getD_eq_getElem?_getD, List.getElem?_eq_getElem hi]; rfl
  rcases h with rfl | rfl | rfl | rfl | rfl | rfl | rfl | rfl | rfl | rfl | rfl | rfl | rfl <;> exact ⟨_, rfl, by decide, key _ _ rfl⟩
theorem tab_mem (w : World) : FBlk (allocs w (tabL w.heap.size)) (cvOf w.heap.size) (w.heap.size + 11) 13 (fun i => i) ∧ Chs (cvOf w.heap.size) (w.heap.size + 11) (allocs w (tabL w.heap.size)) ∧ Below w.heap.size w (allocs w (tabL w.heap.size)) := by
  have hh := allocs_has (tabL w.heap.size) w 11 (cells13 w.heap.size, 104) rfl
  refine ⟨⟨⟨_, Nat.le_of_eq rfl, hh⟩, fun i hi => ?_⟩, fun r hr => ?_, allocs_below _ _⟩
  · obtain ⟨h0, h1, h2, h3, h4⟩ := tab_row w.heap.size i hi
    exact ⟨(hh.cell _).trans h0, (hh.cell _).trans h1, (hh.cell _).trans h2, (hh.cell _).trans h3, (hh.cell _).trans h4⟩
  · obtain ⟨x, h1, h2, h3⟩ := tab_chs w.heap.size r hr
    have hx := allocs_has (tabL w.heap.size) w _ x h1
    exact ⟨by unfold cvOf; omega, hx.lt, fun i hi => (hx.cell i).trans (h3 i hi)⟩
set_option maxHeartbeats 2000000 in
set_option maxRecDepth 100000 in
theorem fields_tab (w : World) : Calls Tryz.prog 94 #[] w fun e w' => e = .returned (.slice (some ⟨w.heap.size + 11, 0, none⟩) 13 13) ∧ w' = allocs w (tabL w.heap.size) := by
  go_enter Tryz.func94, Tryz.ntmps94
  go_wp2
  go_ret
  exact ⟨rfl, rfl⟩
theorem rCh_len : ∀ r, r < 13 → (rCh r).length ≤ 1000 := by decide
theorem fieldsOf1_any (cv : Nat → Nat) (ch c rb : Nat) : PredF 95 #[.pointer (some ⟨c, 0, none⟩)] cv (fun r => !(rCh r).contains (ch : Int)) (fun W => Has W c [.int .i64 (ch : Nat)] 3 ∧ Chs cv rb W) := by
  intro r W hr hW
  obtain ⟨hW, hC⟩ := hW
  have hB := (Below.refl W.heap.size W).alloc (Nat.le_refl _) (.cells (fldL cv r).toArray 104)
  have hx := (hW.call hB).cell 0
  have hlt := hW.lt
  have hcon := containsI_any (rCh r) _ (ch : Int) _ ((hC.call hB).reads hr) (rCh_len r hr)
  have d0 : W.cell? ⟨c, 0, none⟩ = some (.int .i64 (ch : Nat)) := hW.cell 0
  unfold fldV
  unfold fldL at hB hcon
  dsimp only
  generalize (rCh r).contains (ch : Int) = y at *
  clear hW hC hx
  generalize rowW r = u at *
  generalize rLo r = u1 at *
  generalize rHi r = u2 at *
  generalize cv r = u3 at *
  generalize nCh r = u5 at *
  generalize rNeed r = u4 at *
  show Calls _ _ #[_, _] _ _
  go_enter Tryz.func95, Tryz.ntmps95
  go_wp2_with fail
  refine hcon.mono ?_
  rintro e w2 ⟨rfl, rfl⟩
  go_wp2
  go_ret
  exact ⟨rfl, hB⟩
/-- A slice of fields that the call has made. -/
def OwnF (B : Nat) (v : Value) (l : List Nat) (w : World) : Prop :=
  ∃ cv rb cap, v = .slice (some ⟨rb, 0, none⟩) l.length cap ∧ l.length ≤ cap ∧ cap ≤ maxLen ∧ FBlk w cv rb l.length (fun i => l.getD i 0) ∧ B ≤ rb
theorem OwnF.reads {B : Nat} {v : Value} {l : List Nat} {w : World} (h : OwnF B v l w) : ∃ cv, ReadsF w cv v l := by
  obtain ⟨cv, rb, cap, rfl, h1, h2, h3, h4⟩ := h
  exact ⟨cv, h3.reads (Nat.le_refl _) h1 h2⟩
theorem fields_any (w : World) : Calls Tryz.prog 94 #[] w fun e w' => ∃ cv rb, e = .returned (.slice (some ⟨rb, 0, none⟩) 13 13) ∧ FBlk w' cv rb (List.range 13).length (fun i => (List.range 13).getD i 0) ∧ Chs cv rb w' ∧ w.heap.size ≤ rb ∧ Below w.heap.size w w' := by
  obtain ⟨t1, t2, t3⟩ := tab_mem w
  have t4 : FBlk (allocs w (tabL w.heap.size)) (cvOf w.heap.size) (w.heap.size + 11) (List.range 13).length (fun i => (List.range 13).getD i 0) := by
    rw [List.length_range]
    refine t1.ext fun i hi => ?_
    rw [List.getD_eq_getElem?_getD, List.getElem?_eq_getElem (by rw [List.length_range]; exact hi), List.getElem_range]
    rfl
  refine (fields_tab w).mono ?_
  rintro e w' ⟨rfl, rfl⟩
  exact ⟨_, _, rfl, t4, t2, Nat.le_add_right _ _, t3⟩
theorem rows_13 (ch : Nat) : (rowsL ch).length ≤ 13 := Nat.le_trans (List.length_filter_le _ _) (Nat.le_of_eq List.length_range)
theorem rows_del (ch : Nat) : ((List.range 13).filter fun r => !!(rCh r).contains (ch : Int)) = rowsL ch := by unfold rowsL; simp only [Bool.not_not]
theorem delOf_any (ch c : Nat) (cv : Nat → Nat) (rb : Nat) (w : World) (h1 : FBlk w cv rb (List.range 13).length (fun i => (List.range 13).getD i 0)) (h2 : Chs cv rb w) (hc : Has w c [.int .i64 (ch : Nat)] 3) (hne : c ≠ rb) :
    Calls Tryz.prog 79 #[.slice (some ⟨rb, 0, none⟩) 13 13, .func (.func 95) #[] #[.pointer (some ⟨c, 0, none⟩)]] w fun e w' =>
      e = .returned (.slice (some ⟨rb, 0, none⟩) (rowsL ch).length 13) ∧ FBlk w' cv rb (rowsL ch).length (fun i => (rowsL ch).getD i 0) ∧ WB rb w w' := by
  have hd := delF_any (List.range 13) cv rb 13 95 #[.pointer (some ⟨c, 0, none⟩)] _ _ w (fun args w => by go_simp) h1 (by rw [List.length_range]; omega) (by rw [List.length_range]; omega) (by decide) (fun r hr => List.mem_range.1 hr)
    (fieldsOf1_any cv ch c rb) ⟨fun W W' h hb => ⟨h.1.call hb, h.2.call hb⟩, fun W i v h => ⟨h.1.other hne v, h.2.own i v⟩⟩ ⟨hc, h2⟩
  rw [rows_del] at hd
  exact hd
theorem fieldsOf_any (ch : Nat) (w : World) : Calls Tryz.prog 80 #[.int .i64 (ch : Nat)] w fun e w' => ∃ v, e = .returned v ∧ OwnF w.heap.size v (rowsL ch) w' ∧ Below w.heap.size w w' := by
  have hB := (Below.refl w.heap.size w).alloc (Nat.le_refl _) (.cells #[.int .i64 (ch : Nat)] 3)
  have hx := Has.new w [.int .i64 (ch : Nat)] 3
  have hf := fields_any (w.alloc (.cells #[.int .i64 (ch : Nat)] 3))
  have hd := delOf_any ch w.heap.size
  have hl13 := rows_13 ch
  generalize rowsL ch = L at *
  go_enter Tryz.func80, Tryz.ntmps80
  go_wp2_with fail
  refine hf.mono ?_
  rintro e w2 ⟨cv, rb, rfl, t1, t2, t3, t4⟩
  have t3' : w.heap.size + 1 ≤ rb := by simpa using t3
  have hd2 := hd cv rb w2 t1 t2 (hx.call t4) (by omega)
  have hbig := hB.trans (t4.mono (by simp))
  clear hd hf hx hB t1 t2 t3 t4
  go_wp2_with fail
  refine hd2.mono ?_
  rintro e w3 ⟨rfl, h3, h4⟩
  go_wp2
  go_ret
  exact ⟨_, rfl, ⟨_, _, _, rfl, hl13, by decide, h3, by omega⟩, hbig.trans (h4.low (by omega) hbig.size)⟩
theorem told1_any (cv : Nat → Nat) (q : Bool) (c : Nat) : PredF 81 #[.pointer (some ⟨c, 0, none⟩)] cv (fun r => !rNeed r && q) (fun W => Has W c [.bool q] 4) := by
  intro r W hr hW
  have d0 : W.cell? ⟨c, 0, none⟩ = some (.bool q) := hW.cell 0
  have hlt := hW.lt
  have h0 := (Below.refl W.heap.size W).alloc (Nat.le_refl _) (.cells (fldL cv r).toArray 104)
  unfold fldV
  unfold fldL at h0
  dsimp only
  clear hW
  generalize rowW r = u at *
  generalize rLo r = u1 at *
  generalize rHi r = u2 at *
  generalize cv r = u3 at *
  generalize nCh r = u5 at *
  generalize rNeed r = u4 at *
  show Calls _ _ #[_, _] _ _
  cases u4
  · go_enter Tryz.func81, Tryz.ntmps81
    go_wp2
    go_ret
    exact ⟨by simp, h0⟩
  · go_enter Tryz.func81, Tryz.ntmps81
    go_wp2
    go_ret
    exact ⟨by simp, h0⟩
theorem delTold_any (l : List Nat) (q : Bool) (c : Nat) (cv : Nat → Nat) (rb cap : Nat) (w : World) (h1 : FBlk w cv rb l.length (fun i => l.getD i 0)) (hm : l.length ≤ 1000) (hlc : l.length ≤ cap) (hcm : cap ≤ maxLen) (hl : ∀ r ∈ l, r < 13) (hc : Has w c [.bool q] 4) (hne : c ≠ rb) :
    Calls Tryz.prog 79 #[.slice (some ⟨rb, 0, none⟩) l.length cap, .func (.func 81) #[] #[.pointer (some ⟨c, 0, none⟩)]] w fun e w' =>
      e = .returned (.slice (some ⟨rb, 0, none⟩) (l.filter fun r => rNeed r || !q).length cap) ∧ FBlk w' cv rb (l.filter fun r => rNeed r || !q).length (fun i => (l.filter fun r => rNeed r || !q).getD i 0) ∧ WB rb w w' := by
  have hd := delF_any l cv rb cap 81 #[.pointer (some ⟨c, 0, none⟩)] _ _ w (fun args w => by go_simp) h1 hm hlc hcm hl
    (told1_any cv q c) ⟨fun W W' h hb => h.call hb, fun W i v h => h.other hne v⟩ hc
  rw [show (l.filter fun r => !(!rNeed r && q)) = l.filter fun r => rNeed r || !q from by
    congr 1; funext r; cases rNeed r <;> cases q <;> rfl] at hd
  exact hd
def chA (c : Ch) : Value := .agg (chL c).toArray
end Go.Proofs.YtdimgomigidbkaaGreatDoor
