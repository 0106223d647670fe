/- The reference of stage 13: Hull, walked. -/
import Derived.Test.YtcadbenjgpohoaaZonE
namespace Go.Proofs.Ytcadbenjgpohoaa
open Go.RowKit

def HulOut (a b : Int) (u x : Nat) (w : World) (s7 s8 s19 : Value) (wr : World) : Prop :=
  ∃ p : Nat, p ≤ 2 ∧ s19 = .int .i64 (p : Nat) ∧ s7 = .int .i64 (lowK a b u x (2 * p)) ∧ s8 = .int .i64 (topK a b u x (2 * p)) ∧ Has wr (w.heap.size + 1) [.int .u64 (hi u : Nat), .int .u64 (lo u : Nat)] 24 ∧ Has wr (w.heap.size + 2) [.int .u64 (hi x : Nat), .int .u64 (lo x : Nat)] 24 ∧ Has wr (w.heap.size + 3) [.int .i64 a, .int .i64 b] 3 ∧ Below w.heap.size w wr
def HulB (a b : Int) (u x bv : Nat) (w wr : World) : Prop := Has wr bv [.int .u64 (hi u : Nat), .int .u64 (lo u : Nat), .int .u64 (hi x : Nat), .int .u64 (lo x : Nat)] 24 ∧ Has wr (w.heap.size + 1) [.int .u64 (hi u : Nat), .int .u64 (lo u : Nat)] 24 ∧ Has wr (w.heap.size + 2) [.int .u64 (hi x : Nat), .int .u64 (lo x : Nat)] 24 ∧ Has wr (w.heap.size + 3) [.int .i64 a, .int .i64 b] 3 ∧ Below w.heap.size w wr
theorem HulB.call {a b : Int} {u x bv : Nat} {w wr w' : World} (h : HulB a b u x bv w wr) (k : Below wr.heap.size wr w') : HulB a b u x bv w w' :=
  ⟨h.1.call k, h.2.1.call k, h.2.2.1.call k, h.2.2.2.1.call k, h.2.2.2.2.trans (k.mono h.2.2.2.2.size)⟩
def HulIn (a b : Int) (u x p bv : Nat) (w : World) (s7 s8 s27 : Value) (wr : World) : Prop :=
  ∃ q : Nat, q ≤ 2 ∧ s27 = .int .i64 (q : Nat) ∧ s7 = .int .i64 (lowK a b u x (2 * p + q)) ∧ s8 = .int .i64 (topK a b u x (2 * p + q)) ∧ HulB a b u x bv w wr
set_option linter.unusedSimpArgs false in
set_option linter.unusedVariables false in
set_option maxHeartbeats 4000000 in
set_option maxRecDepth 100000 in
theorem rhull13_any (a b : Int) (u x : Nat) (ha : IsInt a) (hb : IsInt b) (hu : u < 21267647932558653966460912964485513216) (hx : x < 21267647932558653966460912964485513216) (w : World) :
    Calls Try.prog 19 #[.agg #[.int .i64 a, .int .i64 b], .agg #[.int .u64 (hi u : Nat), .int .u64 (lo u : Nat)], .agg #[.int .u64 (hi x : Nat), .int .u64 (lo x : Nat)]] w fun e w' => e = .returned (.int .i64 (maskN (leastN a b u x) (mostN a b u x))) ∧ Below w.heap.size w w' := by
  have hcl := fun (j : Nat) (D : Int) (V : Nat) (hD : IsInt D) (hV : V < 21267647932558653966460912964485513216) (W : World) => rclass13_any D V hD hV W
  have HCL := Lib.hid hcl
  obtain ⟨b1, b2, b3⟩ := box_bounds a b u x
  have hbt := fun W => rbetween13_any (leastN a b u x) (mostN a b u x) b1 b2 b3 W
  have HBT := Lib.hid hbt
  have HA := Lib.hid ha; have HB' := Lib.hid hb; have HU := Lib.hid hu; have HX := Lib.hid hx
  obtain ⟨w4, hw4⟩ : ∃ w4, (((w.alloc (.cells #[.int .i64 a, .int .i64 b] 39)).alloc (.cells #[.int .u64 (hi u : Nat), .int .u64 (lo u : Nat)] 24)).alloc (.cells #[.int .u64 (hi x : Nat), .int .u64 (lo x : Nat)] 24)).alloc (.cells #[.int .i64 a, .int .i64 b] 3) = w4 := ⟨_, rfl⟩
  have HST := Lib.hid (show HulOut a b u x w (.int .i64 5) (.int .i64 (-5)) (.int .i64 0) w4 by
    refine ⟨0, by omega, rfl, rfl, rfl, ?_, ?_, ?_, ?_⟩
    · rw [← hw4]
      have := ((Has.new (w.alloc (.cells #[.int .i64 a, .int .i64 b] 39)) [.int .u64 (hi u : Nat), .int .u64 (lo u : Nat)] 24).alloc (.cells #[.int .u64 (hi x : Nat), .int .u64 (lo x : Nat)] 24)).alloc (.cells #[.int .i64 a, .int .i64 b] 3)
      rw [show (w.alloc (.cells #[.int .i64 a, .int .i64 b] 39)).heap.size = w.heap.size + 1 by simp] at this
      exact this
    · rw [← hw4]
      have := (Has.new ((w.alloc (.cells #[.int .i64 a, .int .i64 b] 39)).alloc (.cells #[.int .u64 (hi u : Nat), .int .u64 (lo u : Nat)] 24)) [.int .u64 (hi x : Nat), .int .u64 (lo x : Nat)] 24).alloc (.cells #[.int .i64 a, .int .i64 b] 3)
      rw [show ((w.alloc (.cells #[.int .i64 a, .int .i64 b] 39)).alloc (.cells #[.int .u64 (hi u : Nat), .int .u64 (lo u : Nat)] 24)).heap.size = w.heap.size + 2 by simp] at this
      exact this
    · rw [← hw4]
      have := Has.new (((w.alloc (.cells #[.int .i64 a, .int .i64 b] 39)).alloc (.cells #[.int .u64 (hi u : Nat), .int .u64 (lo u : Nat)] 24)).alloc (.cells #[.int .u64 (hi x : Nat), .int .u64 (lo x : Nat)] 24)) [.int .i64 a, .int .i64 b] 3
      rw [show (((w.alloc (.cells #[.int .i64 a, .int .i64 b] 39)).alloc (.cells #[.int .u64 (hi u : Nat), .int .u64 (lo u : Nat)] 24)).alloc (.cells #[.int .u64 (hi x : Nat), .int .u64 (lo x : Nat)] 24)).heap.size = w.heap.size + 3 by simp] at this
      exact this
    · rw [← hw4]
      exact ((((Below.refl _ _).alloc (Nat.le_refl _) _).alloc (by simp) _).alloc (by simp; omega) _).alloc (by simp; omega) _)
  have HW4 := Lib.hid hw4
  clear ha hb hu hx hcl hbt hw4 b1 b2 b3
  go_enter Try.func19, Try.ntmps19
  go_upto_region 3 with fail
  go_wp2
  rw [HW4.out]
  go_loopw [7, 8, 19] (HulOut a b u x w) (fun _ _ i _ => 2 - (intOf i).toNat)
  case atStart => exact HST.out
  case round =>
    obtain ⟨p, hp, rfl, rfl, rfl, h1, h2, h3, hlo⟩ := hrel
    have H1 := Lib.hid h1; have H2 := Lib.hid h2; have H3 := Lib.hid h3; have HLO := Lib.hid hlo
    by_cases hl : p < 2
    · obtain ⟨D, hD⟩ : ∃ D, (if p = 0 then a else b) = D := ⟨_, rfl⟩
      have hDi : IsInt D := by rw [← hD]; split; exact HA.out; exact HB'.out
      have cd : wr.cell? ⟨w.heap.size + 3, p, none⟩ = some (.int .i64 D) := by
        rw [H3.out.cell, ← hD]
        rcases p with _ | _ | p
        · rfl
        · rfl
        · omega
      have l3 := H3.out.lt
      have u0 : wr.cell? ⟨w.heap.size + 1, 0, none⟩ = some (.int .u64 (hi u : Nat)) := H1.out.cell 0
      have u1 : wr.cell? ⟨w.heap.size + 1, 1, none⟩ = some (.int .u64 (lo u : Nat)) := H1.out.cell 1
      have x0 : wr.cell? ⟨w.heap.size + 2, 0, none⟩ = some (.int .u64 (hi x : Nat)) := H2.out.cell 0
      have x1 : wr.cell? ⟨w.heap.size + 2, 1, none⟩ = some (.int .u64 (lo x : Nat)) := H2.out.cell 1
      have l1 := H1.out.lt
      have l2 := H2.out.lt
      have hp2 : (p : Int) < 2 := by omega
      obtain ⟨bv, hbv⟩ : ∃ bv, wr.heap.size = bv := ⟨_, rfl⟩
      obtain ⟨w5, hw5⟩ : ∃ w5, wr.alloc (.cells #[.int .u64 (hi u : Nat), .int .u64 (lo u : Nat), .int .u64 (hi x : Nat), .int .u64 (lo x : Nat)] 24) = w5 := ⟨_, rfl⟩
      have k5 : Below wr.heap.size wr w5 := by rw [← hw5]; exact (Below.refl _ _).alloc (Nat.le_refl _) _
      have HI := Lib.hid (show HulIn a b u x p bv w (.int .i64 (lowK a b u x (2 * p))) (.int .i64 (topK a b u x (2 * p))) (.int .i64 0) w5 from
        ⟨0, by omega, rfl, rfl, rfl, by rw [← hw5, ← hbv]; exact Has.new wr _ _, H1.out.call k5, H2.out.call k5, H3.out.call k5, HLO.out.trans (k5.mono HLO.out.size)⟩)
      have HW5 := Lib.hid hw5
      have HDD := Lib.hid hD
      have HDI := Lib.hid hDi
      clear h1 h2 h3 hlo hD hDi k5 hw5
      go_upto_region 6 with fail
      clear cd l3
      obtain ⟨lw, hlw⟩ : ∃ v, lowK a b u x (2 * p) = v := ⟨_, rfl⟩
      obtain ⟨tp, htp⟩ : ∃ v, topK a b u x (2 * p) = v := ⟨_, rfl⟩
      rw [hlw, htp] at HI ⊢
      go_wp2
      rw [HW5.out]
      clear u0 u1 x0 x1 l1 l2 hlw htp
      obtain ⟨wo, hwo⟩ : ∃ wo : World, wo = wr := ⟨_, rfl⟩
      rw [← hwo] at H1 H2 H3 HLO hbv
      clear hwo
      go_loopw [7, 8, 27] (HulIn a b u x p bv w) (fun _ _ i _ => 2 - (intOf i).toNat)
      case atStart => exact HI.out
      case round =>
        obtain ⟨q, hq, rfl, rfl, rfl, hB⟩ := hrel
        have HBB := Lib.hid hB
        by_cases hlq : q < 2
        · obtain ⟨V, hV⟩ : ∃ V, (if q = 0 then u else x) = V := ⟨_, rfl⟩
          have hVb : V < 21267647932558653966460912964485513216 := by rw [← hV]; split; exact HU.out; exact HX.out
          have cv0 : wr.cell? ⟨bv, q * 2, none⟩ = some (.int .u64 (hi V : Nat)) := by
            rw [hB.1.cell, ← hV]
            rcases q with _ | _ | q
            · rfl
            · rfl
            · omega
          have cv1 : wr.cell? ⟨bv, q * 2 + 1, none⟩ = some (.int .u64 (lo V : Nat)) := by
            rw [hB.1.cell, ← hV]
            rcases q with _ | _ | q
            · rfl
            · rfl
            · omega
          have lv := hB.1.lt
          have hq2 : (q : Int) < 2 := by omega
          have hcat : clsN D V = clsAt a b u x (2 * p + q) := by
            unfold clsAt
            rw [← hV, ← HDD.out]
            congr 1
            · by_cases c : p = 0
              · rw [if_pos c, if_pos (by omega)]
              · rw [if_neg c, if_neg (by omega)]
            · by_cases c : q = 0
              · rw [if_pos c, if_pos (by omega)]
              · rw [if_neg c, if_neg (by omega)]
          have hlo' : lowK a b u x (2 * p + (q + 1)) = min (lowK a b u x (2 * p + q)) (clsN D V) := by rw [hcat]; rfl
          have hto' : topK a b u x (2 * p + (q + 1)) = max (topK a b u x (2 * p + q)) (clsN D V) := by rw [hcat]; rfl
          have hcc := HCL.out 0 D V HDI.out hVb
          obtain ⟨lw1, hlw⟩ : ∃ v, lowK a b u x (2 * p + q) = v := ⟨_, rfl⟩
          obtain ⟨tp1, htp⟩ : ∃ v, topK a b u x (2 * p + q) = v := ⟨_, rfl⟩
          obtain ⟨c, hc⟩ : ∃ c, clsN D V = c := ⟨_, rfl⟩
          rw [hlw, hc] at hlo'
          rw [htp, hc] at hto'
          rw [hc] at hcc
          rw [hlw, htp]
          have HLW := Lib.hid hlo'
          have HTP := Lib.hid hto'
          have HCC := Lib.hid hcc
          obtain ⟨b6, hb6⟩ : ∃ b, wr.heap.size = b := ⟨_, rfl⟩
          obtain ⟨w6, hw6⟩ : ∃ w6, wr.alloc (.cells #[.int .u64 (hi V : Nat), .int .u64 (lo V : Nat)] 24) = w6 := ⟨_, rfl⟩
          have k6 : Below wr.heap.size wr w6 := by rw [← hw6]; exact (Below.refl _ _).alloc (Nat.le_refl _) _
          have HV6 := Lib.hid (show Has w6 b6 [.int .u64 (hi V : Nat), .int .u64 (lo V : Nat)] 24 by rw [← hw6, ← hb6]; exact Has.new wr _ _)
          have HB6 := Lib.hid (hB.call k6)
          have HW6 := Lib.hid hw6
          clear hB hV hVb hcat hlo' hto' hcc hlw htp hc k6 hw6
          go_upto_region 9 with fail
          rw [HW6.out]
          clear cv0 cv1 lv hb6
          go_cut [7] from 31 to 35 (fun s7 wx => s7 = .int .i64 (min lw1 c) ∧ Hid (Has wx b6 [.int .u64 (hi V : Nat), .int .u64 (lo V : Nat)] 24) ∧ Hid (HulB a b u x bv w wx))
          case first =>
            have y0 : w6.cell? ⟨b6, 0, none⟩ = some (.int .u64 (hi V : Nat)) := HV6.out.cell 0
            have y1 : w6.cell? ⟨b6, 1, none⟩ = some (.int .u64 (lo V : Nat)) := HV6.out.cell 1
            have yl := HV6.out.lt
            go_wp2_with fail
            refine (HCC.out _).mono ?_
            rintro e w7 ⟨rfl, k7⟩
            have HV7 := Lib.hid (HV6.out.call k7)
            have HB7 := Lib.hid (HB6.out.call k7)
            clear k7 y0 y1 yl
            rcases Int.lt_trichotomy lw1 c with hh | hh | hh
            · have g2 : ¬ c < lw1 := by omega
              have g3 : ¬ c ≤ lw1 := by omega
              have g4 : lw1 ≤ c := by omega
              have HE := Lib.hid (show lw1 = min lw1 c by omega)
              go_wp2_with fail
              go_meet
              exact ⟨by first | rfl | (rw [← HE.out]), HV7, HB7⟩
            · subst hh
              have HE := Lib.hid (show lw1 = min lw1 lw1 by omega)
              go_wp2_with fail
              go_meet
              exact ⟨by first | rfl | (rw [← HE.out]), HV7, HB7⟩
            · have g2 : ¬ lw1 < c := by omega
              have g3 : ¬ lw1 ≤ c := by omega
              have g4 : c ≤ lw1 := by omega
              have HE := Lib.hid (show c = min lw1 c by omega)
              go_wp2_with fail
              go_meet
              exact ⟨by first | rfl | (rw [← HE.out]), HV7, HB7⟩
          case rest =>
            obtain ⟨rfl, HV8, HB8⟩ := hcut
            rw [← HLW.out]
            obtain ⟨w8, hw8⟩ : ∃ w8 : World, w8 = wc := ⟨_, rfl⟩
            rw [← hw8] at HV8 HB8 ⊢
            clear hw8
            obtain ⟨lw2, hlw2⟩ : ∃ v, lowK a b u x (2 * p + (q + 1)) = v := ⟨_, rfl⟩
            rw [hlw2]
            have HLW2 := Lib.hid hlw2
            clear hlw2
            go_upto_region 10 with fail
            have y0 : w8.cell? ⟨b6, 0, none⟩ = some (.int .u64 (hi V : Nat)) := HV8.out.cell 0
            have y1 : w8.cell? ⟨b6, 1, none⟩ = some (.int .u64 (lo V : Nat)) := HV8.out.cell 1
            have yl := HV8.out.lt
            go_wp2_with fail
            refine (HCC.out _).mono ?_
            rintro e w9 ⟨rfl, k9⟩
            have HB9 := Lib.hid (HB8.out.call k9)
            clear k9 y0 y1 yl
            have HQ := Lib.hid (show ∀ t, t = max tp1 c → HulIn a b u x p bv w (.int .i64 lw2) (.int .i64 t) (.int .i64 ((q : Int) + 1)) w9 from fun t ht => ⟨q + 1, by omega, by first | rfl | go_num, by rw [← HLW2.out], by rw [ht, ← HTP.out], HB9.out⟩)
            rcases Int.lt_trichotomy tp1 c with hh | hh | hh
            · skip
              have g2 : ¬ c < tp1 := by omega
              have g3 : ¬ c ≤ tp1 := by omega
              have g4 : tp1 ≤ c := by omega
              have HE := Lib.hid (show c = max tp1 c by omega)
              go_wp2
              go_roundw
              case rel => exact HQ.out _ HE.out
              case measure => simp [intOf]; omega
            · skip
              subst hh
              have HE := Lib.hid (show tp1 = max tp1 tp1 by omega)
              go_wp2
              go_roundw
              case rel => exact HQ.out _ HE.out
              case measure => simp [intOf]; omega
            · skip
              have g2 : ¬ tp1 < c := by omega
              have g3 : ¬ tp1 ≤ c := by omega
              have g4 : c ≤ tp1 := by omega
              have HE := Lib.hid (show tp1 = max tp1 c by omega)
              go_wp2
              go_roundw
              case rel => exact HQ.out _ HE.out
              case measure => simp [intOf]; omega
        · obtain rfl : q = 2 := by omega
          have HQ := Lib.hid (show HulOut a b u x w (.int .i64 (lowK a b u x (2 * p + 2))) (.int .i64 (topK a b u x (2 * p + 2))) (.int .i64 ((p : Int) + 1)) wr from ⟨p + 1, by omega, by first | rfl | go_num, rfl, rfl, hB.2⟩)
          obtain ⟨lw2, hlw2⟩ : ∃ v, lowK a b u x (2 * p + 2) = v := ⟨_, rfl⟩
          obtain ⟨tp2, htp2⟩ : ∃ v, topK a b u x (2 * p + 2) = v := ⟨_, rfl⟩
          rw [hlw2, htp2] at HQ ⊢
          clear hlw2 htp2 hB
          go_wp2
          go_roundw
          case rel => exact HQ.out
          case measure => simp [intOf]; omega
    · obtain rfl : p = 2 := by omega
      rw [show 2 * 2 = 4 from rfl, lowK_all, topK_all]
      go_wp2_with fail
      refine (HBT.out _).mono ?_
      rintro e w9 ⟨rfl, rfl⟩
      go_wp2
      go_ret
      exact ⟨rfl, HLO.out⟩
end Go.Proofs.Ytcadbenjgpohoaa
