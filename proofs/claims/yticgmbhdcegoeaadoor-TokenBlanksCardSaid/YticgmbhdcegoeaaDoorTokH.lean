/- The reference of stage 7: a number, at a place of a text. -/
import Derived.Test.YticgmbhdcegoeaaDoorTokG
namespace Go.Proofs.YticgmbhdcegoeaaDoor
open Go.RowKit

def rnumOut : Except Int (Int × Nat) → Value
  | .error e => .tuple #[.int .i64 0, .int .i64 0, .int .i64 e]
  | .ok (v, n) => .tuple #[.int .i64 v, .int .i64 (n : Nat), .int .i64 0]
/-- The digits' worth so far, kept at a bound. -/
structure Keeps (l : List UInt8) (F N v : Nat) (G : Nat → Nat) : Prop where
  zero : G 0 = 0
  step : ∀ k, k < N → G (k + 1) = min (10 * G k + (bt l (F + k) - 48)) 10000000000
  last : G N = min v 10000000000
  digs : ∀ k, k < N → 48 ≤ bt l (F + k) ∧ bt l (F + k) ≤ 57
  top : ∀ k, G k ≤ 10000000000
theorem keeps (l : List UInt8) (F : Nat) : Keeps l F (spanLen isDigit (l.drop F)) (valD ((l.drop F).take (spanLen isDigit (l.drop F))) 0) (fun k => min (valD ((l.drop F).take k) 0) 10000000000) := by
  have hbt : ∀ k, bt (l.drop F) k = bt l (F + k) := fun k => by unfold bt; rw [getD_drop]
  refine ⟨rfl, fun k hk => ?_, rfl, fun k hk => ?_, fun k => Nat.min_le_right _ _⟩
  · have hl : k < (l.drop F).length := Nat.lt_of_lt_of_le hk (spanLen_le _ _)
    show min (valD ((l.drop F).take (k + 1)) 0) _ = min (10 * min (valD ((l.drop F).take k) 0) 10000000000 + _) _
    rw [List.take_add_one, List.getElem?_eq_getElem hl]
    show min (valD ((l.drop F).take k ++ [(l.drop F)[k]]) 0) _ = _
    rw [valD_snoc, keep_step, ← hbt k]
    unfold bt
    rw [List.getD_eq_getElem?_getD, List.getElem?_eq_getElem hl]
    rfl
  · have := digit_nat (spanLen_yes isDigit (l.drop F) k hk)
    rw [← hbt k]
    exact this
theorem rsign {g v n a : Nat} (h : g = v) : Ending.returned (.tuple #[.int .i64 (-(g : Int)), .int .i64 ((a : Int) + 1 + (n : Int) - (a : Int)), .int .i64 0]) = .returned (rnumOut (.ok (sgn true v, n + 1))) := by
  rw [h, show (a : Int) + 1 + (n : Int) - (a : Int) = ((n + 1 : Nat) : Int) by omega]
  rfl
theorem rsame {g v n a : Nat} (h : g = v) : Ending.returned (.tuple #[.int .i64 (g : Int), .int .i64 ((a : Int) + (n : Int) - (a : Int)), .int .i64 0]) = .returned (rnumOut (.ok (sgn false v, n))) := by
  rw [h, show (a : Int) + (n : Int) - (a : Int) = (n : Int) by omega]
  rfl
set_option maxHeartbeats 4000000 in
set_option maxRecDepth 100000 in
theorem rnumber_core (l : List UInt8) (a F N v h : Nat) (below : Bool) (G : Nat → Nat) (w : World) (hm : l.length ≤ 100000) (ha : a < l.length) (hb : decide (bt l a = 45) = below) (hF : F = if below = true then a + 1 else a)
    (hN : spanLen isDigit (l.drop F) = N) (hG : Keeps l F N v G) (hh : 0 < N → bt l F = h) (r : Except Int (Int × Nat))
    (hr : r = if N = 0 then .error 7 else if (h = 48 ∧ (1 < N ∨ below = true)) ∨ 1000000000 < v then .error 3 else .ok (sgn below v, if below = true then N + 1 else N)) :
    Calls Tryd.prog 39 #[.string (bs l), .int .i64 (a : Nat)] w fun e w' => e = .returned (rnumOut r) ∧ w = w' := by
  have hidx := idx_at l a ha
  have hz := bs_size l
  have hNl := spanLen_le isDigit (l.drop F)
  rw [hN, List.length_drop] at hNl
  have hdig := digit_any
  have g0 := hG.zero
  obtain ⟨y, hy⟩ : ∃ y : Int, y = (bt l a : Nat) := ⟨_, rfl⟩
  rw [← hy] at hidx
  have b0 : (y == 45) = below := by
    rw [← hb, hy, Bool.eq_iff_iff]
    simp
    omega
  have HR := Lib.hid hr
  have HY := Lib.hid hy
  have HH := Lib.hid hh
  have HN := Lib.hid hN
  have HG := Lib.hid hG
  clear hb hy hr hN hh hG
  have E0 : (0 : Int) = ((G 0 : Nat) : Int) := by rw [g0]; rfl
  have HE := Lib.hid E0
  clear E0 g0
  cases below
  · have hFF : a = F := hF.symm
    clear hF
    subst hFF
    have hF2 : a ≤ l.length := by omega
    go_enter Tryd.func39, Tryd.ntmps39
    go_wp2
    go_loop [9, 10] (fun e n => ∃ k : Nat, k ≤ N ∧ e = .int .i64 ((a : Int) + (k : Int)) ∧ n = .int .i64 (G k : Nat)) (fun e _ => l.length - (intOf e).toNat)
    case atStart => exact ⟨0, Nat.zero_le _, by go_num, by rw [← HE.out]⟩
    case round =>
      obtain ⟨k, hk, rfl, rfl⟩ := hrel
      have hgt := HG.out.top k
      by_cases hl : a + k < l.length
      · have hi2 : ∀ w, (Instr.index 9 (.string (bs l)) (.int .i64 ((a : Int) + (k : Int)))).run Tryd.prog w = .ok (.int .u8 (bt l (a + k) : Nat)) w := idx_at l (a + k) hl
        have hkl : k < (l.drop a).length := by rw [List.length_drop]; omega
        have hdd : isDigit ((l.drop a).getD k 0) = digB (bt l (a + k)) := by rw [getD_drop]; rfl
        have hq256 := bt_lt l (a + k)
        cases hd : digB (bt l (a + k))
        · have HS := Lib.hid (spanLen_stop isDigit (l.drop a) k (by rw [HN.out]; exact hk) (Or.inr (by rw [hdd, hd])))
          rw [HN.out] at HS
          have hdc := digit_any (bt l (a + k)) hq256
          rw [hd] at hdc
          generalize bt l (a + k) = q at hi2 hdc hq256
          clear hdd hd hkl
          go_wp2_with fail
          refine (hdc _).mono ?_
          rintro e w2 ⟨rfl, rfl⟩
          clear hdc hi2 hdig hl
          obtain rfl : k = N := HS.out
          clear HS hk
          have hlast := HG.out.last
          by_cases c0 : k = 0
          · have hr := HR.out
            rw [if_pos c0] at hr
            subst hr
            clear hlast HR HG
            go_wp2
            all_goals go_ret3
            all_goals exact ⟨rfl, rfl⟩
          have hr := HR.out
          rw [if_neg c0] at hr
          have hzz : y = (h : Int) := by rw [HY.out, HH.out (by omega)]
          obtain ⟨g, hg⟩ : ∃ g, G k = g := ⟨_, rfl⟩
          rw [hg] at hlast hgt ⊢
          by_cases c1 : h = 48
          · obtain rfl : y = 48 := by omega
            clear hzz
            by_cases c2 : 1 < k
            · rw [if_pos (Or.inl ⟨c1, Or.inl c2⟩)] at hr
              subst hr
              clear hlast HR HG hg c1
              go_wp2
              all_goals go_ret3
              all_goals exact ⟨rfl, rfl⟩
            · have c2' : k ≤ 1 := by omega
              by_cases c3 : 1000000000 < v
              · have hgb : 1000000000 < g := by omega
                rw [if_pos (Or.inr c3)] at hr
                subst hr
                clear hlast HR HG hg c1 c2 c3
                go_wp2
                all_goals go_ret3
                all_goals exact ⟨rfl, rfl⟩
              · have hgb : g ≤ 1000000000 := by omega
                have HV := Lib.hid (show g = v by omega)
                rw [if_neg (by rintro (⟨_, h | h⟩ | h); exact c2 h; exact absurd h (by decide); exact c3 h), if_neg (by decide)] at hr
                subst hr
                clear hlast HR HG hg c1 c2 c3
                go_wp2
                go_ret3
                exact ⟨rsame HV.out, rfl⟩
          · have b1 : (y == 48) = false := beq_false_of_ne (by omega)
            clear hzz
            by_cases c3 : 1000000000 < v
            · have hgb : 1000000000 < g := by omega
              rw [if_pos (Or.inr c3)] at hr
              subst hr
              clear hlast HR HG hg c1 c3
              go_wp2
              all_goals go_ret3
              all_goals exact ⟨rfl, rfl⟩
            · have hgb : g ≤ 1000000000 := by omega
              have HV := Lib.hid (show g = v by omega)
              rw [if_neg (by rintro (⟨h, _⟩ | h); exact c1 h; exact c3 h), if_neg (by decide)] at hr
              subst hr
              clear hlast HR HG hg c1 c3
              go_wp2
              go_ret3
              exact ⟨rsame HV.out, rfl⟩
        · have HS := Lib.hid (spanLen_step isDigit (l.drop a) k (by rw [HN.out]; exact hk) hkl (by rw [hdd, hd]))
          rw [HN.out] at HS
          have hst := HG.out.step k HS.out
          have hdd2 := HG.out.digs k HS.out
          have hdc := digit_any (bt l (a + k)) hq256
          rw [hd] at hdc
          generalize bt l (a + k) = q at hi2 hdc hq256 hst hdd2
          have HT := Lib.hid hst
          obtain ⟨hq1, hq2⟩ := hdd2
          clear hdd hd hkl hst
          go_wp2_with fail
          refine (hdc _).mono ?_
          rintro e w2 ⟨rfl, rfl⟩
          clear hdc hdig
          go_wp2
          go_round
          case rel => exact ⟨k + 1, HS.out, by go_num, by rw [HT.out]; congr 1; omega⟩
          case measure => simp [intOf]; omega
      · have HS := Lib.hid (show k = N by omega)
        obtain rfl : k = N := HS.out
        clear HS hk
        have hlast := HG.out.last
        by_cases c0 : k = 0
        · have hr := HR.out
          rw [if_pos c0] at hr
          subst hr
          clear hlast HR HG
          go_wp2
          all_goals go_ret3
          all_goals exact ⟨rfl, rfl⟩
        have hr := HR.out
        rw [if_neg c0] at hr
        have hzz : y = (h : Int) := by rw [HY.out, HH.out (by omega)]
        obtain ⟨g, hg⟩ : ∃ g, G k = g := ⟨_, rfl⟩
        rw [hg] at hlast hgt ⊢
        by_cases c1 : h = 48
        · obtain rfl : y = 48 := by omega
          clear hzz
          by_cases c2 : 1 < k
          · rw [if_pos (Or.inl ⟨c1, Or.inl c2⟩)] at hr
            subst hr
            clear hlast HR HG hg c1
            go_wp2
            all_goals go_ret3
            all_goals exact ⟨rfl, rfl⟩
          · have c2' : k ≤ 1 := by omega
            by_cases c3 : 1000000000 < v
            · have hgb : 1000000000 < g := by omega
              rw [if_pos (Or.inr c3)] at hr
              subst hr
              clear hlast HR HG hg c1 c2 c3
              go_wp2
              all_goals go_ret3
              all_goals exact ⟨rfl, rfl⟩
            · have hgb : g ≤ 1000000000 := by omega
              have HV := Lib.hid (show g = v by omega)
              rw [if_neg (by rintro (⟨_, h | h⟩ | h); exact c2 h; exact absurd h (by decide); exact c3 h), if_neg (by decide)] at hr
              subst hr
              clear hlast HR HG hg c1 c2 c3
              go_wp2
              go_ret3
              exact ⟨rsame HV.out, rfl⟩
        · have b1 : (y == 48) = false := beq_false_of_ne (by omega)
          clear hzz
          by_cases c3 : 1000000000 < v
          · have hgb : 1000000000 < g := by omega
            rw [if_pos (Or.inr c3)] at hr
            subst hr
            clear hlast HR HG hg c1 c3
            go_wp2
            all_goals go_ret3
            all_goals exact ⟨rfl, rfl⟩
          · have hgb : g ≤ 1000000000 := by omega
            have HV := Lib.hid (show g = v by omega)
            rw [if_neg (by rintro (⟨h, _⟩ | h); exact c1 h; exact c3 h), if_neg (by decide)] at hr
            subst hr
            clear hlast HR HG hg c1 c3
            go_wp2
            go_ret3
            exact ⟨rsame HV.out, rfl⟩
  · have hFF : (a + 1) = F := hF.symm
    clear hF
    subst hFF
    have hF2 : (a + 1) ≤ l.length := by omega
    go_enter Tryd.func39, Tryd.ntmps39
    go_wp2
    go_loop [9, 10] (fun e n => ∃ k : Nat, k ≤ N ∧ e = .int .i64 ((a : Int) + 1 + (k : Int)) ∧ n = .int .i64 (G k : Nat)) (fun e _ => l.length - (intOf e).toNat)
    case atStart => exact ⟨0, Nat.zero_le _, by go_num, by rw [← HE.out]⟩
    case round =>
      obtain ⟨k, hk, rfl, rfl⟩ := hrel
      have hgt := HG.out.top k
      by_cases hl : (a + 1) + k < l.length
      · have hi2 : ∀ w, (Instr.index 9 (.string (bs l)) (.int .i64 (((a : Int) + 1) + (k : Int)))).run Tryd.prog w = .ok (.int .u8 (bt l ((a + 1) + k) : Nat)) w := idx_at l ((a + 1) + k) hl
        have hkl : k < (l.drop (a + 1)).length := by rw [List.length_drop]; omega
        have hdd : isDigit ((l.drop (a + 1)).getD k 0) = digB (bt l ((a + 1) + k)) := by rw [getD_drop]; rfl
        have hq256 := bt_lt l ((a + 1) + k)
        cases hd : digB (bt l ((a + 1) + k))
        · have HS := Lib.hid (spanLen_stop isDigit (l.drop (a + 1)) k (by rw [HN.out]; exact hk) (Or.inr (by rw [hdd, hd])))
          rw [HN.out] at HS
          have hdc := digit_any (bt l ((a + 1) + k)) hq256
          rw [hd] at hdc
          generalize bt l ((a + 1) + k) = q at hi2 hdc hq256
          clear hdd hd hkl
          go_wp2_with fail
          refine (hdc _).mono ?_
          rintro e w2 ⟨rfl, rfl⟩
          clear hdc hi2 hdig hl
          obtain rfl : k = N := HS.out
          clear HS hk
          have hlast := HG.out.last
          by_cases c0 : k = 0
          · have hr := HR.out
            rw [if_pos c0] at hr
            subst hr
            clear hlast HR HG
            go_wp2
            all_goals go_ret3
            all_goals exact ⟨rfl, rfl⟩
          have hr := HR.out
          rw [if_neg c0] at hr
          have hF : (a + 1) < l.length := by omega
          have hix : ∀ w, (Instr.index 9 (.string (bs l)) (.int .i64 ((a : Int) + 1))).run Tryd.prog w = .ok (.int .u8 (h : Nat)) w := fun w => by
            have := idx_at l (a + 1) hF w
            rw [HH.out (by omega)] at this
            exact this
          obtain ⟨z, hzz⟩ : ∃ z : Int, z = (h : Int) := ⟨_, rfl⟩
          rw [← hzz] at hix
          obtain ⟨g, hg⟩ : ∃ g, G k = g := ⟨_, rfl⟩
          rw [hg] at hlast hgt ⊢
          by_cases c1 : h = 48
          · obtain rfl : z = 48 := by omega
            clear hzz
            rw [if_pos (Or.inl ⟨c1, Or.inr (by trivial)⟩)] at hr
            subst hr
            clear hlast HR HG hg c1
            go_wp2
            all_goals go_ret3
            all_goals exact ⟨rfl, rfl⟩
          · have b1 : (z == 48) = false := beq_false_of_ne (by omega)
            clear hzz
            by_cases c3 : 1000000000 < v
            · have hgb : 1000000000 < g := by omega
              rw [if_pos (Or.inr c3)] at hr
              subst hr
              clear hlast HR HG hg c1 c3
              go_wp2
              all_goals go_ret3
              all_goals exact ⟨rfl, rfl⟩
            · have hgb : g ≤ 1000000000 := by omega
              have HV := Lib.hid (show g = v by omega)
              rw [if_neg (by rintro (⟨h, _⟩ | h); exact c1 h; exact c3 h), if_pos (by trivial)] at hr
              subst hr
              clear hlast HR HG hg c1 c3
              go_wp2
              go_ret3
              exact ⟨rsign HV.out, rfl⟩
        · have HS := Lib.hid (spanLen_step isDigit (l.drop (a + 1)) k (by rw [HN.out]; exact hk) hkl (by rw [hdd, hd]))
          rw [HN.out] at HS
          have hst := HG.out.step k HS.out
          have hdd2 := HG.out.digs k HS.out
          have hdc := digit_any (bt l ((a + 1) + k)) hq256
          rw [hd] at hdc
          generalize bt l ((a + 1) + k) = q at hi2 hdc hq256 hst hdd2
          have HT := Lib.hid hst
          obtain ⟨hq1, hq2⟩ := hdd2
          clear hdd hd hkl hst
          go_wp2_with fail
          refine (hdc _).mono ?_
          rintro e w2 ⟨rfl, rfl⟩
          clear hdc hdig
          go_wp2
          go_round
          case rel => exact ⟨k + 1, HS.out, by go_num, by rw [HT.out]; congr 1; omega⟩
          case measure => simp [intOf]; omega
      · have HS := Lib.hid (show k = N by omega)
        obtain rfl : k = N := HS.out
        clear HS hk
        have hlast := HG.out.last
        by_cases c0 : k = 0
        · have hr := HR.out
          rw [if_pos c0] at hr
          subst hr
          clear hlast HR HG
          go_wp2
          all_goals go_ret3
          all_goals exact ⟨rfl, rfl⟩
        have hr := HR.out
        rw [if_neg c0] at hr
        have hF : (a + 1) < l.length := by omega
        have hix : ∀ w, (Instr.index 9 (.string (bs l)) (.int .i64 ((a : Int) + 1))).run Tryd.prog w = .ok (.int .u8 (h : Nat)) w := fun w => by
          have := idx_at l (a + 1) hF w
          rw [HH.out (by omega)] at this
          exact this
        obtain ⟨z, hzz⟩ : ∃ z : Int, z = (h : Int) := ⟨_, rfl⟩
        rw [← hzz] at hix
        obtain ⟨g, hg⟩ : ∃ g, G k = g := ⟨_, rfl⟩
        rw [hg] at hlast hgt ⊢
        by_cases c1 : h = 48
        · obtain rfl : z = 48 := by omega
          clear hzz
          rw [if_pos (Or.inl ⟨c1, Or.inr (by trivial)⟩)] at hr
          subst hr
          clear hlast HR HG hg c1
          go_wp2
          all_goals go_ret3
          all_goals exact ⟨rfl, rfl⟩
        · have b1 : (z == 48) = false := beq_false_of_ne (by omega)
          clear hzz
          by_cases c3 : 1000000000 < v
          · have hgb : 1000000000 < g := by omega
            rw [if_pos (Or.inr c3)] at hr
            subst hr
            clear hlast HR HG hg c1 c3
            go_wp2
            all_goals go_ret3
            all_goals exact ⟨rfl, rfl⟩
          · have hgb : g ≤ 1000000000 := by omega
            have HV := Lib.hid (show g = v by omega)
            rw [if_neg (by rintro (⟨h, _⟩ | h); exact c1 h; exact c3 h), if_pos (by trivial)] at hr
            subst hr
            clear hlast HR HG hg c1 c3
            go_wp2
            go_ret3
            exact ⟨rsign HV.out, rfl⟩
end Go.Proofs.YticgmbhdcegoeaaDoor
