/- The reference of stage 7, first part: a blank, a number, one token, at a place of a text. -/
import Derived.Test.YticgmbhdcegoeaaDoorTokF
namespace Go.Proofs.YticgmbhdcegoeaaDoor
open Go.RowKit

theorem getD_drop (l : List UInt8) (a k : Nat) : (l.drop a).getD k 0 = l.getD (a + k) 0 := by
  rw [List.getD_eq_getElem?_getD, List.getD_eq_getElem?_getD, List.getElem?_drop]
theorem idx_at (l : List UInt8) (i : Nat) (h : i < l.length) (w : World) : (Instr.index 9 (.string (bs l)) (.int .i64 (i : Int))).run Tryd.prog w = .ok (.int .u8 (bt l i : Nat)) w :=
  run_index_bs (P := Tryd.prog) w 9 l .i64 i Tryd.underlying9 h

/-- A remark's length, byte by byte. -/
theorem rblank_core (l : List UInt8) (a h s : Nat) (w : World) (hm : l.length ≤ 100000) (ha : a < l.length) (hh : bt l a = h) (hs : spanLen notEnd (l.drop a) = s) :
    Calls Tryd.prog 21 #[.string (bs l), .int .i64 (a : Nat)] w fun e w' => e = .returned (.int .i64 ((if spcB h = true then 1 else if h = 35 then s else 0 : Nat) : Int)) ∧ w = w' := by
  have hidx := idx_at l a ha
  rw [hh] at hidx
  have hz := bs_size l
  obtain ⟨z, hzz⟩ : ∃ z : Int, z = (h : Int) := ⟨_, rfl⟩
  rw [← hzz] at hidx
  have hc : z = 32 ∨ z = 9 ∨ z = 10 ∨ z = 13 ∨ z = 35 ∨ (z ≠ 32 ∧ z ≠ 9 ∧ z ≠ 10 ∧ z ≠ 13 ∧ z ≠ 35) := by omega
  have e1 : spcB h = decide (z = 32 ∨ z = 9 ∨ z = 10 ∨ z = 13) := by
    unfold spcB
    exact decide_eq_decide.2 (by omega)
  rw [e1]
  clear e1 hh
  rcases hc with rfl | rfl | rfl | rfl | rfl | ⟨h1, h2, h3, h4, h5⟩
  case inr.inr.inr.inr.inr =>
    rw [if_neg (by rw [decide_eq_false (by omega)]; decide), if_neg (by omega)]
    have b1 : (z == 32) = false := beq_false_of_ne h1
    have b2 : (z == 9) = false := beq_false_of_ne h2
    have b3 : (z == 10) = false := beq_false_of_ne h3
    have b4 : (z == 13) = false := beq_false_of_ne h4
    have b5 : (z != 35) = true := bne_iff_ne.2 h5
    clear h1 h2 h3 h4 h5 hzz hs
    go_enter Tryd.func21, Tryd.ntmps21
    go_wp2
    go_ret
    exact ⟨rfl, rfl⟩
  case inr.inr.inr.inr.inl =>
    obtain rfl : h = 35 := by omega
    rw [if_neg (by decide), if_pos rfl]
    have hsl := spanLen_le notEnd (l.drop a)
    rw [hs, List.length_drop] at hsl
    have hbt : ∀ k, bt (l.drop a) k = bt l (a + k) := fun k => by unfold bt; rw [getD_drop]
    clear hzz
    go_enter Tryd.func21, Tryd.ntmps21
    go_wp2
    go_loop [6] (fun n => ∃ k : Nat, k ≤ s ∧ n = .int .i64 (k : Nat)) (fun n => l.length - (intOf n).toNat)
    case atStart => exact ⟨0, Nat.zero_le _, rfl⟩
    case round =>
      obtain ⟨k, hk, rfl⟩ := hrel
      by_cases hl : a + k < l.length
      · have hi2 : ∀ w, (Instr.index 9 (.string (bs l)) (.int .i64 ((a : Int) + (k : Int)))).run Tryd.prog w = .ok (.int .u8 (bt l (a + k) : Nat)) w := idx_at l (a + k) hl
        have hn : notEnd ((l.drop a).getD k 0) = !decide (bt l (a + k) = 10) := by
          rw [← hbt k]
          unfold notEnd
          exact decide_not
        have hkl : k < (l.drop a).length := by rw [List.length_drop]; omega
        by_cases c : bt l (a + k) = 10
        · have HS := Lib.hid (spanLen_stop notEnd (l.drop a) k (by rw [hs]; exact hk) (Or.inr (by rw [hn, decide_eq_true c]; rfl)))
          rw [hs] at HS
          rw [c] at hi2
          clear hn c hbt hs
          go_wp2
          go_ret
          exact ⟨ret_nat HS.out, rfl⟩
        · have HS := Lib.hid (spanLen_step notEnd (l.drop a) k (by rw [hs]; exact hk) hkl (by rw [hn, decide_eq_false c]; rfl))
          rw [hs] at HS
          obtain ⟨y, hy⟩ : ∃ y : Int, y = (bt l (a + k) : Nat) := ⟨_, rfl⟩
          rw [← hy] at hi2
          have b1 : (y != 10) = true := bne_iff_ne.2 (by omega)
          clear hn c hbt hs hy
          go_wp2
          go_round
          case rel => exact ⟨k + 1, HS.out, by go_num⟩
          case measure => simp [intOf]; omega
      · have HS := Lib.hid (show k = s by omega)
        clear hbt hs
        go_wp2
        go_ret
        exact ⟨ret_nat HS.out, rfl⟩
  all_goals rw [if_pos (by decide)]
  all_goals clear hzz hs
  all_goals go_enter Tryd.func21, Tryd.ntmps21
  all_goals go_wp2
  all_goals go_ret
  all_goals exact ⟨rfl, rfl⟩
theorem rblank_any (l : List UInt8) (a : Nat) (w : World) (hm : l.length ≤ 100000) (ha : a < l.length) :
    Calls Tryd.prog 21 #[.string (bs l), .int .i64 (a : Nat)] w fun e w' => e = .returned (.int .i64 (blankN (l.drop a) : Nat)) ∧ w = w' := by
  have h := rblank_core l a _ _ w hm ha rfl rfl
  have e : (if spcB (bt l a) = true then 1 else if bt l a = 35 then spanLen notEnd (l.drop a) else 0) = blankN (l.drop a) := by
    have hd : l.drop a = l.getD a 0 :: l.drop (a + 1) := by rw [List.drop_eq_getElem_cons ha, List.getD_eq_getElem?_getD, List.getElem?_eq_getElem ha]; rfl
    rw [hd, blankN_cons]
    show (if isSpace (l.getD a 0) = true then 1 else if (l.getD a 0).toNat = 35 then _ else 0) = _
    by_cases c : isSpace (l.getD a 0) = true
    · rw [if_pos c, if_pos c]
    · rw [if_neg c, if_neg c]
      by_cases d : (l.getD a 0).toNat = 35
      · rw [if_pos d, if_pos d]
        show (if notEnd (l.getD a 0) = true then _ else 0) = _
        rw [if_pos (by unfold notEnd; rw [d]; rfl)]
      · rw [if_neg d, if_neg d]
  rw [e] at h
  exact h
end Go.Proofs.YticgmbhdcegoeaaDoor
