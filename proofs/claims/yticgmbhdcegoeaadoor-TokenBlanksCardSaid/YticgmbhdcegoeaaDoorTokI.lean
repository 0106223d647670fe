/- The reference of stage 7: one token, at a place of a text. -/
import Derived.Test.YticgmbhdcegoeaaDoorTokH
namespace Go.Proofs.YticgmbhdcegoeaaDoor
open Go.RowKit

theorem headD_drop (l : List UInt8) (a : Nat) : (l.drop a).headD 0 = l.getD a 0 := by
  rw [List.getD_eq_getElem?_getD, ← List.head?_drop]
  cases l.drop a <;> rfl
theorem rnumber_any (l : List UInt8) (a : Nat) (w : World) (hm : l.length ≤ 100000) (ha : a < l.length) :
    Calls Tryd.prog 39 #[.string (bs l), .int .i64 (a : Nat)] w fun e w' => e = .returned (rnumOut (numberN (l.drop a))) ∧ w = w' := by
  have hF : numD (l.drop a) = l.drop (if decide (bt l a = 45) = true then a + 1 else a) := by
    unfold numD
    rw [headD_drop]
    show (if bt l a = 45 then _ else _) = _
    by_cases c : bt l a = 45
    · rw [if_pos c, if_pos (decide_eq_true c), List.drop_drop]
    · rw [if_neg c, if_neg (by rw [decide_eq_false c]; decide)]
  refine rnumber_core l a _ _ _ (bt l (if decide (bt l a = 45) = true then a + 1 else a)) _ _ w hm ha rfl rfl rfl (keeps l _) (fun _ => rfl) _ ?_
  rw [numberN_eq, hF, headD_drop]
  unfold numberK
  rw [headD_drop]
  rfl

def roneOut (a : Nat) : Except Int (Int × List UInt8 × Int × Nat) → Value
  | .error e => .tuple #[tokV 0 [] 0 0, .int .i64 0, .int .i64 e]
  | .ok (k, t, v, n) => .tuple #[tokV k t v (a : Nat), .int .i64 (n : Nat), .int .i64 0]
theorem rletters_stop (l : List UInt8) (a k : Nat) : isLetter ((l.drop a).getD k 0) = letB (bt l (a + k)) := by rw [getD_drop]; rfl
set_option maxHeartbeats 4000000 in
set_option maxRecDepth 100000 in
/-- A word at a place, or nothing that is one. -/
theorem rone_word (l t : List UInt8) (a h n : Nat) (w : World) (hm : l.length ≤ 100000) (ha : a < l.length) (hh : bt l a = h)
    (h1 : h ≠ 123) (h2 : h ≠ 125) (h3 : h ≠ 59) (h4 : h ≠ 45) (h5 : digB h = false) (hn : spanLen isLetter (l.drop a) = n) (ht : (l.drop a).take n = t) (r : Except Int (Int × List UInt8 × Int × Nat))
    (hr : r = if n = 0 then .error 7 else if 12 < n then .error 2 else .ok (1, t, 0, n)) :
    Calls Tryd.prog 22 #[.string (bs l), .int .i64 (a : Nat)] w fun e w' => e = .returned (roneOut a r) ∧ Below w.heap.size w w' := by
  have hidx := idx_at l a ha
  rw [hh] at hidx
  have hz := bs_size l
  have h256 : h < 256 := by rw [← hh]; exact bt_lt l a
  have hnl := spanLen_le isLetter (l.drop a)
  rw [hn, List.length_drop] at hnl
  have hsli : ∀ w, (Instr.slice 9 (.string (bs l)) (some (.int .i64 (a : Int))) (some (.int .i64 ((a : Int) + (n : Int)))) none).run Tryd.prog w = .ok (.string (bs t)) w := fun w => by
    have := run_slice_bs (P := Tryd.prog) w 9 l .i64 .i64 a (a + n) Tryd.underlying9 (by omega) (by omega)
    rw [show a + n - a = n by omega, ht] at this
    exact this
  obtain ⟨y, hy⟩ : ∃ y : Int, y = (h : Int) := ⟨_, rfl⟩
  rw [← hy] at hidx
  have b1 : (y == 123) = false := beq_false_of_ne (by omega)
  have b2 : (y == 125) = false := beq_false_of_ne (by omega)
  have b3 : (y == 59) = false := beq_false_of_ne (by omega)
  have b4 : (y == 45) = false := beq_false_of_ne (by omega)
  have hdg := digit_any h h256
  rw [h5, ← hy] at hdg
  have HN := Lib.hid hn
  have HR := Lib.hid hr
  clear hh h1 h2 h3 h4 h5 hn ht hr hy
  go_enter Tryd.func22, Tryd.ntmps22
  go_wp2_with fail
  refine (hdg _).mono ?_
  rintro e w2 ⟨rfl, rfl⟩
  clear hdg
  go_wp2
  go_loop [12] (fun e => ∃ k : Nat, k ≤ n ∧ e = .int .i64 ((a : Int) + (k : Int))) (fun e => l.length - (intOf e).toNat)
  case atStart => exact ⟨0, Nat.zero_le _, by go_num⟩
  case round =>
    obtain ⟨k, hk, rfl⟩ := hrel
    by_cases hl : a + k < l.length
    · have hi2 : ∀ w, (Instr.index 9 (.string (bs l)) (.int .i64 ((a : Int) + (k : Int)))).run Tryd.prog w = .ok (.int .u8 (bt l (a + k) : Nat)) w := idx_at l (a + k) hl
      have hkl : k < (l.drop a).length := by rw [List.length_drop]; omega
      have hlt := letter_any (bt l (a + k)) (bt_lt l (a + k))
      have hst := rletters_stop l a k
      cases hd : letB (bt l (a + k))
      · have HS := Lib.hid (spanLen_stop isLetter (l.drop a) k (by rw [HN.out]; exact hk) (Or.inr (by rw [hst, hd])))
        rw [HN.out] at HS
        rw [hd] at hlt
        generalize bt l (a + k) = q at hi2 hlt
        clear hst hd hkl
        go_wp2_with fail
        refine (hlt _).mono ?_
        rintro e w2 ⟨rfl, rfl⟩
        clear hlt hi2 hl
        obtain rfl : k = n := HS.out
        clear HS hk
        have hr := HR.out
        by_cases c0 : k = 0
        · rw [if_pos c0] at hr
          subst hr
          clear HR HN
          go_wp2
          exact bodyPost_ret (v := .tuple #[tokV 0 [] 0 0, .int .i64 0, .int .i64 7]) (by simp [results, Tryd.results22, go_sem, tokV, bs]) rfl ⟨rfl, (Below.refl _ _).alloc (Nat.le_refl _) _⟩
        · rw [if_neg c0] at hr
          by_cases c1 : 12 < k
          · rw [if_pos c1] at hr
            subst hr
            clear HR HN
            go_wp2
            exact bodyPost_ret (v := .tuple #[tokV 0 [] 0 0, .int .i64 0, .int .i64 2]) (by simp [results, Tryd.results22, go_sem, tokV, bs]) rfl ⟨rfl, (Below.refl _ _).alloc (Nat.le_refl _) _⟩
          · rw [if_neg c1] at hr
            subst hr
            have c2 : k ≤ 12 := by omega
            clear HR HN c1
            go_wp2
            exact bodyPost_ret (v := .tuple #[tokV 1 t 0 (a : Nat), .int .i64 (k : Nat), .int .i64 0]) (by simp [results, Tryd.results22, go_sem, tokV] <;> omega) rfl ⟨rfl, (Below.refl _ _).alloc (Nat.le_refl _) _⟩
      · have HS := Lib.hid (spanLen_step isLetter (l.drop a) k (by rw [HN.out]; exact hk) hkl (by rw [hst, hd]))
        rw [HN.out] at HS
        rw [hd] at hlt
        generalize bt l (a + k) = q at hi2 hlt
        clear hst hd hkl
        go_wp2_with fail
        refine (hlt _).mono ?_
        rintro e w2 ⟨rfl, rfl⟩
        clear hlt
        go_wp2
        go_round
        case rel => exact ⟨k + 1, HS.out, by go_num⟩
        case measure => simp [intOf]; omega
    · obtain rfl : k = n := by omega
      clear hk
      have hr := HR.out
      by_cases c0 : k = 0
      · omega
      · rw [if_neg c0] at hr
        by_cases c1 : 12 < k
        · rw [if_pos c1] at hr
          subst hr
          clear HR HN
          go_wp2
          exact bodyPost_ret (v := .tuple #[tokV 0 [] 0 0, .int .i64 0, .int .i64 2]) (by simp [results, Tryd.results22, go_sem, tokV, bs]) rfl ⟨rfl, (Below.refl _ _).alloc (Nat.le_refl _) _⟩
        · rw [if_neg c1] at hr
          subst hr
          have c2 : k ≤ 12 := by omega
          clear HR HN c1
          go_wp2
          exact bodyPost_ret (v := .tuple #[tokV 1 t 0 (a : Nat), .int .i64 (k : Nat), .int .i64 0]) (by simp [results, Tryd.results22, go_sem, tokV] <;> omega) rfl ⟨rfl, (Below.refl _ _).alloc (Nat.le_refl _) _⟩
end Go.Proofs.YticgmbhdcegoeaaDoor
