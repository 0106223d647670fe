/- The reference of stage 7: all tokens of a text. -/
import Derived.Test.YticgmbhdcegoeaaDoorTokJ
namespace Go.Proofs.YticgmbhdcegoeaaDoor
open Go.RowKit

theorem rscan_next (l : List UInt8) (a : Nat) (acc : List Tok) (k : Int) (t : List UInt8) (v : Int) (n : Nat) (ha : a < l.length) (hb : blankN (l.drop a) = 0) (h1 : oneN (l.drop a) = .ok (k, t, v, n)) :
    pre acc (scanF (l.drop a) a) = pre (acc ++ [⟨k, t, v, a⟩]) (scanF (l.drop (a + n)) (a + n)) := by
  have hne : l.drop a ≠ [] := fun e => by have := congrArg List.length e; rw [List.length_drop, List.length_nil] at this; omega
  rw [scanF_one _ a hne hb, h1]
  dsimp only
  refine (pre_snoc acc ⟨k, t, v, a⟩ (scanF ((l.drop a).drop n) (a + n))).trans ?_
  rw [List.drop_drop]
theorem rscan_blank (l : List UInt8) (a : Nat) (hb : 0 < blankN (l.drop a)) : scanF (l.drop a) a = scanF (l.drop (a + blankN (l.drop a))) (a + blankN (l.drop a)) := by
  rw [scanF_blank _ a hb, List.drop_drop]
def RScanRel (l : List UInt8) (w : World) (v at' : Value) (wr : World) : Prop :=
  ∃ (a : Nat) (acc : List Tok), at' = .int .i64 (a : Nat) ∧ a ≤ l.length ∧ acc.length ≤ a ∧ Row w.heap.size v acc wr ∧ scanL l = pre acc (scanF (l.drop a) a) ∧ Below w.heap.size w wr
theorem rscan_long (l : List UInt8) (w : World) (h : 4000 < l.length) :
    Calls Tryd.prog 8 #[.string (bs l)] w fun e w' => e = .returned (.tuple #[.slice none 0 0, .int .i64 0, .int .i64 2]) ∧ w = w' := by
  have hs := bs_size l
  go_enter Tryd.func8, Tryd.ntmps8
  go_wp2
  go_ret3
  exact ⟨rfl, rfl⟩
theorem Row.made (w : World) : Row w.heap.size (.slice (some ⟨w.heap.size, 0, none⟩) 0 0) [] (w.alloc (.cells #[] 30)) := World.ownsRow_made w #[] 0 (Nat.le_refl _) (Nat.zero_le _) rfl
set_option maxHeartbeats 2000000 in
set_option maxRecDepth 100000 in
theorem rscan_any (l : List UInt8) (w : World) (hl : l.length ≤ 4000) :
    Calls Tryd.prog 8 #[.string (bs l)] w (ScanEnd l w) := by
  obtain ⟨i0, hi, hz0, hz1, hz2⟩ := info_parts infoTok
  have hs := bs_size l
  have hmade := Row.made w
  have hb0 : Below w.heap.size w (w.alloc (.cells #[] 30)) := (Below.refl _ _).alloc (Nat.le_refl _) _
  go_enter Tryd.func8, Tryd.ntmps8
  go_wp2
  go_loopw [5, 6] (RScanRel l w) (fun _ i _ => l.length - (intOf i).toNat)
  case atStart => exact ⟨0, [], rfl, Nat.zero_le _, Nat.le_refl _, hmade, by rw [pre_nil]; rfl, hb0⟩
  case round =>
    obtain ⟨a, acc, rfl, ha, hacc, hrow, hsc, hb⟩ := hrel
    clear hmade hb0
    by_cases hal : a < l.length
    · have hbk := rblank_any l a wr (by omega) hal
      by_cases hbl : 0 < blankN (l.drop a)
      · have hle := blankN_le (l.drop a)
        rw [List.length_drop] at hle
        rw [rscan_blank l a hbl] at hsc
        generalize blankN (l.drop a) = n at hsc hle hbl hbk
        have HS := Lib.hid hsc
        clear hsc
        go_wp2_with fail
        refine hbk.mono ?_
        rintro e w2 ⟨rfl, rfl⟩
        clear hbk
        go_wp2
        go_roundw
        case rel => exact ⟨a + n, acc, by go_num, by omega, by omega, hrow, HS.out, hb⟩
        case measure => simp [intOf]; omega
      · have hbl0 : blankN (l.drop a) = 0 := by omega
        have hone := fun W => rone_any l a W (by omega) hal
        cases h1 : oneN (l.drop a) with
        | error c =>
          have hc := oneN_err h1
          rw [h1] at hone
          have hne : l.drop a ≠ [] := fun e => by have := congrArg List.length e; rw [List.length_drop, List.length_nil] at this; omega
          have HS : Hid (scanL l = .error (a, c)) := by rw [hsc, scanF_one _ a hne hbl0, h1]; exact Lib.hid rfl
          have hc2 : (c == 0) = false := beq_false_of_ne hc
          have hc3 : (c != 0) = true := bne_iff_ne.2 hc
          rw [hbl0] at hbk
          clear hrow hsc h1 hbl0 hbl hc hne
          go_wp2_with fail
          refine hbk.mono ?_
          rintro e w2 ⟨rfl, rfl⟩
          clear hbk
          go_wp2_with fail
          refine (hone _).mono ?_
          rintro e w2 ⟨rfl, h2⟩
          have hb2 := hb.trans (h2.mono hb.size)
          clear h2 hone
          unfold roneOut tokV
          go_wp2
          go_ret3
          refine ⟨.slice none 0 0, (by rw [HS.out]; rfl), (fun ts h => by rw [HS.out] at h; cases h), hb2.alloc hb2.size _⟩
        | ok x =>
          obtain ⟨k, t, v', n⟩ := x
          have hlen := (oneN_len h1).2
          rw [List.length_drop] at hlen
          have hpos := (oneN_len h1).1
          have HN := Lib.hid (hsc.trans (rscan_next l a acc k t v' n hal hbl0 h1))
          rw [h1] at hone
          rw [hbl0] at hbk
          clear hsc h1 hbl0 hbl
          go_wp2_with fail
          refine hbk.mono ?_
          rintro e w2 ⟨rfl, rfl⟩
          clear hbk
          go_wp2_with fail
          refine (hone _).mono ?_
          rintro e w2 ⟨rfl, h2⟩
          have hb2 := hb.trans (h2.mono hb.size)
          have hr2 := hrow.below h2
          clear h2 hone hb hrow
          have hr3 := (hr2.alloc (.cells #[.int .i64 k, .string (bs t), .int .i64 v', .int .i64 (a : Nat)] 30)).alloc (.cells #[.int .i64 k, .string (bs t), .int .i64 v', .int .i64 (a : Nat)] 30)
          have hb3 := (hb2.alloc hb2.size (.cells #[.int .i64 k, .string (bs t), .int .i64 v', .int .i64 (a : Nat)] 30)).alloc (by have := hb2.size; simp; omega) (.cells #[.int .i64 k, .string (bs t), .int .i64 v', .int .i64 (a : Nat)] 30)
          clear hb2 hr2
          unfold roneOut tokV
          go_wp2_with (at_builtin; refine wpList_append_own _ rfl _ _ 22 rfl w.heap.size 30 i0 (.agg #[.int .i64 0, .string ⟨#[]⟩, .int .i64 0, .int .i64 0]) 4 40 Tryd.underlying22 hi hz0 hz1 hz2 rfl (by decide) _ _ _ rfl hr3 ⟨w2.heap.size + 1, 0, none⟩ 1 1 (cellsT ⟨k, t, v', a⟩) rfl rfl ?c1 ?c2 ?c3 ?c4 ?c5 ?_)
          case c1 => exact fun j u hj => tok_at _ _ (by simp) j u hj
          case c2 => exact cellsT_one _
          case c3 => unfold maxLen; omega
          case c4 => omega
          case c5 => exact hb3.size
          intro v2 w4 hown hgrow _
          have hb4 := hb3.grown hgrow hb3.size (fun j hj => (World.ownsRow.lt hr3 j hj).1)
          have hr4 := Row.snoc hown
          clear hown hgrow hb3 hr3
          go_wp2
          go_roundw
          case rel => exact ⟨a + n, acc ++ [⟨k, t, v', a⟩], by go_num, by omega, by rw [List.length_append]; show acc.length + 1 ≤ _; omega, hr4, HN.out, hb4⟩
          case measure => simp [intOf]; omega
    · have HS : Hid (scanL l = .ok acc) := by rw [hsc, List.drop_of_length_le (by omega), scanF_nil]; exact Lib.hid (by show Except.ok (acc ++ []) = _; rw [List.append_nil])
      have HR := Lib.hid hrow
      clear hrow hsc
      go_wp2
      go_ret3
      refine ⟨_, (by rw [HS.out]; rfl), (fun ts h => by rw [HS.out] at h; cases h; exact HR.out), hb⟩
end Go.Proofs.YticgmbhdcegoeaaDoor
