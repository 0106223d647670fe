/- collect.Right, and the reference's: whether a group may be. -/
import Derived.Test.YtnpgofkdfckioaaColA
namespace Go.Proofs.Ytnpgofkdfckioaa
open Go.RowKit

theorem grightB_yes {s lo hi : Int} {xs : List Int} (h : 1 ≤ s ∧ s ≤ 10 ∧ -1000000 ≤ lo ∧ hi ≤ 1000000 ∧ lo < hi ∧ (xs.length : Int) < s) (hx : ∀ j, j < xs.length → lo ≤ xs.getD j 0 ∧ xs.getD j 0 ≤ hi) : grightB ⟨s, lo, hi, xs⟩ = true := by
  unfold grightB sizesB
  simp only [Bool.and_eq_true, decide_eq_true_eq, List.all_eq_true]
  refine ⟨fun x hx' => ?_, ⟨by omega, by omega, by omega, by omega, by omega⟩, h.2.2.2.2.2⟩
  obtain ⟨j, hj, rfl⟩ := List.getElem_of_mem hx'
  have := hx j hj
  rw [List.getD_eq_getElem?_getD, List.getElem?_eq_getElem hj] at this
  exact decide_eq_true this
theorem grightB_no {s lo hi : Int} {xs : List Int} (h : ¬ (1 ≤ s ∧ s ≤ 10 ∧ -1000000 ≤ lo ∧ hi ≤ 1000000 ∧ lo < hi ∧ (xs.length : Int) < s)) : grightB ⟨s, lo, hi, xs⟩ = false := by
  unfold grightB sizesB
  cases h1 : xs.all (fitsB ⟨s, lo, hi, xs⟩)
  · rfl
  · rw [Bool.true_and]
    by_cases h2 : 1 ≤ s ∧ s ≤ 10 ∧ -1000000 ≤ lo ∧ hi ≤ 1000000 ∧ lo < hi
    · rw [decide_eq_true h2, Bool.true_and]
      exact decide_eq_false fun h3 => h ⟨h2.1, h2.2.1, h2.2.2.1, h2.2.2.2.1, h2.2.2.2.2, h3⟩
    · rw [decide_eq_false h2]
      rfl
theorem grightB_bad {s lo hi : Int} {xs : List Int} (j : Nat) (hj : j < xs.length) (h : ¬ (lo ≤ xs.getD j 0 ∧ xs.getD j 0 ≤ hi)) : grightB ⟨s, lo, hi, xs⟩ = false := by
  unfold grightB
  have : xs.all (fitsB ⟨s, lo, hi, xs⟩) = false := by
    rw [List.all_eq_false]
    refine ⟨xs[j], List.getElem_mem _, fun hc => h ?_⟩
    rw [List.getD_eq_getElem?_getD, List.getElem?_eq_getElem hj]
    exact of_decide_eq_true hc
  rw [this]
  rfl
theorem grightB_out {g : Grp} (h : grightB g = true) : (1 ≤ g.size ∧ g.size ≤ 10 ∧ -1000000 ≤ g.low ∧ g.high ≤ 1000000 ∧ g.low < g.high ∧ (g.xs.length : Int) < g.size) ∧ ∀ x ∈ g.xs, g.low ≤ x ∧ x ≤ g.high := by
  unfold grightB sizesB at h
  simp only [Bool.and_eq_true, decide_eq_true_eq, List.all_eq_true] at h
  obtain ⟨h1, ⟨h2, h3, h4, h5, h6⟩, h7⟩ := h
  exact ⟨⟨h2, h3, h4, h5, h6, h7⟩, fun x hx => of_decide_eq_true (h1 x hx)⟩
def RtRel (s lo hi : Int) (ao : Option Addr) (n cap : Nat) (xs : List Int) (w : World) (i : Value) (wr : World) : Prop :=
  ∃ k : Nat, k ≤ n ∧ i = .int .i64 (k : Nat) ∧ (∀ j, j < k → lo ≤ xs.getD j 0 ∧ xs.getD j 0 ≤ hi) ∧ Below w.heap.size w wr ∧ Has wr w.heap.size [.int .i64 s, .int .i64 lo, .int .i64 hi, .slice ao n cap] 24
set_option maxHeartbeats 2000000 in
set_option maxRecDepth 100000 in
theorem right10_any (s lo hi : Int) (xs : List Int) (v : Value) (w : World) (hr : ReadsI w v xs) :
    Calls Try.prog 11 #[.agg #[.int .i64 s, .int .i64 lo, .int .i64 hi, v]] w fun e w' => e = .returned (.bool (grightB ⟨s, lo, hi, xs⟩)) ∧ Below w.heap.size w w' := by
  obtain ⟨ao, cap, rfl, hlc, hcm, hc⟩ := hr
  unfold maxLen at hcm
  have HC := Lib.hid hc
  clear hc
  obtain ⟨X, hX⟩ : ∃ X, grightB ⟨s, lo, hi, xs⟩ = X := ⟨_, rfl⟩
  rw [hX]
  have HY := Lib.hid (fun h hx => hX.symm.trans (grightB_yes (s := s) (lo := lo) (hi := hi) (xs := xs) h hx))
  have HZ := Lib.hid (fun j hj h => hX.symm.trans (grightB_bad (s := s) (lo := lo) (hi := hi) (xs := xs) j hj h))
  obtain ⟨n, hn⟩ : ∃ n, xs.length = n := ⟨_, rfl⟩
  rw [hn] at hlc ⊢
  have HN := Lib.hid hn
  have h0 := Has.new w [.int .i64 s, .int .i64 lo, .int .i64 hi, .slice ao n cap] 24
  have hB := (Below.refl w.heap.size w).alloc (Nat.le_refl _) (.cells #[.int .i64 s, .int .i64 lo, .int .i64 hi, .slice ao n cap] 24)
  by_cases h1 : 1 ≤ s
  · by_cases h2 : s ≤ 10
    · by_cases h3 : (n : Int) < s
      · by_cases h4 : -1000000 ≤ lo
        · by_cases h5 : hi ≤ 1000000
          · by_cases h6 : lo < hi
            · clear hX hn
              have g1 : ¬ s < 1 := by omega
              have g2 : ¬ 10 < s := by omega
              have g3 : ¬ s ≤ (n : Int) := by omega
              have g4 : ¬ lo < -1000000 := by omega
              have g5 : ¬ 1000000 < hi := by omega
              have g6 : ¬ hi ≤ lo := by omega
              have HF := Lib.hid (show 1 ≤ s ∧ s ≤ 10 ∧ -1000000 ≤ lo ∧ hi ≤ 1000000 ∧ lo < hi ∧ (xs.length : Int) < s by rw [HN.out]; omega)
              clear h1 h2 h4 h5 h6
              go_enter Try.func11, Try.ntmps11
              go_wp2
              go_loopw [39] (RtRel s lo hi ao n cap xs w) (fun i _ => n - (intOf i).toNat)
              case atStart => exact ⟨0, Nat.zero_le _, rfl, fun j hj => absurd hj (Nat.not_lt_zero _), hB, h0⟩
              case round =>
                obtain ⟨k, hk, rfl, hgood, hb, hx⟩ := hrel
                clear h0 hB
                have HG := Lib.hid hgood
                clear hgood
                by_cases hl : k < n
                · obtain ⟨b, o, rfl, hlt, hd⟩ := HC.out k (by rw [HN.out]; exact hl)
                  have hd2 := (hb.cell (p := ⟨b, o + k, none⟩) hlt).trans hd
                  obtain ⟨x, hxk⟩ : ∃ x, xs.getD k 0 = x := ⟨_, rfl⟩
                  rw [hxk] at hd2
                  have HK := Lib.hid hxk
                  have hsz := hb.size
                  have c0 : wr.cell? ⟨w.heap.size, 0, none⟩ = some (.int .i64 s) := hx.cell 0
                  have c1 : wr.cell? ⟨w.heap.size, 1, none⟩ = some (.int .i64 lo) := hx.cell 1
                  have c2 : wr.cell? ⟨w.heap.size, 2, none⟩ = some (.int .i64 hi) := hx.cell 2
                  have c3 : wr.cell? ⟨w.heap.size, 3, none⟩ = some (.slice (some ⟨b, o, none⟩) n cap) := hx.cell 3
                  have ht := takes_any s lo hi x (some ⟨b, o, none⟩) n cap wr
                  clear hd hxk
                  by_cases hf : lo ≤ x ∧ x ≤ hi
                  · rw [decide_eq_true hf] at ht
                    have HL := Lib.hid hf
                    clear hf
                    go_wp2_with fail
                    refine ht.mono ?_
                    rintro e w2 ⟨rfl, k2⟩
                    have hb2 := hb.trans (k2.mono hsz)
                    have hx2 := hx.call k2
                    clear hb hx ht c0 c1 c2 c3 hd2 k2
                    go_wp2
                    go_roundw
                    case rel =>
                      refine ⟨k + 1, by omega, by go_num, fun j hj => ?_, hb2, hx2⟩
                      rcases Nat.lt_succ_iff_lt_or_eq.1 hj with hj | rfl
                      · exact HG.out j hj
                      · rw [HK.out]
                        exact HL.out
                    case measure => simp [intOf]; omega
                  · rw [decide_eq_false hf] at ht
                    have HE := Lib.hid (HZ.out k (by rw [HN.out]; exact hl) (by rw [HK.out]; exact hf))
                    clear hf
                    go_wp2_with fail
                    refine ht.mono ?_
                    rintro e w2 ⟨rfl, k2⟩
                    have hb2 := hb.trans (k2.mono hsz)
                    clear hb hx ht c0 c1 c2 c3 hd2 k2
                    go_wp2
                    go_ret
                    exact ⟨by rw [HE.out]; rfl, hb2⟩
                · obtain rfl : k = n := by omega
                  have HE := Lib.hid (HY.out HF.out (by rw [HN.out]; exact HG.out))
                  clear hx
                  go_wp2
                  go_ret
                  exact ⟨by rw [HE.out]; rfl, hb⟩
            · rw [show X = false from by rw [← hX]; exact grightB_no (by rw [hn]; omega)]
              go_enter Try.func11, Try.ntmps11
              go_wp2
              go_ret
              exact ⟨rfl, hB⟩
          · rw [show X = false from by rw [← hX]; exact grightB_no (by rw [hn]; omega)]
            go_enter Try.func11, Try.ntmps11
            go_wp2
            go_ret
            exact ⟨rfl, hB⟩
        · rw [show X = false from by rw [← hX]; exact grightB_no (by rw [hn]; omega)]
          go_enter Try.func11, Try.ntmps11
          go_wp2
          go_ret
          exact ⟨rfl, hB⟩
      · rw [show X = false from by rw [← hX]; exact grightB_no (by rw [hn]; omega)]
        go_enter Try.func11, Try.ntmps11
        go_wp2
        go_ret
        exact ⟨rfl, hB⟩
    · rw [show X = false from by rw [← hX]; exact grightB_no (by rw [hn]; omega)]
      go_enter Try.func11, Try.ntmps11
      go_wp2
      go_ret
      exact ⟨rfl, hB⟩
  · rw [show X = false from by rw [← hX]; exact grightB_no (by rw [hn]; omega)]
    go_enter Try.func11, Try.ntmps11
    go_wp2
    go_ret
    exact ⟨rfl, hB⟩
end Go.Proofs.Ytnpgofkdfckioaa
