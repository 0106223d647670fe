/- The reference's Right: whether a group may be. -/
import Derived.Test.YtnpgofkdfckioaaColB
namespace Go.Proofs.Ytnpgofkdfckioaa
open Go.RowKit

theorem grightB_all {s lo hi : Int} {xs : List Int} (hx : ∀ j, j < xs.length → lo ≤ xs.getD j 0 ∧ xs.getD j 0 ≤ hi) : grightB ⟨s, lo, hi, xs⟩ = (sizesB s lo hi && decide ((xs.length : Int) < s)) := by
  unfold grightB
  have : xs.all (fitsB ⟨s, lo, hi, xs⟩) = true := by
    rw [List.all_eq_true]
    intro x hx'
    obtain ⟨j, hj, rfl⟩ := List.getElem_of_mem hx'
    have := hx j hj
    rw [List.getD_eq_getElem?_getD, List.getElem?_eq_getElem hj] at this
    exact decide_eq_true this
  rw [this, Bool.true_and]
set_option maxHeartbeats 2000000 in
set_option maxRecDepth 100000 in
theorem rright10_any (s lo hi : Int) (xs : List Int) (v : Value) (w : World) (hr : ReadsI w v xs) :
    Calls Try.prog 12 #[.agg #[.int .i64 s, .int .i64 lo, .int .i64 hi, v]] w fun e w' => e = .returned (.bool (grightB ⟨s, lo, hi, xs⟩)) ∧ Below w.heap.size w w' := by
  obtain ⟨ao, cap, rfl, hlc, hcm, hc⟩ := hr
  unfold maxLen at hcm
  have HC := Lib.hid hc
  clear hc
  obtain ⟨X, hX⟩ : ∃ X, grightB ⟨s, lo, hi, xs⟩ = X := ⟨_, rfl⟩
  rw [hX]
  have HY := Lib.hid (fun hx => hX.symm.trans (grightB_all (s := s) (lo := lo) (hi := hi) (xs := xs) hx))
  have HZ := Lib.hid (fun j hj h => hX.symm.trans (grightB_bad (s := s) (lo := lo) (hi := hi) (xs := xs) j hj h))
  obtain ⟨n, hn⟩ : ∃ n, xs.length = n := ⟨_, rfl⟩
  rw [hn] at hlc ⊢
  have HN := Lib.hid hn
  have h0 := Has.new w [.int .i64 s, .int .i64 lo, .int .i64 hi, .slice ao n cap] 24
  have hB := (Below.refl w.heap.size w).alloc (Nat.le_refl _) (.cells #[.int .i64 s, .int .i64 lo, .int .i64 hi, .slice ao n cap] 24)
  clear hX hn
  go_enter Try.func12, Try.ntmps12
  go_wp2
  go_loopw [8] (RtRel s lo hi ao n cap xs w) (fun i _ => n - (intOf i).toNat)
  case atStart => exact ⟨0, Nat.zero_le _, rfl, fun j hj => absurd hj (Nat.not_lt_zero _), hB, h0⟩
  case round =>
    obtain ⟨k, hk, rfl, hgood, hb, hx⟩ := hrel
    clear h0 hB
    have HG := Lib.hid hgood
    clear hgood
    have hsz := hb.size
    have c0 : wr.cell? ⟨w.heap.size, 0, none⟩ = some (.int .i64 s) := hx.cell 0
    have c1 : wr.cell? ⟨w.heap.size, 1, none⟩ = some (.int .i64 lo) := hx.cell 1
    have c2 : wr.cell? ⟨w.heap.size, 2, none⟩ = some (.int .i64 hi) := hx.cell 2
    have c3 : wr.cell? ⟨w.heap.size, 3, none⟩ = some (.slice ao n cap) := hx.cell 3
    by_cases hl : k < n
    · obtain ⟨b, o, rfl, hlt, hd⟩ := HC.out k (by rw [HN.out]; exact hl)
      have hd2 := (hb.cell (p := ⟨b, o + k, none⟩) hlt).trans hd
      obtain ⟨x, hxk⟩ : ∃ x, xs.getD k 0 = x := ⟨_, rfl⟩
      rw [hxk] at hd2
      have HK := Lib.hid hxk
      clear hd hxk
      by_cases h1 : lo ≤ x
      · by_cases h2 : x ≤ hi
        · have g1 : ¬ x < lo := by omega
          have g2 : ¬ hi < x := by omega
          have HL := Lib.hid (And.intro h1 h2)
          clear h1 h2
          go_wp2
          go_roundw
          case rel =>
            refine ⟨k + 1, by omega, by go_num, fun j hj => ?_, hb, hx⟩
            rcases Nat.lt_succ_iff_lt_or_eq.1 hj with hj | rfl
            · exact HG.out j hj
            · rw [HK.out]
              exact HL.out
          case measure => simp [intOf]; omega
        · have HE := Lib.hid (HZ.out k (by rw [HN.out]; exact hl) (by rw [HK.out]; omega))
          have g1 : ¬ x < lo := by omega
          have g2 : hi < x := by omega
          clear h1 h2 hx
          go_wp2
          go_ret
          exact ⟨by rw [HE.out]; rfl, hb⟩
      · have HE := Lib.hid (HZ.out k (by rw [HN.out]; exact hl) (by rw [HK.out]; omega))
        have g1 : x < lo := by omega
        clear h1 hx
        go_wp2
        go_ret
        exact ⟨by rw [HE.out]; rfl, hb⟩
    · obtain rfl : k = n := by omega
      have hE := HY.out (by rw [HN.out]; exact HG.out)
      rw [HN.out] at hE
      have hsc := sizes_any s lo hi wr
      cases hS : sizesB s lo hi with
      | false =>
        rw [hS, Bool.false_and] at hE
        rw [hS] at hsc
        have HE := Lib.hid hE
        clear hE hS hx
        go_wp2_with fail
        refine hsc.mono ?_
        rintro e w2 ⟨rfl, rfl⟩
        go_wp2
        go_ret
        exact ⟨by rw [HE.out]; rfl, hb⟩
      | true =>
        rw [hS, Bool.true_and] at hE
        rw [hS] at hsc
        have HE := Lib.hid hE
        clear hE hS hx
        by_cases hks : (k : Int) < s
        · go_wp2_with fail
          refine hsc.mono ?_
          rintro e w2 ⟨rfl, rfl⟩
          go_wp2
          go_ret
          exact ⟨by rw [HE.out, decide_eq_true (show (k : Int) < s by omega)]; rfl, hb⟩
        · go_wp2_with fail
          refine hsc.mono ?_
          rintro e w2 ⟨rfl, rfl⟩
          go_wp2
          go_ret
          exact ⟨by rw [HE.out, decide_eq_false (show ¬ (k : Int) < s by omega)]; rfl, hb⟩
end Go.Proofs.Ytnpgofkdfckioaa
