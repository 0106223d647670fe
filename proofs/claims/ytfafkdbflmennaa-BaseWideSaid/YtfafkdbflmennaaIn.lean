/- datumref11.In. -/
import Derived.Test.YtfafkdbflmennaaInN
import Derived.Test.YtfafkdbflmennaaInts
namespace Go.Proofs.Ytfafkdbflmennaa
open Go.RowKit

/-! ### In -/
def InRel (l : List Int) (n : Nat) (w : World) (i : Value) (wr : World) : Prop := ∃ k : Nat, k ≤ n ∧ i = .int .i64 (k : Nat) ∧ (∀ j, j < k → -1000000 ≤ l.getD j 0 ∧ l.getD j 0 ≤ 1000000) ∧ wr = w
theorem inB_yes {l : List Int} (h : ∀ j, j < l.length → -1000000 ≤ l.getD j 0 ∧ l.getD j 0 ≤ 1000000) : inB l = true := by
  unfold inB
  rw [List.all_eq_true]
  intro x hx
  obtain ⟨j, hj, rfl⟩ := List.getElem_of_mem hx
  have := h j hj
  rw [List.getD_eq_getElem?_getD, List.getElem?_eq_getElem hj] at this
  exact decide_eq_true this
theorem inB_no {l : List Int} (j : Nat) (hj : j < l.length) (h : ¬ (-1000000 ≤ l.getD j 0 ∧ l.getD j 0 ≤ 1000000)) : inB l = false := by
  unfold inB
  rw [List.all_eq_false]
  refine ⟨l[j], List.getElem_mem _, fun hc => h ?_⟩
  rw [List.getD_eq_getElem?_getD, List.getElem?_eq_getElem hj]
  exact of_decide_eq_true hc
set_option maxRecDepth 100000 in
theorem rin_any (l : List Int) (v : Value) (w : World) (hr : ReadsI w v l) :
    Calls Try.prog 27 #[v] w fun e w' => e = .returned (.bool (inB l)) ∧ w' = w := by
  obtain ⟨ao, cap, rfl, hlc, hcm, hc⟩ := hr
  unfold maxLen at hcm
  have HC := Lib.hid hc
  clear hc
  obtain ⟨X, hX⟩ : ∃ X, inB l = X := ⟨_, rfl⟩
  rw [hX]
  have HY := Lib.hid (fun hx => hX.symm.trans (inB_yes (l := l) hx))
  have HZ := Lib.hid (fun j hj h => hX.symm.trans (inB_no (l := l) j hj h))
  obtain ⟨n, hn⟩ : ∃ n, l.length = n := ⟨_, rfl⟩
  rw [hn] at hlc ⊢
  have HN := Lib.hid hn
  clear hX hn
  go_enter Try.func27, Try.ntmps27
  go_wp2
  go_loopw [7] (InRel l n w) (fun i _ => n - (intOf i).toNat)
  case atStart => exact ⟨0, Nat.zero_le _, rfl, fun j hj => absurd hj (Nat.not_lt_zero _), rfl⟩
  case round =>
    obtain ⟨k, hk, rfl, hgood, rfl⟩ := hrel
    have HG := Lib.hid hgood
    clear hgood
    by_cases hl : k < n
    · obtain ⟨b, o, rfl, hlt, hd⟩ := HC.out k (by rw [HN.out]; exact hl)
      obtain ⟨x, hxk⟩ : ∃ x, l.getD k 0 = x := ⟨_, rfl⟩
      rw [hxk] at hd
      have HK := Lib.hid hxk
      clear hxk
      by_cases h1 : -1000000 ≤ x
      · by_cases h2 : x ≤ 1000000
        · have g1 : ¬ x < -1000000 := by omega
          have g2 : ¬ 1000000 < x := by omega
          have HL := Lib.hid (And.intro h1 h2)
          clear h1 h2
          go_wp2
          go_roundw
          case rel =>
            refine ⟨k + 1, by omega, by go_num, fun j hj => ?_, rfl⟩
            rcases Nat.lt_succ_iff_lt_or_eq.1 hj with hj | rfl
            · exact HG.out j hj
            · rw [HK.out]
              exact HL.out
          case measure => simp [intOf]; omega
        · have HE := Lib.hid (HZ.out k (by rw [HN.out]; exact hl) (by rw [HK.out]; omega))
          have g1 : ¬ x < -1000000 := by omega
          have g2 : 1000000 < x := by omega
          clear h1 h2
          go_wp2
          go_ret
          exact ⟨by rw [HE.out]; rfl, rfl⟩
      · have HE := Lib.hid (HZ.out k (by rw [HN.out]; exact hl) (by rw [HK.out]; omega))
        have g1 : x < -1000000 := by omega
        clear h1
        go_wp2
        go_ret
        exact ⟨by rw [HE.out]; rfl, rfl⟩
    · obtain rfl : k = n := by omega
      have HE := Lib.hid (HY.out (by rw [HN.out]; exact HG.out))
      go_wp2
      go_ret
      exact ⟨by rw [HE.out]; rfl, rfl⟩
end Go.Proofs.Ytfafkdbflmennaa
