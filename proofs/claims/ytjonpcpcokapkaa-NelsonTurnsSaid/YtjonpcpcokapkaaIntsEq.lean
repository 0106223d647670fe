/- Rows of ints, read: datumref10.Ints. -/
import Derived.Test.YtjonpcpcokapkaaInts
import Derived.BigQuiet
namespace Go.Proofs.Ytjonpcpcokapkaa
open Go.RowKit

theorem drewN_cell (w : World) (m : Nat) (p : Addr) : (w.drewN m).cell? p = w.cell? p := rfl
theorem ReadsI.drewN {w : World} {v : Value} {xs : List Int} (h : ReadsI w v xs) (m : Nat) : ReadsI (w.drewN m) v xs := h
theorem Below.drewN {B : Nat} {a w : World} (h : Below B a w) (m : Nat) : Below B a (w.drewN m) := h.trans ⟨rfl, rfl, rfl, Nat.le_refl _, fun _ _ => rfl⟩
theorem getD_eq {xs ys : List Int} (hl : xs.length = ys.length) (h : ∀ j, j < xs.length → xs.getD j 0 = ys.getD j 0) : xs = ys := by
  refine List.ext_getElem hl fun j h1 h2 => ?_
  have := h j h1
  rw [List.getD_eq_getElem?_getD, List.getD_eq_getElem?_getD, List.getElem?_eq_getElem h1, List.getElem?_eq_getElem h2] at this
  exact this
def IntsRel (xs ys : List Int) (n : Nat) (w : World) (i : Value) (wr : World) : Prop := ∃ k : Nat, k ≤ n ∧ i = .int .i64 (k : Nat) ∧ (∀ j, j < k → xs.getD j 0 = ys.getD j 0) ∧ ∃ m, wr = w.drewN m
set_option maxHeartbeats 2000000 in
set_option maxRecDepth 100000 in
theorem ints_any (xs ys : List Int) (u v : Value) (w : World) (ha : ReadsI w u xs) (hb : ReadsI w v ys) :
    Calls Try.prog 17 #[u, v] w fun e w' => e = .returned (.bool (decide (xs = ys))) ∧ ∃ m, w' = w.drewN m := by
  obtain ⟨a1, p1, rfl, hl1, hm1, hc1⟩ := ha
  obtain ⟨a2, p2, rfl, hl2, hm2, hc2⟩ := hb
  unfold maxLen at hm1 hm2
  by_cases hln : xs.length = ys.length
  · have HA := Lib.hid hc1
    have HB := Lib.hid hc2
    clear hc1 hc2
    obtain ⟨X, hX⟩ : ∃ X, decide (xs = ys) = X := ⟨_, rfl⟩
    rw [hX]
    have HY := Lib.hid (fun h => hX.symm.trans (decide_eq_true (getD_eq hln h)))
    have HZ := Lib.hid (fun (j : Nat) (h : ¬ xs.getD j 0 = ys.getD j 0) => hX.symm.trans (decide_eq_false (p := xs = ys) fun h2 => h (by rw [h2])))
    obtain ⟨n, hn⟩ : ∃ n, xs.length = n := ⟨_, rfl⟩
    have HN := Lib.hid hn
    rw [hn] at hl1 ⊢
    have hn2 : ys.length = n := hln.symm.trans hn
    have HM := Lib.hid hn2
    rw [hn2] at hl2 ⊢
    clear hX hn hn2 hln
    go_enter Try.func17, Try.ntmps17
    go_wp2
    go_loopw [13] (IntsRel xs ys n w) (fun i _ => n - (intOf i).toNat)
    case atStart => exact ⟨0, Nat.zero_le _, rfl, fun j hj => absurd hj (Nat.not_lt_zero _), 0, rfl⟩
    case round =>
      obtain ⟨k, hk, rfl, hgood, m, hm⟩ := hrel
      have HW := Lib.hid hm
      have HG := Lib.hid hgood
      clear hgood
      by_cases hl : k < n
      · obtain ⟨b1, o1, rfl, hlt1, hd1⟩ := HA.out k (by rw [HN.out]; exact hl)
        obtain ⟨b2, o2, rfl, hlt2, hd2⟩ := HB.out k (by rw [HM.out]; exact hl)
        have hd1' : wr.cell? ⟨b1, o1 + k, none⟩ = some (.int .i64 (xs.getD k 0)) := by rw [hm]; exact hd1
        have hd2' : wr.cell? ⟨b2, o2 + k, none⟩ = some (.int .i64 (ys.getD k 0)) := by rw [hm]; exact hd2
        have hkn : (k : Int) < (n : Int) := by omega
        obtain ⟨x, hx⟩ : ∃ x, xs.getD k 0 = x := ⟨_, rfl⟩
        obtain ⟨y, hy⟩ : ∃ y, ys.getD k 0 = y := ⟨_, rfl⟩
        rw [hx] at hd1'
        rw [hy] at hd2'
        have HE := Lib.hid hx
        have HF := Lib.hid hy
        clear hd1 hd2 HA HB hx hy hm
        by_cases hxy : x = y
        · subst hxy
          have hne : (x != x) = false := by simp
          go_wp2
          go_quiet (fail)
          go_wp2
          go_roundw
          case rel =>
            refine ⟨k + 1, hl, by go_num, fun j hj => ?_, _, by rw [HW.out]; exact World.drewN_drewN ..⟩
            rcases Nat.lt_succ_iff_lt_or_eq.1 hj with hj | rfl
            · exact HG.out j hj
            · rw [HE.out, HF.out]
          case measure => simp [intOf]; omega
        · have hne : (x != y) = true := by simp [hxy]
          have hne2 : (x == y) = false := by simp [hxy]
          have HQ := Lib.hid (HZ.out k (by rw [HE.out, HF.out]; exact hxy))
          go_wp2
          go_quiet (fail)
          go_wp2
          go_ret
          exact ⟨by rw [HQ.out]; rfl, _, by rw [HW.out]; exact World.drewN_drewN ..⟩
      · obtain rfl : k = n := by omega
        have HQ := Lib.hid (HY.out (by rw [HN.out]; exact HG.out))
        clear hm
        go_wp2
        go_ret
        exact ⟨by rw [HQ.out]; rfl, m, HW.out⟩
  · rw [decide_eq_false (p := xs = ys) fun h => hln (by rw [h])]
    have hne : ((xs.length : Int) != (ys.length : Int)) = true := by simp; omega
    have hne2 : ((xs.length : Int) == (ys.length : Int)) = false := by simp; omega
    clear hc1 hc2
    generalize xs.length = n at *
    generalize ys.length = n2 at *
    go_enter Try.func17, Try.ntmps17
    go_wp2
    go_ret
    exact ⟨rfl, 0, rfl⟩
end Go.Proofs.Ytjonpcpcokapkaa
