/- Rows of rows of ints, read: datumref10.Rows. -/
import Derived.Test.YtnpgofkdfckioaaColD
namespace Go.Proofs.Ytnpgofkdfckioaa
open Go.RowKit

/-- A slice of rows. -/
def ReadsR (w : World) (v : Value) (L : List (List Int)) : Prop :=
  ∃ ao cap, v = .slice ao L.length cap ∧ L.length ≤ cap ∧ cap ≤ maxLen ∧ ∀ i, i < L.length → ∃ b off u, ao = some ⟨b, off, none⟩ ∧ b < w.heap.size ∧ w.cell? ⟨b, off + i, none⟩ = some u ∧ ReadsI w u (L.getD i [])
theorem ReadsR.below {w w' : World} {v : Value} {L : List (List Int)} (h : ReadsR w v L) (hb : Below w.heap.size w w') : ReadsR w' v L := by
  obtain ⟨ao, cap, h1, h2, h3, h4⟩ := h
  refine ⟨ao, cap, h1, h2, h3, fun i hi => ?_⟩
  obtain ⟨b, off, u, h5, h6, h7, h8⟩ := h4 i hi
  exact ⟨b, off, u, h5, Nat.lt_of_lt_of_le h6 hb.size, (hb.cell h6).trans h7, h8.below hb⟩
theorem ReadsR.nil (w : World) : ReadsR w (.slice none 0 0) [] := ⟨none, 0, rfl, Nat.le_refl _, Nat.zero_le _, fun _ hi => absurd hi (Nat.not_lt_zero _)⟩
theorem ReadsI.nil (w : World) : ReadsI w (.slice none 0 0) [] := ⟨none, 0, rfl, Nat.le_refl _, Nat.zero_le _, fun _ hi => absurd hi (Nat.not_lt_zero _)⟩
theorem getDR_eq {xs ys : List (List Int)} (hl : xs.length = ys.length) (h : ∀ j, j < xs.length → xs.getD j [] = ys.getD j []) : xs = ys := by
  refine List.ext_getElem hl fun j h1 h2 => ?_
  have := h j h1
  rw [List.getD_eq_getElem?_getD, List.getD_eq_getElem?_getD, List.getElem?_eq_getElem h1, List.getElem?_eq_getElem h2] at this
  exact this
def RowsRel (xs ys : List (List Int)) (n : Nat) (w : World) (i : Value) (wr : World) : Prop := ∃ k : Nat, k ≤ n ∧ i = .int .i64 (k : Nat) ∧ (∀ j, j < k → xs.getD j [] = ys.getD j []) ∧ ∃ m, wr = w.drewN m
set_option maxHeartbeats 2000000 in
set_option maxRecDepth 100000 in
theorem rows_any (xs ys : List (List Int)) (u v : Value) (w : World) (ha : ReadsR w u xs) (hb : ReadsR w v ys) :
    Calls Try.prog 21 #[u, v] w fun e w' => e = .returned (.bool (decide (xs = ys))) ∧ ∃ m, w' = w.drewN m := by
  obtain ⟨a1, p1, rfl, hl1, hm1, hc1⟩ := ha
  obtain ⟨a2, p2, rfl, hl2, hm2, hc2⟩ := hb
  unfold maxLen at hm1 hm2
  by_cases hln : xs.length = ys.length
  · have HA := Lib.hid hc1
    have HB := Lib.hid hc2
    clear hc1 hc2
    obtain ⟨X, hX⟩ : ∃ X, decide (xs = ys) = X := ⟨_, rfl⟩
    rw [hX]
    have HY := Lib.hid (fun h => hX.symm.trans (decide_eq_true (getDR_eq hln h)))
    have HZ := Lib.hid (fun (j : Nat) (h : ¬ xs.getD j [] = ys.getD j []) => hX.symm.trans (decide_eq_false (p := xs = ys) fun h2 => h (by rw [h2])))
    obtain ⟨n, hn⟩ : ∃ n, xs.length = n := ⟨_, rfl⟩
    have HN := Lib.hid hn
    rw [hn] at hl1 ⊢
    have hn2 : ys.length = n := hln.symm.trans hn
    have HM := Lib.hid hn2
    rw [hn2] at hl2 ⊢
    clear hX hn hn2 hln
    go_enter Try.func21, Try.ntmps21
    go_wp2
    go_loopw [13] (RowsRel xs ys n w) (fun i _ => n - (intOf i).toNat)
    case atStart => exact ⟨0, Nat.zero_le _, rfl, fun j hj => absurd hj (Nat.not_lt_zero _), 0, rfl⟩
    case round =>
      obtain ⟨k, hk, rfl, hgood, m, hm⟩ := hrel
      have HW := Lib.hid hm
      have HG := Lib.hid hgood
      clear hgood
      by_cases hl : k < n
      · obtain ⟨b1, o1, u1, rfl, hlt1, hd1, hr1⟩ := HA.out k (by rw [HN.out]; exact hl)
        obtain ⟨b2, o2, u2, rfl, hlt2, hd2, hr2⟩ := HB.out k (by rw [HM.out]; exact hl)
        have hd1' : wr.cell? ⟨b1, o1 + k, none⟩ = some u1 := by rw [hm]; exact hd1
        have hd2' : wr.cell? ⟨b2, o2 + k, none⟩ = some u2 := by rw [hm]; exact hd2
        have hr1' : ReadsI wr u1 (xs.getD k []) := by rw [hm]; exact hr1
        have hr2' : ReadsI wr u2 (ys.getD k []) := by rw [hm]; exact hr2
        have hkn : (k : Int) < (n : Int) := by omega
        obtain ⟨x, hx⟩ : ∃ x, xs.getD k [] = x := ⟨_, rfl⟩
        obtain ⟨y, hy⟩ : ∃ y, ys.getD k [] = y := ⟨_, rfl⟩
        rw [hx] at hr1'
        rw [hy] at hr2'
        have HE := Lib.hid hx
        have HF := Lib.hid hy
        have hcall := fun q => ints_any x y u1 u2 (wr.drewN q) (hr1'.drewN q) (hr2'.drewN q)
        obtain ⟨ao1, c1, hu1, -⟩ := hr1'
        obtain ⟨ao2, c2, hu2, -⟩ := hr2'
        generalize x.length = z1 at hu1
        generalize y.length = z2 at hu2
        subst hu1 hu2
        clear hd1 hd2 HA HB hx hy hm hr1 hr2
        by_cases hxy : x = y
        · rw [decide_eq_true hxy] at hcall
          have HXY := Lib.hid hxy
          clear hxy
          go_wp2
          go_quiet ((go_at_call 18; refine Calls.quiet_of (hcall _)))
          go_wp2
          go_roundw
          case rel =>
            refine ⟨k + 1, hl, by go_num, fun j hj => ?_, _, by rw [HW.out]; exact World.drewN_drewN ..⟩
            rcases Nat.lt_succ_iff_lt_or_eq.1 hj with hj | rfl
            · exact HG.out j hj
            · rw [HE.out, HF.out, HXY.out]
          case measure => simp [intOf]; omega
        · rw [decide_eq_false hxy] at hcall
          have HQ := Lib.hid (HZ.out k (by rw [HE.out, HF.out]; exact hxy))
          clear hxy
          go_wp2
          go_quiet ((go_at_call 18; refine Calls.quiet_of (hcall _)))
          go_wp2
          go_ret
          exact ⟨by rw [HQ.out]; rfl, _, by rw [HW.out]; exact World.drewN_drewN ..⟩
      · obtain rfl : k = n := by omega
        have HQ := Lib.hid (HY.out (by rw [HN.out]; exact HG.out))
        clear hm
        go_wp2
        go_ret
        exact ⟨by rw [HQ.out]; rfl, m, HW.out⟩
  · rw [decide_eq_false (p := xs = ys) fun h => hln (by rw [h])]
    have hne : ((xs.length : Int) != (ys.length : Int)) = true := by simp; omega
    have hne2 : ((xs.length : Int) == (ys.length : Int)) = false := by simp; omega
    clear hc1 hc2
    generalize xs.length = n at *
    generalize ys.length = n2 at *
    go_enter Try.func21, Try.ntmps21
    go_wp2
    go_ret
    exact ⟨rfl, 0, rfl⟩
end Go.Proofs.Ytnpgofkdfckioaa
