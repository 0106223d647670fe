/- slices.Clone of ints; nelson's Push. -/
import Derived.Test.YtjonpcpcokapkaaNelPg
import Derived.Test.YtjonpcpcokapkaaNelH
import Derived.Lib.SliceRun
import Derived.Lib.MinMax
namespace Go.Proofs.Ytjonpcpcokapkaa
open Go.RowKit

set_option linter.unusedSimpArgs false in
set_option maxHeartbeats 4000000 in
set_option maxRecDepth 100000 in
theorem clone_any (xs : List Int) (v : Value) (w : World) (hl : xs.length ≤ 1000) (hr : ReadsI w v xs) :
    Calls Try.prog 29 #[v] w fun e w' => ∃ v', e = .returned v' ∧ IRow w.heap.size v' xs w' ∧ Below w.heap.size w w' := by
  obtain ⟨ao, cap, rfl⟩ := hr.shape
  cases ao with
  | none =>
    have hx : xs = [] := by
      cases xs with
      | nil => rfl
      | cons y ys =>
        obtain ⟨ao1, cap1, e, h2, h3, h4⟩ := hr
        injection e with e1 e2 e3
        obtain ⟨b, off, e4, _⟩ := h4 0 (by simp)
        rw [← e1] at e4
        cases e4
    subst hx
    clear hr hl
    have h0 := Lib.hid (IRow.nil w.heap.size w)
    have hb := Lib.hid (Below.refl w.heap.size w)
    have hq : ∀ (W : World) (a : Option Addr) (n c : Nat), (binOp .eql 22 (.slice a n c) (.slice none 0 0)).run Try.prog W = .ok (.bool a.isNone) W := fun W a n c => Lib.run_eql_slice_nil W _ _ a n c 0 0 Try.underlying22
    go_enter Try.func29, Try.ntmps29
    go_wp2
    go_ret
    exact ⟨_, rfl, h0.out, hb.out⟩
  | some ad =>
    have HR := Lib.hid (hr.below ((Below.refl w.heap.size w).alloc (Nat.le_refl _) (.cells #[] 3)))
    have HO := Lib.hid (IRow.made w)
    have HB := Lib.hid ((Below.refl w.heap.size w).alloc (Nat.le_refl _) (.cells #[] 3))
    have HL := Lib.hid hl
    obtain ⟨n, hn⟩ : ∃ n, xs.length = n := ⟨_, rfl⟩
    rw [hn] at HR ⊢
    clear hr hl hn
    have hq : ∀ (W : World) (a : Option Addr) (n c : Nat), (binOp .eql 22 (.slice a n c) (.slice none 0 0)).run Try.prog W = .ok (.bool a.isNone) W := fun W a n c => Lib.run_eql_slice_nil W _ _ a n c 0 0 Try.underlying22
    go_enter Try.func29, Try.ntmps29
    go_wp2_with (at_builtin; refine wpList_append_ints rfl (.tmp 5) (.tmp 6) rfl w.heap.size _ [] xs rfl HO.out (some ad) n cap rfl HR.out (by have := HL.out; simp; omega) (by simp) ?_)
    intro v' w2 g1 g2
    have HQ := Lib.hid (show IRow w.heap.size v' xs w2 from g1)
    have HBQ := Lib.hid (show Below w.heap.size w w2 from HB.out.grown g2 (by simp) (fun k hk => (HO.out.lt' k hk).1))
    clear g1 g2
    go_wp2
    go_ret
    exact ⟨_, rfl, HQ.out, HBQ.out⟩
set_option linter.unusedSimpArgs false in
set_option linter.unusedVariables false in
set_option maxHeartbeats 4000000 in
set_option maxRecDepth 100000 in
theorem push_no (l : List Int) (m : Int) (v : Value) (w : World) (hl : l.length ≤ 1000) (hr : ReadsI w v l) (h : (masksB l && maskB m) = false) :
    Calls Try.prog 14 #[v, .int .i64 m] w fun e w' => e = .returned (.tuple #[.slice none 0 0, .int .i64 1]) ∧ w = w' := by
  have HM := Lib.hid (mayBe_any l v w (by omega) hr)
  have HN := Lib.hid (fun W => noMask_any m W)
  obtain ⟨ao, cap, rfl⟩ := hr.shape
  obtain ⟨n, hn⟩ : ∃ n, l.length = n := ⟨_, rfl⟩
  rw [hn] at HM ⊢
  cases hM : masksB l with
  | false =>
    rw [hM] at HM
    clear hM h hr hn
    go_enter Try.func14, Try.ntmps14
    go_wp2_with fail
    refine HM.out.mono ?_
    rintro e w2 ⟨rfl, rfl⟩
    go_wp2
    go_ret2
    exact ⟨rfl, rfl⟩
  | true =>
    rw [hM] at HM h
    rw [Bool.true_and] at h
    rw [h] at HN
    clear hM h hr hn
    go_enter Try.func14, Try.ntmps14
    go_wp2_with fail
    refine HM.out.mono ?_
    rintro e w2 ⟨rfl, rfl⟩
    go_wp2_with fail
    refine (HN.out _).mono ?_
    rintro e w3 ⟨rfl, rfl⟩
    go_wp2
    go_ret2
    exact ⟨rfl, rfl⟩
set_option linter.unusedSimpArgs false in
set_option linter.unusedVariables false in
set_option maxHeartbeats 4000000 in
set_option maxRecDepth 100000 in
theorem push_ok (l : List Int) (m : Int) (v : Value) (w : World) (hr : ReadsI w v l) (hM : masksB l = true) (hm : maskB m = true) :
    Calls Try.prog 14 #[v, .int .i64 m] w fun e w' => ∃ v', e = .returned (.tuple #[v', .int .i64 0]) ∧ ReadsI w' v' (pushN l m) ∧ Below w.heap.size w w' := by
  have h15 := (masksB_ok hM).2
  have HM := Lib.hid (mayBe_any l v w (by omega) hr)
  have HN := Lib.hid (fun W => noMask_any m W)
  rw [hM] at HM
  rw [hm] at HN
  obtain ⟨ao, cap, rfl, hcap, _⟩ := id hr
  obtain ⟨k, hk⟩ : ∃ k, l.length + 1 - 15 = k := ⟨_, rfl⟩
  obtain ⟨ao2, hsl, hrd⟩ := slice_lo ao l.length cap k (by omega) hcap
  have hrd1 := hrd w l hr
  have HC := Lib.hid (clone_any (l.drop k) _ w (by rw [List.length_drop]; omega) hrd1)
  have HP := Lib.hid (show l.drop k ++ [m] = pushN l m by
    unfold pushN
    split
    · rw [show k = 0 by omega]; rfl
    · rw [show k = 1 by omega])
  have HLD := Lib.hid (show (l.drop k).length ≤ 1000 by rw [List.length_drop]; omega)
  obtain ⟨n, hn⟩ : ∃ n, l.length = n := ⟨_, rfl⟩
  rw [hn] at HM HC hsl hk h15 ⊢
  have hmx : max (0 : Int) ((n : Int) + 1 - 15) = (k : Int) := by omega
  have hsl2 := fun W => hsl W
  obtain ⟨n2, hn2⟩ : ∃ n2, n - k = n2 := ⟨_, rfl⟩
  obtain ⟨c2, hc2⟩ : ∃ c2, cap - k = c2 := ⟨_, rfl⟩
  rw [hn2, hc2] at hsl2 HC
  clear hM hm hr hcap hsl hrd hrd1 hn hk hn2 hc2
  go_enter Try.func14, Try.ntmps14
  go_wp2_with fail
  refine HM.out.mono ?_
  rintro e w2 ⟨rfl, rfl⟩
  go_wp2_with fail
  refine (HN.out _).mono ?_
  rintro e w3 ⟨rfl, rfl⟩
  go_wp2_with fail
  refine HC.out.mono ?_
  rintro e w4 ⟨v4, rfl, hi4, k4⟩
  have HI4 := Lib.hid hi4; have HK4 := Lib.hid k4
  have HO := Lib.hid (ReadsI.one w4 m)
  have HIA := Lib.hid (hi4.alloc (.cells #[.int .i64 m] 3))
  have hsa : (w4.alloc (.cells #[.int .i64 m] 3)).heap.size = w4.heap.size + 1 := by simp
  have HSA := Lib.hid hsa
  clear hi4 k4 hsa
  go_wp2_with (at_builtin; refine wpList_append_ints rfl (.tmp 22) (.tmp 24) rfl w.heap.size _ _ [m] rfl HIA.out (some ⟨w4.heap.size, 0, none⟩) 1 1 rfl HO.out (by have := HLD.out; rw [List.length_singleton]; omega) (by have := HK4.out.size; rw [HSA.out]; omega) ?_)
  intro v' w5 g1 g2
  have HQ := Lib.hid (show ReadsI w5 v' (pushN l m) by rw [← HP.out]; exact IRow.reads g1)
  have HB := Lib.hid (show Below w.heap.size w w5 from (HK4.out.alloc HK4.out.size (.cells #[.int .i64 m] 3)).grown g2 (by have := HK4.out.size; rw [HSA.out]; omega) (fun k hk => (HIA.out.lt' k hk).1))
  clear g1 g2
  go_wp2
  go_ret2
  exact ⟨v', rfl, HQ.out, HB.out⟩
end Go.Proofs.Ytjonpcpcokapkaa
