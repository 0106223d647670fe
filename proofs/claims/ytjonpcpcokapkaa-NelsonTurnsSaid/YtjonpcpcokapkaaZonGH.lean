/- zone's isMask, bitOf, Has. -/
import Derived.Test.YtjonpcpcokapkaaZonAH
import Derived.Test.YtjonpcpcokapkaaApI
namespace Go.Proofs.Ytjonpcpcokapkaa
open Go.RowKit

theorem mask13_any (m : Int) (w : World) :
    Calls Try.prog 53 #[.int .i64 m] w fun e w' => e = .returned (.bool (maskB m)) ∧ w' = w := by
  unfold maskB
  by_cases h1 : 1 ≤ m
  · have g1 : 0 < m := by omega
    by_cases h2 : m ≤ 511
    · have g2 : m < 512 := by omega
      rw [decide_eq_true ⟨h1, h2⟩]
      go_enter Try.func53, Try.ntmps53
      go_wp2
      go_ret
      exact ⟨rfl, rfl⟩
    · have g2 : ¬ m < 512 := by omega
      rw [decide_eq_false (fun h => h2 h.2)]
      go_enter Try.func53, Try.ntmps53
      go_wp2
      go_ret
      exact ⟨rfl, rfl⟩
  · have g1 : ¬ 0 < m := by omega
    rw [decide_eq_false (fun h => h1 h.1)]
    go_enter Try.func53, Try.ntmps53
    go_wp2
    go_ret
    exact ⟨rfl, rfl⟩
theorem shl_one (k : Nat) (h : k ≤ 8) : wrap64 (2 ^ k) = ((2 ^ k : Nat) : Int) := by
  have p := pow_le k h
  have q : (2 : Int) ^ k = ((2 ^ k : Nat) : Int) := by simp
  rw [q]
  generalize 2 ^ k = x at p ⊢
  unfold wrap64
  omega
/-- The bit of the class k less 4. -/
theorem bitOf_any (k : Nat) (hk : k ≤ 8) (w : World) :
    Calls Try.prog 54 #[.int .i64 ((k : Int) - 4)] w fun e w' => e = .returned (.int .i64 ((2 ^ k : Nat) : Int)) ∧ w' = w := by
  have hw1 : wrap64 ((k : Int) - 4 + 4) = (k : Int) := by unfold wrap64; omega
  have hw2 := shl_one k hk
  obtain ⟨X, hX⟩ : ∃ X, ((2 ^ k : Nat) : Int) = X := ⟨_, rfl⟩
  rw [hX] at hw2 ⊢
  clear hX
  go_enter Try.func54, Try.ntmps54
  go_wp2
  go_ret
  exact ⟨by show Ending.returned (Value.int .i64 (wrap64 (2 ^ k))) = _; rw [hw2], rfl⟩
theorem and_bit : ∀ (m : Fin 512) (k : Fin 9), (bits .and .i64 ((m.val : Nat) : Int) ((2 ^ k.val : Nat) : Int) != 0) = decide (m.val / 2 ^ k.val % 2 = 1) := by decide +kernel
set_option maxHeartbeats 2000000 in
set_option maxRecDepth 100000 in
theorem has13_any (m c : Int) (w : World) :
    Calls Try.prog 42 #[.int .i64 m, .int .i64 c] w fun e w' => e = .returned (.bool (bitB m c)) ∧ w' = w := by
  have hm := mask13_any m w
  obtain ⟨X, hX⟩ : ∃ X, bitB m c = X := ⟨_, rfl⟩
  rw [hX]
  by_cases h0 : 1 ≤ m ∧ m ≤ 511
  · rw [show maskB m = true from decide_eq_true h0] at hm
    by_cases h1 : -4 ≤ c
    · have g1 : ¬ c < -4 := by omega
      by_cases h2 : c ≤ 4
      · have g2 : ¬ 4 < c := by omega
        obtain ⟨k, hk⟩ : ∃ k : Nat, c = (k : Int) - 4 := ⟨(c + 4).toNat, by omega⟩
        obtain ⟨a, ha⟩ : ∃ a : Nat, m = (a : Int) := ⟨m.toNat, by omega⟩
        have hk9 : k ≤ 8 := by omega
        have ha9 : a ≤ 511 := by omega
        have hv : bitB m c = decide (a / 2 ^ k % 2 = 1) := by
          unfold bitB
          rw [decide_eq_true h0, decide_eq_true (show -4 ≤ c ∧ c ≤ 4 from ⟨h1, h2⟩), Bool.true_and, Bool.true_and]
          rw [show (c + 4).toNat = k by omega, show m.toNat = a by omega]
        rw [hv] at hX
        subst ha hk
        have hb : (bits .and .i64 (a : Int) ((2 ^ k : Nat) : Int) != 0) = X := by rw [← hX]; exact and_bit ⟨a, by omega⟩ ⟨k, by omega⟩
        have hbit := fun W => bitOf_any k hk9 W
        obtain ⟨P2, hP⟩ : ∃ P2, ((2 ^ k : Nat) : Int) = P2 := ⟨_, rfl⟩
        rw [hP] at hb
        have hbit2 : ∀ W, Calls Try.prog 54 #[.int .i64 ((k : Int) - 4)] W fun e w' => e = .returned (.int .i64 P2) ∧ w' = W := by rw [← hP]; exact hbit
        have HM := Lib.hid hm
        have HBT := Lib.hid hbit2
        clear h0 h1 h2 hv hX hP hm hbit hbit2
        go_enter Try.func42, Try.ntmps42
        go_wp2_with fail
        refine HM.out.mono ?_
        rintro e w2 ⟨rfl, rfl⟩
        go_wp2_with fail
        refine (HBT.out _).mono ?_
        rintro e w3 ⟨rfl, rfl⟩
        go_wp2
        go_ret
        exact ⟨by first | rfl | rw [← hb], rfl⟩
      · have g2 : 4 < c := by omega
        have hv : X = false := by rw [← hX]; unfold bitB; rw [decide_eq_true h0, decide_eq_false (fun h => h2 h.2)]; rfl
        subst hv
        clear hX h0
        go_enter Try.func42, Try.ntmps42
        go_wp2_with fail
        refine hm.mono ?_
        rintro e w2 ⟨rfl, rfl⟩
        go_wp2
        go_ret
        exact ⟨rfl, rfl⟩
    · have g1 : c < -4 := by omega
      have hv : X = false := by rw [← hX]; unfold bitB; rw [decide_eq_true h0, decide_eq_false (fun h => h1 h.1)]; rfl
      subst hv
      clear hX h0
      go_enter Try.func42, Try.ntmps42
      go_wp2_with fail
      refine hm.mono ?_
      rintro e w2 ⟨rfl, rfl⟩
      go_wp2
      go_ret
      exact ⟨rfl, rfl⟩
  · rw [show maskB m = false from decide_eq_false h0] at hm
    have hv : X = false := by rw [← hX]; unfold bitB; rw [decide_eq_false h0]; rfl
    subst hv
    clear hX h0
    go_enter Try.func42, Try.ntmps42
    go_wp2_with fail
    refine hm.mono ?_
    rintro e w2 ⟨rfl, rfl⟩
    go_wp2
    go_ret
    exact ⟨rfl, rfl⟩
end Go.Proofs.Ytjonpcpcokapkaa
