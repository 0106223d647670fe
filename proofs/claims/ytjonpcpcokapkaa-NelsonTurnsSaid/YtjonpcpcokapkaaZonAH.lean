/- The reference of stage 13: Mask, Has. -/
import Derived.Test.YtjonpcpcokapkaaZonN
import Derived.Test.YtjonpcpcokapkaaU64
import Derived.Test.YtjonpcpcokapkaaGen
namespace Go.Proofs.Ytjonpcpcokapkaa
open Go.RowKit

theorem pow_le (k : Nat) (h : k ≤ 8) : 2 ^ k ≤ 256 := by
  have : ∀ k : Fin 9, 2 ^ k.val ≤ 256 := by decide
  exact this ⟨k, by omega⟩
def maskB (m : Int) : Bool := decide (1 ≤ m ∧ m ≤ 511)
theorem rmask13_any (m : Int) (w : World) :
    Calls Try.prog 16 #[.int .i64 m] w fun e w' => e = .returned (.bool (maskB m)) ∧ w = w' := by
  unfold maskB
  by_cases h1 : 1 ≤ m
  · by_cases h2 : m ≤ 511
    · rw [decide_eq_true ⟨h1, h2⟩]
      go_enter Try.func16, Try.ntmps16
      go_wp2
      go_ret
      exact ⟨rfl, rfl⟩
    · rw [decide_eq_false (fun h => h2 h.2)]
      go_enter Try.func16, Try.ntmps16
      go_wp2
      go_ret
      exact ⟨rfl, rfl⟩
  · rw [decide_eq_false (fun h => h1 h.1)]
    go_enter Try.func16, Try.ntmps16
    go_wp2
    go_ret
    exact ⟨rfl, rfl⟩
theorem shr_bit (a k : Nat) : (((a : Int) / 2 ^ k).tmod 2 == 1) = decide (a / 2 ^ k % 2 = 1) := by
  have e : (a : Int) / 2 ^ k = ((a / 2 ^ k : Nat) : Int) := by simp
  rw [e]
  generalize a / 2 ^ k = n
  have h : (n : Int).tmod 2 = ((n % 2 : Nat) : Int) := by rw [Int.tmod_eq_emod_of_nonneg (by omega)]; omega
  rw [h]
  by_cases c : n % 2 = 1
  · rw [c]; rfl
  · rw [decide_eq_false c]
    exact beq_false_of_ne (by omega)
set_option maxHeartbeats 2000000 in
set_option maxRecDepth 100000 in
theorem rhas13_any (m c : Int) (w : World) :
    Calls Try.prog 22 #[.int .i64 m, .int .i64 c] w fun e w' => e = .returned (.bool (bitB m c)) ∧ w = w' := by
  have hm := rmask13_any m w
  obtain ⟨X, hX⟩ : ∃ X, bitB m c = X := ⟨_, rfl⟩
  rw [hX]
  by_cases h0 : 1 ≤ m ∧ m ≤ 511
  · rw [show maskB m = true from decide_eq_true h0] at hm
    by_cases h1 : -4 ≤ c
    · by_cases h2 : c ≤ 4
      · obtain ⟨k, hk⟩ : ∃ k : Nat, c = (k : Int) - 4 := ⟨(c + 4).toNat, by omega⟩
        obtain ⟨a, ha⟩ : ∃ a : Nat, m = (a : Int) := ⟨m.toNat, by omega⟩
        have hk9 : k ≤ 8 := by omega
        have ha9 : a ≤ 511 := by omega
        have hv : bitB m c = decide (a / 2 ^ k % 2 = 1) := by
          unfold bitB
          rw [decide_eq_true h0, decide_eq_true (show -4 ≤ c ∧ c ≤ 4 from ⟨h1, h2⟩), Bool.true_and, Bool.true_and]
          rw [show (c + 4).toNat = k by omega, show m.toNat = a by omega]
        rw [hv] at hX
        subst ha hk
        clear h0 h1 h2
        have hw1 : wrap64 ((k : Int) - 4 + 4) = (k : Int) := by unfold wrap64; omega
        have hw2 : IntKind.u64.wrap (k : Int) = (k : Int) := u64_low _ (by omega) (by omega)
        have g1 : -4 ≤ (k : Int) - 4 := by omega
        have g2 : (k : Int) - 4 ≤ 4 := by omega
        go_enter Try.func22, Try.ntmps22
        go_wp2_with fail
        refine hm.mono ?_
        rintro e w2 ⟨rfl, rfl⟩
        go_wp2
        go_ret
        exact ⟨by rw [← hX, ← shr_bit]; rfl, rfl⟩
      · have hv : X = false := by rw [← hX]; unfold bitB; rw [decide_eq_true h0, decide_eq_false (fun h => h2 h.2)]; rfl
        subst hv
        clear hX h0
        go_enter Try.func22, Try.ntmps22
        go_wp2_with fail
        refine hm.mono ?_
        rintro e w2 ⟨rfl, rfl⟩
        go_wp2
        go_ret
        exact ⟨rfl, rfl⟩
    · have hv : X = false := by rw [← hX]; unfold bitB; rw [decide_eq_true h0, decide_eq_false (fun h => h1 h.1)]; rfl
      subst hv
      clear hX h0
      go_enter Try.func22, Try.ntmps22
      go_wp2_with fail
      refine hm.mono ?_
      rintro e w2 ⟨rfl, rfl⟩
      go_wp2
      go_ret
      exact ⟨rfl, rfl⟩
  · rw [show maskB m = false from decide_eq_false h0] at hm
    have hv : X = false := by rw [← hX]; unfold bitB; rw [decide_eq_false h0]; rfl
    subst hv
    clear hX h0
    go_enter Try.func22, Try.ntmps22
    go_wp2_with fail
    refine hm.mono ?_
    rintro e w2 ⟨rfl, rfl⟩
    go_wp2
    go_ret
    exact ⟨rfl, rfl⟩
end Go.Proofs.Ytjonpcpcokapkaa
