/- zone.Has, zone.between: a mask's bits. -/
import Derived.Test.YtcadbenjgpohoaaZonG
namespace Go.Proofs.Ytcadbenjgpohoaa
open Go.RowKit

theorem and_bit : ∀ (m : Fin 512) (k : Fin 9), (bits .and .i64 ((m.val : Nat) : Int) ((2 ^ k.val : Nat) : Int) != 0) = decide (m.val / 2 ^ k.val % 2 = 1) := by decide +kernel
set_option maxHeartbeats 2000000 in
set_option maxRecDepth 100000 in
theorem has13_any (m c : Int) (w : World) :
    Calls Try.prog 9 #[.int .i64 m, .int .i64 c] w fun e w' => e = .returned (.bool (bitB m c)) ∧ w' = w := by
  have hm := mask13_any m w
  obtain ⟨X, hX⟩ : ∃ X, bitB m c = X := ⟨_, rfl⟩
  rw [hX]
  by_cases h0 : 1 ≤ m ∧ m ≤ 511
  · rw [show maskB m = true from decide_eq_true h0] at hm
    by_cases h1 : -4 ≤ c
    · have g1 : ¬ c < -4 := by omega
      by_cases h2 : c ≤ 4
      · have g2 : ¬ 4 < c := by omega
        obtain ⟨k, hk⟩ : ∃ k : Nat, c = (k : Int) - 4 := ⟨(c + 4).toNat, by omega⟩
        obtain ⟨a, ha⟩ : ∃ a : Nat, m = (a : Int) := ⟨m.toNat, by omega⟩
        have hk9 : k ≤ 8 := by omega
        have ha9 : a ≤ 511 := by omega
        have hv : bitB m c = decide (a / 2 ^ k % 2 = 1) := by
          unfold bitB
          rw [decide_eq_true h0, decide_eq_true (show -4 ≤ c ∧ c ≤ 4 from ⟨h1, h2⟩), Bool.true_and, Bool.true_and]
          rw [show (c + 4).toNat = k by omega, show m.toNat = a by omega]
        rw [hv] at hX
        subst ha hk
        have hb : (bits .and .i64 (a : Int) ((2 ^ k : Nat) : Int) != 0) = X := by rw [← hX]; exact and_bit ⟨a, by omega⟩ ⟨k, by omega⟩
        have hbit := fun W => bitOf_any k hk9 W
        obtain ⟨P2, hP⟩ : ∃ P2, ((2 ^ k : Nat) : Int) = P2 := ⟨_, rfl⟩
        rw [hP] at hb
        have hbit2 : ∀ W, Calls Try.prog 23 #[.int .i64 ((k : Int) - 4)] W fun e w' => e = .returned (.int .i64 P2) ∧ w' = W := by rw [← hP]; exact hbit
        have HM := Lib.hid hm
        have HBT := Lib.hid hbit2
        clear h0 h1 h2 hv hX hP hm hbit hbit2
        go_enter Try.func9, Try.ntmps9
        go_wp2_with fail
        refine HM.out.mono ?_
        rintro e w2 ⟨rfl, rfl⟩
        go_wp2_with fail
        refine (HBT.out _).mono ?_
        rintro e w3 ⟨rfl, rfl⟩
        go_wp2
        go_ret
        exact ⟨by first | rfl | rw [← hb], rfl⟩
      · have g2 : 4 < c := by omega
        have hv : X = false := by rw [← hX]; unfold bitB; rw [decide_eq_true h0, decide_eq_false (fun h => h2 h.2)]; rfl
        subst hv
        clear hX h0
        go_enter Try.func9, Try.ntmps9
        go_wp2_with fail
        refine hm.mono ?_
        rintro e w2 ⟨rfl, rfl⟩
        go_wp2
        go_ret
        exact ⟨rfl, rfl⟩
    · have g1 : c < -4 := by omega
      have hv : X = false := by rw [← hX]; unfold bitB; rw [decide_eq_true h0, decide_eq_false (fun h => h1 h.1)]; rfl
      subst hv
      clear hX h0
      go_enter Try.func9, Try.ntmps9
      go_wp2_with fail
      refine hm.mono ?_
      rintro e w2 ⟨rfl, rfl⟩
      go_wp2
      go_ret
      exact ⟨rfl, rfl⟩
  · rw [show maskB m = false from decide_eq_false h0] at hm
    have hv : X = false := by rw [← hX]; unfold bitB; rw [decide_eq_false h0]; rfl
    subst hv
    clear hX h0
    go_enter Try.func9, Try.ntmps9
    go_wp2_with fail
    refine hm.mono ?_
    rintro e w2 ⟨rfl, rfl⟩
    go_wp2
    go_ret
    exact ⟨rfl, rfl⟩
/-! ### All classes from one to another -/
def accN (l g : Nat) : Nat → Nat
  | 0 => 0
  | i + 1 => accN l g i + (if l ≤ i ∧ i ≤ g then 2 ^ i else 0)
theorem acc_or : ∀ (l g i : Fin 9), l.val ≤ i.val → i.val ≤ g.val → bits .or .i64 ((accN l.val g.val i.val : Nat) : Int) ((2 ^ i.val : Nat) : Int) = ((accN l.val g.val (i.val + 1) : Nat) : Int) := by decide +kernel
theorem acc_all : ∀ (l g : Fin 9), l.val ≤ g.val → accN l.val g.val 9 = betwN l.val (g.val - l.val + 1) := by decide +kernel
def BtwRel (l g : Nat) (w : World) (mv iv : Value) (wr : World) : Prop := ∃ j : Nat, j ≤ 9 ∧ mv = .int .i64 (accN l g j : Nat) ∧ iv = .int .i64 (j : Nat) ∧ wr = w
set_option maxHeartbeats 4000000 in
set_option maxRecDepth 100000 in
theorem between13_any (l g : Int) (h1 : -4 ≤ l) (h2 : l ≤ g) (h3 : g ≤ 4) (w : World) :
    Calls Try.prog 29 #[.int .i64 l, .int .i64 g] w fun e w' => e = .returned (.int .i64 (maskN l g)) ∧ w' = w := by
  obtain ⟨a, rfl⟩ : ∃ a : Nat, l = (a : Int) - 4 := ⟨(l + 4).toNat, by omega⟩
  obtain ⟨b, rfl⟩ : ∃ b : Nat, g = (b : Int) - 4 := ⟨(g + 4).toNat, by omega⟩
  have ha9 : a ≤ 8 := by omega
  have hb9 : b ≤ 8 := by omega
  have hab : a ≤ b := by omega
  have hmk : maskN ((a : Int) - 4) ((b : Int) - 4) = (accN a b 9 : Nat) := by
    unfold maskN
    rw [acc_all ⟨a, by omega⟩ ⟨b, by omega⟩ hab, show ((a : Int) - 4 + 4).toNat = a by omega, show ((b : Int) - 4 - ((a : Int) - 4) + 1).toNat = b - a + 1 by omega]
  rw [hmk]
  clear hmk h1 h2 h3
  obtain ⟨M, hM⟩ : ∃ M, accN a b 9 = M := ⟨_, rfl⟩
  rw [hM]
  have HM := Lib.hid hM
  clear hM
  go_enter Try.func29, Try.ntmps29
  go_wp2
  go_loopw [5, 8] (BtwRel a b w) (fun _ c _ => (9 - intOf c).toNat)
  case atStart => exact ⟨0, Nat.zero_le _, rfl, rfl, rfl⟩
  case round =>
    obtain ⟨j, hj, rfl, rfl, rfl⟩ := hrel
    by_cases hl : j < 9
    · have g0 : (j : Int) < 9 := by omega
      have hbt := fun W => bitOf_any j (by omega) W
      have HBT := Lib.hid hbt
      clear hbt
      by_cases c1 : a ≤ j
      · have g1 : (a : Int) - 4 ≤ (j : Int) - 4 := by omega
        by_cases c2 : j ≤ b
        · have g2 : (j : Int) - 4 ≤ (b : Int) - 4 := by omega
          have HOR := Lib.hid (acc_or ⟨a, by omega⟩ ⟨b, by omega⟩ ⟨j, by omega⟩ c1 c2)
          obtain ⟨X, hX⟩ : ∃ X, ((accN a b j : Nat) : Int) = X := ⟨_, rfl⟩
          have HX := Lib.hid hX
          obtain ⟨P2, hP⟩ : ∃ P2, ((2 ^ j : Nat) : Int) = P2 := ⟨_, rfl⟩
          have HP := Lib.hid hP
          have HQ := Lib.hid (show ∀ u, u = bits .or .i64 X P2 → BtwRel a b wr (.int .i64 u) (.int .i64 ((j : Int) + 1)) wr from fun u hu => ⟨j + 1, by omega, by rw [hu, ← HX.out, ← HP.out]; exact congrArg _ HOR.out, by first | rfl | go_num, rfl⟩)
          rw [hX]
          clear hX hP
          go_wp2_with fail
          refine (HBT.out _).mono ?_
          rintro e w3 ⟨rfl, rfl⟩
          rw [HP.out]
          go_wp2
          go_roundw
          case rel => exact HQ.out _ rfl
          case measure => simp [intOf]; omega
        · have g2 : ¬ (j : Int) - 4 ≤ (b : Int) - 4 := by omega
          have hac : accN a b (j + 1) = accN a b j := by show accN a b j + _ = _; rw [if_neg (by omega)]; rfl
          have HAC := Lib.hid hac
          clear hac
          go_wp2
          go_roundw
          case rel => exact ⟨j + 1, by omega, by rw [HAC.out], by first | rfl | go_num, rfl⟩
          case measure => simp [intOf]; omega
      · have g1 : ¬ (a : Int) - 4 ≤ (j : Int) - 4 := by omega
        have hac : accN a b (j + 1) = accN a b j := by show accN a b j + _ = _; rw [if_neg (by omega)]; rfl
        have HAC := Lib.hid hac
        clear hac
        go_wp2
        go_roundw
        case rel => exact ⟨j + 1, by omega, by rw [HAC.out], by first | rfl | go_num, rfl⟩
        case measure => simp [intOf]; omega
    · obtain rfl : j = 9 := by omega
      rw [HM.out]
      go_wp2
      go_ret
      exact ⟨rfl, rfl⟩
end Go.Proofs.Ytcadbenjgpohoaa
