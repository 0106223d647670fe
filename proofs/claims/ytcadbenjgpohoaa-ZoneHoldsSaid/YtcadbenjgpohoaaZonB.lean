/- The reference of stage 13: Between, Classes. -/
import Derived.Test.YtcadbenjgpohoaaZonA
import Derived.Test.YtcadbenjgpohoaaApI
namespace Go.Proofs.Ytcadbenjgpohoaa
open Go.RowKit

theorem pow_le (k : Nat) (h : k ≤ 8) : 2 ^ k ≤ 256 := by
  have : ∀ k : Fin 9, 2 ^ k.val ≤ 256 := by decide
  exact this ⟨k, by omega⟩
theorem betw_le : ∀ (l k : Nat), l + k ≤ 9 → betwN l k ≤ k * 256
  | _, 0, _ => Nat.le_refl _
  | l, k + 1, h => by
    have := betw_le l k (by omega)
    have := pow_le (l + k) (by omega)
    unfold betwN
    omega
theorem shl_add (b a j : Nat) (hb : b ≤ 2304) (h : a + j ≤ 8) : wrap64 ((b : Int) + wrap64 (2 ^ ((a : Int) - 4 + (j : Int) + 4).toNat)) = ((b + 2 ^ (a + j) : Nat) : Int) := by
  have e : ((a : Int) - 4 + (j : Int) + 4).toNat = a + j := by omega
  have p := pow_le (a + j) h
  have q : (2 : Int) ^ (a + j) = ((2 ^ (a + j) : Nat) : Int) := by simp
  rw [e, q]
  generalize 2 ^ (a + j) = x at p ⊢
  unfold wrap64
  omega
def BetRel (l n : Nat) (w : World) (mv cv : Value) (wr : World) : Prop := ∃ j : Nat, j ≤ n ∧ mv = .int .i64 (betwN l j : Nat) ∧ cv = .int .i64 ((l : Int) - 4 + (j : Nat)) ∧ wr = w
set_option maxHeartbeats 2000000 in
set_option maxRecDepth 100000 in
theorem rbetween13_any (l g : Int) (h1 : -4 ≤ l) (h2 : l ≤ g) (h3 : g ≤ 4) (w : World) :
    Calls Try.prog 31 #[.int .i64 l, .int .i64 g] w fun e w' => e = .returned (.int .i64 (maskN l g)) ∧ w' = w := by
  obtain ⟨a, ha⟩ : ∃ a : Nat, l = (a : Int) - 4 := ⟨(l + 4).toNat, by omega⟩
  obtain ⟨n, hn⟩ : ∃ n : Nat, g = (a : Int) - 4 + (n : Int) - 1 := ⟨(g - l + 1).toNat, by omega⟩
  have han : a + n ≤ 9 := by omega
  have hmk : maskN l g = (betwN a n : Nat) := by
    unfold maskN
    rw [show (l + 4).toNat = a by omega, show (g - l + 1).toNat = n by omega]
  rw [hmk]
  have hn1 : 1 ≤ n := by omega
  clear hmk h1 h2 h3
  subst ha
  obtain ⟨M, hM⟩ : ∃ M, betwN a n = M := ⟨_, rfl⟩
  rw [hM]
  have HM := Lib.hid hM
  clear hM
  go_enter Try.func31, Try.ntmps31
  go_wp2
  go_loopw [5, 6] (BetRel a n w) (fun _ c _ => ((a : Int) - 4 + (n : Int) - intOf c).toNat)
  case atStart => exact ⟨0, Nat.zero_le _, rfl, by simp, rfl⟩
  case round =>
    obtain ⟨j, hj, rfl, rfl, rfl⟩ := hrel
    by_cases hl : j < n
    · have hcle : (a : Int) - 4 + (j : Int) ≤ g := by omega
      have hb1 := betw_le a j (by omega)
      have HST := Lib.hid (show wrap64 ((betwN a j : Nat) + wrap64 (2 ^ ((a : Int) - 4 + (j : Int) + 4).toNat)) = ((betwN a (j + 1) : Nat) : Int) from shl_add (betwN a j) a j (by omega) (by omega))
      clear hb1
      go_wp2
      go_roundw
      case rel => exact ⟨j + 1, by omega, by rw [HST.out], by congr 1; omega, rfl⟩
      case measure => simp [intOf]; omega
    · obtain rfl : j = n := by omega
      have hc : ¬ (a : Int) - 4 + (j : Int) ≤ g := by omega
      rw [HM.out]
      go_wp2
      go_ret
      exact ⟨rfl, rfl⟩
end Go.Proofs.Ytcadbenjgpohoaa
