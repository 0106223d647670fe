/- zone's small functions: isVariance, isMask, bitOf, size, Has, between, Ends. -/
import Derived.Test.YtcadbenjgpohoaaZonA
import Derived.Test.YtcadbenjgpohoaaZonB
import Derived.Test.YtcadbenjgpohoaaApI
namespace Go.Proofs.Ytcadbenjgpohoaa
open Go.RowKit

theorem var13_any (h l : Nat) (w : World) :
    Calls Try.prog 20 #[.agg #[.int .u64 (h : Int), .int .u64 (l : Int)]] w fun e w' => e = .returned (.bool (decide (h < 1152921504606846976))) ∧ Below w.heap.size w w' := by
  have hB := (Below.refl w.heap.size w).alloc (Nat.le_refl _) (.cells #[.int .u64 (h : Int), .int .u64 (l : Int)] 24)
  by_cases c : h < 1152921504606846976
  · have g : (h : Int) < 1152921504606846976 := by omega
    rw [decide_eq_true c]
    clear c
    go_enter Try.func20, Try.ntmps20
    go_wp2
    go_ret
    exact ⟨by first | rfl | simp [g], hB⟩
  · have g : ¬ (h : Int) < 1152921504606846976 := by omega
    rw [decide_eq_false c]
    clear c
    go_enter Try.func20, Try.ntmps20
    go_wp2
    go_ret
    exact ⟨by first | rfl | simp [g], hB⟩
theorem mask13_any (m : Int) (w : World) :
    Calls Try.prog 22 #[.int .i64 m] w fun e w' => e = .returned (.bool (maskB m)) ∧ w' = w := by
  unfold maskB
  by_cases h1 : 1 ≤ m
  · have g1 : 0 < m := by omega
    by_cases h2 : m ≤ 511
    · have g2 : m < 512 := by omega
      rw [decide_eq_true ⟨h1, h2⟩]
      go_enter Try.func22, Try.ntmps22
      go_wp2
      go_ret
      exact ⟨rfl, rfl⟩
    · have g2 : ¬ m < 512 := by omega
      rw [decide_eq_false (fun h => h2 h.2)]
      go_enter Try.func22, Try.ntmps22
      go_wp2
      go_ret
      exact ⟨rfl, rfl⟩
  · have g1 : ¬ 0 < m := by omega
    rw [decide_eq_false (fun h => h1 h.1)]
    go_enter Try.func22, Try.ntmps22
    go_wp2
    go_ret
    exact ⟨rfl, rfl⟩
theorem size_nums (a : Int) (ha : IsInt a) : (a < 0 → IntKind.u64.wrap (-(IntKind.u64.wrap a)) = (a.natAbs : Nat)) ∧ (¬ a < 0 → IntKind.u64.wrap a = (a.natAbs : Nat)) := by
  unfold IsInt at ha
  constructor
  · intro h
    rw [IntKind.wrap_u64, IntKind.wrap_u64]
    omega
  · intro h
    rw [u64_low a (by omega) (by omega)]
    omega
theorem size13_any (a : Int) (ha : IsInt a) (w : World) :
    Calls Try.prog 33 #[.int .i64 a] w fun e w' => e = .returned (.int .u64 (a.natAbs : Nat)) ∧ w' = w := by
  obtain ⟨h1, h2⟩ := size_nums a ha
  obtain ⟨n, hn⟩ : ∃ n : Nat, a.natAbs = n := ⟨_, rfl⟩
  rw [hn] at h1 h2 ⊢
  clear hn
  by_cases h : a < 0
  · have e1 := h1 h
    clear h1 h2 ha
    obtain ⟨X, hX⟩ : ∃ X, IntKind.u64.wrap a = X := ⟨_, rfl⟩
    rw [hX] at e1
    go_enter Try.func33, Try.ntmps33
    go_wp2_with fail
    go_ret
    exact ⟨rfl, rfl⟩
  · have e1 := h2 h
    clear h1 h2 ha
    go_enter Try.func33, Try.ntmps33
    go_wp2_with fail
    go_ret
    exact ⟨rfl, rfl⟩
theorem shl_one (k : Nat) (h : k ≤ 8) : wrap64 (2 ^ k) = ((2 ^ k : Nat) : Int) := by
  have p := pow_le k h
  have q : (2 : Int) ^ k = ((2 ^ k : Nat) : Int) := by simp
  rw [q]
  generalize 2 ^ k = x at p ⊢
  unfold wrap64
  omega
/-- The bit of the class k less 4. -/
theorem bitOf_any (k : Nat) (hk : k ≤ 8) (w : World) :
    Calls Try.prog 23 #[.int .i64 ((k : Int) - 4)] w fun e w' => e = .returned (.int .i64 ((2 ^ k : Nat) : Int)) ∧ w' = w := by
  have hw1 : wrap64 ((k : Int) - 4 + 4) = (k : Int) := by unfold wrap64; omega
  have hw2 := shl_one k hk
  obtain ⟨X, hX⟩ : ∃ X, ((2 ^ k : Nat) : Int) = X := ⟨_, rfl⟩
  rw [hX] at hw2 ⊢
  clear hX
  go_enter Try.func23, Try.ntmps23
  go_wp2
  go_ret
  exact ⟨by show Ending.returned (Value.int .i64 (wrap64 (2 ^ k))) = _; rw [hw2], rfl⟩
end Go.Proofs.Ytcadbenjgpohoaa
