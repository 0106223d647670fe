/- zone's small functions: isVariance, isMask, bitOf, size, Has, between, Ends. -/
import Derived.Test.YtgmifimpeefpcaaZonN
import Derived.Test.YtgmifimpeefpcaaU64
import Derived.Test.YtgmifimpeefpcaaNum
import Derived.Test.YtgmifimpeefpcaaApI
namespace Go.Proofs.Ytgmifimpeefpcaa
open Go.RowKit

theorem var13_any (h l : Nat) (w : World) :
    Calls Try.prog 24 #[.agg #[.int .u64 (h : Int), .int .u64 (l : Int)]] w fun e w' => e = .returned (.bool (decide (h < 1152921504606846976))) ∧ Below w.heap.size w w' := by
  have hB := (Below.refl w.heap.size w).alloc (Nat.le_refl _) (.cells #[.int .u64 (h : Int), .int .u64 (l : Int)] 36)
  by_cases c : h < 1152921504606846976
  · have g : (h : Int) < 1152921504606846976 := by omega
    rw [decide_eq_true c]
    clear c
    go_enter Try.func24, Try.ntmps24
    go_wp2
    go_ret
    exact ⟨by first | rfl | simp [g], hB⟩
  · have g : ¬ (h : Int) < 1152921504606846976 := by omega
    rw [decide_eq_false c]
    clear c
    go_enter Try.func24, Try.ntmps24
    go_wp2
    go_ret
    exact ⟨by first | rfl | simp [g], hB⟩
theorem size_nums (a : Int) (ha : IsInt a) : (a < 0 → IntKind.u64.wrap (-(IntKind.u64.wrap a)) = (a.natAbs : Nat)) ∧ (¬ a < 0 → IntKind.u64.wrap a = (a.natAbs : Nat)) := by
  unfold IsInt at ha
  constructor
  · intro h
    rw [IntKind.wrap_u64, IntKind.wrap_u64]
    omega
  · intro h
    rw [u64_low a (by omega) (by omega)]
    omega
theorem size13_any (a : Int) (ha : IsInt a) (w : World) :
    Calls Try.prog 30 #[.int .i64 a] w fun e w' => e = .returned (.int .u64 (a.natAbs : Nat)) ∧ w' = w := by
  obtain ⟨h1, h2⟩ := size_nums a ha
  obtain ⟨n, hn⟩ : ∃ n : Nat, a.natAbs = n := ⟨_, rfl⟩
  rw [hn] at h1 h2 ⊢
  clear hn
  by_cases h : a < 0
  · have e1 := h1 h
    clear h1 h2 ha
    obtain ⟨X, hX⟩ : ∃ X, IntKind.u64.wrap a = X := ⟨_, rfl⟩
    rw [hX] at e1
    go_enter Try.func30, Try.ntmps30
    go_wp2_with fail
    go_ret
    exact ⟨rfl, rfl⟩
  · have e1 := h2 h
    clear h1 h2 ha
    go_enter Try.func30, Try.ntmps30
    go_wp2_with fail
    go_ret
    exact ⟨rfl, rfl⟩
end Go.Proofs.Ytgmifimpeefpcaa
