/- datumref01.Less answers whether one wide number is less; nothing that was in memory before is changed. -/
import Derived.Test.YtcadbenjgpohoaaFrame
import Derived.Test.YtcadbenjgpohoaaBase
namespace Go.Proofs.Ytcadbenjgpohoaa
open Go.RowKit

theorem rless_core (ah al bh bl : Nat) (o : Bool) (w : World)
    (hq : (((ah : Int) != (bh : Int)) = true ∧ decide ((ah : Nat) < bh) = o) ∨ (((ah : Int) != (bh : Int)) = false ∧ decide ((al : Nat) < bl) = o)) :
    Calls Try.prog 27 #[.agg #[.int .u64 (ah : Nat), .int .u64 (al : Nat)], .agg #[.int .u64 (bh : Nat), .int .u64 (bl : Nat)]] w fun e w' => e = .returned (.bool o) ∧ Below w.heap.size w w' := by
  rcases hq with ⟨q, rfl⟩ | ⟨q, rfl⟩
  all_goals
    go_enter Try.func27, Try.ntmps27
    go_wp2
    go_ret
    exact ⟨rfl, ((Below.refl _ _).alloc (Nat.le_refl _) _).alloc (by simp) _⟩
theorem rless_any (a b : Nat) (w : World) :
    Calls Try.prog 27 #[.agg #[.int .u64 (hi a : Nat), .int .u64 (lo a : Nat)], .agg #[.int .u64 (hi b : Nat), .int .u64 (lo b : Nat)]] w fun e w' => e = .returned (.bool (ltW a b)) ∧ Below w.heap.size w w' := by
  refine rless_core _ _ _ _ _ w ?_
  have h1 := vw_hi_lo a
  have h2 := vw_hi_lo b
  unfold vw at h1 h2
  have h3 := lo_lt a
  have h4 := lo_lt b
  unfold B64 at h3 h4
  unfold ltW
  by_cases h : hi a = hi b
  · refine Or.inr ⟨by simp [h], ?_⟩
    rw [decide_eq_decide]; omega
  · refine Or.inl ⟨by simp; omega, ?_⟩
    rw [decide_eq_decide]; omega
end Go.Proofs.Ytcadbenjgpohoaa
