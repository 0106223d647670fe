/- datumref01.Of: a wide number out of a word; nothing that was in memory before is changed. -/
import Derived.Test.YtfafkdbflmennaaBase
namespace Go.Proofs.Ytfafkdbflmennaa
open Go.RowKit

theorem of_any (x : Nat) (w : World) :
    Calls Try.prog 47 #[.int .u64 (x : Nat)] w fun e w' => e = .returned (.agg #[.int .u64 0, .int .u64 (x : Nat)]) ∧ Below w.heap.size w w' := by
  go_enter Try.func47, Try.ntmps47
  go_wp2
  exact bodyPost_ret (v := .agg #[.int .u64 0, .int .u64 (x : Nat)]) (by simp [results, Try.results47, go_sem]) rfl ⟨rfl, (Below.refl _ _).alloc (Nat.le_refl _) _⟩
end Go.Proofs.Ytfafkdbflmennaa
