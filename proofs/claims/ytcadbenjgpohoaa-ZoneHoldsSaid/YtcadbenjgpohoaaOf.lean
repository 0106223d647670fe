/- datumref01.Of: a wide number out of a word; nothing that was in memory before is changed. -/
import Derived.Test.YtcadbenjgpohoaaBase
namespace Go.Proofs.Ytcadbenjgpohoaa
open Go.RowKit

theorem of_any (x : Nat) (w : World) :
    Calls Try.prog 26 #[.int .u64 (x : Nat)] w fun e w' => e = .returned (.agg #[.int .u64 0, .int .u64 (x : Nat)]) ∧ Below w.heap.size w w' := by
  go_enter Try.func26, Try.ntmps26
  go_wp2
  exact bodyPost_ret (v := .agg #[.int .u64 0, .int .u64 (x : Nat)]) (by simp [results, Try.results26, go_sem]) rfl ⟨rfl, (Below.refl _ _).alloc (Nat.le_refl _) _⟩
end Go.Proofs.Ytcadbenjgpohoaa
