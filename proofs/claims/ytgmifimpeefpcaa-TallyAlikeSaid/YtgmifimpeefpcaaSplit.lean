/- The small calls of package wide that all others stand on: split, whole. -/
import Derived.Test.YtgmifimpeefpcaaBase
namespace Go.Proofs.Ytgmifimpeefpcaa
open Go.RowKit

theorem split_any (h l : Int) (w : World) :
    Calls Try.prog 36 #[.agg #[.int .u64 h, .int .u64 l]] w fun e w' => e = .returned (.agg #[.int .u64 l, .int .u64 h]) ∧ (w.alloc (.cells #[.int .u64 h, .int .u64 l] 36)).alloc (.cells #[.int .u64 l, .int .u64 h] 66) = w' := by
  go_enter Try.func36, Try.ntmps36
  go_wp2
  exact bodyPost_ret (v := .agg #[.int .u64 l, .int .u64 h]) (by simp [results, Try.results36, go_sem]) rfl ⟨rfl, rfl⟩

theorem whole_any (h l : Int) (w : World) :
    Calls Try.prog 38 #[.agg #[.int .u64 l, .int .u64 h]] w fun e w' => e = .returned (.agg #[.int .u64 h, .int .u64 l]) ∧ (w.alloc (.cells #[.int .u64 l, .int .u64 h] 66)).alloc (.cells #[.int .u64 h, .int .u64 l] 36) = w' := by
  go_enter Try.func38, Try.ntmps38
  go_wp2
  exact bodyPost_ret (v := .agg #[.int .u64 h, .int .u64 l]) (by simp [results, Try.results38, go_sem]) rfl ⟨rfl, rfl⟩

end Go.Proofs.Ytgmifimpeefpcaa
