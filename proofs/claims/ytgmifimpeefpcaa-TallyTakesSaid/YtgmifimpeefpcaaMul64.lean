/- math-bits Mul64 and wide.Mul answer the product; nothing that was in memory before is changed. -/
import Derived.Test.YtgmifimpeefpcaaBase
import Derived.Shelf.Bits.Mul64
namespace Go.Proofs.Ytgmifimpeefpcaa
open Go.RowKit Go.Lib

/-- The library's contract of Mul64, laid at this translation's numbers. -/
def mul64_ren : Go.Shelf.Ren := ⟨fun | 264 => 35 | n => n, fun | 53 => 34 | 46 => 71 | n => n, fun | n => n⟩
theorem mul64_lays : Go.Proofs.Lays.n264 Try.prog mul64_ren := {
  mixed := by kernel_rfl
  f264 := Try.func35.trans (congrArg some (by kernel_rfl))
  t46 := Try.underlying71
  a46 := Try.isAgg71
  z46 := Try.sizeOf71
  v46 := Try.zeroValue71
  t53 := Try.underlying34
  a53 := Try.isAgg34
  z53 := Try.sizeOf34
  v53 := Try.zeroValue34 }
theorem mul64_any (x y : Nat) (hx : x < B64) (hy : y < B64) (w : World) :
    Calls Try.prog 35 #[.int .u64 x, .int .u64 y] w fun e w' => e = .returned (.tuple #[.int .u64 (hi (x * y) : Nat), .int .u64 (lo (x * y) : Nat)]) ∧ w = w' := by
  unfold B64 at hx hy
  exact (Any.bits_Mul64 mul64_lays x y hx hy w).mono fun e w' ⟨h1, h2⟩ => ⟨h1, h2.symm⟩

/-- wide.Mul over whatever Mul64 answers. -/
theorem mul_core (x y h l : Nat) (w : World) (m : ∀ w, Calls Try.prog 35 #[.int .u64 x, .int .u64 y] w fun e w' => e = .returned (.tuple #[.int .u64 (h : Nat), .int .u64 (l : Nat)]) ∧ w = w') :
    Calls Try.prog 29 #[.int .u64 x, .int .u64 y] w fun e w' => e = .returned (.agg #[.int .u64 (h : Nat), .int .u64 (l : Nat)]) ∧ w.alloc (.cells #[.int .u64 (h : Nat), .int .u64 (l : Nat)] 36) = w' := by
  have M := Lib.hid m; clear m
  go_enter Try.func29, Try.ntmps29
  go_wp2_with (go_at_call 35; refine (M.out _).mono ?_; rintro e w' ⟨rfl, rfl⟩)
  exact bodyPost_ret (v := .agg #[.int .u64 (h : Nat), .int .u64 (l : Nat)]) (by simp [results, Try.results29, go_sem]) rfl ⟨rfl, rfl⟩
theorem mul_any (x y : Nat) (hx : x < B64) (hy : y < B64) (w : World) :
    Calls Try.prog 29 #[.int .u64 x, .int .u64 y] w fun e w' => e = .returned (.agg #[.int .u64 (hi (x * y) : Nat), .int .u64 (lo (x * y) : Nat)]) ∧ w.alloc (.cells #[.int .u64 (hi (x * y) : Nat), .int .u64 (lo (x * y) : Nat)] 36) = w' :=
  mul_core x y _ _ w (mul64_any x y hx hy)
end Go.Proofs.Ytgmifimpeefpcaa
