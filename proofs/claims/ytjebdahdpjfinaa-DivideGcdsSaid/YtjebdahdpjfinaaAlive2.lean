/- The law's own small test (17 divided by 5) answers true; nothing that was in memory before is changed. -/
import Derived.Test.YtjebdahdpjfinaaDiv
namespace Go.Proofs.Ytjebdahdpjfinaa
open Go.RowKit

theorem div_lit (w : World) :
    Calls Try.prog 7 #[.agg #[.int .u64 0, .int .u64 17], .agg #[.int .u64 0, .int .u64 5]] w fun e w' => e = .returned (.tuple #[.agg #[.int .u64 0, .int .u64 3], .agg #[.int .u64 0, .int .u64 2], .int .i64 0]) ∧ Below w.heap.size w w' :=
  div_num 17 5 (by decide) (by decide) (by decide) w
theorem alive2 (w : World) : Calls Try.prog 8 #[] w fun e w' => e = .returned (.bool true) ∧ Below w.heap.size w w' := by
  go_enter Try.func8, Try.ntmps8
  go_wp2_with fail
  refine (div_lit _).mono ?_
  rintro e w1 ⟨rfl, hb⟩
  have HB := Lib.hid hb; clear hb
  go_wp2_with fail
  go_ret
  exact ⟨rfl, (HB.out.alloc HB.out.size _).alloc (by have := HB.out.size; simp; omega) _⟩

theorem add_fit (x y : Nat) (h : x + y < M128) (w : World) :
    Calls Try.prog 15 #[.agg #[.int .u64 (hi x : Nat), .int .u64 (lo x : Nat)], .agg #[.int .u64 (hi y : Nat), .int .u64 (lo y : Nat)]] w fun e w' => e = .returned (.tuple #[.agg #[.int .u64 (hi (x + y) : Nat), .int .u64 (lo (x + y) : Nat)], .bool false]) ∧ Below w.heap.size w w' := by
  have := add_num x y w
  rw [addW_fit _ _ h, addO_fit _ _ h] at this
  exact this
theorem less_yes (x y : Nat) (hx : x < M128) (hy : y < M128) (h : x < y) (w : World) :
    Calls Try.prog 16 #[.agg #[.int .u64 (hi x : Nat), .int .u64 (lo x : Nat)], .agg #[.int .u64 (hi y : Nat), .int .u64 (lo y : Nat)]] w fun e w' => e = .returned (.bool true) ∧ Below w.heap.size w w' := by
  have := less_num x y hx hy w
  rw [show ltW x y = true from decide_eq_true h] at this
  exact this
end Go.Proofs.Ytjebdahdpjfinaa
