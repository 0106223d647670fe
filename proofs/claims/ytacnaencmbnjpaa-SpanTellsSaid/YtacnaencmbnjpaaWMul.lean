/- math-bits Mul64 and wide.Mul answer the product, and wide.Less whether one wide number is less; nothing that was in memory before is changed. -/
import Derived.Test.YtacnaencmbnjpaaWSub
import Derived.Shelf.Bits.Mul64
namespace Go.Proofs.Ytacnaencmbnjpaa
open Go.RowKit Go.Lib

/-- The library's contract of Mul64, laid at this translation's numbers. -/
def mul64_ren : Go.Shelf.Ren := ⟨fun | 264 => 72 | n => n, fun | 53 => 53 | 46 => 83 | n => n, fun | n => n⟩
theorem mul64_lays : Go.Proofs.Lays.n264 Try.prog mul64_ren := {
  mixed := by kernel_rfl
  f264 := Try.func72.trans (congrArg some (by kernel_rfl))
  t46 := Try.underlying83
  a46 := Try.isAgg83
  z46 := Try.sizeOf83
  v46 := Try.zeroValue83
  t53 := Try.underlying53
  a53 := Try.isAgg53
  z53 := Try.sizeOf53
  v53 := Try.zeroValue53 }
theorem mul64_any (x y : Nat) (hx : x < B64) (hy : y < B64) (w : World) :
    Calls Try.prog 72 #[.int .u64 x, .int .u64 y] w fun e w' => e = .returned (.tuple #[.int .u64 (hi (x * y) : Nat), .int .u64 (lo (x * y) : Nat)]) ∧ w = w' := by
  unfold B64 at hx hy
  exact (Any.bits_Mul64 mul64_lays x y hx hy w).mono fun e w' ⟨h1, h2⟩ => ⟨h1, h2.symm⟩

/-- wide.Mul over whatever Mul64 answers. -/
theorem mul_core (x y h l : Nat) (w : World) (m : ∀ w, Calls Try.prog 72 #[.int .u64 x, .int .u64 y] w fun e w' => e = .returned (.tuple #[.int .u64 (h : Nat), .int .u64 (l : Nat)]) ∧ w = w') :
    Calls Try.prog 54 #[.int .u64 x, .int .u64 y] w fun e w' => e = .returned (.agg #[.int .u64 (h : Nat), .int .u64 (l : Nat)]) ∧ w.alloc (.cells #[.int .u64 (h : Nat), .int .u64 (l : Nat)] 55) = w' := by
  have M := Lib.hid m; clear m
  go_enter Try.func54, Try.ntmps54
  go_wp2_with (go_at_call 72; refine (M.out _).mono ?_; rintro e w' ⟨rfl, rfl⟩)
  exact bodyPost_ret (v := .agg #[.int .u64 (h : Nat), .int .u64 (l : Nat)]) (by simp [results, Try.results54, go_sem]) rfl ⟨rfl, rfl⟩
theorem mul_any (x y : Nat) (hx : x < B64) (hy : y < B64) (w : World) :
    Calls Try.prog 54 #[.int .u64 x, .int .u64 y] w fun e w' => e = .returned (.agg #[.int .u64 (hi (x * y) : Nat), .int .u64 (lo (x * y) : Nat)]) ∧ w.alloc (.cells #[.int .u64 (hi (x * y) : Nat), .int .u64 (lo (x * y) : Nat)] 55) = w' :=
  mul_core x y _ _ w (mul64_any x y hx hy)

theorem less_core (ah al bh bl sh sl : Nat) (o : Bool) (w : World) (m : ∀ w, Calls Try.prog 83 #[.agg #[.int .u64 (ah : Nat), .int .u64 (al : Nat)], .agg #[.int .u64 (bh : Nat), .int .u64 (bl : Nat)]] w fun e w' => e = .returned (.tuple #[.agg #[.int .u64 (sh : Nat), .int .u64 (sl : Nat)], .bool o]) ∧ Below w.heap.size w w') :
    Calls Try.prog 64 #[.agg #[.int .u64 (ah : Nat), .int .u64 (al : Nat)], .agg #[.int .u64 (bh : Nat), .int .u64 (bl : Nat)]] w fun e w' => e = .returned (.bool o) ∧ Below w.heap.size w w' := by
  have M := Lib.hid m; clear m
  go_enter Try.func64, Try.ntmps64
  go_wp2_with (go_at_call 83; refine (M.out _).mono ?_; rintro e w1 ⟨rfl, hb⟩)
  go_ret
  exact ⟨rfl, ((((Below.refl _ _).alloc (Nat.le_refl _) _).alloc (by simp) _).trans (hb.mono (by simp; omega))).alloc (by have := hb.size; simp at this; omega) _⟩
theorem less_num (a b : Nat) (ha : a < M128) (hb : b < M128) (w : World) :
    Calls Try.prog 64 #[.agg #[.int .u64 (hi a : Nat), .int .u64 (lo a : Nat)], .agg #[.int .u64 (hi b : Nat), .int .u64 (lo b : Nat)]] w fun e w' => e = .returned (.bool (ltW a b)) ∧ Below w.heap.size w w' :=
  less_core _ _ _ _ _ _ _ w (sub_num a b ha hb)
end Go.Proofs.Ytacnaencmbnjpaa
