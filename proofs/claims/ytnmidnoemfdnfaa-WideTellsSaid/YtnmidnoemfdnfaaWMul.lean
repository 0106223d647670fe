/- math-bits Mul64 and wide.Mul answer the product, and wide.Less whether one wide number is less; nothing that was in memory before is changed. -/
import Derived.Test.YtnmidnoemfdnfaaWSub
import Derived.Shelf.Bits.Mul64
namespace Go.Proofs.Ytnmidnoemfdnfaa
open Go.RowKit Go.Lib

set_option maxHeartbeats 1000000 in
theorem mul64_any (x y : Nat) (hx : x < B64) (hy : y < B64) (w : World) :
    Calls Try.prog 29 #[.int .u64 x, .int .u64 y] w fun e w' => e = .returned (.tuple #[.int .u64 (hi (x * y) : Nat), .int .u64 (lo (x * y) : Nat)]) ∧ w = w' := by
  unfold B64 at hx hy
  obtain ⟨bd, bt, bw, hhi⟩ := Lib.mul64_hi x y hx hy
  have ba := Lib.half_mul_le (a := x / 4294967296) (b := y / 4294967296) (by omega) (by omega)
  have bb := Lib.half_mul_le (a := x / 4294967296) (b := y % 4294967296) (by omega) (by omega)
  have bc := Lib.half_mul_le (a := x % 4294967296) (b := y / 4294967296) (by omega) (by omega)
  have ba' : x / 4294967296 * (y / 4294967296) < 18446744073709551616 := by omega
  have bb' : x / 4294967296 * (y % 4294967296) < 18446744073709551616 := by omega
  have bc' : x % 4294967296 * (y / 4294967296) < 18446744073709551616 := by omega
  have bh1 : x / 4294967296 * (y / 4294967296) + (x / 4294967296 * (y % 4294967296) + x % 4294967296 * (y % 4294967296) / 4294967296) / 4294967296 < 18446744073709551616 := by omega
  have bh : x / 4294967296 * (y / 4294967296) + (x / 4294967296 * (y % 4294967296) + x % 4294967296 * (y % 4294967296) / 4294967296) / 4294967296 + ((x / 4294967296 * (y % 4294967296) + x % 4294967296 * (y % 4294967296) / 4294967296) % 4294967296 + x % 4294967296 * (y / 4294967296)) / 4294967296 < 18446744073709551616 := by omega
  go_enter Try.func29, Try.ntmps29
  go_wp2
  simp only [Mul64.maskN x hx, Mul64.maskN y hy, Mul64.divN, Mul64.mulN, Mul64.addN, Mul64.wrapN _ bd, Mul64.wrapN _ bb', Mul64.wrapN _ bt, Mul64.maskN _ bt, Mul64.wrapN _ bc', Mul64.wrapN _ bw, Mul64.wrapN _ ba', Mul64.wrapN _ bh1, Mul64.wrapN _ bh, Mul64.wrapM (x * y)]
  rw [hhi]
  go_ret2
  exact ⟨rfl, rfl⟩

/-- wide.Mul over whatever Mul64 answers. -/
theorem mul_core (x y h l : Nat) (w : World) (m : ∀ w, Calls Try.prog 29 #[.int .u64 x, .int .u64 y] w fun e w' => e = .returned (.tuple #[.int .u64 (h : Nat), .int .u64 (l : Nat)]) ∧ w = w') :
    Calls Try.prog 18 #[.int .u64 x, .int .u64 y] w fun e w' => e = .returned (.agg #[.int .u64 (h : Nat), .int .u64 (l : Nat)]) ∧ w.alloc (.cells #[.int .u64 (h : Nat), .int .u64 (l : Nat)] 24) = w' := by
  have M := Lib.hid m; clear m
  go_enter Try.func18, Try.ntmps18
  go_wp2_with (go_at_call 29; refine (M.out _).mono ?_; rintro e w' ⟨rfl, rfl⟩)
  exact bodyPost_ret (v := .agg #[.int .u64 (h : Nat), .int .u64 (l : Nat)]) (by simp [results, Try.results18, go_sem]) rfl ⟨rfl, rfl⟩
theorem mul_any (x y : Nat) (hx : x < B64) (hy : y < B64) (w : World) :
    Calls Try.prog 18 #[.int .u64 x, .int .u64 y] w fun e w' => e = .returned (.agg #[.int .u64 (hi (x * y) : Nat), .int .u64 (lo (x * y) : Nat)]) ∧ w.alloc (.cells #[.int .u64 (hi (x * y) : Nat), .int .u64 (lo (x * y) : Nat)] 24) = w' :=
  mul_core x y _ _ w (mul64_any x y hx hy)

theorem less_core (ah al bh bl sh sl : Nat) (o : Bool) (w : World) (m : ∀ w, Calls Try.prog 9 #[.agg #[.int .u64 (ah : Nat), .int .u64 (al : Nat)], .agg #[.int .u64 (bh : Nat), .int .u64 (bl : Nat)]] w fun e w' => e = .returned (.tuple #[.agg #[.int .u64 (sh : Nat), .int .u64 (sl : Nat)], .bool o]) ∧ Below w.heap.size w w') :
    Calls Try.prog 13 #[.agg #[.int .u64 (ah : Nat), .int .u64 (al : Nat)], .agg #[.int .u64 (bh : Nat), .int .u64 (bl : Nat)]] w fun e w' => e = .returned (.bool o) ∧ Below w.heap.size w w' := by
  have M := Lib.hid m; clear m
  go_enter Try.func13, Try.ntmps13
  go_wp2_with (go_at_call 9; refine (M.out _).mono ?_; rintro e w1 ⟨rfl, hb⟩)
  go_ret
  exact ⟨rfl, ((((Below.refl _ _).alloc (Nat.le_refl _) _).alloc (by simp) _).trans (hb.mono (by simp; omega))).alloc (by have := hb.size; simp at this; omega) _⟩
theorem less_num (a b : Nat) (ha : a < M128) (hb : b < M128) (w : World) :
    Calls Try.prog 13 #[.agg #[.int .u64 (hi a : Nat), .int .u64 (lo a : Nat)], .agg #[.int .u64 (hi b : Nat), .int .u64 (lo b : Nat)]] w fun e w' => e = .returned (.bool (ltW a b)) ∧ Below w.heap.size w w' :=
  less_core _ _ _ _ _ _ _ w (sub_num a b ha hb)
end Go.Proofs.Ytnmidnoemfdnfaa
