/- Plain numbers: sums, differences and products of wide numbers that fit; wide numbers of one word. No Go in sight. -/
import Derived.Test.YtacnaencmbnjpaaNum
namespace Go.Proofs.Ytacnaencmbnjpaa

theorem B64_pow : B64 = 2 ^ 64 := by decide
theorem M128_pow : M128 = 2 ^ 128 := by decide
theorem mulW_fit (a b : Nat) (h : a * b < M128) : mulW a b = a * b := by unfold mulW; unfold M128 at h; exact Nat.mod_eq_of_lt h
theorem mulO_fit (a b : Nat) (h : a * b < M128) : mulO a b = false := by unfold mulO; unfold M128 at h; simp; omega
theorem addW_fit (a b : Nat) (h : a + b < M128) : addW a b = a + b := by unfold addW; unfold M128 at h; exact Nat.mod_eq_of_lt h
theorem addO_fit (a b : Nat) (h : a + b < M128) : addO a b = false := by unfold addO; unfold M128 at h; simp; omega
theorem subW_fit (a b : Nat) (h : b ≤ a) (ha : a < M128) : subW a b = a - b := by unfold subW; unfold M128 at ha; omega
theorem hi_low (x : Nat) (h : x < B64) : hi x = 0 := by unfold hi; unfold B64 at h; exact Nat.div_eq_of_lt h
theorem lo_low (x : Nat) (h : x < B64) : lo x = x := by unfold lo; unfold B64 at h; exact Nat.mod_eq_of_lt h
end Go.Proofs.Ytacnaencmbnjpaa
