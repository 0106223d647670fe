/- datumref02.bit and .with, datumref01.Of: a bit of a number, a number with a bit more, a wide number out of a word; nothing that was in memory before is changed. -/
import Derived.Test.YtjnebbjjabnipaaDiv
import Derived.Test.YtjnebbjjabnipaaOf
/- Plain numbers: long division, bit by bit. No Go in sight. -/
namespace Go.Proofs.Ytjnebbjjabnipaa

/-- The i lowest bits of a are still to come: q is how often b went into what has come (with i zeros behind), r what is left of it. -/
structure Long (a b i q r : Nat) : Prop where
  ex : ∃ Q, q = Q * 2 ^ i ∧ a / 2 ^ i = Q * b + r
  lt : r < b
theorem Long.start (a b : Nat) (ha : a < M128) (h0 : b ≠ 0) : Long a b 128 0 0 :=
  ⟨⟨0, by omega, by rw [M128_pow] at ha; rw [Nat.div_eq_of_lt ha]; omega⟩, Nat.pos_of_ne_zero h0⟩
def bitAt (a i : Nat) : Nat := a / 2 ^ i % 2
theorem bitAt_lt (a i : Nat) : bitAt a i < 2 := Nat.mod_lt _ (by omega)
theorem half (a i : Nat) : a / 2 ^ i = 2 * (a / 2 ^ (i + 1)) + bitAt a i := by
  unfold bitAt
  rw [Nat.pow_succ, ← Nat.div_div_eq_div_mul]
  omega
theorem Long.take {a b i q r : Nat} (h : Long a b (i + 1) q r) (hD : b ≤ 2 * r + bitAt a i) : Long a b i (q + 2 ^ i) (2 * r + bitAt a i - b) := by
  obtain ⟨⟨Q, h1, h2⟩, h3⟩ := h
  have hb := bitAt_lt a i
  refine ⟨⟨2 * Q + 1, ?_, ?_⟩, by omega⟩
  · rw [h1, Nat.pow_succ, Nat.add_mul, Nat.one_mul, Nat.mul_comm (2 ^ i) 2, Nat.mul_left_comm, Nat.mul_assoc]
  · rw [half a i, h2, Nat.add_mul, Nat.one_mul, Nat.mul_assoc]
    generalize Q * b = m at *
    omega
theorem Long.leave {a b i q r : Nat} (h : Long a b (i + 1) q r) (hD : 2 * r + bitAt a i < b) : Long a b i q (2 * r + bitAt a i) := by
  obtain ⟨⟨Q, h1, h2⟩, h3⟩ := h
  refine ⟨⟨2 * Q, ?_, ?_⟩, hD⟩
  · rw [h1, Nat.pow_succ, Nat.mul_comm (2 ^ i) 2, Nat.mul_left_comm, Nat.mul_assoc]
  · rw [half a i, h2, Nat.mul_assoc]
    generalize Q * b = m at *
    omega
theorem Long.end {a b q r : Nat} (h : Long a b 0 q r) : q = a / b ∧ r = a % b := by
  obtain ⟨⟨Q, h1, h2⟩, h3⟩ := h
  rw [Nat.pow_zero, Nat.mul_one] at h1
  rw [Nat.pow_zero, Nat.div_one, ← h1] at h2
  exact Taken.end h2 h3
theorem Long.mul {a b i q r : Nat} (h : Long a b i q r) : 2 ^ i ∣ q := by
  obtain ⟨⟨Q, h1, _⟩, _⟩ := h
  exact ⟨Q, by rw [h1, Nat.mul_comm]⟩
theorem Long.q_lt {a b i q r : Nat} (h : Long a b i q r) (ha : a < M128) (h0 : b ≠ 0) : q < M128 := by
  obtain ⟨⟨Q, h1, h2⟩, _⟩ := h
  have h3 : Q ≤ Q * b := Nat.le_mul_of_pos_right Q (Nat.pos_of_ne_zero h0)
  have h4 : a / 2 ^ i * 2 ^ i ≤ a := Nat.div_mul_le_self a _
  have h5 := Nat.mul_le_mul_right (2 ^ i) (show Q ≤ a / 2 ^ i by omega)
  omega
/-- What the program reckons at each step. -/
theorem long_d (r t b : Nat) (hr : r < b) (hb : b < M128) (ht : t < 2) :
    (addO r r = true ∧ b ≤ 2 * r + t ∧ subW (addW (addW r r) t) b = 2 * r + t - b) ∨ (addO r r = false ∧ addW (addW r r) t = 2 * r + t ∧ 2 * r + t < M128) := by
  unfold M128 at *
  unfold addO addW subW
  by_cases c : 340282366920938463463374607431768211456 ≤ r + r
  · exact .inl ⟨by simp [c], by omega, by omega⟩
  · exact .inr ⟨by simp; omega, by omega, by omega⟩
/-- A bit more, that the number has not. -/
theorem with_high (q i : Nat) (hq : q + 2 ^ (64 + i) < M128) : hi (q + 2 ^ (64 + i)) = hi q + 2 ^ i ∧ lo (q + 2 ^ (64 + i)) = lo q ∧ hi q + 2 ^ i < B64 := by
  have e : 2 ^ (64 + i) = 2 ^ i * 18446744073709551616 := by rw [Nat.add_comm, Nat.pow_add]
  rw [e] at hq ⊢
  clear e
  generalize 2 ^ i = p at *
  have := hi_lt _ hq
  unfold hi lo B64 at *
  omega
theorem with_low (q i : Nat) (hi' : i < 64) (hd : 2 ^ (i + 1) ∣ q) : hi (q + 2 ^ i) = hi q ∧ lo (q + 2 ^ i) = lo q + 2 ^ i ∧ lo q + 2 ^ i < B64 := by
  have hlt : lo q + 2 ^ i < B64 := by
    obtain ⟨c, rfl⟩ := hd
    obtain ⟨j, hj⟩ : ∃ j, 64 = (i + 1) + j := ⟨63 - i, by omega⟩
    have e : (18446744073709551616 : Nat) = 2 ^ (i + 1) * 2 ^ j := by rw [← Nat.pow_add, ← hj]
    have h : lo (2 ^ (i + 1) * c) = 2 ^ (i + 1) * (c % 2 ^ j) := by
      unfold lo; rw [e, Nat.mul_mod_mul_left]
    have h2 : c % 2 ^ j + 1 ≤ 2 ^ j := Nat.mod_lt _ (Nat.two_pow_pos _)
    have h3 := Nat.mul_le_mul_left (2 ^ (i + 1)) h2
    rw [← e, Nat.mul_add, Nat.mul_one] at h3
    rw [h]
    have h4 : 2 ^ i < 2 ^ (i + 1) := Nat.pow_lt_pow_right (by omega) (by omega)
    unfold B64
    generalize 2 ^ (i + 1) * (c % 2 ^ j) = m at *
    generalize 2 ^ (i + 1) = p at *
    omega
  generalize 2 ^ i = p at *
  unfold hi lo B64 at *
  omega
theorem bit_high (a i : Nat) : bitAt a (64 + i) = hi a / 2 ^ i % 2 := by
  unfold bitAt hi
  rw [Nat.pow_add, ← Nat.div_div_eq_div_mul]
theorem bit_low (a i : Nat) (h : i < 64) : bitAt a i = lo a / 2 ^ i % 2 := by
  unfold bitAt lo
  obtain ⟨j, hj⟩ : ∃ j, 64 = i + (j + 1) := ⟨63 - i, by omega⟩
  have e : (18446744073709551616 : Nat) = 2 ^ i * (2 ^ j * 2) := by rw [← Nat.pow_succ, ← Nat.pow_add, ← hj]
  rw [e, Nat.mod_mul_right_div_self, Nat.mul_comm (2 ^ j) 2, Nat.mod_mul_right_mod]
end Go.Proofs.Ytjnebbjjabnipaa

/- datumref02.bit and .with, datumref01.Of: a bit of a number, a number with a bit more, a wide number out of a word; nothing that was in memory before is changed. -/
namespace Go.Proofs.Ytjnebbjjabnipaa
open Go.RowKit

theorem bit_core_low (h l k y : Nat) (hk : k < 64) (hy : bits .and .u64 ((l : Int) / 2 ^ k) 1 = ((y : Nat) : Int)) (w : World) :
    Calls Try.prog 68 #[.agg #[.int .u64 (h : Nat), .int .u64 (l : Nat)], .int .i64 (k : Nat)] w fun e w' => e = .returned (.int .u64 (y : Nat)) ∧ Below w.heap.size w w' := by
  have c : ¬ (64 : Int) ≤ k := by omega
  go_enter Try.func68, Try.ntmps68
  go_wp2
  go_ret
  exact ⟨rfl, (Below.refl _ _).alloc (Nat.le_refl _) _⟩
theorem bit_core_high (h l j y : Nat) (k : Int) (hk : k = 64 + j) (hj : j < 64) (hy : bits .and .u64 ((h : Int) / 2 ^ (k - 64).toNat) 1 = ((y : Nat) : Int)) (w : World) :
    Calls Try.prog 68 #[.agg #[.int .u64 (h : Nat), .int .u64 (l : Nat)], .int .i64 k] w fun e w' => e = .returned (.int .u64 (y : Nat)) ∧ Below w.heap.size w w' := by
  have c : (64 : Int) ≤ k := by omega
  have c2 : k ≤ 127 := by omega
  clear hk
  go_enter Try.func68, Try.ntmps68
  go_wp2
  go_ret
  exact ⟨rfl, (Below.refl _ _).alloc (Nat.le_refl _) _⟩
theorem and_one (l j : Nat) (hl : l < B64) : bits .and .u64 ((l : Int) / 2 ^ j) 1 = ((l / 2 ^ j % 2 : Nat) : Int) := by
  have e : ((l : Int) / 2 ^ j) = ((l / 2 ^ j : Nat) : Int) := by simp
  have := bits_and_u64_nat (l / 2 ^ j) 1 (Nat.lt_of_le_of_lt (Nat.div_le_self _ _) hl) (by omega)
  rw [Nat.and_one_is_mod] at this
  rw [e]
  exact this
theorem bit_any (a i : Nat) (ha : a < M128) (hi' : i < 128) (w : World) :
    Calls Try.prog 68 #[.agg #[.int .u64 (hi a : Nat), .int .u64 (lo a : Nat)], .int .i64 (i : Nat)] w fun e w' => e = .returned (.int .u64 (bitAt a i : Nat)) ∧ Below w.heap.size w w' := by
  by_cases c : i < 64
  · rw [bit_low a i c]
    exact bit_core_low _ _ i _ c (and_one _ _ (lo_lt a)) w
  · obtain ⟨j, rfl⟩ : ∃ j, i = 64 + j := ⟨i - 64, by omega⟩
    rw [bit_high a j]
    refine bit_core_high _ _ j _ _ (by omega) (by omega) ?_ w
    rw [show (((64 + j : Nat) : Int) - 64).toNat = j by omega]
    exact and_one _ _ (hi_lt a ha)

theorem with_core_low (h l k p s : Nat) (hk : k < 64) (hp : IntKind.u64.wrap (2 ^ k) = ((p : Nat) : Int)) (hs : IntKind.u64.wrap ((l : Int) + (p : Int)) = ((s : Nat) : Int)) (w : World) :
    Calls Try.prog 69 #[.agg #[.int .u64 (h : Nat), .int .u64 (l : Nat)], .int .i64 (k : Nat)] w fun e w' => e = .returned (.agg #[.int .u64 (h : Nat), .int .u64 (s : Nat)]) ∧ Below w.heap.size w w' := by
  have c : ¬ (64 : Int) ≤ k := by omega
  go_enter Try.func69, Try.ntmps69
  go_wp2
  exact bodyPost_ret (v := .agg #[.int .u64 (h : Nat), .int .u64 (s : Nat)]) (by simp [results, Try.results69, go_sem]) rfl ⟨rfl, ((Below.refl _ _).alloc (Nat.le_refl _) _).alloc (by simp) _⟩
theorem with_core_high (h l j p s : Nat) (k : Int) (hk : k = 64 + j) (hj : j < 64) (hp : IntKind.u64.wrap (2 ^ (k - 64).toNat) = ((p : Nat) : Int)) (hs : IntKind.u64.wrap ((h : Int) + (p : Int)) = ((s : Nat) : Int)) (w : World) :
    Calls Try.prog 69 #[.agg #[.int .u64 (h : Nat), .int .u64 (l : Nat)], .int .i64 k] w fun e w' => e = .returned (.agg #[.int .u64 (s : Nat), .int .u64 (l : Nat)]) ∧ Below w.heap.size w w' := by
  have c : (64 : Int) ≤ k := by omega
  have c2 : k ≤ 127 := by omega
  clear hk
  go_enter Try.func69, Try.ntmps69
  go_wp2
  exact bodyPost_ret (v := .agg #[.int .u64 (s : Nat), .int .u64 (l : Nat)]) (by simp [results, Try.results69, go_sem]) rfl ⟨rfl, ((Below.refl _ _).alloc (Nat.le_refl _) _).alloc (by simp) _⟩
theorem with_any (q i : Nat) (hi' : i < 128) (hq : q + 2 ^ i < M128) (hd : 2 ^ (i + 1) ∣ q) (w : World) :
    Calls Try.prog 69 #[.agg #[.int .u64 (hi q : Nat), .int .u64 (lo q : Nat)], .int .i64 (i : Nat)] w fun e w' => e = .returned (.agg #[.int .u64 (hi (q + 2 ^ i) : Nat), .int .u64 (lo (q + 2 ^ i) : Nat)]) ∧ Below w.heap.size w w' := by
  by_cases c : i < 64
  · obtain ⟨h1, h2, h3⟩ := with_low q i c hd
    rw [h1, h2]
    exact with_core_low _ _ i _ _ c (shl1 i c) (wrap_add _ _ h3) w
  · obtain ⟨j, rfl⟩ : ∃ j, i = 64 + j := ⟨i - 64, by omega⟩
    obtain ⟨h1, h2, h3⟩ := with_high q j hq
    rw [h1, h2]
    refine with_core_high _ _ j (2 ^ j) _ _ (by omega) (by omega) ?_ (wrap_add _ _ h3) w
    rw [show (((64 + j : Nat) : Int) - 64).toNat = j by omega]
    exact shl1 j (by omega)
end Go.Proofs.Ytjnebbjjabnipaa
