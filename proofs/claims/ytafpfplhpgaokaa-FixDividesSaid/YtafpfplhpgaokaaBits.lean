/- datumref02.bit and .with, datumref01.Of: a bit of a number, a number with a bit more, a wide number out of a word; nothing that was in memory before is changed. -/
import Derived.Test.YtafpfplhpgaokaaLen
import Derived.Test.YtafpfplhpgaokaaLongN
import Derived.Test.YtafpfplhpgaokaaOf
namespace Go.Proofs.Ytafpfplhpgaokaa
open Go.RowKit

theorem bit_core_low (h l k y : Nat) (hk : k < 64) (hy : bits .and .u64 ((l : Int) / 2 ^ k) 1 = ((y : Nat) : Int)) (w : World) :
    Calls Try.prog 56 #[.agg #[.int .u64 (h : Nat), .int .u64 (l : Nat)], .int .i64 (k : Nat)] w fun e w' => e = .returned (.int .u64 (y : Nat)) ∧ Below w.heap.size w w' := by
  have c : ¬ (64 : Int) ≤ k := by omega
  go_enter Try.func56, Try.ntmps56
  go_wp2
  go_ret
  exact ⟨rfl, (Below.refl _ _).alloc (Nat.le_refl _) _⟩
theorem bit_core_high (h l j y : Nat) (k : Int) (hk : k = 64 + j) (hj : j < 64) (hy : bits .and .u64 ((h : Int) / 2 ^ (k - 64).toNat) 1 = ((y : Nat) : Int)) (w : World) :
    Calls Try.prog 56 #[.agg #[.int .u64 (h : Nat), .int .u64 (l : Nat)], .int .i64 k] w fun e w' => e = .returned (.int .u64 (y : Nat)) ∧ Below w.heap.size w w' := by
  have c : (64 : Int) ≤ k := by omega
  have c2 : k ≤ 127 := by omega
  clear hk
  go_enter Try.func56, Try.ntmps56
  go_wp2
  go_ret
  exact ⟨rfl, (Below.refl _ _).alloc (Nat.le_refl _) _⟩
theorem and_one (l j : Nat) (hl : l < B64) : bits .and .u64 ((l : Int) / 2 ^ j) 1 = ((l / 2 ^ j % 2 : Nat) : Int) := by
  have e : ((l : Int) / 2 ^ j) = ((l / 2 ^ j : Nat) : Int) := by simp
  have := bits_and_u64_nat (l / 2 ^ j) 1 (Nat.lt_of_le_of_lt (Nat.div_le_self _ _) hl) (by omega)
  rw [Nat.and_one_is_mod] at this
  rw [e]
  exact this
theorem bit_any (a i : Nat) (ha : a < M128) (hi' : i < 128) (w : World) :
    Calls Try.prog 56 #[.agg #[.int .u64 (hi a : Nat), .int .u64 (lo a : Nat)], .int .i64 (i : Nat)] w fun e w' => e = .returned (.int .u64 (bitAt a i : Nat)) ∧ Below w.heap.size w w' := by
  by_cases c : i < 64
  · rw [bit_low a i c]
    exact bit_core_low _ _ i _ c (and_one _ _ (lo_lt a)) w
  · obtain ⟨j, rfl⟩ : ∃ j, i = 64 + j := ⟨i - 64, by omega⟩
    rw [bit_high a j]
    refine bit_core_high _ _ j _ _ (by omega) (by omega) ?_ w
    rw [show (((64 + j : Nat) : Int) - 64).toNat = j by omega]
    exact and_one _ _ (hi_lt a ha)

theorem with_core_low (h l k p s : Nat) (hk : k < 64) (hp : IntKind.u64.wrap (2 ^ k) = ((p : Nat) : Int)) (hs : IntKind.u64.wrap ((l : Int) + (p : Int)) = ((s : Nat) : Int)) (w : World) :
    Calls Try.prog 57 #[.agg #[.int .u64 (h : Nat), .int .u64 (l : Nat)], .int .i64 (k : Nat)] w fun e w' => e = .returned (.agg #[.int .u64 (h : Nat), .int .u64 (s : Nat)]) ∧ Below w.heap.size w w' := by
  have c : ¬ (64 : Int) ≤ k := by omega
  go_enter Try.func57, Try.ntmps57
  go_wp2
  exact bodyPost_ret (v := .agg #[.int .u64 (h : Nat), .int .u64 (s : Nat)]) (by simp [results, Try.results57, go_sem]) rfl ⟨rfl, ((Below.refl _ _).alloc (Nat.le_refl _) _).alloc (by simp) _⟩
theorem with_core_high (h l j p s : Nat) (k : Int) (hk : k = 64 + j) (hj : j < 64) (hp : IntKind.u64.wrap (2 ^ (k - 64).toNat) = ((p : Nat) : Int)) (hs : IntKind.u64.wrap ((h : Int) + (p : Int)) = ((s : Nat) : Int)) (w : World) :
    Calls Try.prog 57 #[.agg #[.int .u64 (h : Nat), .int .u64 (l : Nat)], .int .i64 k] w fun e w' => e = .returned (.agg #[.int .u64 (s : Nat), .int .u64 (l : Nat)]) ∧ Below w.heap.size w w' := by
  have c : (64 : Int) ≤ k := by omega
  have c2 : k ≤ 127 := by omega
  clear hk
  go_enter Try.func57, Try.ntmps57
  go_wp2
  exact bodyPost_ret (v := .agg #[.int .u64 (s : Nat), .int .u64 (l : Nat)]) (by simp [results, Try.results57, go_sem]) rfl ⟨rfl, ((Below.refl _ _).alloc (Nat.le_refl _) _).alloc (by simp) _⟩
theorem with_any (q i : Nat) (hi' : i < 128) (hq : q + 2 ^ i < M128) (hd : 2 ^ (i + 1) ∣ q) (w : World) :
    Calls Try.prog 57 #[.agg #[.int .u64 (hi q : Nat), .int .u64 (lo q : Nat)], .int .i64 (i : Nat)] w fun e w' => e = .returned (.agg #[.int .u64 (hi (q + 2 ^ i) : Nat), .int .u64 (lo (q + 2 ^ i) : Nat)]) ∧ Below w.heap.size w w' := by
  by_cases c : i < 64
  · obtain ⟨h1, h2, h3⟩ := with_low q i c hd
    rw [h1, h2]
    exact with_core_low _ _ i _ _ c (shl1 i c) (wrap_add _ _ h3) w
  · obtain ⟨j, rfl⟩ : ∃ j, i = 64 + j := ⟨i - 64, by omega⟩
    obtain ⟨h1, h2, h3⟩ := with_high q j hq
    rw [h1, h2]
    refine with_core_high _ _ j (2 ^ j) _ _ (by omega) (by omega) ?_ (wrap_add _ _ h3) w
    rw [show (((64 + j : Nat) : Int) - 64).toNat = j by omega]
    exact shl1 j (by omega)
end Go.Proofs.Ytafpfplhpgaokaa
