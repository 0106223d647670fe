/- math-bits Len64, divide.length and divide.power: how many bits a number has, and the powers of two; nothing that was in memory before is changed. -/
import Derived.Test.YtacnaencmbnjpaaFrame
import Derived.Test.YtacnaencmbnjpaaDivN
import Derived.Test.YtacnaencmbnjpaaShl
import Derived.Shelf.Strconv.Itoa0
namespace Go.Proofs.Ytacnaencmbnjpaa
open Go.RowKit Go.Lib

/-- The library's contract of Len64, laid at this translation's numbers. -/
def len64_ren : Go.Shelf.Ren := ⟨fun | 129 => 96 | n => n, fun | 53 => 53 | 46 => 83 | 3 => 3 | 4 => 4 | 5 => 5 | 9 => 9 | n => n, fun | n => n⟩
theorem len64_lays : Go.Proofs.Lays.n129 Try.prog len64_ren := {
  mixed := by kernel_rfl
  f129 := Try.func96.trans (congrArg some (by kernel_rfl))
  t3 := Try.underlying3
  a3 := Try.isAgg3
  z3 := Try.sizeOf3
  v3 := Try.zeroValue3
  t4 := Try.underlying4
  a4 := Try.isAgg4
  z4 := Try.sizeOf4
  v4 := Try.zeroValue4
  t5 := Try.underlying5
  a5 := Try.isAgg5
  z5 := Try.sizeOf5
  v5 := Try.zeroValue5
  t9 := Try.underlying9
  a9 := Try.isAgg9
  z9 := Try.sizeOf9
  v9 := Try.zeroValue9
  t46 := Try.underlying83
  a46 := Try.isAgg83
  z46 := Try.sizeOf83
  v46 := Try.zeroValue83
  t53 := Try.underlying53
  a53 := Try.isAgg53
  z53 := Try.sizeOf53
  v53 := Try.zeroValue53 }
theorem len64_any (x : Nat) (hx : x < B64) (w : World) :
    Calls Try.prog 96 #[.int .u64 x] w fun e w' => e = .returned (.int .i64 (Lib.bitLen x : Nat)) ∧ w = w' := by
  unfold B64 at hx
  exact (Any.bits_Len64 len64_lays x w (by omega) (by omega)).mono fun e w' ⟨h1, h2⟩ => ⟨h1, h2.symm⟩

theorem length_core (h l p q : Nat) (w : World) (m : ∀ w, Calls Try.prog 96 #[.int .u64 h] w fun e w' => e = .returned (.int .i64 (p : Nat)) ∧ w = w')
    (m' : ∀ w, Calls Try.prog 96 #[.int .u64 l] w fun e w' => e = .returned (.int .i64 (q : Nat)) ∧ w = w') (hp : p ≤ 64) :
    Calls Try.prog 93 #[.agg #[.int .u64 h, .int .u64 l]] w fun e w' => e = .returned (.int .i64 ((if h = 0 then q else 64 + p : Nat) : Nat)) ∧ w.alloc (.cells #[.int .u64 h, .int .u64 l] 55) = w' := by
  have M := Lib.hid m; have M' := Lib.hid m'; clear m m'
  by_cases c : h = 0
  · rw [if_pos c]
    have c1 : ((h : Int) != 0) = false := by simp [c]
    clear c
    go_enter Try.func93, Try.ntmps93
    go_wp2_with (go_at_call 96; refine (M'.out _).mono ?_; rintro e w' ⟨rfl, rfl⟩)
    go_ret
    exact ⟨rfl, rfl⟩
  · rw [if_neg c]
    have c1 : ((h : Int) != 0) = true := by simp; omega
    clear c
    go_enter Try.func93, Try.ntmps93
    go_wp2_with (go_at_call 96; refine (M.out _).mono ?_; rintro e w' ⟨rfl, rfl⟩)
    go_ret
    exact ⟨by simp, rfl⟩
theorem length_num (n : Nat) (hn : n < M128) (w : World) :
    Calls Try.prog 93 #[.agg #[.int .u64 (hi n : Nat), .int .u64 (lo n : Nat)]] w fun e w' => e = .returned (.int .i64 (blen n : Nat)) ∧ w.alloc (.cells #[.int .u64 (hi n : Nat), .int .u64 (lo n : Nat)] 55) = w' :=
  have le (x : Nat) (hx : x < B64) : Lib.bitLen x ≤ 64 := Lib.bitLen_le x 64 (Nat.le_refl _) (by rw [← B64_pow]; exact hx)
  length_core _ _ _ _ w (len64_any _ (hi_lt n hn)) (len64_any _ (lo_lt n)) (le _ (hi_lt n hn))

theorem power_low (k : Nat) (hk : k < 64) (w : World) :
    Calls Try.prog 94 #[.int .i64 (k : Nat)] w fun e w' => e = .returned (.agg #[.int .u64 0, .int .u64 (2 ^ k : Nat)]) ∧ Below w.heap.size w w' := by
  have s := shl1 k hk
  obtain ⟨P, hP⟩ : ∃ P : Nat, 2 ^ k = P := ⟨_, rfl⟩
  rw [hP] at s ⊢
  clear hP
  have c : ¬ (64 : Int) ≤ k := by omega
  go_enter Try.func94, Try.ntmps94
  go_wp2
  exact bodyPost_ret (v := .agg #[.int .u64 0, .int .u64 (P : Nat)]) (by simp [results, Try.results94, go_sem]) rfl ⟨rfl, (Below.refl _ _).alloc (Nat.le_refl _) _⟩
theorem power_high (k : Nat) (hk : k < 64) (w : World) :
    Calls Try.prog 94 #[.int .i64 ((64 + k : Nat) : Nat)] w fun e w' => e = .returned (.agg #[.int .u64 (2 ^ k : Nat), .int .u64 0]) ∧ Below w.heap.size w w' := by
  have s := shl1 k hk
  obtain ⟨P, hP⟩ : ∃ P : Nat, 2 ^ k = P := ⟨_, rfl⟩
  rw [hP] at s ⊢
  clear hP
  obtain ⟨K, hK⟩ : ∃ K : Int, ((64 + k : Nat) : Int) = K := ⟨_, rfl⟩
  rw [hK]
  have c : (64 : Int) ≤ K := by omega
  have c2 : K ≤ 127 := by omega
  have s' : IntKind.u64.wrap (2 ^ (K - 64).toNat) = ((P : Nat) : Int) := by rw [← s, show (K - 64).toNat = k by omega]
  clear s hK hk
  go_enter Try.func94, Try.ntmps94
  go_wp2
  exact bodyPost_ret (v := .agg #[.int .u64 (P : Nat), .int .u64 0]) (by simp [results, Try.results94, go_sem]) rfl ⟨rfl, (Below.refl _ _).alloc (Nat.le_refl _) _⟩
theorem power_num (k : Nat) (hk : k < 128) (w : World) :
    Calls Try.prog 94 #[.int .i64 (k : Nat)] w fun e w' => e = .returned (.agg #[.int .u64 (hi (2 ^ k) : Nat), .int .u64 (lo (2 ^ k) : Nat)]) ∧ Below w.heap.size w w' := by
  by_cases c : k < 64
  · have h : 2 ^ k < B64 := by rw [B64_pow]; exact Nat.pow_lt_pow_right (by omega) c
    have e1 : hi (2 ^ k) = 0 := by unfold hi; unfold B64 at h; exact Nat.div_eq_of_lt h
    have e2 : lo (2 ^ k) = 2 ^ k := by unfold lo; unfold B64 at h; exact Nat.mod_eq_of_lt h
    rw [e1, e2]
    exact power_low k c w
  · obtain ⟨j, rfl⟩ : ∃ j, k = 64 + j := ⟨k - 64, by omega⟩
    have e : 2 ^ (64 + j) = vw (2 ^ j) 0 := by unfold vw; rw [Nat.add_comm, Nat.pow_add, show (2 : Nat) ^ 64 = 18446744073709551616 by decide, Nat.add_zero]
    rw [e, hi_vw _ _ (by decide), lo_vw _ _ (by decide)]
    exact power_high j (by omega) w
end Go.Proofs.Ytacnaencmbnjpaa
