/- WideTells: any wide number's decimal digits are as the document says. For every wide number the law answers true. -/
import Derived.Test.YtnmidnoemfdnfaaAlive1
import Derived.Test.YtnmidnoemfdnfaaRText
namespace Go.Proofs.Ytnmidnoemfdnfaa
open Go.RowKit

theorem div_zero_of_le (n m k : Nat) (h : n / 10 ^ m = 0) (hk : m ≤ k) : n / 10 ^ k = 0 := by
  apply Nat.div_eq_of_lt
  have h1 : n < 10 ^ m := by
    rcases Nat.lt_or_ge n (10 ^ m) with h2 | h2
    · exact h2
    · have := Nat.div_pos h2 (Nat.pow_pos (by omega)); omega
  exact Nat.lt_of_lt_of_le h1 (Nat.pow_le_pow_right (by omega) hk)
theorem IsLen.uniq {n m k : Nat} (h : IsLen n m) (h' : IsLen n k) : m = k := by
  obtain ⟨a1, a2, a3, a4⟩ := h
  obtain ⟨b1, b2, b3, b4⟩ := h'
  rcases Nat.lt_trichotomy m k with c | c | c
  · rcases b4 with b4 | b4
    · omega
    · exact absurd (div_zero_of_le n m (k - 1) a3 (by omega)) b4
  · exact c
  · rcases a4 with a4 | a4
    · omega
    · exact absurd (div_zero_of_le n k (m - 1) b3 (by omega)) a4

set_option maxHeartbeats 1000000 in
theorem tells_walk (a : Nat) (ha : a < M128) (w : World) :
    Calls Try.prog 5 #[.agg #[.int .u64 (hi a : Nat), .int .u64 (lo a : Nat)]] w fun e w' => e = .returned (.bool true) ∧ Below w.heap.size w w' := by
  go_enter Try.func5, Try.ntmps5
  go_wp2_with fail
  refine (text_walk a ha _).mono ?_
  rintro e w1 ⟨m, hm, rfl, hb1⟩
  have A1 := keep2 (b := w.heap.size) (x := .int .u64 (hi a : Nat)) (y := .int .u64 (lo a : Nat)) hb1 (by simp) (by simp [go_sem])
  have L1 : Below w.heap.size w w1 := ((Below.refl _ _).alloc (Nat.le_refl _) _).trans (hb1.mono (by simp))
  have hs : (strOfNums (txt a m)).size = m := by rw [strOfNums_size, txt_length]
  have HM := Lib.hid hm
  obtain ⟨m1, m2, _, _⟩ := hm
  obtain ⟨S, hS⟩ : ∃ S, S = strOfNums (txt a m) := ⟨_, rfl⟩
  rw [← hS] at hs ⊢
  have s1 : 1 ≤ S.size := by omega
  have s2 : S.size ≤ 39 := by omega
  have s3 : decide ((S.size : Int) ≤ 39) = true := by simp; omega
  have HS := Lib.hid hS
  clear hs hS hb1 m1 m2
  go_wp2_with fail
  refine (alive_any _).mono ?_
  rintro e w2 ⟨rfl, hb2⟩
  have A2 := keep2 (b := w.heap.size) (x := .int .u64 (hi a : Nat)) (y := .int .u64 (lo a : Nat)) hb2 A1.1 A1.2
  have L2 := L1.trans (hb2.mono (by omega))
  clear hb2 A1 L1
  go_wp2_with fail
  refine (rtext_walk a ha _).mono ?_
  rintro e w3 ⟨m', hm', rfl, hb3⟩
  have e := HM.out.uniq hm'
  subst e
  rw [← HS.out]
  have L3 := L2.trans (hb3.mono (by omega))
  clear hb3 A2 L2 hm'
  have HL := Lib.hid L3; clear L3
  go_wp2_with fail
  go_ret
  exact ⟨rfl, HL.out⟩
end Go.Proofs.Ytnmidnoemfdnfaa
