/- The law SpanTight: the numbers of its walk. -/
import Derived.Test.YtacnaencmbnjpaaSpanTight0
namespace Go.Proofs.Ytacnaencmbnjpaa
open Go.RowKit

theorem ovT_no (z : Nat → Int) : ∀ k, (∀ i, i < k → IsInt (z i)) → ovT z k = false
  | 0, _ => rfl
  | k + 1, h => by
    show (ovT z k || (err (z k) != 0)) = false
    rw [ovT_no z k (fun i hi => h i (by omega)), err_ok (h k (by omega))]; rfl
theorem ovT_yes (z : Nat → Int) : ∀ k i, i < k → ¬ IsInt (z i) → ovT z k = true
  | 0, i, h, _ => by omega
  | k + 1, i, h, hz => by
    show (ovT z k || (err (z k) != 0)) = true
    by_cases c : i = k
    · subst c; rw [err_no hz]; cases ovT z i <;> rfl
    · rw [ovT_yes z k i (by omega) hz]; rfl
theorem eqT_yes (z : Nat → Int) (v : Int) : ∀ k i, i < k → ans (z i) = v → eqT z v k = true
  | 0, i, h, _ => by omega
  | k + 1, i, h, hz => by
    show (eqT z v k || (ans (z k) == v)) = true
    by_cases c : i = k
    · subst c; rw [hz]; cases eqT z v i <;> simp
    · rw [eqT_yes z v k i (by omega) hz]; rfl
theorem ends_four (z : Nat → Int) (lo hi : Int) (h1 : lo = min4 (z 0) (z 1) (z 2) (z 3)) (h2 : hi = max4 (z 0) (z 1) (z 2) (z 3)) : Ends z 4 lo hi := by
  subst h1 h2
  obtain ⟨k0, k1, k2, k3⟩ := min4_le (z 0) (z 1) (z 2) (z 3)
  obtain ⟨j0, j1, j2, j3⟩ := le_max4 (z 0) (z 1) (z 2) (z 3)
  refine ⟨four ⟨k0, k1, k2, k3⟩, four ⟨j0, j1, j2, j3⟩, ?_, ?_⟩
  · rcases min4_is (z 0) (z 1) (z 2) (z 3) with h | h | h | h
    · exact ⟨0, by omega, h.symm⟩
    · exact ⟨1, by omega, h.symm⟩
    · exact ⟨2, by omega, h.symm⟩
    · exact ⟨3, by omega, h.symm⟩
  · rcases max4_is (z 0) (z 1) (z 2) (z 3) with h | h | h | h
    · exact ⟨0, by omega, h.symm⟩
    · exact ⟨1, by omega, h.symm⟩
    · exact ⟨2, by omega, h.symm⟩
    · exact ⟨3, by omega, h.symm⟩
theorem met_any (z : Nat → Int) (lo hi : Int) (h : Ends z 4 lo hi) (w : World) :
    Calls Try.prog 30 #[.int .i64 (rErr lo hi), .bool (ovT z 4), .agg #[.bool (eqT z (rLo lo hi) 4), .bool (eqT z (rHi lo hi) 4)]] w fun en w' => en = .returned (.bool true) ∧ Below w.heap.size w w' := by
  by_cases k : IsInt lo ∧ IsInt hi
  · have hz := h.ints.2 k
    obtain ⟨i, i4, e1⟩ := h.lo_at
    obtain ⟨j, j4, e2⟩ := h.hi_at
    rw [rLo_ok k, rHi_ok k, rErr_ok k, ovT_no z 4 hz, eqT_yes z lo 4 i i4 (by rw [ans_ok (hz i i4), e1]), eqT_yes z hi 4 j j4 (by rw [ans_ok (hz j j4), e2])]
    exact met_ok w
  · have hz : ∃ i, i < 4 ∧ ¬ IsInt (z i) := by
      apply Classical.byContradiction
      intro c
      exact k (h.ints.1 (fun i hi => Classical.byContradiction fun e => c ⟨i, hi, e⟩))
    obtain ⟨i, i4, e⟩ := hz
    rw [rErr_no k, ovT_yes z 4 i i4 e]
    exact met_over _ _ w
theorem tight_ends (p q r s : Int) (hr : p ≤ q ∧ r ≤ s) : Ends (fun i => cX p q i + cY r s i) 4 (p + r) (q + s) ∧ Ends (fun i => cX p q i - cY r s i) 4 (p - s) (q - r) ∧ Ends (fun i => cX p q i * cY r s i) 4 (pLo p q r s) (pHi p q r s) := by
  refine ⟨ends_four _ _ _ ?_ ?_, ends_four _ _ _ ?_ ?_, ends_four _ _ _ rfl rfl⟩
  · show p + r = min4 (p + r) (p + s) (q + r) (q + s)
    unfold min4; omega
  · show q + s = max4 (p + r) (p + s) (q + r) (q + s)
    unfold max4; omega
  · show p - s = min4 (p - r) (p - s) (q - r) (q - s)
    unfold min4; omega
  · show q - r = max4 (p - r) (p - s) (q - r) (q - s)
    unfold max4; omega
theorem stight_walk (a b c d : Int) (ha : IsInt a) (hb : IsInt b) (hc : IsInt c) (hd : IsInt d) (w : World) :
    Calls Try.prog 6 #[.int .i64 a, .int .i64 b, .int .i64 c, .int .i64 d] w fun en w' => en = .returned (.bool true) ∧ Below w.heap.size w w' := by
  have ip : IsInt (min a b) := by unfold IsInt at *; omega
  have iq : IsInt (max a b) := by unfold IsInt at *; omega
  have ir : IsInt (min c d) := by unfold IsInt at *; omega
  have is : IsInt (max c d) := by unfold IsInt at *; omega
  have hr : min a b ≤ max a b ∧ min c d ≤ max c d := by omega
  have ic := fun i => (cX_is (min a b) (max a b) i)
  have id := fun i => (cY_is (min c d) (max c d) i)
  have hx : ∀ i, IsInt (cX (min a b) (max a b) i) := fun i => by rcases ic i with e | e <;> rw [e] <;> assumption
  have hy : ∀ i, IsInt (cY (min c d) (max c d) i) := fun i => by rcases id i with e | e <;> rw [e] <;> assumption
  have oA := fun w => sadd_any _ _ _ _ ip iq ir is w
  have oS := fun w => ssub_any _ _ _ _ ip iq ir is w
  have oU := fun w => smul_any _ _ _ _ ip iq ir is w
  rw [oLo_r hr, oHi_r hr, oErr_r hr] at oA oS oU
  obtain ⟨eA, eS, eU⟩ := tight_ends _ _ _ _ hr
  exact stight_core a b c d (min a b) (max a b) (min c d) (max c d) _ _ _ _ _ _ _ _ _ (fun i => cX (min a b) (max a b) i + cY (min c d) (max c d) i) (fun i => cX (min a b) (max a b) i - cY (min c d) (max c d) i) (fun i => cX (min a b) (max a b) i * cY (min c d) (max c d) i) w rfl rfl rfl rfl oA (fun i _ w => fadd_any _ _ (hx i) (hy i) w) (met_any _ _ _ eA) oS (fun i _ w => fsub_any _ _ (hx i) (hy i) w) (met_any _ _ _ eS) oU (fun i _ w => fmul_any _ _ (hx i) (hy i) w) (met_any _ _ _ eU)
end Go.Proofs.Ytacnaencmbnjpaa
