/- Plain numbers: the product of two wide numbers, piece by piece. -/
import Derived.Test.YtacnaencmbnjpaaCarr
namespace Go.Proofs.Ytacnaencmbnjpaa
/-- What pieces i and K - i make together. -/
def cvT (f g : Nat → Nat) (i K : Nat) : Nat := if i ≤ K ∧ K - i < 8 then f i * g (K - i) else 0
/-- .. of the first i. -/
def cvTo (f g : Nat → Nat) (K : Nat) : Nat → Nat
  | 0 => 0
  | i + 1 => cvTo f g K i + cvT f g i K
theorem cvT_lt (f g : Nat → Nat) (hf : ∀ j, f j < 65536) (hg : ∀ j, g j < 65536) (i K : Nat) : cvT f g i K ≤ 4294836225 := by
  unfold cvT
  split
  · have := Nat.mul_le_mul (show f i ≤ 65535 by have := hf i; omega) (show g (K - i) ≤ 65535 by have := hg (K - i); omega)
    omega
  · omega
theorem cvTo_le (f g : Nat → Nat) (hf : ∀ j, f j < 65536) (hg : ∀ j, g j < 65536) (K : Nat) : ∀ i, cvTo f g K i ≤ i * 4294836225
  | 0 => by simp [cvTo]
  | i + 1 => by
    have := cvTo_le f g hf hg K i
    have := cvT_lt f g hf hg i K
    simp only [cvTo]
    rw [Nat.add_mul]
    omega
theorem vTo_below (f g : Nat → Nat) (i : Nat) : ∀ n, n ≤ i → vTo (cvT f g i) n = 0
  | 0, _ => rfl
  | n + 1, h => by
    simp only [vTo]
    rw [vTo_below f g i n (by omega)]
    have : cvT f g i n = 0 := by unfold cvT; rw [if_neg (by omega)]
    rw [this]; simp
theorem vTo_within (f g : Nat → Nat) (i : Nat) : ∀ m, m ≤ 8 → vTo (cvT f g i) (i + m) = f i * 65536 ^ i * vTo g m
  | 0, _ => by rw [Nat.add_zero, vTo_below f g i i (Nat.le_refl _)]; simp [vTo]
  | m + 1, h => by
    rw [← Nat.add_assoc]
    simp only [vTo]
    rw [vTo_within f g i m (by omega), Nat.mul_add]
    have : cvT f g i (i + m) = f i * g m := by unfold cvT; rw [if_pos (by omega), Nat.add_sub_cancel_left]
    rw [this, Nat.pow_add]
    congr 1
    rw [Nat.mul_assoc, Nat.mul_assoc]
    congr 1
    rw [← Nat.mul_assoc, ← Nat.mul_assoc, Nat.mul_comm (g m)]
theorem vTo_succ (f : Nat → Nat) (k : Nat) : vTo f (k + 1) = vTo f k + f k * 65536 ^ k := rfl
theorem vTo_beyond (f g : Nat → Nat) (i m : Nat) : vTo (cvT f g i) (i + 8 + m) = f i * 65536 ^ i * vTo g 8 := by
  have h8 := vTo_within f g i 8 (by omega)
  generalize f i * 65536 ^ i * vTo g 8 = R at *
  induction m with
  | zero => rw [Nat.add_zero]; exact h8
  | succ m ih =>
    have e : cvT f g i (i + 8 + m) = 0 := by unfold cvT; rw [if_neg (by omega)]
    rw [← Nat.add_assoc, vTo_succ, ih, e, Nat.zero_mul, Nat.add_zero]
theorem vTo_cvTo (f g : Nat → Nat) : ∀ i, i ≤ 8 → vTo (fun K => cvTo f g K i) 16 = vTo f i * vTo g 8
  | 0, _ => by
    have : ∀ n, vTo (fun K => cvTo f g K 0) n = 0 := by
      intro n
      induction n with
      | zero => rfl
      | succ n ih => simp only [vTo]; rw [ih]; simp [cvTo]
    rw [this]; simp [vTo]
  | i + 1, h => by
    have e : vTo (fun K => cvTo f g K (i + 1)) 16 = vTo (fun K => cvTo f g K i) 16 + vTo (cvT f g i) 16 := vTo_add (fun K => cvTo f g K i) (cvT f g i) 16
    have e2 := vTo_beyond f g i (8 - i)
    rw [show i + 8 + (8 - i) = 16 by omega] at e2
    rw [e, vTo_cvTo f g i (by omega), e2, ← Nat.add_mul]
    rfl
/-- Is any of f 8, f 9 .. greater than 0? -/
def anyB (f : Nat → Nat) : Nat → Bool
  | 0 => false
  | k + 1 => anyB f k || decide (0 < f (8 + k))
theorem anyB_true (f : Nat → Nat) : ∀ k, anyB f k = true ↔ ∃ j, j < k ∧ 0 < f (8 + j)
  | 0 => by simp [anyB]
  | k + 1 => by
    simp only [anyB, Bool.or_eq_true, decide_eq_true_eq]
    rw [anyB_true f k]
    constructor
    · rintro (⟨j, hj, h⟩ | h)
      · exact ⟨j, by omega, h⟩
      · exact ⟨k, by omega, h⟩
    · rintro ⟨j, hj, h⟩
      by_cases e : j = k
      · subst e; exact .inr h
      · exact .inl ⟨j, by omega, h⟩
theorem rtimes_nums (a b : Nat) (ha : a < M128) (hb : b < M128) : vTo (carL (fun K => cvTo (pc a) (pc b) K 8) 16) 8 = mulW a b ∧ anyB (carL (fun K => cvTo (pc a) (pc b) K 8) 16) 9 = mulO a b := by
  have t := vTo_cvTo (pc a) (pc b) 8 (by omega)
  rw [vTo_pc a ha, vTo_pc b hb] at t
  generalize hF : (fun K => cvTo (pc a) (pc b) K 8) = F at *
  have s := carry_vTo F 16
  rw [t] at s
  have e8 := vTo_congr (carL F 16) (carM F) 8 (fun j hj => carL_lt _ _ _ (by omega))
  have l8 := vTo_lt (carM F) (carM_lt _) 8
  have l16 := vTo_lt (carM F) (carM_lt _) 16
  have x : vTo (carM F) 16 = vTo (carM F) 8 + 340282366920938463463374607431768211456 * (carM F 8 + carM F 9 * 65536 + carM F 10 * 4294967296 + carM F 11 * 281474976710656 + carM F 12 * 18446744073709551616 + carM F 13 * 1208925819614629174706176 + carM F 14 * 79228162514264337593543950336 + carM F 15 * 5192296858534827628530496329220096) := by
    simp only [vTo, Nat.reducePow]
    omega
  have hab : a * b < 340282366920938463463374607431768211456 * 340282366920938463463374607431768211456 := by
    unfold M128 at ha hb
    have := Nat.mul_le_mul (show a ≤ 340282366920938463463374607431768211455 by omega) (show b ≤ 340282366920938463463374607431768211455 by omega)
    omega
  simp only [Nat.reducePow] at s l8 l16
  have c0 : carC F 16 = 0 := by omega
  rw [c0, Nat.zero_mul, Nat.add_zero] at s
  refine ⟨?_, ?_⟩
  · rw [e8]; unfold mulW; omega
  · have h : anyB (carL F 16) 9 = true ↔ 340282366920938463463374607431768211456 ≤ a * b := by
      rw [anyB_true]
      constructor
      · rintro ⟨j, hj, h⟩
        by_cases hj8 : j = 8
        · subst hj8
          rw [show 8 + 8 = 16 from rfl, carL_end, c0] at h
          omega
        · rw [carL_lt F 16 (8 + j) (by omega)] at h
          have : j = 0 ∨ j = 1 ∨ j = 2 ∨ j = 3 ∨ j = 4 ∨ j = 5 ∨ j = 6 ∨ j = 7 := by omega
          rcases this with rfl | rfl | rfl | rfl | rfl | rfl | rfl | rfl <;> simp only [Nat.reduceAdd] at h <;> omega
      · intro h
        have hx : 0 < carM F 8 ∨ 0 < carM F 9 ∨ 0 < carM F 10 ∨ 0 < carM F 11 ∨ 0 < carM F 12 ∨ 0 < carM F 13 ∨ 0 < carM F 14 ∨ 0 < carM F 15 := by omega
        rcases hx with h | h | h | h | h | h | h | h
        · exact ⟨0, by omega, by rw [carL_lt F 16 _ (by omega)]; exact h⟩
        · exact ⟨1, by omega, by rw [carL_lt F 16 _ (by omega)]; exact h⟩
        · exact ⟨2, by omega, by rw [carL_lt F 16 _ (by omega)]; exact h⟩
        · exact ⟨3, by omega, by rw [carL_lt F 16 _ (by omega)]; exact h⟩
        · exact ⟨4, by omega, by rw [carL_lt F 16 _ (by omega)]; exact h⟩
        · exact ⟨5, by omega, by rw [carL_lt F 16 _ (by omega)]; exact h⟩
        · exact ⟨6, by omega, by rw [carL_lt F 16 _ (by omega)]; exact h⟩
        · exact ⟨7, by omega, by rw [carL_lt F 16 _ (by omega)]; exact h⟩
    unfold mulO
    rw [Bool.eq_iff_iff, h, decide_eq_true_eq]
end Go.Proofs.Ytacnaencmbnjpaa
