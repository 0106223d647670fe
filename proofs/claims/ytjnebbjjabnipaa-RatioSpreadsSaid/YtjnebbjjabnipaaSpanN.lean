/- Numbers of stage 5: the least and the greatest of what is found at the corners of two spans; sums, differences, products and quotients of numbers within two spans lie between these. No Go in sight. -/
import Derived.Test.YtjnebbjjabnipaaNum
namespace Go.Proofs.Ytjnebbjjabnipaa

/-- From one number to another, if both are ints; else nothing, and ErrOver. -/
def rLo (lo hi : Int) : Int := if IsInt lo ∧ IsInt hi then lo else 0
def rHi (lo hi : Int) : Int := if IsInt lo ∧ IsInt hi then hi else 0
def rErr (lo hi : Int) : Int := if IsInt lo ∧ IsInt hi then 0 else 5
theorem rLo_ok {lo hi : Int} (h : IsInt lo ∧ IsInt hi) : rLo lo hi = lo := if_pos h
theorem rHi_ok {lo hi : Int} (h : IsInt lo ∧ IsInt hi) : rHi lo hi = hi := if_pos h
theorem rErr_ok {lo hi : Int} (h : IsInt lo ∧ IsInt hi) : rErr lo hi = 0 := if_pos h
theorem rLo_no {lo hi : Int} (h : ¬ (IsInt lo ∧ IsInt hi)) : rLo lo hi = 0 := if_neg h
theorem rHi_no {lo hi : Int} (h : ¬ (IsInt lo ∧ IsInt hi)) : rHi lo hi = 0 := if_neg h
theorem rErr_no {lo hi : Int} (h : ¬ (IsInt lo ∧ IsInt hi)) : rErr lo hi = 5 := if_neg h
theorem isInt_between {lo x hi : Int} (h : IsInt lo ∧ IsInt hi) (h1 : lo ≤ x) (h2 : x ≤ hi) : IsInt x := by unfold IsInt at *; omega

/-- The least and the greatest of the first k. -/
def mnTo (z : Nat → Int) : Nat → Int
  | 0 => 9223372036854775807
  | k + 1 => min (mnTo z k) (z k)
def mxTo (z : Nat → Int) : Nat → Int
  | 0 => -9223372036854775808
  | k + 1 => max (mxTo z k) (z k)
theorem mnTo_le (z : Nat → Int) : ∀ k i, i < k → mnTo z k ≤ z i
  | 0, i, h => by omega
  | k + 1, i, h => by
    unfold mnTo
    by_cases c : i = k
    · subst c; omega
    · have := mnTo_le z k i (by omega); omega
theorem le_mxTo (z : Nat → Int) : ∀ k i, i < k → z i ≤ mxTo z k
  | 0, i, h => by omega
  | k + 1, i, h => by
    unfold mxTo
    by_cases c : i = k
    · subst c; omega
    · have := le_mxTo z k i (by omega); omega
theorem le_mnTo (z : Nat → Int) (m : Int) (hm : m ≤ 9223372036854775807) : ∀ k, (∀ i, i < k → m ≤ z i) → m ≤ mnTo z k
  | 0, _ => hm
  | k + 1, h => by
    have := le_mnTo z m hm k (fun i hi => h i (by omega))
    have := h k (by omega)
    unfold mnTo; omega
theorem mxTo_le (z : Nat → Int) (m : Int) (hm : -9223372036854775808 ≤ m) : ∀ k, (∀ i, i < k → z i ≤ m) → mxTo z k ≤ m
  | 0, _ => hm
  | k + 1, h => by
    have := mxTo_le z m hm k (fun i hi => h i (by omega))
    have := h k (by omega)
    unfold mxTo; omega
theorem mnTo_int (z : Nat → Int) : ∀ k, (∀ i, i < k → IsInt (z i)) → IsInt (mnTo z k)
  | 0, _ => by unfold mnTo IsInt; omega
  | k + 1, h => by
    have h1 := mnTo_int z k (fun i hi => h i (by omega))
    have h2 := h k (by omega)
    unfold mnTo; unfold IsInt at *; omega
theorem mxTo_int (z : Nat → Int) : ∀ k, (∀ i, i < k → IsInt (z i)) → IsInt (mxTo z k)
  | 0, _ => by unfold mxTo IsInt; omega
  | k + 1, h => by
    have h1 := mxTo_int z k (fun i hi => h i (by omega))
    have h2 := h k (by omega)
    unfold mxTo; unfold IsInt at *; omega
/-- lo and hi are the least and the greatest of N numbers. -/
structure Ends (z : Nat → Int) (N : Nat) (lo hi : Int) : Prop where
  lo_le : ∀ i, i < N → lo ≤ z i
  le_hi : ∀ i, i < N → z i ≤ hi
  lo_at : ∃ i, i < N ∧ z i = lo
  hi_at : ∃ i, i < N ∧ z i = hi
theorem Ends.ints {z : Nat → Int} {N : Nat} {lo hi : Int} (h : Ends z N lo hi) : (∀ i, i < N → IsInt (z i)) ↔ IsInt lo ∧ IsInt hi := by
  constructor
  · intro k
    obtain ⟨i, hi', rfl⟩ := h.lo_at
    obtain ⟨j, hj, rfl⟩ := h.hi_at
    exact ⟨k i hi', k j hj⟩
  · exact fun k i hi' => isInt_between k (h.lo_le i hi') (h.le_hi i hi')
theorem Ends.mn {z : Nat → Int} {N : Nat} {lo hi : Int} (h : Ends z N lo hi) (k : IsInt lo ∧ IsInt hi) : mnTo z N = lo := by
  obtain ⟨i, hi', e⟩ := h.lo_at
  have h1 := mnTo_le z N i hi'
  have h2 := le_mnTo z lo k.1.2 N h.lo_le
  omega
theorem Ends.mx {z : Nat → Int} {N : Nat} {lo hi : Int} (h : Ends z N lo hi) (k : IsInt lo ∧ IsInt hi) : mxTo z N = hi := by
  obtain ⟨i, hi', e⟩ := h.hi_at
  have h1 := le_mxTo z N i hi'
  have h2 := mxTo_le z hi k.2.1 N h.le_hi
  omega

/-- The corners of two spans: (a, c), (a, d), (b, c), (b, d). -/
def cX (a b : Int) (i : Nat) : Int := if i < 2 then a else b
def cY (c d : Int) (i : Nat) : Int := if i % 2 = 0 then c else d
/-- What the calls find there, one call after another. -/
def zOf (F : Nat → Int → Int → Int) (a b c d : Int) (k : Nat) : Int := F (k / 4) (cX a b (k % 4)) (cY c d (k % 4))
def min4 (p q r s : Int) : Int := min (min p q) (min r s)
def max4 (p q r s : Int) : Int := max (max p q) (max r s)
theorem four {P : Nat → Prop} (h : P 0 ∧ P 1 ∧ P 2 ∧ P 3) : ∀ i, i < 4 → P i := by
  intro i hi
  obtain ⟨h0, h1, h2, h3⟩ := h
  rcases (by omega : i = 0 ∨ i = 1 ∨ i = 2 ∨ i = 3) with rfl | rfl | rfl | rfl <;> assumption
theorem min4_le (p q r s : Int) : min4 p q r s ≤ p ∧ min4 p q r s ≤ q ∧ min4 p q r s ≤ r ∧ min4 p q r s ≤ s := by unfold min4; omega
theorem le_max4 (p q r s : Int) : p ≤ max4 p q r s ∧ q ≤ max4 p q r s ∧ r ≤ max4 p q r s ∧ s ≤ max4 p q r s := by unfold max4; omega
theorem min4_is (p q r s : Int) : min4 p q r s = p ∨ min4 p q r s = q ∨ min4 p q r s = r ∨ min4 p q r s = s := by unfold min4; omega
theorem max4_is (p q r s : Int) : max4 p q r s = p ∨ max4 p q r s = q ∨ max4 p q r s = r ∨ max4 p q r s = s := by unfold max4; omega
/-- One call: the ends of its four corners. -/
theorem ends_one (F : Nat → Int → Int → Int) (a b c d lo hi : Int) (h1 : lo = min4 (F 0 a c) (F 0 a d) (F 0 b c) (F 0 b d)) (h2 : hi = max4 (F 0 a c) (F 0 a d) (F 0 b c) (F 0 b d)) : Ends (zOf F a b c d) (4 * 1) lo hi := by
  have e0 : zOf F a b c d 0 = F 0 a c := rfl
  have e1 : zOf F a b c d 1 = F 0 a d := rfl
  have e2 : zOf F a b c d 2 = F 0 b c := rfl
  have e3 : zOf F a b c d 3 = F 0 b d := rfl
  rw [← e0, ← e1, ← e2, ← e3] at h1 h2
  subst h1 h2
  obtain ⟨k0, k1, k2, k3⟩ := min4_le (zOf F a b c d 0) (zOf F a b c d 1) (zOf F a b c d 2) (zOf F a b c d 3)
  obtain ⟨j0, j1, j2, j3⟩ := le_max4 (zOf F a b c d 0) (zOf F a b c d 1) (zOf F a b c d 2) (zOf F a b c d 3)
  refine ⟨four ⟨k0, k1, k2, k3⟩, four ⟨j0, j1, j2, j3⟩, ?_, ?_⟩
  · rcases min4_is (zOf F a b c d 0) (zOf F a b c d 1) (zOf F a b c d 2) (zOf F a b c d 3) with h | h | h | h
    · exact ⟨0, by omega, h.symm⟩
    · exact ⟨1, by omega, h.symm⟩
    · exact ⟨2, by omega, h.symm⟩
    · exact ⟨3, by omega, h.symm⟩
  · rcases max4_is (zOf F a b c d 0) (zOf F a b c d 1) (zOf F a b c d 2) (zOf F a b c d 3) with h | h | h | h
    · exact ⟨0, by omega, h.symm⟩
    · exact ⟨1, by omega, h.symm⟩
    · exact ⟨2, by omega, h.symm⟩
    · exact ⟨3, by omega, h.symm⟩
/-- Two calls, the first of which is nowhere more than the second. -/
theorem ends_two (F : Nat → Int → Int → Int) (a b c d lo hi : Int) (hF : ∀ x y, F 0 x y ≤ F 1 x y) (h1 : lo = min4 (F 0 a c) (F 0 a d) (F 0 b c) (F 0 b d)) (h2 : hi = max4 (F 1 a c) (F 1 a d) (F 1 b c) (F 1 b d)) : Ends (zOf F a b c d) (4 * 2) lo hi := by
  have e0 : zOf F a b c d 0 = F 0 a c := rfl
  have e1 : zOf F a b c d 1 = F 0 a d := rfl
  have e2 : zOf F a b c d 2 = F 0 b c := rfl
  have e3 : zOf F a b c d 3 = F 0 b d := rfl
  have e4 : zOf F a b c d 4 = F 1 a c := rfl
  have e5 : zOf F a b c d 5 = F 1 a d := rfl
  have e6 : zOf F a b c d 6 = F 1 b c := rfl
  have e7 : zOf F a b c d 7 = F 1 b d := rfl
  have m0 := hF a c
  have m1 := hF a d
  have m2 := hF b c
  have m3 := hF b d
  rw [← e0, ← e1, ← e2, ← e3] at h1
  rw [← e4, ← e5, ← e6, ← e7] at h2
  rw [← e0, ← e4] at m0
  rw [← e1, ← e5] at m1
  rw [← e2, ← e6] at m2
  rw [← e3, ← e7] at m3
  subst h1 h2
  obtain ⟨k0, k1, k2, k3⟩ := min4_le (zOf F a b c d 0) (zOf F a b c d 1) (zOf F a b c d 2) (zOf F a b c d 3)
  obtain ⟨j0, j1, j2, j3⟩ := le_max4 (zOf F a b c d 4) (zOf F a b c d 5) (zOf F a b c d 6) (zOf F a b c d 7)
  refine ⟨fun i hi => ?_, fun i hi => ?_, ?_, ?_⟩
  · rcases (by omega : i = 0 ∨ i = 1 ∨ i = 2 ∨ i = 3 ∨ i = 4 ∨ i = 5 ∨ i = 6 ∨ i = 7) with rfl | rfl | rfl | rfl | rfl | rfl | rfl | rfl <;> omega
  · rcases (by omega : i = 0 ∨ i = 1 ∨ i = 2 ∨ i = 3 ∨ i = 4 ∨ i = 5 ∨ i = 6 ∨ i = 7) with rfl | rfl | rfl | rfl | rfl | rfl | rfl | rfl <;> omega
  · rcases min4_is (zOf F a b c d 0) (zOf F a b c d 1) (zOf F a b c d 2) (zOf F a b c d 3) with h | h | h | h
    · exact ⟨0, by omega, h.symm⟩
    · exact ⟨1, by omega, h.symm⟩
    · exact ⟨2, by omega, h.symm⟩
    · exact ⟨3, by omega, h.symm⟩
  · rcases max4_is (zOf F a b c d 4) (zOf F a b c d 5) (zOf F a b c d 6) (zOf F a b c d 7) with h | h | h | h
    · exact ⟨4, by omega, h.symm⟩
    · exact ⟨5, by omega, h.symm⟩
    · exact ⟨6, by omega, h.symm⟩
    · exact ⟨7, by omega, h.symm⟩

/-! ### Products -/
def pLo (a b c d : Int) : Int := min4 (a * c) (a * d) (b * c) (b * d)
def pHi (a b c d : Int) : Int := max4 (a * c) (a * d) (b * c) (b * d)
theorem mul_between {a b x : Int} (h1 : a ≤ x) (h2 : x ≤ b) (y : Int) : (a * y ≤ x * y ∧ x * y ≤ b * y) ∨ (b * y ≤ x * y ∧ x * y ≤ a * y) := by
  rcases (by omega : 0 ≤ y ∨ y ≤ 0) with h | h
  · exact .inl ⟨Int.mul_le_mul_of_nonneg_right h1 h, Int.mul_le_mul_of_nonneg_right h2 h⟩
  · exact .inr ⟨Int.mul_le_mul_of_nonpos_right h2 h, Int.mul_le_mul_of_nonpos_right h1 h⟩
theorem prod_between {a b c d x y : Int} (h1 : a ≤ x) (h2 : x ≤ b) (h3 : c ≤ y) (h4 : y ≤ d) : pLo a b c d ≤ x * y ∧ x * y ≤ pHi a b c d := by
  have k := mul_between h1 h2 y
  have ka := mul_between h3 h4 a
  have kb := mul_between h3 h4 b
  rw [Int.mul_comm c a, Int.mul_comm y a, Int.mul_comm d a] at ka
  rw [Int.mul_comm c b, Int.mul_comm y b, Int.mul_comm d b] at kb
  unfold pLo pHi min4 max4
  generalize x * y = m at *; generalize a * y = p at *; generalize b * y = q at *
  generalize a * c = r at *; generalize a * d = s at *; generalize b * c = t at *; generalize b * d = u at *
  omega

/-! ### Quotients -/
def dn (x y : Int) : Int := md x 1 y 0
def up' (x y : Int) : Int := md x 1 y 1
theorem dn_le_up (x y : Int) : dn x y ≤ up' x y := by
  unfold dn up'
  rw [md_down_up]; split <;> omega
theorem dn_parts {x y : Int} (hy : y ≠ 0) : ∃ Q R : Nat, R < y.natAbs ∧ x.natAbs = Q * y.natAbs + R ∧ dn x y = sgn (decide (x < 0) != decide (y < 0)) (if (decide (x < 0) != decide (y < 0)) = true ∧ R ≠ 0 then Q + 1 else Q) ∧
    up' x y = sgn (decide (x < 0) != decide (y < 0)) (if (decide (x < 0) != decide (y < 0)) = false ∧ R ≠ 0 then Q + 1 else Q) := by
  have hB : mdB x 1 y = (decide (x < 0) != decide (y < 0)) := by unfold mdB; cases decide (x < 0) <;> cases decide (y < 0) <;> rfl
  have hQ : mdQ x 1 y = x.natAbs / y.natAbs := by unfold mdQ; simp
  have hR : mdR x 1 y = x.natAbs % y.natAbs := by unfold mdR; simp
  refine ⟨x.natAbs / y.natAbs, x.natAbs % y.natAbs, Nat.mod_lt _ (by omega), by rw [Nat.mul_comm]; exact (Nat.div_add_mod _ _).symm, ?_, ?_⟩
  · unfold dn md; rw [hB, hQ, hR]; unfold away
    cases (decide (x < 0) != decide (y < 0)) <;> simp
  · unfold up' md; rw [hB, hQ, hR]; unfold away
    cases (decide (x < 0) != decide (y < 0)) <;> simp
theorem mul_nat (Q : Nat) {y : Int} (k : Int) (h : y = k) : ((Q * y.natAbs : Nat) : Int) = (Q : Int) * (k.natAbs : Int) := by subst h; simp
/-- q is not above what is rounded down. -/
theorem le_dn {x y : Int} (hy : 0 < y) (q : Int) : q ≤ dn x y ↔ q * y ≤ x := by
  obtain ⟨Q, R, hR, hx, hd, _⟩ := dn_parts (x := x) (y := y) (by omega)
  have hyn : ((y.natAbs : Nat) : Int) = y := by omega
  have hx' : ((x.natAbs : Nat) : Int) = (Q : Int) * y + (R : Int) := by rw [hx]; push_cast; rw [hyn]
  have hR' : (R : Int) < y := by omega
  rw [hd]
  clear hd hx hR
  by_cases hs : x < 0
  · have e : x = -((Q : Int) * y + (R : Int)) := by omega
    have hb : (decide (x < 0) != decide (y < 0)) = true := by rw [decide_eq_true hs, decide_eq_false (by omega : ¬ y < 0)]; rfl
    rw [hb]
    by_cases hz : R = 0
    · rw [if_neg (by simp [hz])]; unfold sgn; rw [if_pos rfl]
      constructor
      · intro h
        have := Int.mul_le_mul_of_nonneg_right h (Int.le_of_lt hy)
        rw [Int.neg_mul] at this; omega
      · intro h
        rcases (by omega : q ≤ -(Q : Int) ∨ -(Q : Int) + 1 ≤ q) with c | c
        · exact c
        · have := Int.mul_le_mul_of_nonneg_right c (Int.le_of_lt hy)
          rw [Int.add_mul, Int.neg_mul, Int.one_mul] at this; omega
    · rw [if_pos ⟨rfl, hz⟩]; unfold sgn; rw [if_pos rfl]
      push_cast
      constructor
      · intro h
        have := Int.mul_le_mul_of_nonneg_right h (Int.le_of_lt hy)
        rw [Int.neg_mul, Int.add_mul, Int.one_mul] at this; omega
      · intro h
        rcases (by omega : q ≤ -((Q : Int) + 1) ∨ -(Q : Int) ≤ q) with c | c
        · exact c
        · have := Int.mul_le_mul_of_nonneg_right c (Int.le_of_lt hy)
          rw [Int.neg_mul] at this; omega
  · have e : x = (Q : Int) * y + (R : Int) := by omega
    have hb : (decide (x < 0) != decide (y < 0)) = false := by rw [decide_eq_false hs, decide_eq_false (by omega : ¬ y < 0)]; rfl
    rw [hb, if_neg (by simp)]
    unfold sgn
    rw [if_neg (by simp)]
    constructor
    · intro h
      have := Int.mul_le_mul_of_nonneg_right h (Int.le_of_lt hy)
      omega
    · intro h
      rcases (by omega : q ≤ (Q : Int) ∨ (Q : Int) + 1 ≤ q) with c | c
      · exact c
      · have := Int.mul_le_mul_of_nonneg_right c (Int.le_of_lt hy)
        rw [Int.add_mul, Int.one_mul] at this; omega
theorem up_neg (x y : Int) : up' x y = - dn (-x) y := by
  unfold up' dn
  have := md_neg (-x) 1 y
  rw [Int.neg_neg] at this
  rw [this]
theorem dn_negs (x : Int) {y : Int} (hy : y ≠ 0) : dn (-x) (-y) = dn x y := by
  by_cases hx : x = 0
  · subst hx
    unfold dn
    rw [Int.neg_zero]
    have h2 : mdQ 0 1 (-y) = 0 := by simp [mdQ]
    have h3 : mdR 0 1 (-y) = 0 := by simp [mdR]
    have h4 : mdQ 0 1 y = 0 := by simp [mdQ]
    have h5 : mdR 0 1 y = 0 := by simp [mdR]
    unfold md; simp [h2, h3, h4, h5, away, sgn_zero]
  · have h1 : mdB (-x) 1 (-y) = mdB x 1 y := by
      unfold mdB
      have a1 : decide (-x < 0) = !decide (x < 0) := by rw [← decide_not]; exact decide_eq_decide.2 (by omega)
      have a2 : decide (-y < 0) = !decide (y < 0) := by rw [← decide_not]; exact decide_eq_decide.2 (by omega)
      rw [a1, a2]
      cases decide (x < 0) <;> cases decide (y < 0) <;> rfl
    have h2 : mdQ (-x) 1 (-y) = mdQ x 1 y := by unfold mdQ; rw [Int.natAbs_neg, Int.natAbs_neg]
    have h3 : mdR (-x) 1 (-y) = mdR x 1 y := by unfold mdR; rw [Int.natAbs_neg, Int.natAbs_neg]
    unfold dn md; rw [h1, h2, h3]; rfl
theorem le_dn_neg {x y : Int} (hy : y < 0) (q : Int) : q ≤ dn x y ↔ x ≤ q * y := by
  rw [← dn_negs x (by omega), le_dn (by omega), Int.mul_neg]; omega
theorem up_le {x y : Int} (hy : 0 < y) (q : Int) : up' x y ≤ q ↔ x ≤ q * y := by
  rw [up_neg x y]
  have := le_dn (x := -x) hy (-q)
  rw [Int.neg_mul] at this
  omega
theorem up_le_neg {x y : Int} (hy : y < 0) (q : Int) : up' x y ≤ q ↔ q * y ≤ x := by
  rw [up_neg x y]
  have := le_dn_neg (x := -x) hy (-q)
  rw [Int.neg_mul] at this
  omega
def qLo (a b c d : Int) : Int := min4 (dn a c) (dn a d) (dn b c) (dn b d)
def qHi (a b c d : Int) : Int := max4 (up' a c) (up' a d) (up' b c) (up' b d)
theorem quot_between {a b c d x y : Int} (h1 : a ≤ x) (h2 : x ≤ b) (h3 : c ≤ y) (h4 : y ≤ d) (h0 : ¬ (c ≤ 0 ∧ 0 ≤ d)) : qLo a b c d ≤ dn x y ∧ up' x y ≤ qHi a b c d := by
  obtain ⟨l1, l2, l3, l4⟩ := min4_le (dn a c) (dn a d) (dn b c) (dn b d)
  obtain ⟨u1, u2, u3, u4⟩ := le_max4 (up' a c) (up' a d) (up' b c) (up' b d)
  change qLo a b c d ≤ _ at l1; change qLo a b c d ≤ _ at l2; change qLo a b c d ≤ _ at l3; change qLo a b c d ≤ _ at l4
  change _ ≤ qHi a b c d at u1; change _ ≤ qHi a b c d at u2; change _ ≤ qHi a b c d at u3; change _ ≤ qHi a b c d at u4
  generalize qLo a b c d = q at *
  generalize qHi a b c d = h at *
  have kq := mul_between h3 h4 q
  have kh := mul_between h3 h4 h
  rw [Int.mul_comm c q, Int.mul_comm y q, Int.mul_comm d q] at kq
  rw [Int.mul_comm c h, Int.mul_comm y h, Int.mul_comm d h] at kh
  rcases (by omega : 0 < c ∨ d < 0) with hc | hd
  · rw [le_dn (by omega)] at l1 l2 l3 l4 ⊢
    rw [up_le (by omega)] at u1 u2 u3 u4 ⊢
    generalize q * y = m at *; generalize h * y = n at *
    generalize q * c = e at *; generalize q * d = f at *; generalize h * c = r at *; generalize h * d = s at *
    omega
  · rw [le_dn_neg (by omega)] at l1 l2 l3 l4 ⊢
    rw [up_le_neg (by omega)] at u1 u2 u3 u4 ⊢
    generalize q * y = m at *; generalize h * y = n at *
    generalize q * c = e at *; generalize q * d = f at *; generalize h * c = r at *; generalize h * d = s at *
    omega
end Go.Proofs.Ytjnebbjjabnipaa
