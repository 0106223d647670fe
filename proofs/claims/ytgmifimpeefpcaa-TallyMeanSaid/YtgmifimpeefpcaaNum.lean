/- Numbers of stage 4: ints, what is told of a number that is an int or not, a number by its sign and size, a product that is divided and rounded by a mode. -/
import Derived.RowKit3
/- Plain numbers: words of 64 bits, wide numbers of 128 bits, and how sums and differences of both go together. No Go in sight. -/
namespace Go.Proofs.Ytgmifimpeefpcaa

/-- 2^64 and 2^128, behind names. -/
def B64 : Nat := 18446744073709551616
def M128 : Nat := 340282366920938463463374607431768211456
/-- The two words of a wide number. -/
def hi (n : Nat) : Nat := n / 18446744073709551616
def lo (n : Nat) : Nat := n % 18446744073709551616
def vw (h l : Nat) : Nat := h * 18446744073709551616 + l
theorem hi_vw (h l : Nat) (hl : l < B64) : hi (vw h l) = h := by unfold hi vw; unfold B64 at hl; omega
theorem lo_vw (h l : Nat) (hl : l < B64) : lo (vw h l) = l := by unfold lo vw; unfold B64 at hl; omega
theorem vw_hi_lo (n : Nat) : vw (hi n) (lo n) = n := by unfold hi lo vw; omega
theorem vw_lt (h l : Nat) (hh : h < B64) (hl : l < B64) : vw h l < M128 := by unfold vw M128; unfold B64 at hh hl; omega
theorem hi_lt (n : Nat) (h : n < M128) : hi n < B64 := by unfold hi B64; unfold M128 at h; omega
theorem lo_lt (n : Nat) : lo n < B64 := by unfold lo B64; omega
theorem hi_lo_ext (a b : Nat) (h : hi a = hi b) (l : lo a = lo b) : a = b := by rw [← vw_hi_lo a, ← vw_hi_lo b, h, l]
theorem B64_eq : B64 = 18446744073709551616 := rfl
theorem M128_eq : M128 = 340282366920938463463374607431768211456 := rfl

/-- Add64, Sub64: the word, and what is carried. -/
def aS (x y c : Nat) : Nat := (x + y + c) % 18446744073709551616
def aC (x y c : Nat) : Nat := (x + y + c) / 18446744073709551616
def sS (x y c : Nat) : Nat := (x + 18446744073709551616 - y - c) % 18446744073709551616
def sB (x y c : Nat) : Nat := if x < y + c then 1 else 0
theorem aC_le (x y c : Nat) (hx : x < B64) (hy : y < B64) (hc : c ≤ 1) : aC x y c ≤ 1 := by
  unfold B64 at hx hy; unfold aC; omega
theorem sB_le (x y c : Nat) : sB x y c ≤ 1 := by unfold sB; split <;> omega

/-- Wide sums and differences. -/
def addW (a b : Nat) : Nat := (a + b) % 340282366920938463463374607431768211456
def addO (a b : Nat) : Bool := decide (340282366920938463463374607431768211456 ≤ a + b)
def subW (a b : Nat) : Nat := (a + 340282366920938463463374607431768211456 - b) % 340282366920938463463374607431768211456
def ltW (a b : Nat) : Bool := decide (a < b)
theorem addW_lt (a b : Nat) : addW a b < M128 := by unfold addW M128; omega
theorem subW_lt (a b : Nat) : subW a b < M128 := by unfold subW M128; omega
theorem addW_hi (a b : Nat) : aS (hi a) (hi b) (aC (lo a) (lo b) 0) = hi (addW a b) := by
  unfold aS aC hi lo addW; omega
theorem addW_lo (a b : Nat) : aS (lo a) (lo b) 0 = lo (addW a b) := by unfold aS lo addW; omega
theorem addW_o (a b : Nat) : ((aC (hi a) (hi b) (aC (lo a) (lo b) 0) : Int) != 0) = addO a b := by
  have h : (aC (hi a) (hi b) (aC (lo a) (lo b) 0) = 0) ↔ ¬ (340282366920938463463374607431768211456 ≤ a + b) := by
    unfold aC hi lo; omega
  unfold addO
  by_cases c : 340282366920938463463374607431768211456 ≤ a + b
  · have : aC (hi a) (hi b) (aC (lo a) (lo b) 0) ≠ 0 := fun e => h.1 e c
    simp [c]; omega
  · have : aC (hi a) (hi b) (aC (lo a) (lo b) 0) = 0 := h.2 c
    simp [c, this]
theorem subW_lo (a b : Nat) (ha : a < M128) (hb : b < M128) : sS (lo a) (lo b) 0 = lo (subW a b) := by
  unfold M128 at ha hb; unfold sS lo subW; omega
theorem subW_hi (a b : Nat) (ha : a < M128) (hb : b < M128) : sS (hi a) (hi b) (sB (lo a) (lo b) 0) = hi (subW a b) := by
  unfold M128 at ha hb; unfold sS sB hi lo subW; split <;> omega
theorem subW_o (a b : Nat) : ((sB (hi a) (hi b) (sB (lo a) (lo b) 0) : Int) != 0) = ltW a b := by
  have h : (sB (hi a) (hi b) (sB (lo a) (lo b) 0) = 0) ↔ ¬ (a < b) := by
    unfold sB hi lo; split <;> (try split) <;> omega
  unfold ltW
  by_cases c : a < b
  · have : sB (hi a) (hi b) (sB (lo a) (lo b) 0) ≠ 0 := fun e => h.1 e c
    simp [c]; omega
  · have : sB (hi a) (hi b) (sB (lo a) (lo b) 0) = 0 := h.2 c
    simp [c, this]

/-! ### What is added and taken away again -/
theorem subW_addW (a b : Nat) (ha : a < M128) (hb : b < M128) : subW (addW a b) b = a := by unfold M128 at ha hb; unfold subW addW; omega
theorem addW_subW (a b : Nat) (ha : a < M128) (hb : b < M128) : addW (subW a b) b = a := by unfold M128 at ha hb; unfold subW addW; omega
theorem ltW_addW (a b : Nat) (ha : a < M128) (hb : b < M128) : ltW (addW a b) b = addO a b := by
  unfold M128 at ha hb; unfold ltW addW addO; rw [decide_eq_decide]; omega
theorem ltW_addW' (a b : Nat) (ha : a < M128) (hb : b < M128) : ltW (addW a b) a = addO a b := by
  unfold M128 at ha hb; unfold ltW addW addO; rw [decide_eq_decide]; omega
theorem addO_subW (a b : Nat) (ha : a < M128) (hb : b < M128) : addO (subW a b) b = ltW a b := by
  unfold M128 at ha hb; unfold ltW subW addO; rw [decide_eq_decide]; omega
theorem beqN (a b : Nat) : (((a : Nat) : Int) == ((b : Nat) : Int)) = decide (a = b) := by
  by_cases h : a = b
  · simp [h]
  · simp [h]; omega
theorem ltW_ways (a b : Nat) : (((hi a : Int) == (hi b : Int)) = true ∧ ((lo a : Int) == (lo b : Int)) = true ∧ ltW a b = false ∧ ltW b a = false) ∨ (((hi a : Int) == (hi b : Int)) = false ∧ ltW a b = true ∧ ltW b a = false) ∨ (((hi a : Int) == (hi b : Int)) = false ∧ ltW a b = false ∧ ltW b a = true) ∨ (((hi a : Int) == (hi b : Int)) = true ∧ ((lo a : Int) == (lo b : Int)) = false ∧ ltW a b = true ∧ ltW b a = false) ∨ (((hi a : Int) == (hi b : Int)) = true ∧ ((lo a : Int) == (lo b : Int)) = false ∧ ltW a b = false ∧ ltW b a = true) := by
  rw [beqN, beqN]
  unfold ltW
  simp only [decide_eq_true_eq, decide_eq_false_iff_not]
  have h1 := vw_hi_lo a
  have h2 := vw_hi_lo b
  unfold vw at h1 h2
  have h3 := lo_lt a
  have h4 := lo_lt b
  unfold B64 at h3 h4
  omega

/-! ### Products -/
theorem mul_bound (x y : Nat) (hx : x < B64) (hy : y < B64) : x * y ≤ 340282366920938463426481119284349108225 := by
  unfold B64 at hx hy
  have h := Nat.mul_le_mul (show x ≤ 18446744073709551615 by omega) (show y ≤ 18446744073709551615 by omega)
  omega
theorem mulAdd_nums (x y p q : Nat) (hx : x < B64) (hy : y < B64) (hp : p < B64) (hq : q < B64) :
    hi (x * y) + aC (lo (x * y)) p 0 < B64 ∧ hi (x * y) + aC (lo (x * y)) p 0 + aC (aS (lo (x * y)) p 0) q 0 < B64 ∧
    aS (aS (lo (x * y)) p 0) q 0 = lo (x * y + p + q) ∧ hi (x * y) + aC (lo (x * y)) p 0 + aC (aS (lo (x * y)) p 0) q 0 = hi (x * y + p + q) := by
  have h := mul_bound x y hx hy
  unfold B64 at *
  unfold hi lo aC aS
  generalize x * y = m at *
  omega
def mulW (a b : Nat) : Nat := (a * b) % 340282366920938463463374607431768211456
def mulO (a b : Nat) : Bool := decide (340282366920938463463374607431768211456 ≤ a * b)
theorem mulW_lt (a b : Nat) : mulW a b < M128 := by unfold mulW M128; exact Nat.mod_lt _ (by omega)
theorem mulAdd_hi_lt (x y p q : Nat) (hx : x < B64) (hy : y < B64) (hp : p < B64) (hq : q < B64) : hi (x * y + p + q) < B64 := by
  have h := mul_bound x y hx hy
  unfold B64 at *
  unfold hi
  omega
/-- The school method by two words each is the product. -/
theorem times_nums (a b : Nat) :
    lo (hi a * lo b + lo (lo a * hi b + 0 + hi (lo a * lo b + 0 + 0)) + 0) = hi (mulW a b) ∧ lo (lo a * lo b + 0 + 0) = lo (mulW a b) ∧
    ((((lo (hi a * hi b + hi (lo a * hi b + 0 + hi (lo a * lo b + 0 + 0)) + hi (hi a * lo b + lo (lo a * hi b + 0 + hi (lo a * lo b + 0 + 0)) + 0)) : Nat) : Int) != 0) || (((hi (hi a * hi b + hi (lo a * hi b + 0 + hi (lo a * lo b + 0 + 0)) + hi (hi a * lo b + lo (lo a * hi b + 0 + hi (lo a * lo b + 0 + 0)) + 0)) : Nat) : Int) != 0)) = mulO a b := by
  have e : a * b = hi a * hi b * 340282366920938463463374607431768211456 + (hi a * lo b + lo a * hi b) * 18446744073709551616 + lo a * lo b := by
    conv => lhs; rw [← vw_hi_lo a, ← vw_hi_lo b]
    unfold vw
    generalize hi a = ah; generalize lo a = al; generalize hi b = bh; generalize lo b = bl
    rw [Nat.add_mul, Nat.mul_add, Nat.mul_add, Nat.add_mul]
    have e1 : ah * 18446744073709551616 * (bh * 18446744073709551616) = ah * bh * 340282366920938463463374607431768211456 := by
      rw [Nat.mul_mul_mul_comm]
    have e2 : ah * 18446744073709551616 * bl = ah * bl * 18446744073709551616 := by rw [Nat.mul_right_comm]
    have e3 : al * (bh * 18446744073709551616) = al * bh * 18446744073709551616 := by rw [Nat.mul_assoc]
    rw [e1, e2, e3]
    omega
  unfold mulW mulO
  rw [e]
  generalize hi a * hi b = A
  generalize hi a * lo b = B
  generalize lo a * hi b = C
  generalize lo a * lo b = D
  refine ⟨?_, ?_, ?_⟩
  · unfold hi lo; omega
  · unfold lo; omega
  · have h : ∀ x y : Nat, ((((x : Nat) : Int) != 0) || (((y : Nat) : Int) != 0)) = decide (x ≠ 0 ∨ y ≠ 0) := by
      intro x y
      by_cases hx : x = 0 <;> by_cases hy : y = 0 <;> simp [hx, hy]
    rw [h, decide_eq_decide]
    unfold hi lo
    omega
end Go.Proofs.Ytgmifimpeefpcaa

/- Plain numbers: sums, differences and products of wide numbers that fit; wide numbers of one word. No Go in sight. -/
namespace Go.Proofs.Ytgmifimpeefpcaa

theorem B64_pow : B64 = 2 ^ 64 := by decide
theorem M128_pow : M128 = 2 ^ 128 := by decide
theorem mulW_fit (a b : Nat) (h : a * b < M128) : mulW a b = a * b := by unfold mulW; unfold M128 at h; exact Nat.mod_eq_of_lt h
theorem mulO_fit (a b : Nat) (h : a * b < M128) : mulO a b = false := by unfold mulO; unfold M128 at h; simp; omega
theorem addW_fit (a b : Nat) (h : a + b < M128) : addW a b = a + b := by unfold addW; unfold M128 at h; exact Nat.mod_eq_of_lt h
theorem addO_fit (a b : Nat) (h : a + b < M128) : addO a b = false := by unfold addO; unfold M128 at h; simp; omega
theorem subW_fit (a b : Nat) (h : b ≤ a) (ha : a < M128) : subW a b = a - b := by unfold subW; unfold M128 at ha; omega
theorem hi_low (x : Nat) (h : x < B64) : hi x = 0 := by unfold hi; unfold B64 at h; exact Nat.div_eq_of_lt h
theorem lo_low (x : Nat) (h : x < B64) : lo x = x := by unfold lo; unfold B64 at h; exact Nat.mod_eq_of_lt h
end Go.Proofs.Ytgmifimpeefpcaa

/- Numbers of stage 4: ints, what is told of a number that is an int or not, a number by its sign and size, a product that is divided and rounded by a mode. -/
namespace Go.Proofs.Ytgmifimpeefpcaa

/-- A number that is an int. -/
def IsInt (z : Int) : Prop := -9223372036854775808 ≤ z ∧ z ≤ 9223372036854775807
instance (z : Int) : Decidable (IsInt z) := by unfold IsInt; infer_instance
/-- The number itself if it is an int, else 0; and OK, or ErrOver. -/
def ans (z : Int) : Int := if IsInt z then z else 0
def err (z : Int) : Int := if IsInt z then 0 else 5
theorem ans_ok {z : Int} (h : IsInt z) : ans z = z := if_pos h
theorem err_ok {z : Int} (h : IsInt z) : err z = 0 := if_pos h
theorem ans_no {z : Int} (h : ¬ IsInt z) : ans z = 0 := if_neg h
theorem err_no {z : Int} (h : ¬ IsInt z) : err z = 5 := if_neg h
theorem err_zero {z : Int} : err z = 0 ↔ IsInt z := by unfold err; split <;> simp_all
theorem isInt_zero : IsInt 0 := by unfold IsInt; omega
theorem ans_int (z : Int) : IsInt (ans z) := by unfold ans; split; assumption; exact isInt_zero
theorem wrap_int {z : Int} (h : IsInt z) : IntKind.i64.wrap z = z := by
  unfold IsInt at h
  simp only [IntKind.wrap, IntKind.signed, IntKind.bits]
  simp
  omega
theorem natAbs_lt {z : Int} (h : IsInt z) : z.natAbs ≤ 9223372036854775808 := by unfold IsInt at h; omega
theorem natAbs_B {z : Int} (h : IsInt z) : z.natAbs < B64 := by have := natAbs_lt h; unfold B64; omega

/-- A number by its sign and size. -/
def sgn (below : Bool) (n : Nat) : Int := if below then -(n : Int) else n
theorem sgn_zero (b : Bool) : sgn b 0 = 0 := by cases b <;> rfl
theorem sgn_not (b : Bool) (n : Nat) : sgn (!b) n = - sgn b n := by cases b <;> simp [sgn]
theorem sgn_mul (x y : Bool) (m n : Nat) : sgn x m * sgn y n = sgn (x != y) (m * n) := by
  cases x <;> cases y <;> simp [sgn, Int.neg_mul, Int.mul_neg]
theorem sgn_abs (z : Int) : sgn (decide (z < 0)) z.natAbs = z := by unfold sgn; split <;> simp_all <;> omega

/-- How often, what is left, the sign, and whether it is rounded away from 0. -/
def mdQ (a b c : Int) : Nat := a.natAbs * b.natAbs / c.natAbs
def mdR (a b c : Int) : Nat := a.natAbs * b.natAbs % c.natAbs
def mdB (a b c : Int) : Bool := (decide (a < 0) != decide (b < 0)) != decide (c < 0)
def away (m : Nat) (below : Bool) (Q R C : Nat) : Bool :=
  match m with
  | 0 => below && decide (R ≠ 0)
  | 1 => !below && decide (R ≠ 0)
  | _ => decide (C < R + R) || (decide (R + R = C) && decide (Q % 2 = 1))
def md (a b c : Int) (m : Nat) : Int := sgn (mdB a b c) (if away m (mdB a b c) (mdQ a b c) (mdR a b c) c.natAbs then mdQ a b c + 1 else mdQ a b c)

theorem prod_le {a b : Int} (ha : IsInt a) (hb : IsInt b) : a.natAbs * b.natAbs ≤ 85070591730234615865843651857942052864 :=
  Nat.mul_le_mul (natAbs_lt ha) (natAbs_lt hb)
theorem prod_fit {a b : Int} (ha : IsInt a) (hb : IsInt b) : a.natAbs * b.natAbs < M128 := by
  have := prod_le ha hb
  unfold M128; omega
theorem mdQ_le {a b : Int} (c : Int) (ha : IsInt a) (hb : IsInt b) : mdQ a b c ≤ 85070591730234615865843651857942052864 :=
  Nat.le_trans (Nat.div_le_self _ _) (prod_le ha hb)
theorem mdR_lt (a b : Int) {c : Int} (hc : c ≠ 0) : mdR a b c < c.natAbs := Nat.mod_lt _ (by omega)

/-- Rounded down and up. -/
theorem md_down_up (a b c : Int) : md a b c 1 = if mdR a b c = 0 then md a b c 0 else md a b c 0 + 1 := by
  unfold md
  generalize mdB a b c = B; generalize mdQ a b c = Q; generalize mdR a b c = R
  by_cases h : R = 0 <;> cases B <;> simp [away, sgn, h] <;> omega
theorem md_near (a b : Int) {c : Int} (hc : c ≠ 0) : md a b c 2 = md a b c 0 ∨ md a b c 2 = md a b c 1 := by
  have hR := mdR_lt a b hc
  unfold md
  generalize mdB a b c = B at *; generalize mdQ a b c = Q at *; generalize mdR a b c = R at *
  generalize c.natAbs = C at *
  by_cases h : R = 0
  · subst h
    have h1 : away 2 B Q 0 C = false := by simp [away]; omega
    left; cases B <;> simp [h1] <;> simp [away]
  · cases hx : away 2 B Q R C <;> cases B <;> simp [away, sgn, h]
theorem md_exact (a b c : Int) : mdR a b c = 0 ↔ a * b = md a b c 0 * c := by
  constructor
  · intro h
    have hq : a.natAbs * b.natAbs = c.natAbs * mdQ a b c := by
      have := Nat.div_add_mod (a.natAbs * b.natAbs) c.natAbs
      unfold mdR at h; unfold mdQ; omega
    have hw : md a b c 0 = sgn (mdB a b c) (mdQ a b c) := by unfold md; simp [away, h]
    rw [hw]
    generalize mdQ a b c = Q at hq
    have e1 : a * b = sgn (decide (a < 0) != decide (b < 0)) (a.natAbs * b.natAbs) := by rw [← sgn_mul, sgn_abs, sgn_abs]
    have e2 : sgn (mdB a b c) Q * c = sgn (mdB a b c != decide (c < 0)) (Q * c.natAbs) := by rw [← sgn_mul, sgn_abs]
    rw [e1, e2, hq, Nat.mul_comm Q]
    unfold mdB
    congr 1
    cases decide (a < 0) <;> cases decide (b < 0) <;> cases decide (c < 0) <;> rfl
  · intro h
    have hd : (a * b).natAbs % c.natAbs = 0 := by
      rw [h, Int.natAbs_mul]; exact Nat.mul_mod_left _ _
    unfold mdR
    rwa [← Int.natAbs_mul]
theorem md_comm (a b c : Int) (m : Nat) : md b a c m = md a b c m := by
  have h1 : mdB b a c = mdB a b c := by unfold mdB; cases decide (a < 0) <;> cases decide (b < 0) <;> rfl
  have h2 : mdQ b a c = mdQ a b c := by unfold mdQ; rw [Nat.mul_comm]
  have h3 : mdR b a c = mdR a b c := by unfold mdR; rw [Nat.mul_comm]
  unfold md; rw [h1, h2, h3]
theorem md_neg (a b c : Int) : md (-a) b c 1 = - md a b c 0 := by
  by_cases h : a = 0
  · subst h
    have h2 : mdQ 0 b c = 0 := by simp [mdQ]
    have h3 : mdR 0 b c = 0 := by simp [mdR]
    unfold md; simp [h2, h3, away, sgn_zero]
  · have h1 : mdB (-a) b c = !(mdB a b c) := by
      unfold mdB
      rcases (by omega : a < 0 ∨ 0 ≤ a) with ha | ha
      · have : ¬ (-a < 0) := by omega
        rw [decide_eq_false this, decide_eq_true ha]; cases decide (b < 0) <;> cases decide (c < 0) <;> rfl
      · have h4 : -a < 0 := by omega
        have h5 : ¬ (a < 0) := by omega
        rw [decide_eq_true h4, decide_eq_false h5]; cases decide (b < 0) <;> cases decide (c < 0) <;> rfl
    have h2 : mdQ (-a) b c = mdQ a b c := by unfold mdQ; rw [Int.natAbs_neg]
    have h3 : mdR (-a) b c = mdR a b c := by unfold mdR; rw [Int.natAbs_neg]
    unfold md; rw [h1, h2, h3, sgn_not]
    congr 2
    cases mdB a b c <;> simp [away]
theorem md_same (b : Int) {c : Int} (hc : c ≠ 0) : md b c c 2 = b := by
  have h1 : mdB b c c = decide (b < 0) := by unfold mdB; cases decide (b < 0) <;> cases decide (c < 0) <;> rfl
  have h2 : mdQ b c c = b.natAbs := Nat.mul_div_cancel _ (by omega)
  have h3 : mdR b c c = 0 := Nat.mul_mod_left _ _
  unfold md; rw [h1, h2, h3]
  have h4 : away 2 (decide (b < 0)) b.natAbs 0 c.natAbs = false := by simp [away]; omega
  rw [h4]; exact sgn_abs b
end Go.Proofs.Ytgmifimpeefpcaa
