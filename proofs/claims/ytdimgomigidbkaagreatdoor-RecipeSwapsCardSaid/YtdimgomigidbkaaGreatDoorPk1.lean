/- Texts of one proof, put together: Num, TokenN, TokenP, RecN. -/
import Derived.RowKit3
import Derived.Lib.ItoaNum
import Derived.Lib.AtoiAll
/- Numbers of stage 4: ints, what is told of a number that is an int or not, a number by its sign and size, a product that is divided and rounded by a mode. -/
namespace Go.Proofs.YtdimgomigidbkaaGreatDoor

/-- 2^64 and 2^128, behind names. -/
def B64 : Nat := 18446744073709551616
def M128 : Nat := 340282366920938463463374607431768211456
/-- The two words of a wide number. -/
def hi (n : Nat) : Nat := n / 18446744073709551616
def lo (n : Nat) : Nat := n % 18446744073709551616
def vw (h l : Nat) : Nat := h * 18446744073709551616 + l
theorem hi_vw (h l : Nat) (hl : l < B64) : hi (vw h l) = h := by unfold hi vw; unfold B64 at hl; omega
theorem lo_vw (h l : Nat) (hl : l < B64) : lo (vw h l) = l := by unfold lo vw; unfold B64 at hl; omega
theorem vw_hi_lo (n : Nat) : vw (hi n) (lo n) = n := by unfold hi lo vw; omega
theorem vw_lt (h l : Nat) (hh : h < B64) (hl : l < B64) : vw h l < M128 := by unfold vw M128; unfold B64 at hh hl; omega
theorem hi_lt (n : Nat) (h : n < M128) : hi n < B64 := by unfold hi B64; unfold M128 at h; omega
theorem lo_lt (n : Nat) : lo n < B64 := by unfold lo B64; omega
theorem hi_lo_ext (a b : Nat) (h : hi a = hi b) (l : lo a = lo b) : a = b := by rw [← vw_hi_lo a, ← vw_hi_lo b, h, l]
theorem B64_eq : B64 = 18446744073709551616 := rfl
theorem M128_eq : M128 = 340282366920938463463374607431768211456 := rfl

/-- Add64, Sub64: the word, and what is carried. -/
def aS (x y c : Nat) : Nat := (x + y + c) % 18446744073709551616
def aC (x y c : Nat) : Nat := (x + y + c) / 18446744073709551616
def sS (x y c : Nat) : Nat := (x + 18446744073709551616 - y - c) % 18446744073709551616
def sB (x y c : Nat) : Nat := if x < y + c then 1 else 0
theorem aC_le (x y c : Nat) (hx : x < B64) (hy : y < B64) (hc : c ≤ 1) : aC x y c ≤ 1 := by
  unfold B64 at hx hy; unfold aC; omega
theorem sB_le (x y c : Nat) : sB x y c ≤ 1 := by unfold sB; split <;> omega

/-- Wide sums and differences. -/
def addW (a b : Nat) : Nat := (a + b) % 340282366920938463463374607431768211456
def addO (a b : Nat) : Bool := decide (340282366920938463463374607431768211456 ≤ a + b)
def subW (a b : Nat) : Nat := (a + 340282366920938463463374607431768211456 - b) % 340282366920938463463374607431768211456
def ltW (a b : Nat) : Bool := decide (a < b)
theorem addW_lt (a b : Nat) : addW a b < M128 := by unfold addW M128; omega
theorem subW_lt (a b : Nat) : subW a b < M128 := by unfold subW M128; omega
theorem addW_hi (a b : Nat) : aS (hi a) (hi b) (aC (lo a) (lo b) 0) = hi (addW a b) := by
  unfold aS aC hi lo addW; omega
theorem addW_lo (a b : Nat) : aS (lo a) (lo b) 0 = lo (addW a b) := by unfold aS lo addW; omega
theorem addW_o (a b : Nat) : ((aC (hi a) (hi b) (aC (lo a) (lo b) 0) : Int) != 0) = addO a b := by
  have h : (aC (hi a) (hi b) (aC (lo a) (lo b) 0) = 0) ↔ ¬ (340282366920938463463374607431768211456 ≤ a + b) := by
    unfold aC hi lo; omega
  unfold addO
  by_cases c : 340282366920938463463374607431768211456 ≤ a + b
  · have : aC (hi a) (hi b) (aC (lo a) (lo b) 0) ≠ 0 := fun e => h.1 e c
    simp [c]; omega
  · have : aC (hi a) (hi b) (aC (lo a) (lo b) 0) = 0 := h.2 c
    simp [c, this]
theorem subW_lo (a b : Nat) (ha : a < M128) (hb : b < M128) : sS (lo a) (lo b) 0 = lo (subW a b) := by
  unfold M128 at ha hb; unfold sS lo subW; omega
theorem subW_hi (a b : Nat) (ha : a < M128) (hb : b < M128) : sS (hi a) (hi b) (sB (lo a) (lo b) 0) = hi (subW a b) := by
  unfold M128 at ha hb; unfold sS sB hi lo subW; split <;> omega
theorem subW_o (a b : Nat) : ((sB (hi a) (hi b) (sB (lo a) (lo b) 0) : Int) != 0) = ltW a b := by
  have h : (sB (hi a) (hi b) (sB (lo a) (lo b) 0) = 0) ↔ ¬ (a < b) := by
    unfold sB hi lo; split <;> (try split) <;> omega
  unfold ltW
  by_cases c : a < b
  · have : sB (hi a) (hi b) (sB (lo a) (lo b) 0) ≠ 0 := fun e => h.1 e c
    simp [c]; omega
  · have : sB (hi a) (hi b) (sB (lo a) (lo b) 0) = 0 := h.2 c
    simp [c, this]

/-! ### What is added and taken away again -/
theorem subW_addW (a b : Nat) (ha : a < M128) (hb : b < M128) : subW (addW a b) b = a := by unfold M128 at ha hb; unfold subW addW; omega
theorem addW_subW (a b : Nat) (ha : a < M128) (hb : b < M128) : addW (subW a b) b = a := by unfold M128 at ha hb; unfold subW addW; omega
theorem ltW_addW (a b : Nat) (ha : a < M128) (hb : b < M128) : ltW (addW a b) b = addO a b := by
  unfold M128 at ha hb; unfold ltW addW addO; rw [decide_eq_decide]; omega
theorem ltW_addW' (a b : Nat) (ha : a < M128) (hb : b < M128) : ltW (addW a b) a = addO a b := by
  unfold M128 at ha hb; unfold ltW addW addO; rw [decide_eq_decide]; omega
theorem addO_subW (a b : Nat) (ha : a < M128) (hb : b < M128) : addO (subW a b) b = ltW a b := by
  unfold M128 at ha hb; unfold ltW subW addO; rw [decide_eq_decide]; omega
theorem beqN (a b : Nat) : (((a : Nat) : Int) == ((b : Nat) : Int)) = decide (a = b) := by
  by_cases h : a = b
  · simp [h]
  · simp [h]; omega
theorem ltW_ways (a b : Nat) : (((hi a : Int) == (hi b : Int)) = true ∧ ((lo a : Int) == (lo b : Int)) = true ∧ ltW a b = false ∧ ltW b a = false) ∨ (((hi a : Int) == (hi b : Int)) = false ∧ ltW a b = true ∧ ltW b a = false) ∨ (((hi a : Int) == (hi b : Int)) = false ∧ ltW a b = false ∧ ltW b a = true) ∨ (((hi a : Int) == (hi b : Int)) = true ∧ ((lo a : Int) == (lo b : Int)) = false ∧ ltW a b = true ∧ ltW b a = false) ∨ (((hi a : Int) == (hi b : Int)) = true ∧ ((lo a : Int) == (lo b : Int)) = false ∧ ltW a b = false ∧ ltW b a = true) := by
  rw [beqN, beqN]
  unfold ltW
  simp only [decide_eq_true_eq, decide_eq_false_iff_not]
  have h1 := vw_hi_lo a
  have h2 := vw_hi_lo b
  unfold vw at h1 h2
  have h3 := lo_lt a
  have h4 := lo_lt b
  unfold B64 at h3 h4
  omega

/-! ### Products -/
theorem mul_bound (x y : Nat) (hx : x < B64) (hy : y < B64) : x * y ≤ 340282366920938463426481119284349108225 := by
  unfold B64 at hx hy
  have h := Nat.mul_le_mul (show x ≤ 18446744073709551615 by omega) (show y ≤ 18446744073709551615 by omega)
  omega
theorem mulAdd_nums (x y p q : Nat) (hx : x < B64) (hy : y < B64) (hp : p < B64) (hq : q < B64) :
    hi (x * y) + aC (lo (x * y)) p 0 < B64 ∧ hi (x * y) + aC (lo (x * y)) p 0 + aC (aS (lo (x * y)) p 0) q 0 < B64 ∧
    aS (aS (lo (x * y)) p 0) q 0 = lo (x * y + p + q) ∧ hi (x * y) + aC (lo (x * y)) p 0 + aC (aS (lo (x * y)) p 0) q 0 = hi (x * y + p + q) := by
  have h := mul_bound x y hx hy
  unfold B64 at *
  unfold hi lo aC aS
  generalize x * y = m at *
  omega
def mulW (a b : Nat) : Nat := (a * b) % 340282366920938463463374607431768211456
def mulO (a b : Nat) : Bool := decide (340282366920938463463374607431768211456 ≤ a * b)
theorem mulW_lt (a b : Nat) : mulW a b < M128 := by unfold mulW M128; exact Nat.mod_lt _ (by omega)
theorem mulAdd_hi_lt (x y p q : Nat) (hx : x < B64) (hy : y < B64) (hp : p < B64) (hq : q < B64) : hi (x * y + p + q) < B64 := by
  have h := mul_bound x y hx hy
  unfold B64 at *
  unfold hi
  omega
/-- The school method by two words each is the product. -/
theorem times_nums (a b : Nat) :
    lo (hi a * lo b + lo (lo a * hi b + 0 + hi (lo a * lo b + 0 + 0)) + 0) = hi (mulW a b) ∧ lo (lo a * lo b + 0 + 0) = lo (mulW a b) ∧
    ((((lo (hi a * hi b + hi (lo a * hi b + 0 + hi (lo a * lo b + 0 + 0)) + hi (hi a * lo b + lo (lo a * hi b + 0 + hi (lo a * lo b + 0 + 0)) + 0)) : Nat) : Int) != 0) || (((hi (hi a * hi b + hi (lo a * hi b + 0 + hi (lo a * lo b + 0 + 0)) + hi (hi a * lo b + lo (lo a * hi b + 0 + hi (lo a * lo b + 0 + 0)) + 0)) : Nat) : Int) != 0)) = mulO a b := by
  have e : a * b = hi a * hi b * 340282366920938463463374607431768211456 + (hi a * lo b + lo a * hi b) * 18446744073709551616 + lo a * lo b := by
    conv => lhs; rw [← vw_hi_lo a, ← vw_hi_lo b]
    unfold vw
    generalize hi a = ah; generalize lo a = al; generalize hi b = bh; generalize lo b = bl
    rw [Nat.add_mul, Nat.mul_add, Nat.mul_add, Nat.add_mul]
    have e1 : ah * 18446744073709551616 * (bh * 18446744073709551616) = ah * bh * 340282366920938463463374607431768211456 := by
      rw [Nat.mul_mul_mul_comm]
    have e2 : ah * 18446744073709551616 * bl = ah * bl * 18446744073709551616 := by rw [Nat.mul_right_comm]
    have e3 : al * (bh * 18446744073709551616) = al * bh * 18446744073709551616 := by rw [Nat.mul_assoc]
    rw [e1, e2, e3]
    omega
  unfold mulW mulO
  rw [e]
  generalize hi a * hi b = A
  generalize hi a * lo b = B
  generalize lo a * hi b = C
  generalize lo a * lo b = D
  refine ⟨?_, ?_, ?_⟩
  · unfold hi lo; omega
  · unfold lo; omega
  · have h : ∀ x y : Nat, ((((x : Nat) : Int) != 0) || (((y : Nat) : Int) != 0)) = decide (x ≠ 0 ∨ y ≠ 0) := by
      intro x y
      by_cases hx : x = 0 <;> by_cases hy : y = 0 <;> simp [hx, hy]
    rw [h, decide_eq_decide]
    unfold hi lo
    omega
end Go.Proofs.YtdimgomigidbkaaGreatDoor

/- Plain numbers: sums, differences and products of wide numbers that fit; wide numbers of one word. No Go in sight. -/
namespace Go.Proofs.YtdimgomigidbkaaGreatDoor

theorem B64_pow : B64 = 2 ^ 64 := by decide
theorem M128_pow : M128 = 2 ^ 128 := by decide
theorem mulW_fit (a b : Nat) (h : a * b < M128) : mulW a b = a * b := by unfold mulW; unfold M128 at h; exact Nat.mod_eq_of_lt h
theorem mulO_fit (a b : Nat) (h : a * b < M128) : mulO a b = false := by unfold mulO; unfold M128 at h; simp; omega
theorem addW_fit (a b : Nat) (h : a + b < M128) : addW a b = a + b := by unfold addW; unfold M128 at h; exact Nat.mod_eq_of_lt h
theorem addO_fit (a b : Nat) (h : a + b < M128) : addO a b = false := by unfold addO; unfold M128 at h; simp; omega
theorem subW_fit (a b : Nat) (h : b ≤ a) (ha : a < M128) : subW a b = a - b := by unfold subW; unfold M128 at ha; omega
theorem hi_low (x : Nat) (h : x < B64) : hi x = 0 := by unfold hi; unfold B64 at h; exact Nat.div_eq_of_lt h
theorem lo_low (x : Nat) (h : x < B64) : lo x = x := by unfold lo; unfold B64 at h; exact Nat.mod_eq_of_lt h
end Go.Proofs.YtdimgomigidbkaaGreatDoor

/- Numbers of stage 4: ints, what is told of a number that is an int or not, a number by its sign and size, a product that is divided and rounded by a mode. -/
namespace Go.Proofs.YtdimgomigidbkaaGreatDoor

/-- A number that is an int. -/
def IsInt (z : Int) : Prop := -9223372036854775808 ≤ z ∧ z ≤ 9223372036854775807
instance (z : Int) : Decidable (IsInt z) := by unfold IsInt; infer_instance
/-- The number itself if it is an int, else 0; and OK, or ErrOver. -/
def ans (z : Int) : Int := if IsInt z then z else 0
def err (z : Int) : Int := if IsInt z then 0 else 5
theorem ans_ok {z : Int} (h : IsInt z) : ans z = z := if_pos h
theorem err_ok {z : Int} (h : IsInt z) : err z = 0 := if_pos h
theorem ans_no {z : Int} (h : ¬ IsInt z) : ans z = 0 := if_neg h
theorem err_no {z : Int} (h : ¬ IsInt z) : err z = 5 := if_neg h
theorem err_zero {z : Int} : err z = 0 ↔ IsInt z := by unfold err; split <;> simp_all
theorem isInt_zero : IsInt 0 := by unfold IsInt; omega
theorem ans_int (z : Int) : IsInt (ans z) := by unfold ans; split; assumption; exact isInt_zero
theorem wrap_int {z : Int} (h : IsInt z) : IntKind.i64.wrap z = z := by
  unfold IsInt at h
  simp only [IntKind.wrap, IntKind.signed, IntKind.bits]
  simp
  omega
theorem natAbs_lt {z : Int} (h : IsInt z) : z.natAbs ≤ 9223372036854775808 := by unfold IsInt at h; omega
theorem natAbs_B {z : Int} (h : IsInt z) : z.natAbs < B64 := by have := natAbs_lt h; unfold B64; omega

/-- A number by its sign and size. -/
def sgn (below : Bool) (n : Nat) : Int := if below then -(n : Int) else n
theorem sgn_zero (b : Bool) : sgn b 0 = 0 := by cases b <;> rfl
theorem sgn_not (b : Bool) (n : Nat) : sgn (!b) n = - sgn b n := by cases b <;> simp [sgn]
theorem sgn_mul (x y : Bool) (m n : Nat) : sgn x m * sgn y n = sgn (x != y) (m * n) := by
  cases x <;> cases y <;> simp [sgn, Int.neg_mul, Int.mul_neg]
theorem sgn_abs (z : Int) : sgn (decide (z < 0)) z.natAbs = z := by unfold sgn; split <;> simp_all <;> omega

/-- How often, what is left, the sign, and whether it is rounded away from 0. -/
def mdQ (a b c : Int) : Nat := a.natAbs * b.natAbs / c.natAbs
def mdR (a b c : Int) : Nat := a.natAbs * b.natAbs % c.natAbs
def mdB (a b c : Int) : Bool := (decide (a < 0) != decide (b < 0)) != decide (c < 0)
def away (m : Nat) (below : Bool) (Q R C : Nat) : Bool :=
  match m with
  | 0 => below && decide (R ≠ 0)
  | 1 => !below && decide (R ≠ 0)
  | _ => decide (C < R + R) || (decide (R + R = C) && decide (Q % 2 = 1))
def md (a b c : Int) (m : Nat) : Int := sgn (mdB a b c) (if away m (mdB a b c) (mdQ a b c) (mdR a b c) c.natAbs then mdQ a b c + 1 else mdQ a b c)

theorem prod_le {a b : Int} (ha : IsInt a) (hb : IsInt b) : a.natAbs * b.natAbs ≤ 85070591730234615865843651857942052864 :=
  Nat.mul_le_mul (natAbs_lt ha) (natAbs_lt hb)
theorem prod_fit {a b : Int} (ha : IsInt a) (hb : IsInt b) : a.natAbs * b.natAbs < M128 := by
  have := prod_le ha hb
  unfold M128; omega
theorem mdQ_le {a b : Int} (c : Int) (ha : IsInt a) (hb : IsInt b) : mdQ a b c ≤ 85070591730234615865843651857942052864 :=
  Nat.le_trans (Nat.div_le_self _ _) (prod_le ha hb)
theorem mdR_lt (a b : Int) {c : Int} (hc : c ≠ 0) : mdR a b c < c.natAbs := Nat.mod_lt _ (by omega)

/-- Rounded down and up. -/
theorem md_down_up (a b c : Int) : md a b c 1 = if mdR a b c = 0 then md a b c 0 else md a b c 0 + 1 := by
  unfold md
  generalize mdB a b c = B; generalize mdQ a b c = Q; generalize mdR a b c = R
  by_cases h : R = 0 <;> cases B <;> simp [away, sgn, h] <;> omega
theorem md_near (a b : Int) {c : Int} (hc : c ≠ 0) : md a b c 2 = md a b c 0 ∨ md a b c 2 = md a b c 1 := by
  have hR := mdR_lt a b hc
  unfold md
  generalize mdB a b c = B at *; generalize mdQ a b c = Q at *; generalize mdR a b c = R at *
  generalize c.natAbs = C at *
  by_cases h : R = 0
  · subst h
    have h1 : away 2 B Q 0 C = false := by simp [away]; omega
    left; cases B <;> simp [h1] <;> simp [away]
  · cases hx : away 2 B Q R C <;> cases B <;> simp [away, sgn, h]
theorem md_exact (a b c : Int) : mdR a b c = 0 ↔ a * b = md a b c 0 * c := by
  constructor
  · intro h
    have hq : a.natAbs * b.natAbs = c.natAbs * mdQ a b c := by
      have := Nat.div_add_mod (a.natAbs * b.natAbs) c.natAbs
      unfold mdR at h; unfold mdQ; omega
    have hw : md a b c 0 = sgn (mdB a b c) (mdQ a b c) := by unfold md; simp [away, h]
    rw [hw]
    generalize mdQ a b c = Q at hq
    have e1 : a * b = sgn (decide (a < 0) != decide (b < 0)) (a.natAbs * b.natAbs) := by rw [← sgn_mul, sgn_abs, sgn_abs]
    have e2 : sgn (mdB a b c) Q * c = sgn (mdB a b c != decide (c < 0)) (Q * c.natAbs) := by rw [← sgn_mul, sgn_abs]
    rw [e1, e2, hq, Nat.mul_comm Q]
    unfold mdB
    congr 1
    cases decide (a < 0) <;> cases decide (b < 0) <;> cases decide (c < 0) <;> rfl
  · intro h
    have hd : (a * b).natAbs % c.natAbs = 0 := by
      rw [h, Int.natAbs_mul]; exact Nat.mul_mod_left _ _
    unfold mdR
    rwa [← Int.natAbs_mul]
theorem md_comm (a b c : Int) (m : Nat) : md b a c m = md a b c m := by
  have h1 : mdB b a c = mdB a b c := by unfold mdB; cases decide (a < 0) <;> cases decide (b < 0) <;> rfl
  have h2 : mdQ b a c = mdQ a b c := by unfold mdQ; rw [Nat.mul_comm]
  have h3 : mdR b a c = mdR a b c := by unfold mdR; rw [Nat.mul_comm]
  unfold md; rw [h1, h2, h3]
theorem md_neg (a b c : Int) : md (-a) b c 1 = - md a b c 0 := by
  by_cases h : a = 0
  · subst h
    have h2 : mdQ 0 b c = 0 := by simp [mdQ]
    have h3 : mdR 0 b c = 0 := by simp [mdR]
    unfold md; simp [h2, h3, away, sgn_zero]
  · have h1 : mdB (-a) b c = !(mdB a b c) := by
      unfold mdB
      rcases (by omega : a < 0 ∨ 0 ≤ a) with ha | ha
      · have : ¬ (-a < 0) := by omega
        rw [decide_eq_false this, decide_eq_true ha]; cases decide (b < 0) <;> cases decide (c < 0) <;> rfl
      · have h4 : -a < 0 := by omega
        have h5 : ¬ (a < 0) := by omega
        rw [decide_eq_true h4, decide_eq_false h5]; cases decide (b < 0) <;> cases decide (c < 0) <;> rfl
    have h2 : mdQ (-a) b c = mdQ a b c := by unfold mdQ; rw [Int.natAbs_neg]
    have h3 : mdR (-a) b c = mdR a b c := by unfold mdR; rw [Int.natAbs_neg]
    unfold md; rw [h1, h2, h3, sgn_not]
    congr 2
    cases mdB a b c <;> simp [away]
theorem md_same (b : Int) {c : Int} (hc : c ≠ 0) : md b c c 2 = b := by
  have h1 : mdB b c c = decide (b < 0) := by unfold mdB; cases decide (b < 0) <;> cases decide (c < 0) <;> rfl
  have h2 : mdQ b c c = b.natAbs := Nat.mul_div_cancel _ (by omega)
  have h3 : mdR b c c = 0 := Nat.mul_mod_left _ _
  unfold md; rw [h1, h2, h3]
  have h4 : away 2 (decide (b < 0)) b.natAbs 0 c.natAbs = false := by simp [away]; omega
  rw [h4]; exact sgn_abs b
end Go.Proofs.YtdimgomigidbkaaGreatDoor
/- Numbers of stage 7: a text's pieces, told and read again. Lists of bytes; no Go in sight. -/
namespace Go.Proofs.YtdimgomigidbkaaGreatDoor

/-! ### How far a kind of byte goes on -/
def spanLen (p : UInt8 → Bool) : List UInt8 → Nat
  | [] => 0
  | b :: r => if p b = true then spanLen p r + 1 else 0
theorem spanLen_le (p : UInt8 → Bool) : ∀ l, spanLen p l ≤ l.length
  | [] => Nat.le_refl _
  | b :: r => by
    unfold spanLen
    have := spanLen_le p r
    rw [List.length_cons]
    split <;> omega
theorem spanLen_yes (p : UInt8 → Bool) : ∀ (l : List UInt8) (k : Nat), k < spanLen p l → p (l.getD k 0) = true
  | [], k, h => absurd h (Nat.not_lt_zero _)
  | b :: r, k, h => by
    unfold spanLen at h
    split at h
    · rename_i hb
      cases k with
      | zero => exact hb
      | succ k => exact spanLen_yes p r k (by omega)
    · exact absurd h (Nat.not_lt_zero _)
theorem spanLen_no (p : UInt8 → Bool) : ∀ (l : List UInt8), spanLen p l < l.length → p (l.getD (spanLen p l) 0) = false
  | [], h => absurd h (Nat.not_lt_zero _)
  | b :: r, h => by
    by_cases hb : p b = true
    · have e : spanLen p (b :: r) = spanLen p r + 1 := by show (if p b = true then _ else _) = _; rw [if_pos hb]
      rw [e] at h ⊢
      exact spanLen_no p r (by rw [List.length_cons] at h; omega)
    · have e : spanLen p (b :: r) = 0 := by show (if p b = true then _ else _) = _; rw [if_neg hb]
      rw [e]
      simpa using hb
theorem spanLen_step (p : UInt8 → Bool) (l : List UInt8) (k : Nat) (h : k ≤ spanLen p l) (hl : k < l.length) (hp : p (l.getD k 0) = true) : k + 1 ≤ spanLen p l := by
  rcases Nat.lt_or_ge k (spanLen p l) with c | c
  · exact c
  · obtain rfl : k = spanLen p l := by omega
    rw [spanLen_no p l hl] at hp
    exact absurd hp (by decide)
theorem spanLen_stop (p : UInt8 → Bool) (l : List UInt8) (k : Nat) (h : k ≤ spanLen p l) (hs : l.length ≤ k ∨ p (l.getD k 0) = false) : k = spanLen p l := by
  rcases Nat.lt_or_ge k (spanLen p l) with c | c
  · rcases hs with d | d
    · have := spanLen_le p l; omega
    · rw [spanLen_yes p l k c] at d
      exact absurd d (by decide)
  · omega
theorem spanLen_append (p : UInt8 → Bool) : ∀ (a r : List UInt8), (∀ b ∈ a, p b = true) → (r = [] ∨ p (r.headD 0) = false) → spanLen p (a ++ r) = a.length
  | [], [], _, _ => rfl
  | [], c :: r, _, h => by
    rcases h with h | h
    · exact absurd h (by simp)
    · show (if p c = true then _ else _) = _
      rw [if_neg (by rw [show p c = false from h]; decide)]
      rfl
  | b :: a, r, ha, h => by
    show (if p b = true then spanLen p (a ++ r) + 1 else 0) = _
    rw [if_pos (ha b (by simp)), spanLen_append p a r (fun c hc => ha c (by simp [hc])) h]
    rfl

/-! ### Bytes -/
def isLetter (b : UInt8) : Bool := decide (97 ≤ b.toNat ∧ b.toNat ≤ 122)
def isDigit (b : UInt8) : Bool := decide (48 ≤ b.toNat ∧ b.toNat ≤ 57)
def isSpace (b : UInt8) : Bool := decide (b.toNat = 32 ∨ b.toNat = 9 ∨ b.toNat = 10 ∨ b.toNat = 13)
def notEnd (b : UInt8) : Bool := decide (b.toNat ≠ 10)
/-- What digits are worth, the last one at the list's end. -/
def valD : List UInt8 → Nat → Nat
  | [], v => v
  | b :: r, v => valD r (10 * v + (b.toNat - 48))
theorem valD_append : ∀ (a b : List UInt8) (v : Nat), valD (a ++ b) v = valD b (valD a v)
  | [], _, _ => rfl
  | x :: a, b, v => valD_append a b (10 * v + (x.toNat - 48))
theorem valD_snoc (a : List UInt8) (b : UInt8) (v : Nat) : valD (a ++ [b]) v = 10 * valD a v + (b.toNat - 48) := by rw [valD_append]; rfl
theorem valD_ge : ∀ (a : List UInt8) (v : Nat), v ≤ valD a v
  | [], _ => Nat.le_refl _
  | b :: a, v => Nat.le_trans (by omega) (valD_ge a (10 * v + (b.toNat - 48)))
/-- A value that is kept at a bound is the value itself, kept there. -/
theorem keep_step (v x C : Nat) : min (10 * min v C + x) C = min (10 * v + x) C := by omega

/-! ### Tokens, scanned -/
structure Tok where
  kind : Int
  text : List UInt8
  num : Int
  place : Int
/-- How long a blank is at the head; 0: there is none. -/
def blankN : List UInt8 → Nat
  | [] => 0
  | b :: r => if isSpace b = true then 1 else if b.toNat = 35 then spanLen notEnd r + 1 else 0
/-- A number at the head: its value and length, or an error. -/
def numberN (l : List UInt8) : Except Int (Int × Nat) :=
  let below := decide ((l.headD 0).toNat = 45)
  let d := if below = true then l.drop 1 else l
  let n := spanLen isDigit d
  let v := valD (d.take n) 0
  if n = 0 then .error 7
  else if ((d.headD 0).toNat = 48 ∧ (1 < n ∨ below = true)) ∨ 1000000000 < v then .error 3
  else .ok (if below = true then -(v : Int) else v, if below = true then n + 1 else n)
/-- One token at the head of a text that is no blank: kind, text, number, and length. -/
def oneN : List UInt8 → Except Int (Int × List UInt8 × Int × Nat)
  | [] => .error 7
  | b :: r =>
    if b.toNat = 123 then .ok (3, [], 0, 1)
    else if b.toNat = 125 then .ok (4, [], 0, 1)
    else if b.toNat = 59 then .ok (5, [], 0, 1)
    else if b.toNat = 45 ∨ isDigit b = true then
      match numberN (b :: r) with
      | .error e => .error e
      | .ok (v, n) => .ok (2, [], v, n)
    else
      let n := spanLen isLetter (b :: r)
      if n = 0 then .error 7 else if 12 < n then .error 2 else .ok (1, (b :: r).take n, 0, n)
/-- All tokens of a rest that begins at a place; or the place of the first piece that is wrong, and why. 'fuel' is at least the rest's length. -/
def scanN : Nat → List UInt8 → Nat → Except (Nat × Int) (List Tok)
  | 0, _, _ => .ok []
  | fuel + 1, l, at' =>
    if l = [] then .ok []
    else if 0 < blankN l then scanN fuel (l.drop (blankN l)) (at' + blankN l)
    else match oneN l with
      | .error e => .error (at', e)
      | .ok (k, t, v, n) =>
        match scanN fuel (l.drop n) (at' + n) with
        | .error e => .error e
        | .ok ts => .ok (⟨k, t, v, at'⟩ :: ts)
theorem blankN_cons (b : UInt8) (r : List UInt8) : blankN (b :: r) = if isSpace b = true then 1 else if b.toNat = 35 then spanLen notEnd r + 1 else 0 := rfl
theorem blankN_le (l : List UInt8) : blankN l ≤ l.length := by
  cases l with
  | nil => exact Nat.le_refl _
  | cons b r =>
    have := spanLen_le notEnd r
    rw [blankN_cons, List.length_cons]
    by_cases c : isSpace b = true
    · rw [if_pos c]; omega
    · rw [if_neg c]
      by_cases d : b.toNat = 35
      · rw [if_pos d]; omega
      · rw [if_neg d]; omega
/-- The number's parts: its digits, how many, and what they are worth. -/
def numD (l : List UInt8) : List UInt8 := if (l.headD 0).toNat = 45 then l.drop 1 else l
def numberK (below : Bool) (d : List UInt8) : Except Int (Int × Nat) :=
  if spanLen isDigit d = 0 then .error 7
  else if ((d.headD 0).toNat = 48 ∧ (1 < spanLen isDigit d ∨ below = true)) ∨ 1000000000 < valD (d.take (spanLen isDigit d)) 0 then .error 3
  else .ok (sgn below (valD (d.take (spanLen isDigit d)) 0), if below = true then spanLen isDigit d + 1 else spanLen isDigit d)
theorem numberN_eq (l : List UInt8) : numberN l = numberK (decide ((l.headD 0).toNat = 45)) (numD l) := by
  unfold numberN numD numberK sgn
  by_cases h : (l.headD 0).toNat = 45
  · simp only [decide_eq_true h, if_pos h, if_true]
  · simp only [decide_eq_false h, if_neg h, Bool.false_eq_true, if_false]
theorem numberN_len {l : List UInt8} {v : Int} {n : Nat} (h : numberN l = .ok (v, n)) : 0 < n ∧ n ≤ l.length := by
  rw [numberN_eq] at h
  unfold numberK at h
  have hl : spanLen isDigit (numD l) ≤ l.length ∧ ((l.headD 0).toNat = 45 → spanLen isDigit (numD l) + 1 ≤ l.length) := by
    have k := spanLen_le isDigit (numD l)
    unfold numD at k ⊢
    by_cases c : (l.headD 0).toNat = 45
    · rw [if_pos c] at k ⊢
      have : 0 < l.length := by
        cases l with
        | nil => exact absurd c (by decide)
        | cons b r => simp
      rw [List.length_drop] at k
      exact ⟨by omega, fun _ => by omega⟩
    · rw [if_neg c] at k ⊢
      exact ⟨k, fun d => absurd d c⟩
  by_cases z : spanLen isDigit (numD l) = 0
  · rw [if_pos z] at h; cases h
  rw [if_neg z] at h
  by_cases y : (((numD l).headD 0).toNat = 48 ∧ (1 < spanLen isDigit (numD l) ∨ decide ((l.headD 0).toNat = 45) = true)) ∨ 1000000000 < valD ((numD l).take (spanLen isDigit (numD l))) 0
  · rw [if_pos y] at h; cases h
  rw [if_neg y] at h
  simp only [Except.ok.injEq, Prod.mk.injEq] at h
  by_cases c : (l.headD 0).toNat = 45
  · rw [if_pos (decide_eq_true c)] at h
    have := hl.2 c
    omega
  · rw [if_neg (by rw [decide_eq_false c]; decide)] at h
    have := hl.1
    omega
/-- Which kind of piece begins with a byte. -/
def isMinus (b : UInt8) : Bool := decide (b.toNat = 45) || isDigit b
theorem oneN_open {b : UInt8} (r : List UInt8) (h : b.toNat = 123) : oneN (b :: r) = .ok (3, [], 0, 1) := by
  show (if b.toNat = 123 then _ else _) = _
  rw [if_pos h]
theorem oneN_close {b : UInt8} (r : List UInt8) (h : b.toNat = 125) : oneN (b :: r) = .ok (4, [], 0, 1) := by
  show (if b.toNat = 123 then _ else if b.toNat = 125 then _ else _) = _
  rw [if_neg (by omega), if_pos h]
theorem oneN_end {b : UInt8} (r : List UInt8) (h : b.toNat = 59) : oneN (b :: r) = .ok (5, [], 0, 1) := by
  show (if b.toNat = 123 then _ else if b.toNat = 125 then _ else if b.toNat = 59 then _ else _) = _
  rw [if_neg (by omega), if_neg (by omega), if_pos h]
theorem minus_range {b : UInt8} (h : b.toNat = 45 ∨ isDigit b = true) : b.toNat ≠ 123 ∧ b.toNat ≠ 125 ∧ b.toNat ≠ 59 := by
  rcases h with h | h
  · omega
  · have := of_decide_eq_true h
    omega
theorem oneN_num {b : UInt8} (r : List UInt8) (h : b.toNat = 45 ∨ isDigit b = true) : oneN (b :: r) = match numberN (b :: r) with
      | .error e => .error e
      | .ok (v, n) => .ok (2, [], v, n) := by
  obtain ⟨h1, h2, h3⟩ := minus_range h
  show (if b.toNat = 123 then _ else if b.toNat = 125 then _ else if b.toNat = 59 then _ else if b.toNat = 45 ∨ isDigit b = true then _ else _) = _
  rw [if_neg h1, if_neg h2, if_neg h3, if_pos h]
theorem oneN_word {b : UInt8} (r : List UInt8) (h1 : b.toNat ≠ 123) (h2 : b.toNat ≠ 125) (h3 : b.toNat ≠ 59) (h : ¬ (b.toNat = 45 ∨ isDigit b = true)) :
    oneN (b :: r) = if spanLen isLetter (b :: r) = 0 then .error 7 else if 12 < spanLen isLetter (b :: r) then .error 2 else .ok (1, (b :: r).take (spanLen isLetter (b :: r)), 0, spanLen isLetter (b :: r)) := by
  show (if b.toNat = 123 then _ else if b.toNat = 125 then _ else if b.toNat = 59 then _ else if b.toNat = 45 ∨ isDigit b = true then _ else _) = _
  rw [if_neg h1, if_neg h2, if_neg h3, if_neg h]
theorem oneN_len {l : List UInt8} {k : Int} {t : List UInt8} {v : Int} {n : Nat} (h : oneN l = .ok (k, t, v, n)) : 0 < n ∧ n ≤ l.length := by
  cases l with
  | nil => cases h
  | cons b r =>
    have hc : 0 < (b :: r).length := by simp
    by_cases h1 : b.toNat = 123
    · rw [oneN_open r h1] at h
      simp only [Except.ok.injEq, Prod.mk.injEq] at h; omega
    by_cases h2 : b.toNat = 125
    · rw [oneN_close r h2] at h
      simp only [Except.ok.injEq, Prod.mk.injEq] at h; omega
    by_cases h3 : b.toNat = 59
    · rw [oneN_end r h3] at h
      simp only [Except.ok.injEq, Prod.mk.injEq] at h; omega
    by_cases h4 : b.toNat = 45 ∨ isDigit b = true
    · rw [oneN_num r h4] at h
      cases e : numberN (b :: r) with
      | error x => rw [e] at h; cases h
      | ok x =>
        obtain ⟨y, m⟩ := x
        rw [e] at h
        simp only [Except.ok.injEq, Prod.mk.injEq] at h
        have := numberN_len e
        omega
    · rw [oneN_word r h1 h2 h3 h4] at h
      have := spanLen_le isLetter (b :: r)
      by_cases z : spanLen isLetter (b :: r) = 0
      · rw [if_pos z] at h; cases h
      rw [if_neg z] at h
      by_cases y : 12 < spanLen isLetter (b :: r)
      · rw [if_pos y] at h; cases h
      rw [if_neg y] at h
      simp only [Except.ok.injEq, Prod.mk.injEq] at h
      omega
/-- More fuel than the rest is long makes no difference. -/
theorem scanN_fuel : ∀ (f g : Nat) (l : List UInt8) (a : Nat), l.length ≤ f → l.length ≤ g → scanN f l a = scanN g l a
  | 0, 0, _, _, _, _ => rfl
  | 0, g + 1, l, a, h, _ => by
    have : l = [] := List.eq_nil_of_length_eq_zero (by omega)
    subst this
    unfold scanN
    rw [if_pos rfl]
  | f + 1, 0, l, a, _, h => by
    have : l = [] := List.eq_nil_of_length_eq_zero (by omega)
    subst this
    unfold scanN
    rw [if_pos rfl]
  | f + 1, g + 1, l, a, hf, hg => by
    unfold scanN
    by_cases hl : l = []
    · rw [if_pos hl, if_pos hl]
    rw [if_neg hl, if_neg hl]
    by_cases hb : 0 < blankN l
    · rw [if_pos hb, if_pos hb]
      exact scanN_fuel f g _ _ (by rw [List.length_drop]; omega) (by rw [List.length_drop]; omega)
    · rw [if_neg hb, if_neg hb]
      split
      · rfl
      · rename_i k t v n e
        have := oneN_len e
        rw [scanN_fuel f g (l.drop n) (a + n) (by rw [List.length_drop]; omega) (by rw [List.length_drop]; omega)]
/-- A text's tokens. -/
def scanL (l : List UInt8) : Except (Nat × Int) (List Tok) := scanN l.length l 0

/-! ### Tokens, printed -/
def digN (n : Nat) : List UInt8 := if h : n < 10 then [UInt8.ofNat (48 + n)] else digN (n / 10) ++ [UInt8.ofNat (48 + n % 10)]
termination_by n
decreasing_by omega
def digZ (z : Int) : List UInt8 := if z < 0 then 45 :: digN z.natAbs else digN z.natAbs
def textN (k : Int) (t : List UInt8) (v : Int) : List UInt8 := if k = 1 then t else if k = 2 then digZ v else if k = 3 then [123] else if k = 4 then [125] else [59]
def RightN (k : Int) (t : List UInt8) (v : Int) : Prop :=
  (k = 1 ∧ (∀ b ∈ t, isLetter b = true) ∧ 1 ≤ t.length ∧ t.length ≤ 12 ∧ v = 0) ∨ (k = 2 ∧ t = [] ∧ -1000000000 ≤ v ∧ v ≤ 1000000000) ∨ ((k = 3 ∨ k = 4 ∨ k = 5) ∧ t = [] ∧ v = 0)
theorem byte_of (n : Nat) (h : n < 256) : (UInt8.ofNat n).toNat = n := by
  rw [UInt8.toNat_ofNat']
  exact Nat.mod_eq_of_lt h
theorem digN_low (n : Nat) (h : n < 10) : digN n = [UInt8.ofNat (48 + n)] := by rw [digN, dif_pos h]
theorem digN_high (n : Nat) (h : ¬ n < 10) : digN n = digN (n / 10) ++ [UInt8.ofNat (48 + n % 10)] := by rw [digN, dif_neg h]
theorem digit_of (n : Nat) (h : n < 10) : isDigit (UInt8.ofNat (48 + n)) = true := by
  unfold isDigit
  rw [byte_of _ (by omega)]
  exact decide_eq_true ⟨by omega, by omega⟩
theorem digN_digits (n : Nat) : ∀ b ∈ digN n, isDigit b = true := by
  induction n using Nat.strongRecOn with
  | _ n ih =>
    intro b hb
    by_cases h : n < 10
    · rw [digN_low n h] at hb
      obtain rfl := List.mem_singleton.1 hb
      exact digit_of n h
    · rw [digN_high n h] at hb
      rcases List.mem_append.1 hb with c | c
      · exact ih (n / 10) (by omega) b c
      · obtain rfl := List.mem_singleton.1 c
        exact digit_of _ (by omega)
theorem digN_val (n : Nat) : valD (digN n) 0 = n := by
  induction n using Nat.strongRecOn with
  | _ n ih =>
    by_cases h : n < 10
    · rw [digN_low n h]
      show 10 * 0 + ((UInt8.ofNat (48 + n)).toNat - 48) = n
      rw [byte_of _ (by omega)]
      omega
    · rw [digN_high n h, valD_snoc, ih (n / 10) (by omega), byte_of _ (by omega)]
      omega
theorem digN_pos (n : Nat) : 0 < (digN n).length := by
  by_cases h : n < 10
  · rw [digN_low n h]; exact Nat.one_pos
  · rw [digN_high n h, List.length_append]; simp
/-- The first digit of a number of more than one is no 0. -/
theorem digN_head (n : Nat) (h : 0 < n) : ((digN n).headD 0).toNat ≠ 48 := by
  induction n using Nat.strongRecOn with
  | _ n ih =>
    by_cases c : n < 10
    · rw [digN_low n c]
      show (UInt8.ofNat (48 + n)).toNat ≠ 48
      rw [byte_of _ (by omega)]
      omega
    · rw [digN_high n c]
      have := ih (n / 10) (by omega) (by omega)
      have hp := digN_pos (n / 10)
      cases e : digN (n / 10) with
      | nil => rw [e] at hp; exact absurd hp (by decide)
      | cons b r => rw [e] at this; exact this
theorem digN_small (n k : Nat) : n < 10 ^ k → 0 < k → (digN n).length ≤ k := by
  induction k generalizing n with
  | zero => intro _ h; omega
  | succ k ih =>
    intro h _
    by_cases c : n < 10
    · rw [digN_low n c]
      show 1 ≤ k + 1
      omega
    · rw [digN_high n c, List.length_append]
      have hk : 0 < k := by
        rcases Nat.eq_zero_or_pos k with e | e
        · subst e; exact absurd h c
        · exact e
      have := ih (n / 10) (Nat.div_lt_of_lt_mul (by rw [Nat.pow_succ] at h; omega)) hk
      simp only [List.length_cons, List.length_nil]
      omega

/-! ### What is printed is scanned as it was -/
/-- Behind this no word and no number goes on. -/
def Stops (r : List UInt8) : Prop := r = [] ∨ (isLetter (r.headD 0) = false ∧ isDigit (r.headD 0) = false)
theorem letter_range {b : UInt8} (h : isLetter b = true) : 97 ≤ b.toNat ∧ b.toNat ≤ 122 := of_decide_eq_true h
theorem digit_range {b : UInt8} (h : isDigit b = true) : 48 ≤ b.toNat ∧ b.toNat ≤ 57 := of_decide_eq_true h
theorem not_digit {b : UInt8} (h : b.toNat < 48 ∨ 57 < b.toNat) : isDigit b = false := decide_eq_false (by omega)
theorem numberN_pos (n : Nat) (r : List UInt8) (hn : n ≤ 1000000000) (hr : Stops r) : numberN (digN n ++ r) = .ok ((n : Int), (digN n).length) := by
  have hs : spanLen isDigit (digN n ++ r) = (digN n).length := spanLen_append _ _ _ (digN_digits n) (hr.imp id And.right)
  have hp := digN_pos n
  have hh : ((digN n ++ r).headD 0) = (digN n).headD 0 := by
    cases e : digN n with
    | nil => rw [e] at hp; exact absurd hp (by decide)
    | cons b t => rfl
  have hd : isDigit ((digN n).headD 0) = true := by
    cases e : digN n with
    | nil => rw [e] at hp; exact absurd hp (by decide)
    | cons b t => exact digN_digits n b (by rw [e]; simp)
  have hd2 := digit_range hd
  have hb : ¬ ((digN n ++ r).headD 0).toNat = 45 := by rw [hh]; omega
  rw [numberN_eq, decide_eq_false hb]
  have hD : numD (digN n ++ r) = digN n ++ r := if_neg hb
  rw [hD]
  unfold numberK
  rw [hs, if_neg (by omega), List.take_left' rfl, digN_val, if_neg, if_neg (by decide)]
  · rfl
  · rw [hh]
    rintro (⟨h1, h2⟩ | h)
    · rcases h2 with h2 | h2
      · by_cases z : 0 < n
        · exact digN_head n z h1
        · obtain rfl : n = 0 := by omega
          rw [digN_low 0 (by decide)] at h2
          exact absurd h2 (by decide)
      · exact absurd h2 (by decide)
    · omega
theorem numberN_neg (n : Nat) (r : List UInt8) (h0 : 0 < n) (hn : n ≤ 1000000000) (hr : Stops r) : numberN (45 :: (digN n ++ r)) = .ok (-(n : Int), (digN n).length + 1) := by
  have hs : spanLen isDigit (digN n ++ r) = (digN n).length := spanLen_append _ _ _ (digN_digits n) (hr.imp id And.right)
  have hp := digN_pos n
  have hh : ((digN n ++ r).headD 0) = (digN n).headD 0 := by
    cases e : digN n with
    | nil => rw [e] at hp; exact absurd hp (by decide)
    | cons b t => rfl
  have hb : ((45 :: (digN n ++ r) : List UInt8).headD 0).toNat = 45 := rfl
  rw [numberN_eq, decide_eq_true hb]
  have hD : numD (45 :: (digN n ++ r)) = digN n ++ r := if_pos hb
  rw [hD]
  unfold numberK
  rw [hs, if_neg (by omega), List.take_left' rfl, digN_val, if_neg, if_pos rfl]
  · rfl
  · rw [hh]
    rintro (⟨h1, -⟩ | h)
    · exact digN_head n h0 h1
    · omega
theorem digZ_neg {z : Int} (h : z < 0) : digZ z = 45 :: digN z.natAbs := if_pos h
theorem digZ_pos {z : Int} (h : ¬ z < 0) : digZ z = digN z.natAbs := if_neg h
theorem textN_pos {k : Int} {t : List UInt8} {v : Int} (h : RightN k t v) : 1 ≤ (textN k t v).length := by
  unfold textN
  rcases h with ⟨rfl, -, h, -⟩ | ⟨rfl, -⟩ | ⟨h, -⟩
  · rw [if_pos rfl]; exact h
  · rw [if_neg (by decide), if_pos rfl]
    unfold digZ
    split
    · simp
    · exact digN_pos _
  · rcases h with rfl | rfl | rfl <;> exact Nat.le_refl _
theorem oneN_text {k : Int} {t : List UInt8} {v : Int} (h : RightN k t v) (r : List UInt8) (hr : Stops r) : oneN (textN k t v ++ r) = .ok (k, t, v, (textN k t v).length) := by
  unfold textN
  rcases h with ⟨rfl, hl, h1, h2, rfl⟩ | ⟨rfl, rfl, h1, h2⟩ | ⟨h, rfl, rfl⟩
  · rw [if_pos rfl]
    have hs : spanLen isLetter (t ++ r) = t.length := spanLen_append _ _ _ hl (hr.imp id And.left)
    cases t with
    | nil => exact absurd h1 (by decide)
    | cons b t =>
      have hb := letter_range (hl b (by simp))
      have e : oneN (b :: (t ++ r)) = _ := oneN_word (b := b) (t ++ r) (by omega) (by omega) (by omega) (by rintro (c | c); omega; have := digit_range c; omega)
      rw [show b :: (t ++ r) = b :: t ++ r from rfl, hs, if_neg (by omega), if_neg (by omega), List.take_left' rfl] at e
      exact e
  · rw [if_neg (by decide), if_pos rfl]
    by_cases z : v < 0
    · rw [digZ_neg z]
      have e : oneN (45 :: (digN v.natAbs ++ r)) = _ := oneN_num (b := 45) _ (Or.inl rfl)
      rw [numberN_neg _ r (by omega) (by omega) hr] at e
      rw [show 45 :: digN v.natAbs ++ r = 45 :: (digN v.natAbs ++ r) from rfl, e, List.length_cons]
      rw [show -((v.natAbs : Nat) : Int) = v by omega]
    · rw [digZ_pos z]
      have hp := digN_pos v.natAbs
      have hd := digN_digits v.natAbs
      have hv := numberN_pos v.natAbs r (by omega) hr
      cases e : digN v.natAbs with
      | nil => rw [e] at hp; exact absurd hp (by decide)
      | cons b t =>
        rw [e] at hd hv
        have e2 : oneN (b :: (t ++ r)) = _ := oneN_num (b := b) _ (Or.inr (hd b (by simp)))
        rw [show b :: (t ++ r) = b :: t ++ r from rfl, hv, show ((v.natAbs : Nat) : Int) = v by omega] at e2
        exact e2
  · rcases h with rfl | rfl | rfl
    · exact oneN_open (b := 123) r rfl
    · exact oneN_close (b := 125) r rfl
    · exact oneN_end (b := 59) r rfl
theorem blankN_none {b : UInt8} (r : List UInt8) (h1 : b.toNat ≠ 32) (h2 : b.toNat ≠ 9) (h3 : b.toNat ≠ 10) (h4 : b.toNat ≠ 13) (h5 : b.toNat ≠ 35) : blankN (b :: r) = 0 := by
  rw [blankN_cons, if_neg, if_neg h5]
  intro h
  have := of_decide_eq_true h
  omega
theorem blankN_text {k : Int} {t : List UInt8} {v : Int} (h : RightN k t v) (r : List UInt8) : blankN (textN k t v ++ r) = 0 := by
  unfold textN
  rcases h with ⟨rfl, hl, h1, h2, rfl⟩ | ⟨rfl, rfl, h1, h2⟩ | ⟨h, rfl, rfl⟩
  · rw [if_pos rfl]
    cases t with
    | nil => exact absurd h1 (by decide)
    | cons b t =>
      have hb := letter_range (hl b (by simp))
      exact blankN_none _ (by omega) (by omega) (by omega) (by omega) (by omega)
  · rw [if_neg (by decide), if_pos rfl]
    by_cases z : v < 0
    · rw [digZ_neg z]
      exact blankN_none (b := 45) _ (by decide) (by decide) (by decide) (by decide) (by decide)
    · rw [digZ_pos z]
      have hp := digN_pos v.natAbs
      have hd := digN_digits v.natAbs
      cases e : digN v.natAbs with
      | nil => rw [e] at hp; exact absurd hp (by decide)
      | cons b t =>
        rw [e] at hd
        have hb := digit_range (hd b (by simp))
        exact blankN_none _ (by omega) (by omega) (by omega) (by omega) (by omega)
  · rcases h with rfl | rfl | rfl
    · exact blankN_none (b := 123) r (by decide) (by decide) (by decide) (by decide) (by decide)
    · exact blankN_none (b := 125) r (by decide) (by decide) (by decide) (by decide) (by decide)
    · exact blankN_none (b := 59) r (by decide) (by decide) (by decide) (by decide) (by decide)
/-- A rest that begins at a place, scanned. -/
def scanF (l : List UInt8) (a : Nat) : Except (Nat × Int) (List Tok) := scanN l.length l a
theorem scanN_F (f : Nat) (l : List UInt8) (a : Nat) (h : l.length ≤ f) : scanN f l a = scanF l a := scanN_fuel f l.length l a h (Nat.le_refl _)
theorem scanF_nil (a : Nat) : scanF [] a = .ok [] := rfl
theorem scanF_blank (l : List UInt8) (a : Nat) (h : 0 < blankN l) : scanF l a = scanF (l.drop (blankN l)) (a + blankN l) := by
  have hl : l ≠ [] := fun e => by rw [e] at h; exact absurd h (by decide)
  have hlen : 0 < l.length := List.length_pos_iff.2 hl
  obtain ⟨m, hm⟩ : ∃ m, l.length = m + 1 := ⟨l.length - 1, by omega⟩
  unfold scanF
  rw [hm]
  show (if l = [] then _ else if 0 < blankN l then scanN m (l.drop (blankN l)) (a + blankN l) else _) = _
  rw [if_neg hl, if_pos h]
  exact scanN_fuel _ _ _ _ (by rw [List.length_drop]; omega) (Nat.le_refl _)
theorem scanF_one (l : List UInt8) (a : Nat) (hl : l ≠ []) (h : blankN l = 0) : scanF l a = match oneN l with
      | .error e => .error (a, e)
      | .ok (k, t, v, n) => match scanF (l.drop n) (a + n) with
        | .error e => .error e
        | .ok ts => .ok (⟨k, t, v, a⟩ :: ts) := by
  have hlen : 0 < l.length := List.length_pos_iff.2 hl
  obtain ⟨m, hm⟩ : ∃ m, l.length = m + 1 := ⟨l.length - 1, by omega⟩
  have e : scanF l a = scanN (m + 1) l a := by unfold scanF; rw [hm]
  rw [e]
  unfold scanN
  rw [if_neg hl, if_neg (by omega)]
  cases e1 : oneN l with
  | error x => rfl
  | ok x =>
    obtain ⟨k, t, v, n⟩ := x
    have := oneN_len e1
    dsimp only
    rw [scanN_F m (l.drop n) (a + n) (by rw [List.length_drop]; omega)]
/-- Blanks: what stands behind them is scanned as if they were not there. -/
def Skips (s : List UInt8) : Prop := ∀ r a, scanF (s ++ r) a = scanF r (a + s.length)
theorem Skips.nil : Skips [] := fun _ _ => rfl
theorem Skips.append {s t : List UInt8} (hs : Skips s) (ht : Skips t) : Skips (s ++ t) := fun r a => by
  rw [List.append_assoc, hs, ht, List.length_append, Nat.add_assoc]
theorem Skips.space {b : UInt8} (h : isSpace b = true) : Skips [b] := fun r a => by
  have e : blankN ([b] ++ r) = 1 := by
    show (if isSpace b = true then 1 else _) = 1
    rw [if_pos h]
  rw [scanF_blank _ _ (by rw [e]; decide), e]
  rfl
theorem Skips.remark (m : List UInt8) (h : ∀ b ∈ m, notEnd b = true) : Skips (35 :: (m ++ [10])) := by
  have h1 : ∀ r a, scanF (35 :: (m ++ (10 :: r))) a = scanF (10 :: r) (a + (m.length + 1)) := fun r a => by
    have hs : spanLen notEnd (m ++ (10 :: r)) = m.length := spanLen_append _ _ _ h (Or.inr (by rfl))
    have e : blankN (35 :: (m ++ (10 :: r))) = m.length + 1 := by
      rw [blankN_cons, if_neg (by decide), if_pos (by rfl), hs]
    rw [scanF_blank _ _ (by rw [e]; omega), e]
    congr 1
    show (m ++ 10 :: r).drop m.length = _
    exact List.drop_left' rfl
  intro r a
  have e : 35 :: (m ++ [10]) ++ r = 35 :: (m ++ (10 :: r)) := by simp
  rw [e, h1]
  have := Skips.space (b := 10) (by rfl) r (a + (m.length + 1))
  rw [show [10] ++ r = 10 :: r from rfl] at this
  rw [this]
  congr 1
  simp
  omega
theorem scanF_text {k : Int} {t : List UInt8} {v : Int} (h : RightN k t v) (r : List UInt8) (hr : Stops r) (a : Nat) :
    scanF (textN k t v ++ r) a = match scanF r (a + (textN k t v).length) with
      | .error e => .error e
      | .ok ts => .ok (⟨k, t, v, a⟩ :: ts) := by
  have hp := textN_pos h
  rw [scanF_one _ _ (fun e => by have := congrArg List.length e; rw [List.length_append, List.length_nil] at this; omega) (blankN_text h r), oneN_text h r hr]
  dsimp only
  rw [List.drop_left' rfl]
def Tok.right (t : Tok) : Prop := RightN t.kind t.text t.num
def Tok.bytes (t : Tok) : List UInt8 := textN t.kind t.text t.num
/-- The text of tokens: one blank between each two. -/
def printN : List Tok → List UInt8
  | [] => []
  | t :: r => match r with
    | [] => t.bytes
    | _ :: _ => t.bytes ++ 32 :: printN r
/-- Tokens with the places at which they stand in their text. -/
def placed : List Tok → Nat → List Tok
  | [], _ => []
  | t :: r, a => ⟨t.kind, t.text, t.num, a⟩ :: placed r (a + t.bytes.length + 1)
theorem printN_one (t : Tok) : printN [t] = t.bytes := rfl
theorem printN_more (t u : Tok) (r : List Tok) : printN (t :: u :: r) = t.bytes ++ 32 :: printN (u :: r) := rfl
theorem scan_print : ∀ (l : List Tok) (a : Nat), (∀ t ∈ l, t.right) → scanF (printN l) a = .ok (placed l a)
  | [], _, _ => rfl
  | [t], a, h => by
    have := scanF_text (h t (by simp)) [] (Or.inl rfl) a
    rw [List.append_nil, scanF_nil] at this
    exact this
  | t :: u :: r, a, h => by
    have e := scanF_text (h t (by simp)) (32 :: printN (u :: r)) (Or.inr ⟨by rfl, by rfl⟩) a
    have s := Skips.space (b := 32) (by rfl) (printN (u :: r)) (a + t.bytes.length)
    have i := scan_print (u :: r) (a + t.bytes.length + 1) (fun x hx => h x (by simp [hx]))
    rw [show ([32] : List UInt8).length = 1 from rfl, i] at s
    rw [printN_more]
    have e2 : scanF (t.bytes ++ 32 :: printN (u :: r)) a = match scanF (32 :: printN (u :: r)) (a + t.bytes.length) with
      | .error e => .error e
      | .ok ts => .ok (⟨t.kind, t.text, t.num, a⟩ :: ts) := e
    rw [e2, show 32 :: printN (u :: r) = [32] ++ printN (u :: r) from rfl, s]
    rfl
/-- Tokens between any blanks: the text, from the i-th on. -/
def mixN (sep : Nat → List UInt8) : List Tok → Nat → List UInt8
  | [], _ => []
  | t :: r, i => t.bytes ++ (sep (i + 1) ++ mixN sep r (i + 1))
def Tok.core (t : Tok) : Int × List UInt8 × Int := (t.kind, t.text, t.num)
theorem scan_mix (sep : Nat → List UInt8) (hs : ∀ i, Skips (sep i)) (ht : ∀ i, sep i ≠ [] ∧ isLetter ((sep i).headD 0) = false ∧ isDigit ((sep i).headD 0) = false) :
    ∀ (l : List Tok) (i a : Nat), (∀ t ∈ l, t.right) → ∃ ts, scanF (mixN sep l i) a = .ok ts ∧ ts.map Tok.core = l.map Tok.core
  | [], _, _, _ => ⟨[], rfl, rfl⟩
  | t :: r, i, a, h => by
    obtain ⟨ts, h1, h2⟩ := scan_mix sep hs ht r (i + 1) (a + t.bytes.length + (sep (i + 1)).length) (fun x hx => h x (by simp [hx]))
    obtain ⟨k1, k2, k3⟩ := ht (i + 1)
    have st : Stops (sep (i + 1) ++ mixN sep r (i + 1)) := by
      right
      cases e : sep (i + 1) with
      | nil => exact absurd e k1
      | cons b u => rw [e] at k2 k3; exact ⟨k2, k3⟩
    have e := scanF_text (h t (by simp)) _ st a
    rw [hs (i + 1)] at e
    refine ⟨⟨t.kind, t.text, t.num, a⟩ :: ts, ?_, ?_⟩
    · have e2 : scanF (mixN sep (t :: r) i) a = match scanF (mixN sep r (i + 1)) (a + t.bytes.length + (sep (i + 1)).length) with
        | .error e => .error e
        | .ok ts => .ok (⟨t.kind, t.text, t.num, a⟩ :: ts) := e
      rw [e2, h1]
    · rw [List.map_cons, List.map_cons, h2]
      rfl
theorem placed_core : ∀ (l : List Tok) (a : Nat), (placed l a).map Tok.core = l.map Tok.core
  | [], _ => rfl
  | t :: r, a => by
    show (_ :: (placed r (a + t.bytes.length + 1)).map Tok.core) = _
    rw [placed_core r]
    rfl
theorem placed_length (l : List Tok) (a : Nat) : (placed l a).length = l.length := by
  have := congrArg List.length (placed_core l a)
  rwa [List.length_map, List.length_map] at this
theorem bytes_core {t u : Tok} (h : t.core = u.core) : t.bytes = u.bytes := by
  obtain ⟨k, x, v, a⟩ := t
  obtain ⟨k', x', v', a'⟩ := u
  simp only [Tok.core, Prod.mk.injEq] at h
  obtain ⟨rfl, rfl, rfl⟩ := h
  rfl
/-- A text hangs on no place. -/
theorem printN_core : ∀ (l m : List Tok), l.map Tok.core = m.map Tok.core → printN l = printN m
  | [], [], _ => rfl
  | [], _ :: _, h => by cases h
  | _ :: _, [], h => by cases h
  | [t], [u], h => by
    simp only [List.map_cons, List.cons.injEq] at h
    exact bytes_core h.1
  | [t], u :: u' :: m, h => by simp at h
  | t :: t' :: l, [u], h => by simp at h
  | t :: t' :: l, u :: u' :: m, h => by
    have h1 : t.core = u.core := by simp only [List.map_cons, List.cons.injEq] at h; exact h.1
    have h2 : (t' :: l).map Tok.core = (u' :: m).map Tok.core := by simp only [List.map_cons, List.cons.injEq] at h ⊢; exact h.2
    rw [printN_more, printN_more, bytes_core h1, printN_core (t' :: l) (u' :: m) h2]
/-- The place of the i-th token. -/
def offN : List Tok → Nat → Nat
  | [], _ => 0
  | t :: r, i => match i with
    | 0 => 0
    | i + 1 => t.bytes.length + 1 + offN r i
theorem placed_get : ∀ (l : List Tok) (a i : Nat) (h : i < l.length), (placed l a)[i]? = some ⟨(l[i]'h).kind, (l[i]'h).text, (l[i]'h).num, ((a + offN l i : Nat) : Int)⟩
  | [], _, _, h => absurd h (Nat.not_lt_zero _)
  | t :: r, a, 0, _ => rfl
  | t :: r, a, i + 1, h => by
    have := placed_get r (a + t.bytes.length + 1) i (by rw [List.length_cons] at h; omega)
    show (placed r (a + t.bytes.length + 1))[i]? = _
    rw [this]
    show some (Tok.mk _ _ _ _) = some (Tok.mk _ _ _ ((a + (t.bytes.length + 1 + offN r i) : Nat) : Int))
    rw [show a + t.bytes.length + 1 + offN r i = a + (t.bytes.length + 1 + offN r i) by omega]
    rfl
theorem bytes_pos {t : Tok} (h : t.right) : 1 ≤ t.bytes.length := textN_pos h
theorem offN_step : ∀ (l : List Tok) (i : Nat), (∀ t ∈ l, t.right) → i + 1 < l.length → offN l i + 2 ≤ offN l (i + 1)
  | [], _, _, h => absurd h (Nat.not_lt_zero _)
  | t :: r, 0, h, hi => by
    have := bytes_pos (h t (by simp))
    show 0 + 2 ≤ t.bytes.length + 1 + offN r 0
    omega
  | t :: r, i + 1, h, hi => by
    have := offN_step r i (fun x hx => h x (by simp [hx])) (by rw [List.length_cons] at hi; omega)
    show t.bytes.length + 1 + offN r i + 2 ≤ t.bytes.length + 1 + offN r (i + 1)
    omega
theorem offN_lt : ∀ (l : List Tok) (i : Nat), (∀ t ∈ l, t.right) → i < l.length → offN l i < (printN l).length
  | [], _, _, h => absurd h (Nat.not_lt_zero _)
  | [t], i, h, hi => by
    have := bytes_pos (h t (by simp))
    obtain rfl : i = 0 := by simp at hi; omega
    exact this
  | t :: u :: r, 0, h, _ => by
    have := bytes_pos (h t (by simp))
    rw [printN_more, List.length_append]
    show 0 < _
    omega
  | t :: u :: r, i + 1, h, hi => by
    have := offN_lt (u :: r) i (fun x hx => h x (by simp [hx])) (by rw [List.length_cons] at hi; omega)
    rw [printN_more, List.length_append, List.length_cons]
    show t.bytes.length + 1 + offN (u :: r) i < _
    omega
/-- A printed text's length. -/
theorem printN_snoc : ∀ (l : List Tok) (t : Tok), l ≠ [] → printN (l ++ [t]) = printN l ++ (32 :: t.bytes)
  | [], _, h => absurd rfl h
  | [u], t, _ => rfl
  | u :: u' :: l, t, _ => by
    have := printN_snoc (u' :: l) t (by simp)
    show u.bytes ++ 32 :: printN (u' :: l ++ [t]) = _
    rw [this, printN_more]
    simp
end Go.Proofs.YtdimgomigidbkaaGreatDoor
/- Numbers of stage 7, second part: a run of blanks, a piece, digits as strconv reads and writes them, tokens that may be. Lists of bytes; no Go in sight. -/
namespace Go.Proofs.YtdimgomigidbkaaGreatDoor

/-! ### A run of blanks, remarks among them -/
def remN (r : Bool) (b : UInt8) : Bool := !decide (b.toNat = 10) && (r || decide (b.toNat = 35))
def fitN (r : Bool) (b : UInt8) : Bool := remN r b || isSpace b
def skipN : Bool → List UInt8 → Nat
  | _, [] => 0
  | r, b :: t => if fitN r b = true then skipN (remN r b) t + 1 else 0
/-- Whether a remark goes on behind so many bytes. -/
def inRem (r : Bool) (l : List UInt8) (k : Nat) : Bool := (l.take k).foldl remN r
theorem inRem_zero (r : Bool) (l : List UInt8) : inRem r l 0 = r := rfl
theorem inRem_succ (r : Bool) (l : List UInt8) (k : Nat) (h : k < l.length) : inRem r l (k + 1) = remN (inRem r l k) (l.getD k 0) := by
  unfold inRem
  rw [List.take_add_one, List.getElem?_eq_getElem h, List.foldl_append, List.getD_eq_getElem?_getD, List.getElem?_eq_getElem h]
  rfl
theorem skipN_cons (r : Bool) (b : UInt8) (t : List UInt8) : skipN r (b :: t) = if fitN r b = true then skipN (remN r b) t + 1 else 0 := rfl
theorem skipN_le : ∀ (r : Bool) (l : List UInt8), skipN r l ≤ l.length
  | _, [] => Nat.le_refl _
  | r, b :: t => by
    have := skipN_le (remN r b) t
    rw [skipN_cons, List.length_cons]
    split <;> omega
theorem skipN_step : ∀ (r : Bool) (l : List UInt8) (k : Nat), k ≤ skipN r l → k < l.length → fitN (inRem r l k) (l.getD k 0) = true → k + 1 ≤ skipN r l
  | _, [], _, _, h, _ => absurd h (Nat.not_lt_zero _)
  | r, b :: t, 0, _, _, hf => by
    have e : fitN r b = true := hf
    rw [skipN_cons, if_pos e]
    omega
  | r, b :: t, k + 1, hk, hl, hf => by
    rw [skipN_cons] at hk ⊢
    by_cases e : fitN r b = true
    · rw [if_pos e] at hk ⊢
      have := skipN_step (remN r b) t k (by omega) (by rw [List.length_cons] at hl; omega) hf
      omega
    · rw [if_neg e] at hk
      omega
theorem skipN_stop : ∀ (r : Bool) (l : List UInt8) (k : Nat), k ≤ skipN r l → (l.length ≤ k ∨ fitN (inRem r l k) (l.getD k 0) = false) → k = skipN r l
  | r, [], k, hk, _ => by
    have := skipN_le r []
    simp at this hk
    omega
  | r, b :: t, 0, _, hs => by
    rcases hs with h | h
    · exact absurd h (by simp)
    · have e : fitN r b = false := h
      rw [skipN_cons, if_neg (by rw [e]; decide)]
  | r, b :: t, k + 1, hk, hs => by
    rw [skipN_cons] at hk ⊢
    by_cases e : fitN r b = true
    · rw [if_pos e] at hk ⊢
      have := skipN_stop (remN r b) t k (by omega) (by
        rcases hs with h | h
        · left; rw [List.length_cons] at h; omega
        · right; exact h)
      omega
    · rw [if_neg e] at hk
      omega
theorem skipN_drop : ∀ (r : Bool) (l : List UInt8), blankN (l.drop (skipN r l)) = 0
  | _, [] => rfl
  | r, b :: t => by
    rw [skipN_cons]
    by_cases e : fitN r b = true
    · rw [if_pos e]
      exact skipN_drop (remN r b) t
    · rw [if_neg e]
      have e' : fitN r b = false := by simpa using e
      have h : remN r b = false ∧ isSpace b = false := by simpa [fitN] using e'
      obtain ⟨h1, h2⟩ := h
      have hs : ¬ (b.toNat = 32 ∨ b.toNat = 9 ∨ b.toNat = 10 ∨ b.toNat = 13) := of_decide_eq_false h2
      have h3 : b.toNat ≠ 35 := by
        intro c
        unfold remN at h1
        rw [decide_eq_true c, decide_eq_false (by omega)] at h1
        simp at h1
      exact blankN_none t (by omega) (by omega) (by omega) (by omega) h3
theorem skipN_rem : ∀ (l : List UInt8), skipN true l = spanLen notEnd l + skipN false (l.drop (spanLen notEnd l))
  | [] => rfl
  | b :: t => by
    by_cases c : b.toNat = 10
    · have hn : spanLen notEnd (b :: t) = 0 := by
        show (if notEnd b = true then _ else _) = _
        rw [if_neg]
        unfold notEnd
        rw [decide_eq_false (by omega)]
        decide
      rw [hn]
      have hr : ∀ r, remN r b = false := fun r => by unfold remN; rw [decide_eq_true c]; rfl
      show skipN true (b :: t) = 0 + skipN false (b :: t)
      rw [skipN_cons, skipN_cons]
      unfold fitN
      rw [hr, hr, Nat.zero_add]
    · have hn : spanLen notEnd (b :: t) = spanLen notEnd t + 1 := by
        show (if notEnd b = true then _ else _) = _
        rw [if_pos]
        unfold notEnd
        exact decide_eq_true c
      have hr : remN true b = true := by unfold remN; rw [decide_eq_false c]; rfl
      rw [hn, skipN_cons, if_pos (by unfold fitN; rw [hr]; rfl), hr, skipN_rem t]
      show _ = spanLen notEnd t + 1 + skipN false (t.drop (spanLen notEnd t))
      omega
theorem skip_scan : ∀ (n : Nat) (l : List UInt8) (a : Nat), l.length ≤ n → scanF l a = scanF (l.drop (skipN false l)) (a + skipN false l)
  | n, [], a, _ => by
    have : skipN false [] = 0 := rfl
    rw [this]; rfl
  | 0, b :: t, a, h => absurd h (by simp)
  | n + 1, b :: t, a, h => by
    rw [List.length_cons] at h
    by_cases c : isSpace b = true
    · have cs := of_decide_eq_true c
      have hr : remN false b = false := by unfold remN; rw [decide_eq_false (p := b.toNat = 35) (by omega)]; simp
      have hb : blankN (b :: t) = 1 := by rw [blankN_cons, if_pos c]
      rw [scanF_blank _ _ (by rw [hb]; decide), hb, skipN_cons, if_pos (by unfold fitN; rw [c]; simp), hr]
      show scanF t (a + 1) = scanF (t.drop (skipN false t)) (a + (skipN false t + 1))
      rw [skip_scan n t (a + 1) (by omega)]
      congr 1
      omega
    · by_cases d : b.toNat = 35
      · have hr : remN false b = true := by unfold remN; rw [decide_eq_true d, decide_eq_false (by omega)]; rfl
        have hb : blankN (b :: t) = spanLen notEnd t + 1 := by rw [blankN_cons, if_neg c, if_pos d]
        rw [scanF_blank _ _ (by rw [hb]; omega), hb, skipN_cons, if_pos (by unfold fitN; rw [hr]; rfl), hr, skipN_rem t]
        show scanF (t.drop (spanLen notEnd t)) (a + (spanLen notEnd t + 1)) = scanF (t.drop (spanLen notEnd t + skipN false (t.drop (spanLen notEnd t)))) (a + (spanLen notEnd t + skipN false (t.drop (spanLen notEnd t)) + 1))
        rw [skip_scan n (t.drop (spanLen notEnd t)) _ (by rw [List.length_drop]; omega), List.drop_drop]
        congr 1
        omega
      · have hr : remN false b = false := by unfold remN; rw [decide_eq_false d]; simp
        have hf : fitN false b = false := by unfold fitN; rw [hr]; simpa using c
        rw [skipN_cons, if_neg (by rw [hf]; decide)]
        rfl
theorem scan_skip (l : List UInt8) (a : Nat) : scanF (l.drop (skipN false l)) (a + skipN false l) = scanF l a := (skip_scan l.length l a (Nat.le_refl _)).symm

/-! ### A piece -/
def markN (b : UInt8) : Int := if b.toNat = 123 then 3 else if b.toNat = 125 then 4 else if b.toNat = 59 then 5 else 0
def wordN (l : List UInt8) : Except Int (Int × List UInt8 × Int × Nat) := if 12 < spanLen isLetter l then .error 2 else .ok (1, l.take (spanLen isLetter l), 0, spanLen isLetter l)
theorem letter_head {b : UInt8} {t : List UInt8} (h : 0 < spanLen isLetter (b :: t)) : isLetter b = true := spanLen_yes isLetter (b :: t) 0 h
theorem letter_nat {b : UInt8} (h : isLetter b = true) : 97 ≤ b.toNat ∧ b.toNat ≤ 122 := of_decide_eq_true h
theorem digit_nat {b : UInt8} (h : isDigit b = true) : 48 ≤ b.toNat ∧ b.toNat ≤ 57 := of_decide_eq_true h
theorem one_word {b : UInt8} {t : List UInt8} (h : 0 < spanLen isLetter (b :: t)) : oneN (b :: t) = wordN (b :: t) := by
  have hb := letter_nat (letter_head h)
  rw [oneN_word t (by omega) (by omega) (by omega) (by rintro (c | c); omega; have := digit_nat c; omega), if_neg (by omega)]
  rfl
theorem one_mark {b : UInt8} {t : List UInt8} (h : spanLen isLetter (b :: t) = 0) (h2 : ¬ (b.toNat = 45 ∨ isDigit b = true)) : oneN (b :: t) = if markN b = 0 then .error 7 else .ok (markN b, [], 0, 1) := by
  unfold markN
  by_cases c1 : b.toNat = 123
  · rw [oneN_open t c1, if_pos c1]; rfl
  by_cases c2 : b.toNat = 125
  · rw [oneN_close t c2, if_neg c1, if_pos c2]; rfl
  by_cases c3 : b.toNat = 59
  · rw [oneN_end t c3, if_neg c1, if_neg c2, if_pos c3]; rfl
  · rw [oneN_word t c1 c2 c3 h2, if_pos h, if_neg c1, if_neg c2, if_neg c3, if_pos rfl]

/-! ### Digits, as strconv has them -/
theorem decDigits_digN (n : Nat) : Lib.decDigits n = digN n := by
  induction n using Nat.strongRecOn with
  | _ n ih =>
    by_cases h : n < 10
    · rw [Lib.decDigits, dif_pos h, digN_low n h]
    · rw [Lib.decDigits, dif_neg h, digN_high n h, ih (n / 10) (by omega)]
theorem itoa_digZ (z : Int) : Lib.itoa z = digZ z := by
  unfold Lib.itoa digZ
  rw [decDigits_digN, decDigits_digN]
  by_cases h : z < 0
  · rw [if_pos h, if_pos h]
  · rw [if_neg h, if_neg h, show z.toNat = z.natAbs by omega]
theorem parse_digits : ∀ (l : List UInt8) (acc : Nat), (∀ b ∈ l, isDigit b = true) → acc < 18446744073709551616 →
    Lib.parseUint10 acc l = if valD l acc < 18446744073709551616 then .ok (valD l acc) else .range
  | [], acc, _, ha => by
    show Lib.NumEnd.ok acc = _
    rw [if_pos (show valD [] acc < _ from ha)]
    rfl
  | c :: r, acc, h, ha => by
    have hc := digit_nat (h c (by simp))
    have hge := valD_ge r (10 * acc + (c.toNat - 48))
    have ev : valD (c :: r) acc = valD r (10 * acc + (c.toNat - 48)) := rfl
    unfold Lib.parseUint10
    rw [if_pos hc, ev]
    by_cases h1 : 1844674407370955162 ≤ acc
    · rw [if_pos h1, if_neg (by omega)]
    rw [if_neg h1]
    by_cases h2 : 18446744073709551616 ≤ acc * 10 + (c.toNat - 48)
    · rw [if_pos h2, if_neg (by omega)]
    rw [if_neg h2, Nat.mul_comm acc 10]
    exact parse_digits r _ (fun b hb => h b (by simp [hb])) (by omega)
theorem atoi_digits (l : List UInt8) (hl : l ≠ []) (h : ∀ b ∈ l, isDigit b = true) :
    Lib.atoiAll l = if valD l 0 < 9223372036854775808 then .ok ((valD l 0 : Nat) : Int) else .range := by
  cases l with
  | nil => exact absurd rfl hl
  | cons c r =>
    have hc := digit_nat (h c (by simp))
    have hm : Lib.parseMag (c :: r) = if valD (c :: r) 0 < 18446744073709551616 then .ok (valD (c :: r) 0) else .range := by
      unfold Lib.parseMag
      rw [if_neg (by simp)]
      exact parse_digits _ 0 h (by decide)
    generalize valD (c :: r) 0 = v at hm
    unfold Lib.atoiAll
    dsimp only
    rw [if_neg (by omega), hm]
    by_cases h1 : v < 18446744073709551616
    · rw [if_pos h1]
      dsimp only
      by_cases h2 : v < 9223372036854775808
      · rw [if_neg (by omega), if_neg (by omega), if_pos h2, if_neg (by omega)]
      · rw [if_pos ⟨by omega, by omega⟩, if_neg h2]
    · rw [if_neg h1, if_neg (by omega)]
theorem spanLen_take (p : UInt8 → Bool) : ∀ (l : List UInt8), ∀ b ∈ l.take (spanLen p l), p b = true
  | [], b, h => by simp at h
  | c :: r, b, h => by
    have e : spanLen p (c :: r) = if p c = true then spanLen p r + 1 else 0 := rfl
    rw [e] at h
    by_cases hc : p c = true
    · rw [if_pos hc, List.take_succ_cons, List.mem_cons] at h
      rcases h with rfl | h
      · exact hc
      · exact spanLen_take p r b h
    · rw [if_neg hc] at h
      simp at h
theorem spanLen_all (p : UInt8 → Bool) (l : List UInt8) : spanLen p l = l.length ↔ ∀ b ∈ l, p b = true := by
  constructor
  · intro h b hb
    exact spanLen_take p l b (by rw [h, List.take_length]; exact hb)
  · intro h
    have := spanLen_append p l [] h (Or.inl rfl)
    rwa [List.append_nil] at this

/-! ### Tokens that may be -/
instance (k : Int) (t : List UInt8) (v : Int) : Decidable (RightN k t v) := by unfold RightN; exact inferInstance
def rightB (k : Int) (t : List UInt8) (v : Int) : Bool := decide (RightN k t v)
theorem right_word (t : List UInt8) (v : Int) : rightB 1 t v = (decide (v = 0) && (decide (1 ≤ t.length) && (decide (t.length ≤ 12) && decide (spanLen isLetter t = t.length)))) := by
  unfold rightB RightN
  rw [Bool.eq_iff_iff]
  simp only [decide_eq_true_eq, Bool.and_eq_true, spanLen_all]
  constructor
  · rintro (⟨-, h1, h2, h3, h4⟩ | ⟨h, -⟩ | ⟨h, -⟩)
    · exact ⟨h4, h2, h3, h1⟩
    · exact absurd h (by decide)
    · exact absurd h (by decide)
  · rintro ⟨h4, h2, h3, h1⟩
    exact Or.inl ⟨trivial, h1, h2, h3, h4⟩
theorem right_num (t : List UInt8) (v : Int) : rightB 2 t v = (decide (t = []) && (decide (-1000000000 ≤ v) && decide (v ≤ 1000000000))) := by
  unfold rightB RightN
  rw [Bool.eq_iff_iff]
  simp only [decide_eq_true_eq, Bool.and_eq_true]
  constructor
  · rintro (⟨h, -⟩ | ⟨-, h1, h2, h3⟩ | ⟨h, -⟩)
    · exact absurd h (by decide)
    · exact ⟨h1, h2, h3⟩
    · exact absurd h (by decide)
  · rintro ⟨h1, h2, h3⟩
    exact Or.inr (Or.inl ⟨trivial, h1, h2, h3⟩)
theorem right_mark (k : Int) (t : List UInt8) (v : Int) (h1 : k ≠ 1) (h2 : k ≠ 2) : rightB k t v = (decide (3 ≤ k) && (decide (k ≤ 5) && (decide (t = []) && decide (v = 0)))) := by
  unfold rightB
  rw [Bool.eq_iff_iff, decide_eq_true_iff]
  simp only [decide_eq_true_eq, Bool.and_eq_true]
  unfold RightN
  constructor
  · rintro (⟨h, -⟩ | ⟨h, -⟩ | ⟨h, h3, h4⟩)
    · exact absurd h h1
    · exact absurd h h2
    · exact ⟨by omega, by omega, h3, h4⟩
  · rintro ⟨h3, h4, h5, h6⟩
    exact Or.inr (Or.inr ⟨by omega, h5, h6⟩)
def Tok.rightb (t : Tok) : Bool := rightB t.kind t.text t.num
theorem Tok.right_iff (t : Tok) : t.rightb = true ↔ t.right := by unfold Tok.rightb rightB Tok.right; exact decide_eq_true_iff
def allRight (l : List Tok) : Bool := l.all Tok.rightb
theorem allRight_iff (l : List Tok) : allRight l = true ↔ ∀ t ∈ l, t.right := by
  unfold allRight
  rw [List.all_eq_true]
  exact ⟨fun h t ht => t.right_iff.1 (h t ht), fun h t ht => t.right_iff.2 (h t ht)⟩

/-! ### A text, printed piece by piece -/
theorem printN_take_succ (l : List Tok) (k : Nat) (h : k < l.length) : printN (l.take (k + 1)) = if k = 0 then (l[k]'h).bytes else printN (l.take k) ++ 32 :: (l[k]'h).bytes := by
  rw [List.take_add_one, List.getElem?_eq_getElem h]
  by_cases c : k = 0
  · subst c
    rw [if_pos rfl]
    rfl
  · rw [if_neg c]
    refine printN_snoc _ _ fun e => ?_
    have := congrArg List.length e
    rw [List.length_take, List.length_nil] at this
    omega
theorem printN_take_mono (l : List Tok) (k : Nat) : (printN (l.take k)).length ≤ (printN (l.take (k + 1))).length := by
  by_cases h : k < l.length
  · rw [printN_take_succ l k h]
    by_cases c : k = 0
    · subst c
      rw [if_pos rfl]
      exact Nat.zero_le _
    · rw [if_neg c, List.length_append]
      omega
  · rw [List.take_of_length_le (by omega), List.take_of_length_le (by omega)]
    exact Nat.le_refl _
theorem printN_take_le (l : List Tok) (k : Nat) : (printN (l.take k)).length ≤ (printN l).length := by
  have : ∀ j, (printN (l.take k)).length ≤ (printN (l.take (k + j))).length := by
    intro j
    induction j with
    | zero => exact Nat.le_refl _
    | succ j ih => exact Nat.le_trans ih (printN_take_mono l (k + j))
  have h := this l.length
  rwa [List.take_of_length_le (i := k + l.length) (by omega)] at h
theorem digN_len : ∀ (d n : Nat), n < 10 ^ d → 0 < d → (digN n).length ≤ d
  | 0, _, _, h => absurd h (Nat.lt_irrefl 0)
  | d + 1, n, h, _ => by
    by_cases c : n < 10
    · rw [digN_low n c]; simp
    · rw [digN_high n c, List.length_append]
      have hd : 0 < d := by
        rcases Nat.eq_zero_or_pos d with e | e
        · subst e; simp at h; omega
        · exact e
      have := digN_len d (n / 10) (by rw [Nat.pow_succ] at h; omega) hd
      simp
      omega
theorem bytes_le {t : Tok} (h : t.right) : t.bytes.length ≤ 12 := by
  unfold Tok.bytes textN
  rcases h with ⟨k, -, -, h, -⟩ | ⟨k, -, h1, h2⟩ | ⟨k, -, -⟩
  · rw [if_pos k]; exact h
  · rw [if_neg (by omega), if_pos k]
    have := digN_len 10 t.num.natAbs (by omega) (by decide)
    unfold digZ
    split
    · rw [List.length_cons]; omega
    · omega
  · rw [if_neg (by omega), if_neg (by omega)]
    split
    · decide
    · split <;> decide
theorem printN_bound : ∀ (l : List Tok), (∀ t ∈ l, t.right) → (printN l).length ≤ 13 * l.length
  | [], _ => Nat.le_refl _
  | [t], h => by
    have := bytes_le (h t (by simp))
    show t.bytes.length ≤ 13 * 1
    omega
  | t :: u :: r, h => by
    have := bytes_le (h t (by simp))
    have i := printN_bound (u :: r) (fun x hx => h x (by simp [hx]))
    rw [printN_more, List.length_append, List.length_cons, List.length_cons (a := t)]
    omega
end Go.Proofs.YtdimgomigidbkaaGreatDoor
/- Numbers of stage 8: which recipes may be, and tokens read as recipes. Lists; no Go in sight. -/
namespace Go.Proofs.YtdimgomigidbkaaGreatDoor

/-- A channel: its name, its chart, and its twelve fields (0 from there on). -/
structure Ch where
  name : List UInt8
  chart : Int
  f : Nat → Int
def Ch.fin (c : Ch) : Prop := ∀ k, 12 ≤ k → c.f k = 0
def tok0 : Tok := ⟨0, [], 0, 0⟩
def needT : List (List Nat) := [[1, 1, 1, 1, 1, 0, 0, 0, 0, 0, 0, 0], [0, 1, 1, 1, 1, 0, 0, 0, 0, 0, 0, 0], [1, 0, 0, 1, 1, 0, 0, 0, 0, 0, 0, 0], [1, 0, 0, 1, 1, 0, 0, 0, 0, 0, 0, 0], [0, 0, 0, 1, 1, 0, 0, 0, 0, 0, 0, 0], [1, 0, 0, 1, 1, 0, 0, 0, 0, 0, 0, 0], [0, 1, 1, 0, 1, 1, 1, 1, 0, 0, 0, 0], [0, 1, 1, 0, 1, 1, 0, 0, 1, 1, 0, 0]]
def needB (ch k : Nat) : Bool := decide ((needT.getD ch []).getD k 0 = 1)
def mayB (ch k : Nat) : Bool := needB ch k || (decide (ch ≤ 1) && decide (10 ≤ k))
def lowT : List Int := [1, -1000000, -1000000, 2, 1, -1000000, 0, 1, 1, 1, -1000000, -1000000]
def highT : List Int := [1000, 1000000, 1000000, 25, 1000000000, 1000000, 1000000, 1000000000, 99, 1000000, 1000000, 1000000]
def lowK (ch k : Nat) : Int := if k = 0 ∧ ch = 0 then 2 else lowT.getD k 0
def highK (ch k : Nat) : Int := if k = 0 ∧ ch = 0 then 10 else highT.getD k 0
def withinB (ch k : Nat) (v : Int) : Bool := decide (lowK ch k ≤ v ∧ v ≤ highK ch k)
def chartW : List (List UInt8) := [[120, 98, 97, 114], [115, 105, 110, 103, 108, 101], [112], [110, 112], [99], [117], [99, 117, 115, 117, 109], [101, 119, 109, 97]]
def fieldW : List (List UInt8) := [[115, 105, 122, 101], [108, 111, 119], [104, 105, 103, 104], [98, 97, 115, 101], [99, 97, 112], [116, 97, 114, 103, 101, 116], [115, 116, 101, 112], [98, 111, 117, 110, 100], [119, 101, 105, 103, 104, 116], [115, 105, 103, 109, 97], [108, 111, 119, 101, 114], [117, 112, 112, 101, 114]]
def chanW : List UInt8 := [99, 104, 97, 110, 110, 101, 108]
def Ch.ch (c : Ch) : Nat := c.chart.toNat
/-- Each field that is needed is within its ends, each that may not be is 0. -/
def fieldsB (c : Ch) : Bool := (List.range 12).all fun k => (!needB c.ch k || withinB c.ch k (c.f k)) && (mayB c.ch k || decide (c.f k = 0))
def chB (c : Ch) : Bool :=
  rightB 1 c.name 0 && (decide (0 ≤ c.chart) && decide (c.chart ≤ 7)) && fieldsB c && (!needB c.ch 1 || decide (c.f 1 < c.f 2)) &&
    ((decide (c.f 10 = 0) && decide (c.f 11 = 0)) || (withinB c.ch 10 (c.f 10) && withinB c.ch 11 (c.f 11) && decide (c.f 10 < c.f 11)))
structure Ch.may (c : Ch) : Prop where
  name : RightN 1 c.name 0
  lo : 0 ≤ c.chart
  hi : c.chart ≤ 7
  need : ∀ k, k < 12 → needB c.ch k = true → withinB c.ch k (c.f k) = true
  zero : ∀ k, k < 12 → mayB c.ch k = false → c.f k = 0
  order : needB c.ch 1 = true → c.f 1 < c.f 2
  ends : (c.f 10 = 0 ∧ c.f 11 = 0) ∨ (withinB c.ch 10 (c.f 10) = true ∧ withinB c.ch 11 (c.f 11) = true ∧ c.f 10 < c.f 11)
theorem chB_iff (c : Ch) : chB c = true ↔ c.may := by
  unfold chB fieldsB rightB
  simp only [Bool.and_eq_true, Bool.or_eq_true, List.all_eq_true, List.mem_range, decide_eq_true_eq, Bool.not_eq_true']
  constructor
  · rintro ⟨⟨⟨⟨h1, h2, h3⟩, h4⟩, h5⟩, h6⟩
    refine ⟨h1, h2, h3, fun k hk hn => ?_, fun k hk hm => ?_, fun hn => ?_, ?_⟩
    · rcases (h4 k hk).1 with c | c
      · rw [hn] at c; cases c
      · exact c
    · rcases (h4 k hk).2 with c | c
      · rw [hm] at c; cases c
      · exact c
    · rcases h5 with c | c
      · rw [hn] at c; cases c
      · exact c
    · rcases h6 with c | ⟨⟨c, d⟩, e⟩
      · exact Or.inl c
      · exact Or.inr ⟨c, d, e⟩
  · rintro ⟨h1, h2, h3, h4, h5, h6, h7⟩
    refine ⟨⟨⟨⟨h1, h2, h3⟩, fun k hk => ⟨?_, ?_⟩⟩, ?_⟩, ?_⟩
    · cases e : needB c.ch k
      · exact Or.inl rfl
      · exact Or.inr (h4 k hk e)
    · cases e : mayB c.ch k
      · exact Or.inr (h5 k hk e)
      · exact Or.inl rfl
    · cases e : needB c.ch 1
      · exact Or.inl rfl
      · exact Or.inr (h6 e)
    · rcases h7 with c | ⟨c, d, e⟩
      · exact Or.inl c
      · exact Or.inr ⟨⟨c, d⟩, e⟩
def recB (l : List Ch) : Bool := decide (1 ≤ l.length) && decide (l.length ≤ 4) && l.all chB && decide (l.map Ch.name).Nodup
theorem recB_iff (l : List Ch) : recB l = true ↔ (1 ≤ l.length ∧ l.length ≤ 4) ∧ (∀ c ∈ l, c.may) ∧ (l.map Ch.name).Nodup := by
  unfold recB
  simp only [Bool.and_eq_true, List.all_eq_true, decide_eq_true_eq, chB_iff]
  constructor
  · rintro ⟨⟨⟨h1, h2⟩, h3⟩, h4⟩; exact ⟨⟨h1, h2⟩, h3, h4⟩
  · rintro ⟨⟨h1, h2⟩, h3, h4⟩; exact ⟨⟨⟨h1, h2⟩, h3⟩, h4⟩

/-! ### Tokens, read -/
def hd (l : List Tok) : Tok := l.headD tok0
/-- A token's word; a text that is no word, if it is none. -/
def wordT (t : Tok) : List UInt8 := if t.kind = 1 then t.text else [63]
def findW (l : List (List UInt8)) (s : List UInt8) : Option Nat := l.findIdx? (· == s)
def Ch.set (c : Ch) (k : Nat) (v : Int) : Ch := ⟨c.name, c.chart, fun j => if j = k then v else c.f j⟩
def put (met : Nat → Bool) (k : Nat) : Nat → Bool := fun j => decide (j = k) || met j
/-- At a channel's end. -/
def closeS (l : List Tok) (c : Ch) (met : Nat → Bool) : Except (List Tok × Int) (Ch × List Tok) :=
  if ((List.range 10).any fun k => needB c.ch k && !met k) = true then .error (l, 10)
  else if met 10 ≠ met 11 then .error (l, 10)
  else if ((needB c.ch 1 && decide (c.f 2 ≤ c.f 1)) || (met 10 && decide (c.f 11 ≤ c.f 10))) = true then .error (l, 3)
  else .ok (c, l.drop 1)
def fieldsS : Nat → List Tok → Ch → (Nat → Bool) → Except (List Tok × Int) (Ch × List Tok)
  | 0, l, _, _ => .error (l, 8)
  | n + 1, l, c, met =>
    if (hd l).kind = 4 then closeS l c met
    else match findW fieldW (wordT (hd l)) with
      | none => .error (l, 8)
      | some k =>
        if mayB c.ch k = false then .error (l, 8)
        else if met k = true then .error (l, 9)
        else if (hd (l.drop 1)).kind ≠ 2 then .error (l.drop 1, 8)
        else if withinB c.ch k (hd (l.drop 1)).num = false then .error (l.drop 1, 3)
        else if (hd (l.drop 2)).kind ≠ 5 then .error (l.drop 2, 8)
        else fieldsS n (l.drop 3) (c.set k (hd (l.drop 1)).num) (put met k)
def chan0 (name : List UInt8) (n : Nat) : Ch := ⟨name, (n : Int), fun _ => 0⟩
def channelS (l : List Tok) (ahead : List Ch) : Except (List Tok × Int) (Ch × List Tok) :=
  if wordT (hd l) ≠ chanW then .error (l, 8)
  else if ahead.length = 4 then .error (l, 2)
  else if (hd (l.drop 1)).kind ≠ 1 then .error (l.drop 1, 8)
  else if (hd (l.drop 1)).text ∈ ahead.map Ch.name then .error (l.drop 1, 9)
  else match findW chartW (wordT (hd (l.drop 2))) with
    | none => .error (l.drop 2, 8)
    | some n =>
      if (hd (l.drop 3)).kind ≠ 3 then .error (l.drop 3, 8)
      else fieldsS l.length (l.drop 4) (chan0 (hd (l.drop 1)).text n) (fun _ => false)
def parseS : Nat → List Tok → List Ch → Except (List Tok × Int) (List Ch)
  | 0, l, _ => .error (l, 8)
  | n + 1, l, out =>
    if l = [] ∧ out ≠ [] then .ok out
    else match channelS l out with
      | .error e => .error e
      | .ok (c, r) => parseS n r (out ++ [c])
theorem hd_nil : hd [] = tok0 := rfl
theorem hd_cons (t : Tok) (r : List Tok) : hd (t :: r) = t := rfl
theorem hd_drop (l : List Tok) (k : Nat) (h : (hd (l.drop k)).kind ≠ 0) : k < l.length := by
  rcases Nat.lt_or_ge k l.length with c | c
  · exact c
  · rw [List.drop_of_length_le c] at h
    exact absurd rfl h
theorem findW_some {l : List (List UInt8)} {s : List UInt8} {k : Nat} (h : findW l s = some k) : k < l.length ∧ l.getD k [] = s := by
  unfold findW at h
  rw [List.findIdx?_eq_some_iff_getElem] at h
  obtain ⟨hk, h1, -⟩ := h
  refine ⟨hk, ?_⟩
  rw [List.getD_eq_getElem?_getD, List.getElem?_eq_getElem hk]
  exact eq_of_beq h1
theorem field_found : ∀ k, k < 12 → findW fieldW (fieldW.getD k []) = some k := by decide
theorem chart_found : ∀ k, k < 8 → findW chartW (chartW.getD k []) = some k := by decide
theorem none_q : findW fieldW [63] = none := by decide

/-! ### What is read may be -/
theorem need_10 (ch k : Nat) (h : needB ch k = true) : ch < 8 ∧ k < 10 := by
  unfold needB at h
  have h := of_decide_eq_true h
  have h8 : ch < 8 := by
    rcases Nat.lt_or_ge ch 8 with c | c
    · exact c
    · rw [show needT.getD ch [] = [] from by rw [List.getD_eq_getElem?_getD, List.getElem?_eq_none (by exact c)]; rfl] at h
      simp at h
  refine ⟨h8, ?_⟩
  rcases Nat.lt_or_ge k 10 with c | c
  · exact c
  · exfalso
    have key : ∀ a, a < 8 → (needT.getD a []).length = 12 ∧ (needT.getD a []).getD 10 0 = 0 ∧ (needT.getD a []).getD 11 0 = 0 := by decide
    obtain ⟨k1, k2, k3⟩ := key ch h8
    by_cases e : k = 10
    · rw [e, k2] at h; cases h
    by_cases e : k = 11
    · rw [e, k3] at h; cases h
    rw [List.getD_eq_getElem?_getD, List.getElem?_eq_none (by omega)] at h
    cases h
/-- What holds of a channel that is being read. -/
structure Half (c : Ch) (met : Nat → Bool) : Prop where
  yes : ∀ k, met k = true → k < 12 ∧ mayB c.ch k = true ∧ withinB c.ch k (c.f k) = true
  no : ∀ k, met k = false → c.f k = 0
theorem Half.start (name : List UInt8) (n : Nat) : Half (chan0 name n) (fun _ => false) := ⟨(fun _ h => by cases h), fun _ _ => rfl⟩
theorem Half.put {c : Ch} {met : Nat → Bool} (h : Half c met) (k : Nat) (v : Int) (hk : k < 12) (hm : mayB c.ch k = true) (hw : withinB c.ch k v = true) : Half (c.set k v) (put met k) := by
  refine ⟨fun j hj => ?_, fun j hj => ?_⟩
  · by_cases e : j = k
    · subst e
      refine ⟨hk, hm, ?_⟩
      show withinB c.ch j (if j = j then v else c.f j) = true
      rw [if_pos rfl]; exact hw
    · have hj' : met j = true := by
        unfold Go.Proofs.YtdimgomigidbkaaGreatDoor.put at hj
        rwa [decide_eq_false e, Bool.false_or] at hj
      obtain ⟨h1, h2, h3⟩ := h.yes j hj'
      refine ⟨h1, h2, ?_⟩
      show withinB c.ch j (if j = k then v else c.f j) = true
      rw [if_neg e]; exact h3
  · unfold Go.Proofs.YtdimgomigidbkaaGreatDoor.put at hj
    rw [Bool.or_eq_false_iff] at hj
    show (if j = k then v else c.f j) = 0
    rw [if_neg (of_decide_eq_false hj.1)]
    exact h.no j hj.2
theorem close_may {l r : List Tok} {c c' : Ch} {met : Nat → Bool} (h : closeS l c met = .ok (c', r)) (hH : Half c met) (hn : RightN 1 c.name 0) (h0 : 0 ≤ c.chart) (h7 : c.chart ≤ 7) : c' = c ∧ r = l.drop 1 ∧ c.may ∧ c.fin := by
  unfold closeS at h
  by_cases c1 : ((List.range 10).any fun k => needB c.ch k && !met k) = true
  · rw [if_pos c1] at h; cases h
  rw [if_neg c1] at h
  by_cases c2 : met 10 ≠ met 11
  · rw [if_pos c2] at h; cases h
  rw [if_neg c2] at h
  by_cases c3 : ((needB c.ch 1 && decide (c.f 2 ≤ c.f 1)) || (met 10 && decide (c.f 11 ≤ c.f 10))) = true
  · rw [if_pos c3] at h; cases h
  rw [if_neg c3] at h
  simp only [Except.ok.injEq, Prod.mk.injEq] at h
  obtain ⟨rfl, rfl⟩ := h
  have d2 : met 10 = met 11 := Decidable.of_not_not c2
  have c1 := Bool.eq_false_iff.2 c1
  rw [List.any_eq_false] at c1
  have c3 := Bool.eq_false_iff.2 c3
  rw [Bool.or_eq_false_iff] at c3
  have hneed : ∀ k, needB c.ch k = true → met k = true := fun k hk => by
    have := c1 k (List.mem_range.2 (need_10 _ _ hk).2)
    rw [hk, Bool.true_and] at this
    cases e : met k
    · rw [e] at this; exact absurd rfl this
    · rfl
  refine ⟨rfl, rfl, ⟨hn, h0, h7, fun k _ hk => (hH.yes k (hneed k hk)).2.2, fun k _ hk => ?_, fun hk => ?_, ?_⟩, fun k hk => ?_⟩
  · cases e : met k
    · exact hH.no k e
    · rw [(hH.yes k e).2.1] at hk; cases hk
  · have := c3.1
    rw [hk, Bool.true_and] at this
    have := of_decide_eq_false this
    omega
  · cases e : met 10
    · exact Or.inl ⟨hH.no 10 e, hH.no 11 (d2 ▸ e)⟩
    · have := c3.2
      rw [e, Bool.true_and] at this
      have := of_decide_eq_false this
      exact Or.inr ⟨(hH.yes 10 e).2.2, (hH.yes 11 (d2 ▸ e)).2.2, by omega⟩
  · cases e : met k
    · exact hH.no k e
    · have := (hH.yes k e).1
      omega
theorem fields_may : ∀ (n : Nat) (l : List Tok) (c : Ch) (met : Nat → Bool) (c' : Ch) (r : List Tok), fieldsS n l c met = .ok (c', r) → Half c met → RightN 1 c.name 0 → 0 ≤ c.chart → c.chart ≤ 7 →
    c'.may ∧ c'.fin ∧ c'.name = c.name ∧ c'.chart = c.chart ∧ ∃ j, 0 < j ∧ j ≤ l.length ∧ r = l.drop j
  | 0, _, _, _, _, _, h, _, _, _, _ => by cases h
  | n + 1, l, c, met, c', r, h, hH, hn, h0, h7 => by
    unfold fieldsS at h
    by_cases c1 : (hd l).kind = 4
    · rw [if_pos c1] at h
      obtain ⟨rfl, rfl, h1, h2⟩ := close_may h hH hn h0 h7
      have : 0 < l.length := hd_drop l 0 (by rw [List.drop_zero, c1]; decide)
      exact ⟨h1, h2, rfl, rfl, 1, Nat.one_pos, this, rfl⟩
    rw [if_neg c1] at h
    cases e : findW fieldW (wordT (hd l)) with
    | none => rw [e] at h; cases h
    | some k =>
      rw [e] at h
      dsimp only at h
      by_cases c2 : mayB c.ch k = false
      · rw [if_pos c2] at h; cases h
      rw [if_neg c2] at h
      by_cases c3 : met k = true
      · rw [if_pos c3] at h; cases h
      rw [if_neg c3] at h
      by_cases c4 : (hd (l.drop 1)).kind ≠ 2
      · rw [if_pos c4] at h; cases h
      rw [if_neg c4] at h
      by_cases c5 : withinB c.ch k (hd (l.drop 1)).num = false
      · rw [if_pos c5] at h; cases h
      rw [if_neg c5] at h
      by_cases c6 : (hd (l.drop 2)).kind ≠ 5
      · rw [if_pos c6] at h; cases h
      rw [if_neg c6] at h
      have d6 := Decidable.of_not_not c6
      have hl := hd_drop l 2 (by rw [d6]; decide)
      obtain ⟨i1, i2, i3, i4, j, i5, i6, i7⟩ := fields_may n (l.drop 3) _ _ c' r h (hH.put k _ (findW_some e).1 (by simpa using c2) (by simpa using c5)) hn h0 h7
      rw [List.length_drop] at i6
      rw [List.drop_drop] at i7
      exact ⟨i1, i2, i3, i4, 3 + j, by omega, by omega, i7⟩
theorem channel_may {l r : List Tok} {ahead : List Ch} {c : Ch} (h : channelS l ahead = .ok (c, r)) (ht : ∀ t ∈ l, t.right) :
    c.may ∧ c.fin ∧ c.name ∉ ahead.map Ch.name ∧ ahead.length ≠ 4 ∧ ∃ j, 0 < j ∧ j ≤ l.length ∧ r = l.drop j := by
  unfold channelS at h
  by_cases c1 : wordT (hd l) ≠ chanW
  · rw [if_pos c1] at h; cases h
  rw [if_neg c1] at h
  by_cases c2 : ahead.length = 4
  · rw [if_pos c2] at h; cases h
  rw [if_neg c2] at h
  by_cases c3 : (hd (l.drop 1)).kind ≠ 1
  · rw [if_pos c3] at h; cases h
  rw [if_neg c3] at h
  by_cases c4 : (hd (l.drop 1)).text ∈ ahead.map Ch.name
  · rw [if_pos c4] at h; cases h
  rw [if_neg c4] at h
  cases e : findW chartW (wordT (hd (l.drop 2))) with
  | none => rw [e] at h; cases h
  | some n =>
    rw [e] at h
    dsimp only at h
    by_cases c5 : (hd (l.drop 3)).kind ≠ 3
    · rw [if_pos c5] at h; cases h
    rw [if_neg c5] at h
    have d3 := Decidable.of_not_not c3
    have d5 := Decidable.of_not_not c5
    have hl := hd_drop l 3 (by rw [d5]; decide)
    have hl1 : 1 < l.length := by omega
    have hm : hd (l.drop 1) ∈ l := by
      rw [List.drop_eq_getElem_cons hl1]
      exact List.getElem_mem _
    have hr := ht _ hm
    have hname : RightN 1 (hd (l.drop 1)).text 0 := by
      generalize hd (l.drop 1) = t at hr d3
      unfold Tok.right at hr
      rw [d3] at hr
      rcases hr with ⟨-, q1, q2, q3, -⟩ | ⟨q, -⟩ | ⟨q, -⟩
      · exact Or.inl ⟨rfl, q1, q2, q3, rfl⟩
      · exact absurd q (by decide)
      · exact absurd q (by decide)
    have hn8 : n < 8 := (findW_some e).1
    obtain ⟨i1, i2, i3, i4, j, i5, i6, i7⟩ := fields_may _ _ _ _ c r h (Half.start _ _) hname (by show (0 : Int) ≤ (n : Int); omega) (by show (n : Int) ≤ 7; omega)
    rw [List.length_drop] at i6
    rw [List.drop_drop] at i7
    refine ⟨i1, i2, ?_, c2, 4 + j, by omega, by omega, i7⟩
    rw [i3]
    exact c4
theorem parse_may : ∀ (n : Nat) (l : List Tok) (out cs : List Ch), parseS n l out = .ok cs → (∀ t ∈ l, t.right) → out.length ≤ 4 → (∀ c ∈ out, c.may ∧ c.fin) → (out.map Ch.name).Nodup →
    recB cs = true ∧ ∀ c ∈ cs, c.fin
  | 0, _, _, _, h, _, _, _, _ => by cases h
  | n + 1, l, out, cs, h, ht, h4, hm, hd => by
    unfold parseS at h
    by_cases c1 : l = [] ∧ out ≠ []
    · rw [if_pos c1] at h
      cases h
      have : 0 < out.length := List.length_pos_iff.2 c1.2
      exact ⟨(recB_iff out).2 ⟨⟨this, h4⟩, fun c hc => (hm c hc).1, hd⟩, fun c hc => (hm c hc).2⟩
    rw [if_neg c1] at h
    cases e : channelS l out with
    | error x => rw [e] at h; cases h
    | ok x =>
      obtain ⟨c, r⟩ := x
      rw [e] at h
      dsimp only at h
      obtain ⟨i1, i2, i3, i4, j, i5, i6, rfl⟩ := channel_may e ht
      refine parse_may n _ _ cs h (fun t h' => ht t (List.mem_of_mem_drop h')) (by rw [List.length_append]; simp; omega) (fun x hx => ?_) ?_
      · rcases List.mem_append.1 hx with q | q
        · exact hm x q
        · obtain rfl := List.mem_singleton.1 q
          exact ⟨i1, i2⟩
      · rw [List.map_append, List.nodup_append]
        refine ⟨hd, by simp, fun a ha b hb => ?_⟩
        obtain rfl : b = c.name := by simpa using hb
        rintro rfl
        exact i3 ha
end Go.Proofs.YtdimgomigidbkaaGreatDoor
