/- Numbers of stage 4: ints, what is told of a number that is an int or not, a number by its sign and size, a product that is divided and rounded by a mode. -/
import Derived.Test.YtacnaencmbnjpaaNum3
namespace Go.Proofs.Ytacnaencmbnjpaa

/-- A number that is an int. -/
def IsInt (z : Int) : Prop := -9223372036854775808 ≤ z ∧ z ≤ 9223372036854775807
instance (z : Int) : Decidable (IsInt z) := by unfold IsInt; infer_instance
/-- The number itself if it is an int, else 0; and OK, or ErrOver. -/
def ans (z : Int) : Int := if IsInt z then z else 0
def err (z : Int) : Int := if IsInt z then 0 else 5
theorem ans_ok {z : Int} (h : IsInt z) : ans z = z := if_pos h
theorem err_ok {z : Int} (h : IsInt z) : err z = 0 := if_pos h
theorem ans_no {z : Int} (h : ¬ IsInt z) : ans z = 0 := if_neg h
theorem err_no {z : Int} (h : ¬ IsInt z) : err z = 5 := if_neg h
theorem err_zero {z : Int} : err z = 0 ↔ IsInt z := by unfold err; split <;> simp_all
theorem isInt_zero : IsInt 0 := by unfold IsInt; omega
theorem ans_int (z : Int) : IsInt (ans z) := by unfold ans; split; assumption; exact isInt_zero
theorem wrap_int {z : Int} (h : IsInt z) : IntKind.i64.wrap z = z := by
  unfold IsInt at h
  simp only [IntKind.wrap, IntKind.signed, IntKind.bits]
  simp
  omega
theorem natAbs_lt {z : Int} (h : IsInt z) : z.natAbs ≤ 9223372036854775808 := by unfold IsInt at h; omega
theorem natAbs_B {z : Int} (h : IsInt z) : z.natAbs < B64 := by have := natAbs_lt h; unfold B64; omega

/-- A number by its sign and size. -/
def sgn (below : Bool) (n : Nat) : Int := if below then -(n : Int) else n
theorem sgn_zero (b : Bool) : sgn b 0 = 0 := by cases b <;> rfl
theorem sgn_not (b : Bool) (n : Nat) : sgn (!b) n = - sgn b n := by cases b <;> simp [sgn]
theorem sgn_mul (x y : Bool) (m n : Nat) : sgn x m * sgn y n = sgn (x != y) (m * n) := by
  cases x <;> cases y <;> simp [sgn, Int.neg_mul, Int.mul_neg]
theorem sgn_abs (z : Int) : sgn (decide (z < 0)) z.natAbs = z := by unfold sgn; split <;> simp_all <;> omega

/-- How often, what is left, the sign, and whether it is rounded away from 0. -/
def mdQ (a b c : Int) : Nat := a.natAbs * b.natAbs / c.natAbs
def mdR (a b c : Int) : Nat := a.natAbs * b.natAbs % c.natAbs
def mdB (a b c : Int) : Bool := (decide (a < 0) != decide (b < 0)) != decide (c < 0)
def away (m : Nat) (below : Bool) (Q R C : Nat) : Bool :=
  match m with
  | 0 => below && decide (R ≠ 0)
  | 1 => !below && decide (R ≠ 0)
  | _ => decide (C < R + R) || (decide (R + R = C) && decide (Q % 2 = 1))
def md (a b c : Int) (m : Nat) : Int := sgn (mdB a b c) (if away m (mdB a b c) (mdQ a b c) (mdR a b c) c.natAbs then mdQ a b c + 1 else mdQ a b c)

theorem prod_le {a b : Int} (ha : IsInt a) (hb : IsInt b) : a.natAbs * b.natAbs ≤ 85070591730234615865843651857942052864 :=
  Nat.mul_le_mul (natAbs_lt ha) (natAbs_lt hb)
theorem prod_fit {a b : Int} (ha : IsInt a) (hb : IsInt b) : a.natAbs * b.natAbs < M128 := by
  have := prod_le ha hb
  unfold M128; omega
theorem mdQ_le {a b : Int} (c : Int) (ha : IsInt a) (hb : IsInt b) : mdQ a b c ≤ 85070591730234615865843651857942052864 :=
  Nat.le_trans (Nat.div_le_self _ _) (prod_le ha hb)
theorem mdR_lt (a b : Int) {c : Int} (hc : c ≠ 0) : mdR a b c < c.natAbs := Nat.mod_lt _ (by omega)

/-- Rounded down and up. -/
theorem md_down_up (a b c : Int) : md a b c 1 = if mdR a b c = 0 then md a b c 0 else md a b c 0 + 1 := by
  unfold md
  generalize mdB a b c = B; generalize mdQ a b c = Q; generalize mdR a b c = R
  by_cases h : R = 0 <;> cases B <;> simp [away, sgn, h] <;> omega
theorem md_near (a b : Int) {c : Int} (hc : c ≠ 0) : md a b c 2 = md a b c 0 ∨ md a b c 2 = md a b c 1 := by
  have hR := mdR_lt a b hc
  unfold md
  generalize mdB a b c = B at *; generalize mdQ a b c = Q at *; generalize mdR a b c = R at *
  generalize c.natAbs = C at *
  by_cases h : R = 0
  · subst h
    have h1 : away 2 B Q 0 C = false := by simp [away]; omega
    left; cases B <;> simp [h1] <;> simp [away]
  · cases hx : away 2 B Q R C <;> cases B <;> simp [away, sgn, h]
theorem md_exact (a b c : Int) : mdR a b c = 0 ↔ a * b = md a b c 0 * c := by
  constructor
  · intro h
    have hq : a.natAbs * b.natAbs = c.natAbs * mdQ a b c := by
      have := Nat.div_add_mod (a.natAbs * b.natAbs) c.natAbs
      unfold mdR at h; unfold mdQ; omega
    have hw : md a b c 0 = sgn (mdB a b c) (mdQ a b c) := by unfold md; simp [away, h]
    rw [hw]
    generalize mdQ a b c = Q at hq
    have e1 : a * b = sgn (decide (a < 0) != decide (b < 0)) (a.natAbs * b.natAbs) := by rw [← sgn_mul, sgn_abs, sgn_abs]
    have e2 : sgn (mdB a b c) Q * c = sgn (mdB a b c != decide (c < 0)) (Q * c.natAbs) := by rw [← sgn_mul, sgn_abs]
    rw [e1, e2, hq, Nat.mul_comm Q]
    unfold mdB
    congr 1
    cases decide (a < 0) <;> cases decide (b < 0) <;> cases decide (c < 0) <;> rfl
  · intro h
    have hd : (a * b).natAbs % c.natAbs = 0 := by
      rw [h, Int.natAbs_mul]; exact Nat.mul_mod_left _ _
    unfold mdR
    rwa [← Int.natAbs_mul]
theorem md_comm (a b c : Int) (m : Nat) : md b a c m = md a b c m := by
  have h1 : mdB b a c = mdB a b c := by unfold mdB; cases decide (a < 0) <;> cases decide (b < 0) <;> rfl
  have h2 : mdQ b a c = mdQ a b c := by unfold mdQ; rw [Nat.mul_comm]
  have h3 : mdR b a c = mdR a b c := by unfold mdR; rw [Nat.mul_comm]
  unfold md; rw [h1, h2, h3]
theorem md_neg (a b c : Int) : md (-a) b c 1 = - md a b c 0 := by
  by_cases h : a = 0
  · subst h
    have h2 : mdQ 0 b c = 0 := by simp [mdQ]
    have h3 : mdR 0 b c = 0 := by simp [mdR]
    unfold md; simp [h2, h3, away, sgn_zero]
  · have h1 : mdB (-a) b c = !(mdB a b c) := by
      unfold mdB
      rcases (by omega : a < 0 ∨ 0 ≤ a) with ha | ha
      · have : ¬ (-a < 0) := by omega
        rw [decide_eq_false this, decide_eq_true ha]; cases decide (b < 0) <;> cases decide (c < 0) <;> rfl
      · have h4 : -a < 0 := by omega
        have h5 : ¬ (a < 0) := by omega
        rw [decide_eq_true h4, decide_eq_false h5]; cases decide (b < 0) <;> cases decide (c < 0) <;> rfl
    have h2 : mdQ (-a) b c = mdQ a b c := by unfold mdQ; rw [Int.natAbs_neg]
    have h3 : mdR (-a) b c = mdR a b c := by unfold mdR; rw [Int.natAbs_neg]
    unfold md; rw [h1, h2, h3, sgn_not]
    congr 2
    cases mdB a b c <;> simp [away]
theorem md_same (b : Int) {c : Int} (hc : c ≠ 0) : md b c c 2 = b := by
  have h1 : mdB b c c = decide (b < 0) := by unfold mdB; cases decide (b < 0) <;> cases decide (c < 0) <;> rfl
  have h2 : mdQ b c c = b.natAbs := Nat.mul_div_cancel _ (by omega)
  have h3 : mdR b c c = 0 := Nat.mul_mod_left _ _
  unfold md; rw [h1, h2, h3]
  have h4 : away 2 (decide (b < 0)) b.natAbs 0 c.natAbs = false := by simp [away]; omega
  rw [h4]; exact sgn_abs b
end Go.Proofs.Ytacnaencmbnjpaa
