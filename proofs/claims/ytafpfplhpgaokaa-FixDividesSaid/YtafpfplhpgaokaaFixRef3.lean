/- The reference of stage 4: Divided, MulDiv. -/
import Derived.Test.YtafpfplhpgaokaaFixRD0
import Derived.Test.YtafpfplhpgaokaaFixRD1
import Derived.Test.YtafpfplhpgaokaaFixRD2
namespace Go.Proofs.Ytafpfplhpgaokaa
open Go.RowKit


def belowR (z c : Int) : Bool := !(decide (z < 0) == decide (c < 0)) && !decide (z.natAbs = 0)
def numR (z c : Int) (m : Nat) : Int := sgn (belowR z c) (if away m (belowR z c) (z.natAbs / c.natAbs) (z.natAbs % c.natAbs) c.natAbs then z.natAbs / c.natAbs + 1 else z.natAbs / c.natAbs)
theorem away_zero (m : Nat) (B : Bool) (C : Nat) : away m B 0 0 C = false := by
  unfold away
  split
  · simp
  · simp
  · simp
theorem mul_neg_iff (a b : Int) (h : a * b ≠ 0) : decide (a * b < 0) = (decide (a < 0) != decide (b < 0)) := by
  have ha : a ≠ 0 := fun k => h (by rw [k, Int.zero_mul])
  have hb : b ≠ 0 := fun k => h (by rw [k, Int.mul_zero])
  by_cases h1 : a < 0 <;> by_cases h2 : b < 0
  · rw [decide_eq_true h1, decide_eq_true h2, decide_eq_false (by have := Int.mul_pos_of_neg_of_neg h1 h2; omega)]; rfl
  · rw [decide_eq_true h1, decide_eq_false h2, decide_eq_true (by have := Int.mul_nonpos_of_nonpos_of_nonneg (Int.le_of_lt h1) (by omega : 0 ≤ b); omega)]; rfl
  · rw [decide_eq_false h1, decide_eq_true h2, decide_eq_true (by have := Int.mul_nonpos_of_nonneg_of_nonpos (by omega : 0 ≤ a) (Int.le_of_lt h2); omega)]; rfl
  · rw [decide_eq_false h1, decide_eq_false h2, decide_eq_false (by have := Int.mul_nonneg (by omega : 0 ≤ a) (by omega : 0 ≤ b); omega)]; rfl
theorem numR_md (a b c : Int) (m : Nat) : numR (a * b) c m = md a b c m := by
  unfold numR md mdQ mdR
  rw [Int.natAbs_mul]
  by_cases h : a * b = 0
  · have e : a.natAbs * b.natAbs = 0 := by rw [← Int.natAbs_mul, h]; rfl
    rw [e, Nat.zero_div, Nat.zero_mod, away_zero m _ _, away_zero m _ _]
    simp [sgn_zero]
  · have e : belowR (a * b) c = mdB a b c := by
      unfold belowR mdB
      rw [mul_neg_iff a b h, decide_eq_false (by omega : ¬ (a * b).natAbs = 0)]
      cases decide (a < 0) <;> cases decide (b < 0) <;> cases decide (c < 0) <;> rfl
    rw [e]
theorem tmod_two (q : Nat) : ((lo q : Nat) : Int).tmod 2 = ((lo q : Nat) : Int) % 2 := Int.tmod_eq_emod_of_nonneg (by omega)
theorem lo_odd (q : Nat) : (((lo q : Nat) : Int) % 2 == 1) = decide (q % 2 = 1) := by
  rw [Bool.eq_iff_iff]; unfold lo; simp; omega
theorem dvd_any (m : Nat) (hm : m ≤ 2) (z c : Int) (hz : z.natAbs ≤ 85070591730234615865843651857942052864) (hc : IsInt c) (h0 : c ≠ 0) (w : World) :
    Calls Try.prog 32 #[zS z, .int .i64 c, .int .i64 (m : Nat)] w fun en w' => en = .returned (.tuple #[.int .i64 (ans (numR z c m)), .int .i64 (err (numR z c m))]) ∧ Below w.heap.size w w' := by
  have hn : z.natAbs < M128 := by unfold M128; omega
  have hQ : z.natAbs / c.natAbs ≤ z.natAbs := Nat.div_le_self _ _
  have hR : z.natAbs % c.natAbs < c.natAbs := Nat.mod_lt _ (by omega)
  have hcB := natAbs_lt hc
  have m1 := rsize_any c hc
  have m2 := rdiv_any z.natAbs c.natAbs hn (by unfold M128; omega) (by omega)
  have m3 := ref_add (z.natAbs % c.natAbs) (z.natAbs % c.natAbs) (by unfold M128; omega)
  have m4 := fun w => rless_any c.natAbs (z.natAbs % c.natAbs + z.natAbs % c.natAbs) w
  have m5 := ref_of 1 (by decide)
  have m6 := ref_add (z.natAbs / c.natAbs) 1 (by unfold M128; omega)
  have m7 := fun w => rtold_any (belowR z c) (z.natAbs / c.natAbs) (by omega) w
  have m8 := fun w => rtold_any (belowR z c) (z.natAbs / c.natAbs + 1) (by unfold M128; omega) w
  unfold zS
  cases hA : away m (belowR z c) (z.natAbs / c.natAbs) (z.natAbs % c.natAbs) c.natAbs with
  | true =>
    have e : numR z c m = sgn (belowR z c) (z.natAbs / c.natAbs + 1) := by unfold numR; rw [hA]; rfl
    rw [e]
    rcases (by omega : m = 0 ∨ m = 1 ∨ m = 2) with rfl | rfl | rfl
    · exact rdivd_0_yes c _ _ _ _ _ _ _ _ _ _ _ _ _ w rfl rfl (by rw [ne_zero_D (z.natAbs % c.natAbs)]; exact hA) (eqZero _) (eqZero _) m1 m2 m3 m5 m6 m8
    · exact rdivd_1_yes c _ _ _ _ _ _ _ _ _ _ _ _ _ w rfl rfl (by rw [ne_zero_D (z.natAbs % c.natAbs)]; exact hA) (eqZero _) (eqZero _) m1 m2 m3 m5 m6 m8
    · exact rdivd_2_yes c _ _ _ _ _ _ _ _ _ _ _ _ _ _ _ w rfl rfl hA (eqZero _) (eqWide _ _) (lo_odd _) (by rw [tmod_two, lo_odd]) m1 m2 m3 m4 m5 m6 m8
  | false =>
    have e : numR z c m = sgn (belowR z c) (z.natAbs / c.natAbs) := by unfold numR; rw [hA]; rfl
    rw [e]
    rcases (by omega : m = 0 ∨ m = 1 ∨ m = 2) with rfl | rfl | rfl
    · exact rdivd_0_no c _ _ _ _ _ _ _ _ _ _ _ _ w rfl rfl (by rw [ne_zero_D (z.natAbs % c.natAbs)]; exact hA) (eqZero _) (eqZero _) m1 m2 m3 m7
    · exact rdivd_1_no c _ _ _ _ _ _ _ _ _ _ _ _ w rfl rfl (by rw [ne_zero_D (z.natAbs % c.natAbs)]; exact hA) (eqZero _) (eqZero _) m1 m2 m3 m7
    · exact rdivd_2_no c _ _ _ _ _ _ _ _ _ _ _ _ _ _ w rfl rfl hA (eqZero _) (eqWide _ _) (lo_odd _) (by rw [tmod_two, lo_odd]) m1 m2 m3 m4 m7
theorem rmd_core (a b c m x y k l : Int) (C : Bool) (w : World)
    (m1 : ∀ w, Calls Try.prog 27 #[.int .i64 a, .int .i64 b] w fun en w' => en = .returned (.agg #[.bool C, .int .u64 k, .int .u64 l]) ∧ Below w.heap.size w w')
    (m2 : ∀ w, Calls Try.prog 32 #[.agg #[.bool C, .int .u64 k, .int .u64 l], .int .i64 c, .int .i64 m] w fun en w' => en = .returned (.tuple #[.int .i64 x, .int .i64 y]) ∧ Below w.heap.size w w') :
    Calls Try.prog 16 #[.int .i64 a, .int .i64 b, .int .i64 c, .int .i64 m] w fun en w' => en = .returned (.tuple #[.int .i64 x, .int .i64 y]) ∧ Below w.heap.size w w' := by
  have M1 := Lib.hid m1; have M2 := Lib.hid m2
  clear m1 m2
  go_enter Try.func16, Try.ntmps16
  go_wp2_with fail
  refine (M1.out _).mono ?_
  rintro e w1 ⟨rfl, hb⟩
  have kw : Below w.heap.size w w1 := (Below.refl w.heap.size w).trans (hb.mono (Nat.le_refl _))
  have HW1 := Lib.hid kw
  clear hb kw
  go_wp2_with fail
  refine (M2.out _).mono ?_
  rintro e w2 ⟨rfl, hb⟩
  have kw : Below w.heap.size w w2 := HW1.out.trans (hb.mono HW1.out.size)
  clear HW1
  have HW2 := Lib.hid kw
  clear hb kw
  go_wp2_with fail
  go_ret2
  exact ⟨rfl, HW2.out⟩
theorem refmd_any (m : Nat) (hm : m ≤ 2) (a b c : Int) (ha : IsInt a) (hb : IsInt b) (hc : IsInt c) (h0 : c ≠ 0) (w : World) :
    Calls Try.prog 16 #[.int .i64 a, .int .i64 b, .int .i64 c, .int .i64 (m : Nat)] w fun en w' => en = .returned (.tuple #[.int .i64 (ans (md a b c m)), .int .i64 (err (md a b c m))]) ∧ Below w.heap.size w w' := by
  rw [← numR_md a b c m]
  exact rmd_core a b c _ _ _ _ _ _ w (product_any a b ha hb) (dvd_any m hm (a * b) c (by rw [Int.natAbs_mul]; exact prod_le ha hb) hc h0)
end Go.Proofs.Ytafpfplhpgaokaa
