/- The law SpanHolds: the numbers of its walk. -/
import Derived.Test.YtacnaencmbnjpaaSpanHolds0
namespace Go.Proofs.Ytacnaencmbnjpaa
open Go.RowKit

/-- A sum, difference or product of two numbers lies in what is done with their spans. -/
theorem holds_case {F : Nat} {x y z lo hi : Int} (hm : ∀ w, Calls Try.prog F #[.int .i64 x, .int .i64 y] w fun en w' => en = .returned (.tuple #[.int .i64 (ans z), .int .i64 (err z)]) ∧ Below w.heap.size w w') (h1 : lo ≤ z) (h2 : z ≤ hi) :
    (rErr lo hi = 0 ∧ (∀ w, Calls Try.prog F #[.int .i64 x, .int .i64 y] w fun en w' => en = .returned (.tuple #[.int .i64 z, .int .i64 0]) ∧ Below w.heap.size w w') ∧ (∀ w, Calls Try.prog 13 #[.agg #[.int .i64 (rLo lo hi), .int .i64 (rHi lo hi)], .int .i64 z] w fun en w' => en = .returned (.bool true) ∧ Below w.heap.size w w')) ∨ (rErr lo hi == 0) = false := by
  by_cases k : IsInt lo ∧ IsInt hi
  · left
    have hz := isInt_between k h1 h2
    rw [ans_ok hz, err_ok hz] at hm
    rw [rLo_ok k, rHi_ok k]
    refine ⟨rErr_ok k, hm, fun w => ?_⟩
    have := has_any lo hi z w
    rwa [decide_eq_true ⟨h1, h2⟩] at this
  · right
    rw [rErr_no k]
    rfl
theorem sholds_walk (a b c d e f : Int) (ha : IsInt a) (hb : IsInt b) (hc : IsInt c) (hd : IsInt d) (he : IsInt e) (hf : IsInt f) (w : World) :
    Calls Try.prog 5 #[.int .i64 a, .int .i64 b, .int .i64 c, .int .i64 d, .int .i64 e, .int .i64 f] w fun en w' => en = .returned (.bool true) ∧ Below w.heap.size w w' := by
  obtain ⟨p, x, q, ip, ix, iq, h1, h2, m1⟩ := some_any a b c ha hb hc
  obtain ⟨r, y, s, ir, iy, is, h3, h4, m2⟩ := some_any d e f hd he hf
  have hr : p ≤ q ∧ r ≤ s := by omega
  have m3 := fun w => right_any p q w
  have m4 := fun w => has_any p q x w
  have m5 := fun w => has_any r s y w
  rw [decide_eq_true hr.1] at m3
  rw [decide_eq_true ⟨h1, h2⟩] at m4
  rw [decide_eq_true ⟨h3, h4⟩] at m5
  have oA := fun w => sadd_any p q r s ip iq ir is w
  have oS := fun w => ssub_any p q r s ip iq ir is w
  have oU := fun w => smul_any p q r s ip iq ir is w
  rw [oLo_r hr, oHi_r hr, oErr_r hr] at oA oS oU
  have hp := prod_between h1 h2 h3 h4
  refine sholds_core a b c d e f p x q r y s _ _ _ _ _ _ _ _ _ _ _ _ (if r ≤ 0 ∧ 0 ≤ s then 0 else rLo (qLo p q r s) (qHi p q r s)) (if r ≤ 0 ∧ 0 ≤ s then 0 else rHi (qLo p q r s) (qHi p q r s)) (if r ≤ 0 ∧ 0 ≤ s then 4 else rErr (qLo p q r s) (qHi p q r s)) (dn x y) (up' x y) w m1 m2 m3 m4 m5 oA (holds_case (fadd_any x y ix iy) (by omega) (by omega)) oS (holds_case (fsub_any x y ix iy) (by omega) (by omega)) oU (holds_case (fmul_any x y ix iy) hp.1 hp.2) ?_ ?_
  · by_cases h0 : r ≤ 0 ∧ 0 ≤ s
    · rw [if_pos h0, if_pos h0, if_pos h0]
      exact sdiv_by0 p q r s hr.1 h0
    · rw [if_neg h0, if_neg h0, if_neg h0]
      have := fun w => sdiv_any p q r s ip iq ir is h0 w
      rwa [oLo_r hr, oHi_r hr, oErr_r hr] at this
  · have hz := fun w => has_any r s 0 w
    by_cases h0 : r ≤ 0 ∧ 0 ≤ s
    · rw [if_pos h0, if_pos h0, if_pos h0]
      rw [decide_eq_true h0] at hz
      exact .inr (.inl ⟨rfl, rfl, rfl, hz⟩)
    · rw [if_neg h0, if_neg h0, if_neg h0]
      rw [decide_eq_false h0] at hz
      have hq := quot_between h1 h2 h3 h4 h0
      have hdu := dn_le_up x y
      have y0 : y ≠ 0 := by omega
      by_cases k : IsInt (qLo p q r s) ∧ IsInt (qHi p q r s)
      · left
        have i1 := isInt_between k hq.1 (by omega)
        have i2 := isInt_between k (by omega) hq.2
        have d1 := fun w => muldiv_any 0 (by decide) x 1 y ix (by decide) iy y0 w
        have d2 := fun w => muldiv_any 1 (by decide) x 1 y ix (by decide) iy y0 w
        change ∀ w, Calls Try.prog 29 _ w fun en w' => en = .returned (.tuple #[.int .i64 (ans (dn x y)), .int .i64 (err (dn x y))]) ∧ Below w.heap.size w w' at d1
        change ∀ w, Calls Try.prog 29 _ w fun en w' => en = .returned (.tuple #[.int .i64 (ans (up' x y)), .int .i64 (err (up' x y))]) ∧ Below w.heap.size w w' at d2
        rw [ans_ok i1, err_ok i1] at d1
        rw [ans_ok i2, err_ok i2] at d2
        rw [rLo_ok k, rHi_ok k]
        refine ⟨rErr_ok k, d1, d2, fun w => ?_, fun w => ?_⟩
        · have := has_any (qLo p q r s) (qHi p q r s) (dn x y) w
          rwa [decide_eq_true ⟨hq.1, by omega⟩] at this
        · have := has_any (qLo p q r s) (qHi p q r s) (up' x y) w
          rwa [decide_eq_true ⟨by omega, hq.2⟩] at this
      · exact .inr (.inr ⟨rErr_no k, rLo_no k, rHi_no k, hz⟩)
end Go.Proofs.Ytacnaencmbnjpaa
