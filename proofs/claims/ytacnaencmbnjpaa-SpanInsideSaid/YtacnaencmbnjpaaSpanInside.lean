/- The law SpanInside: the numbers of its walk. -/
import Derived.Test.YtacnaencmbnjpaaSpanInside0
import Derived.Test.YtacnaencmbnjpaaSpanRoot
namespace Go.Proofs.Ytacnaencmbnjpaa
open Go.RowKit

/-- A span within another one's, both found by whether both ends are ints. -/
theorem inn_case {l h l' h' : Int} (h1 : l' ≤ l) (h2 : l ≤ h) (h3 : h ≤ h') : Inn (rLo l h) (rHi l h) (rErr l h) (rLo l' h') (rHi l' h') (rErr l' h') := by
  by_cases k : IsInt l' ∧ IsInt h'
  · have k2 : IsInt l ∧ IsInt h := ⟨isInt_between k h1 (by omega), isInt_between k (by omega) h3⟩
    rw [rLo_ok k, rHi_ok k, rErr_ok k, rLo_ok k2, rHi_ok k2, rErr_ok k2]
    exact .inr ⟨rfl, h1, h3⟩
  · rw [rErr_no k]
    exact .inl (by decide)
theorem min4_ge {m p q r s : Int} (h1 : m ≤ p) (h2 : m ≤ q) (h3 : m ≤ r) (h4 : m ≤ s) : m ≤ min4 p q r s := by unfold min4; omega
theorem max4_le {m p q r s : Int} (h1 : p ≤ m) (h2 : q ≤ m) (h3 : r ≤ m) (h4 : s ≤ m) : max4 p q r s ≤ m := by unfold max4; omega
theorem sinside_walk (a b c d e f : Int) (ha : IsInt a) (hb : IsInt b) (hc : IsInt c) (hd : IsInt d) (he : IsInt e) (hf : IsInt f) (w : World) :
    Calls Try.prog 7 #[.int .i64 a, .int .i64 b, .int .i64 c, .int .i64 d, .int .i64 e, .int .i64 f] w fun en w' => en = .returned (.bool true) ∧ Below w.heap.size w w' := by
  obtain ⟨p, x, q, ip, ix, iq, h1, h2, m1⟩ := some_any a b c ha hb hc
  obtain ⟨r, y, s, ir, iy, is, h3, h4, m2⟩ := some_any d e f hd he hf
  have hr : p ≤ q ∧ r ≤ s := by omega
  have hi : x ≤ q ∧ r ≤ y := ⟨h2, h3⟩
  have iA := fun w => sadd_any x q r y ix iq ir iy w
  have iS := fun w => ssub_any x q r y ix iq ir iy w
  have iU := fun w => smul_any x q r y ix iq ir iy w
  have oA := fun w => sadd_any p q r s ip iq ir is w
  have oS := fun w => ssub_any p q r s ip iq ir is w
  have oU := fun w => smul_any p q r s ip iq ir is w
  rw [oLo_r hi, oHi_r hi, oErr_r hi] at iA iS iU
  rw [oLo_r hr, oHi_r hr, oErr_r hr] at oA oS oU
  have nA : Inn _ _ _ _ _ _ := inn_case (show p + r ≤ x + r by omega) (show x + r ≤ q + y by omega) (show q + y ≤ q + s by omega)
  have nS : Inn _ _ _ _ _ _ := inn_case (show p - s ≤ x - y by omega) (show x - y ≤ q - r by omega) (show q - r ≤ q - r by omega)
  have c1 := prod_between (x := x) (y := r) h1 h2 (Int.le_refl r) hr.2
  have c2 := prod_between (x := x) (y := y) h1 h2 h3 h4
  have c3 := prod_between (x := q) (y := r) hr.1 (Int.le_refl q) (Int.le_refl r) hr.2
  have c4 := prod_between (x := q) (y := y) hr.1 (Int.le_refl q) h3 h4
  have nU : Inn _ _ _ _ _ _ := inn_case (show pLo p q r s ≤ pLo x q r y from min4_ge c1.1 c2.1 c3.1 c4.1) (show pLo x q r y ≤ pHi x q r y from Int.le_trans (min4_le _ _ _ _).1 (le_max4 _ _ _ _).1) (show pHi x q r y ≤ pHi p q r s from max4_le c1.2 c2.2 c3.2 c4.2)
  have D : ∃ D0 D1 De D2 D3 Df : Int, (∀ w, Calls Try.prog 20 #[.agg #[.int .i64 x, .int .i64 q], .agg #[.int .i64 r, .int .i64 y]] w fun en w' => en = .returned (.tuple #[.agg #[.int .i64 D0, .int .i64 D1], .int .i64 De]) ∧ Below w.heap.size w w') ∧ (∀ w, Calls Try.prog 20 #[.agg #[.int .i64 p, .int .i64 q], .agg #[.int .i64 r, .int .i64 s]] w fun en w' => en = .returned (.tuple #[.agg #[.int .i64 D2, .int .i64 D3], .int .i64 Df]) ∧ Below w.heap.size w w') ∧ Inn D0 D1 De D2 D3 Df := by
    by_cases h0 : r ≤ 0 ∧ 0 ≤ s
    · have o := fun w => sdiv_by0 p q r s hr.1 h0 w
      by_cases h5 : r ≤ 0 ∧ 0 ≤ y
      · exact ⟨_, _, _, _, _, _, fun w => sdiv_by0 x q r y h2 h5 w, o, .inl (by decide)⟩
      · exact ⟨_, _, _, _, _, _, fun w => sdiv_any x q r y ix iq ir iy h5 w, o, .inl (by decide)⟩
    · have h5 : ¬ (r ≤ 0 ∧ 0 ≤ y) := by omega
      have i := fun w => sdiv_any x q r y ix iq ir iy h5 w
      have o := fun w => sdiv_any p q r s ip iq ir is h0 w
      rw [oLo_r hi, oHi_r hi, oErr_r hi] at i
      rw [oLo_r hr, oHi_r hr, oErr_r hr] at o
      have c1 := quot_between (x := x) (y := r) h1 h2 (Int.le_refl r) hr.2 h0
      have c2 := quot_between (x := x) (y := y) h1 h2 h3 h4 h0
      have c3 := quot_between (x := q) (y := r) hr.1 (Int.le_refl q) (Int.le_refl r) hr.2 h0
      have c4 := quot_between (x := q) (y := y) hr.1 (Int.le_refl q) h3 h4 h0
      refine ⟨_, _, _, _, _, _, i, o, inn_case (show qLo p q r s ≤ qLo x q r y from min4_ge c1.1 c2.1 c3.1 c4.1) (show qLo x q r y ≤ qHi x q r y from ?_) (show qHi x q r y ≤ qHi p q r s from max4_le c1.2 c2.2 c3.2 c4.2)⟩
      exact Int.le_trans (Int.le_trans (min4_le _ _ _ _).1 (dn_le_up _ _)) (le_max4 _ _ _ _).1
  have R : ∃ D0 D1 De D2 D3 Df : Int, (∀ w, Calls Try.prog 21 #[.agg #[.int .i64 x, .int .i64 q]] w fun en w' => en = .returned (.tuple #[.agg #[.int .i64 D0, .int .i64 D1], .int .i64 De]) ∧ Below w.heap.size w w') ∧ (∀ w, Calls Try.prog 21 #[.agg #[.int .i64 p, .int .i64 q]] w fun en w' => en = .returned (.tuple #[.agg #[.int .i64 D2, .int .i64 D3], .int .i64 Df]) ∧ Below w.heap.size w w') ∧ Inn D0 D1 De D2 D3 Df := by
    obtain ⟨rq, kq⟩ := IsRoot.is q.toNat
    obtain ⟨rp, kp⟩ := IsRoot.is p.toNat
    obtain ⟨rx, kx⟩ := IsRoot.is x.toNat
    by_cases h0 : p < 0
    · have o := fun w => sroot_low p q hr.1 h0 w
      by_cases h5 : x < 0
      · exact ⟨_, _, _, _, _, _, fun w => sroot_low x q h2 h5 w, o, .inl (by decide)⟩
      · exact ⟨_, _, _, _, _, _, fun w => sroot_any x q ix iq h2 (by omega) rx rq kx kq w, o, .inl (by decide)⟩
    · have hm := kp.mono kx (by omega)
      exact ⟨_, _, _, _, _, _, fun w => sroot_any x q ix iq h2 (by omega) rx rq kx kq w, fun w => sroot_any p q ip iq hr.1 (by omega) rp rq kp kq w, .inr ⟨rfl, by omega, Int.le_refl _⟩⟩
  obtain ⟨D0, D1, De, D2, D3, Df, iD, oD, nD⟩ := D
  obtain ⟨R0, R1, Re, R2, R3, Rf, iR, oR, nR⟩ := R
  exact sinside_core a b c d e f p x q r y s _ _ _ _ _ _ _ _ _ _ _ _ _ _ _ _ _ _ _ _ _ _ _ _ _ _ _ _ _ _ w m1 m2 iA oA iS oS iU oU iD oD iR oR (within_any _ _ _ _ _ _ nA) (within_any _ _ _ _ _ _ nS) (within_any _ _ _ _ _ _ nU) (within_any _ _ _ _ _ _ nD) (within_any _ _ _ _ _ _ nR)
end Go.Proofs.Ytacnaencmbnjpaa
