/- What tally's functions answer, over the code that landed. -/
import Derived.Test.YtgmifimpeefpcaaTalH
import Derived.Test.YtgmifimpeefpcaaTalJ
import Derived.Test.YtgmifimpeefpcaaTalK
namespace Go.Proofs.Ytgmifimpeefpcaa
open Go.RowKit

theorem new_right (k n : Int) : talB ⟨k, n, 0, 0⟩ = sizesB k n := by
  unfold talB sizesB
  apply decide_eq_decide.2
  constructor
  · exact fun h => h.1
  · exact fun h => ⟨h, by show (0 : Int) ≤ 0; omega, by show (0 : Int) ≤ 25; omega, by show (0 : Int) ≤ 0; omega, by show (0 : Int) ≤ 0 * mostT ⟨k, n, 0, 0⟩; omega⟩
theorem tnew_any (k n : Int) (w : World) : Calls Try.prog 7 #[.int .i64 k, .int .i64 n] w fun e w' => e = .returned (.tuple #[talV (tnewA k n), .int .i64 (tnewE k n)]) ∧ Below w.heap.size w w' := by
  have MR := fun W => tright_any ⟨k, n, 0, 0⟩ W
  rw [new_right] at MR
  unfold tnewA tnewE
  cases h : sizesB k n with
  | true => rw [h] at MR; exact tnew_1 k n w MR
  | false => rw [h] at MR; exact tnew_0 k n w MR
theorem ttake_any (t : Tal) (d : Int) (w : World) : Calls Try.prog 8 #[talV t, .int .i64 d] w fun e w' => e = .returned (.tuple #[talV (ttakA t d), .int .i64 (ttakE t d)]) ∧ Below w.heap.size w w' := by
  have MR := fun W => tright_any t W
  unfold ttakA ttakE
  by_cases h0 : talOk t
  rotate_left
  · rw [show talB t = false from decide_eq_false h0] at MR ⊢
    exact ttake_0 _ _ _ _ d w MR
  rw [show talB t = true from decide_eq_true h0] at MR ⊢
  have MC := fun W => isc_any t h0.1.1 d W
  cases h1 : cntB t d with
  | false => rw [h1] at MC; exact ttake_1 _ _ _ _ d w MR MC
  | true =>
    rw [h1] at MC
    by_cases h2 : t.m = 25
    · rw [Bool.and_self, if_pos rfl, if_pos h2]
      exact ttake_2 _ _ _ _ d w MR MC (beq_iff_eq.2 h2)
    · rw [Bool.and_self, if_pos rfl, if_neg h2]
      have hs := tsum_bounds h0
      have hc := tcnt_bounds h0 h1
      have hm := h0.2
      exact ttake_3 _ _ _ _ d _ _ w MR MC (beq_false_of_ne h2) (wrapJ6 (by omega)) (wrapJ6 (by omega))
theorem mul16_at (X Y : Nat) (hX : X < 18446744073709551616) (hY : Y < 18446744073709551616) (W : World) :
    Calls Try.prog 29 #[.int .u64 (X : Nat), .int .u64 (Y : Nat)] W fun e w' => e = .returned (.agg #[.int .u64 (hi (X * Y) : Nat), .int .u64 (lo (X * Y) : Nat)]) ∧ Below W.heap.size W w' :=
  (mul_any X Y (by unfold B64; omega) (by unfold B64; omega) W).mono fun _ _ ⟨h1, h2⟩ => ⟨h1, h2 ▸ (Below.refl _ _).alloc (Nat.le_refl _) _⟩
set_option maxRecDepth 100000 in
theorem tpoint_any (t : Tal) (d : Int) (w : World) : Calls Try.prog 15 #[talV t, .int .i64 d] w fun e w' => e = .returned (.tuple #[pntV (tpoiA t d), .int .i64 (tpoiE t d)]) ∧ Below w.heap.size w w' := by
  have MR := fun W => tright_any t W
  unfold tpoiA tpoiE
  by_cases h0 : talOk t
  rotate_left
  · rw [show talB t = false from decide_eq_false h0] at MR ⊢
    rw [Bool.false_and, if_neg (show ¬ false = true by decide), if_neg (show ¬ (1 : Int) = 0 by decide)]
    exact tpoint_0 _ _ _ _ d w MR
  rw [show talB t = true from decide_eq_true h0] at MR ⊢
  have MC := fun W => isc_any t h0.1.1 d W
  cases h1 : cntB t d with
  | false =>
    rw [h1] at MC
    rw [Bool.and_false, if_neg (show ¬ false = true by decide), if_neg (show ¬ (1 : Int) = 0 by decide)]
    exact tpoint_1 _ _ _ _ d w MR MC
  | true =>
    rw [h1] at MC
    by_cases h2 : t.m = 0
    · rw [Bool.and_self, if_pos rfl, if_pos h2, if_neg (show ¬ (12 : Int) = 0 by decide)]
      exact tpoint_2 _ _ _ _ d w MR MC (beq_iff_eq.2 h2)
    rw [Bool.and_self, if_pos rfl, if_neg h2, if_pos rfl]
    have g := beq_false_of_ne h2
    obtain ⟨i, hi⟩ := dFind (k := t.kind) ⟨h0.1.1, h0.1.2.1⟩
    have hs := tsum_bounds h0
    have hc := tcnt_bounds h0 h1
    have hall := tsum_all h0
    have hz := h0.1
    have hm := h0.2
    clear h0 h1 h2
    obtain ⟨kind, size, m, sum⟩ := t
    dsimp only at *
    obtain ⟨hz1, hz2, hz3, hz4, -⟩ := hz
    have b1 := mulB (show -25 ≤ m ∧ m ≤ 25 by omega) (show -1000 ≤ size ∧ size ≤ 1000 by omega)
    have b2 := mulB (show -1000000 ≤ d ∧ d ≤ 1000000 by omega) (show -25 ≤ m ∧ m ≤ 25 by omega)
    have b4 := mulB (show -25000000 ≤ sum ∧ sum ≤ 25000000 by omega) (show -1000 ≤ size ∧ size ≤ 1000 by omega)
    have b5 := mulB (show -1000000 ≤ d ∧ d ≤ 1000000 by omega) b1
    have MU := fun W => units_any kind size m sum (m * size) (wrapJ6 (by omega)) W
    unfold pntT
    dsimp only
    by_cases k : 4 ≤ kind
    · rw [if_pos k]
      rw [if_neg (show ¬ kind = 2 by omega), if_neg (show ¬ kind = 3 by omega)] at hi
      have HK := fun (W : World) (b : Nat) (hb : W.heap[b]? = some (.map dEs 4)) => dLook kind hi W b hb false
      obtain ⟨X, hX⟩ := Int.eq_ofNat_of_zero_le (show 0 ≤ sum by omega)
      obtain ⟨Y, hY⟩ := Int.eq_ofNat_of_zero_le (show 0 ≤ m by omega)
      have hv : (sum * m).toNat = X * Y := by rw [hX, hY, ← Int.natCast_mul, Int.toNat_natCast]
      have MF := fun W => often_core kind size m sum d (m * size) (d * m) (d * m - sum) X Y _ _ W (mul16_at X Y (by omega) (by omega)) MU (wrapJ (by omega)) (wrapJ (by omega)) (by rw [hX]; exact u64_small (by omega)) (by rw [hY]; exact u64_small (by omega))
      dsimp only [pntV]
      rw [hv]
      exact tpoint_5 kind size m sum d _ _ _ _ _ w MR MC draw_at MF HK g
    · rw [if_neg k]
      have hall := hall (by omega)
      have b6 := mulB (show -25000000 ≤ sum ∧ sum ≤ 25000000 by omega) (show -50000 ≤ m * size - sum ∧ m * size - sum ≤ 50000 by omega)
      have b6p : 0 ≤ sum * (m * size - sum) := Int.mul_nonneg (by omega) (by omega)
      have b8 := mulB b1 (show -1000 ≤ size ∧ size ≤ 1000 by omega)
      obtain ⟨X, hX⟩ := Int.eq_ofNat_of_zero_le b6p
      obtain ⟨Y, hY⟩ := Int.eq_ofNat_of_zero_le (show 0 ≤ size by omega)
      have hv : (sum * (m * size - sum) * size).toNat = X * Y := by
        rw [hX]
        have : (X : Int) * size = ((X * Y : Nat) : Int) := by rw [hY, Int.natCast_mul]
        rw [this, Int.toNat_natCast]
      have MH := fun W => many_core kind size m sum d (m * size) (sum * size) (d * (m * size)) (d * (m * size) - sum * size) (m * size - sum) (sum * (m * size - sum)) X Y _ _ W (mul16_at X Y (by omega) (by omega)) MU (wrapJ (by omega)) (wrapJ (by omega)) (wrapJ (by omega)) (wrapJ (by omega)) (wrapJ (by omega)) (by rw [hX]; exact u64_small (by omega)) (by rw [show IntKind.u64.wrap size = IntKind.u64.wrap (Y : Int) by rw [hY]]; exact u64_small (by omega))
      by_cases k2 : kind = 2
      · rw [if_pos k2]
        rw [if_pos k2] at hi
        have HK := fun (W : World) (b : Nat) (hb : W.heap[b]? = some (.map dEs 4)) => dLook kind hi W b hb false
        have MF := fun W => share_core kind size m sum d (m * size) _ _ (m * size * size) _ _ W MH (wrapJ6 (by omega))
        dsimp only [pntV]
        rw [hv]
        exact tpoint_3 kind size m sum d _ _ _ _ _ w MR MC draw_at MF HK g
      · rw [if_neg k2]
        rw [if_neg k2, if_pos (show kind = 3 by omega)] at hi
        have HK := fun (W : World) (b : Nat) (hb : W.heap[b]? = some (.map dEs 4)) => dLook kind hi W b hb false
        dsimp only [pntV]
        rw [hv]
        exact tpoint_4 kind size m sum d _ _ _ _ _ w MR MC draw_at MH HK g
theorem tal_code : TalCode where
  right t _ W := tright_any t W
  new k n _ _ W := tnew_any k n W
  take t _ d _ W := ttake_any t d W
  point t _ d _ W := tpoint_any t d W
end Go.Proofs.Ytgmifimpeefpcaa
