/- What base's functions answer, over the code that landed. -/
import Derived.Test.YtfafkdbflmennaaBasS
import Derived.Test.YtfafkdbflmennaaBasT
namespace Go.Proofs.Ytfafkdbflmennaa
open Go.RowKit

theorem pos_mul {a b : Int} (ha : 0 ≤ a) (hb : 0 ≤ b) : 0 ≤ a * b := Int.mul_nonneg ha hb
theorem mulB_at (N : Nat) (hN : (N : Int) ≤ 9000000000000000000) (W : World) :
    Calls Try.prog 29 #[.int .u64 (N : Nat), .int .u64 (N : Nat)] W fun e w' => e = .returned (.agg #[.int .u64 (hi (N * N) : Nat), .int .u64 (lo (N * N) : Nat)]) ∧ Below W.heap.size W w' :=
  (mul_any N N (by unfold B64; omega) (by unfold B64; omega) W).mono fun _ _ ⟨h1, h2⟩ => ⟨h1, h2 ▸ (Below.refl _ _).alloc (Nat.le_refl _) _⟩
set_option maxRecDepth 100000 in
theorem bpoint_any (b : Bas) (hI : basI b) (s : Int) (w : World) :
    Calls Try.prog 15 #[basV b, .int .i64 s] w fun e w' => e = .returned (.tuple #[pntV (poiA b s), .int .i64 (poiE b s)]) ∧ Below w.heap.size w w' := by
  have MR := fun W => bright_any b hI W
  by_cases h0 : basOk b
  · have hB : basB b = true := decide_eq_true h0
    rw [hB] at MR
    have hz := h0.1
    have MN := fun W => below_of (near_any s b.size (by omega) W)
    have hnear : nearB s b.size = sumB b s := by
      unfold nearB sumB
      apply decide_eq_decide.2
      omega
    rw [hnear] at MN
    cases h1 : sumB b s with
    | false =>
      rw [h1] at MN
      have e : poiE b s = 1 := by unfold poiE; rw [h1, Bool.and_false]; rfl
      unfold poiA
      rw [e, if_neg (by decide)]
      exact point15_1 _ _ _ _ _ s w MR MN
    | true =>
      rw [h1] at MN
      by_cases h2 : b.m < 2
      · have e : poiE b s = 12 := by unfold poiE; rw [h1, hB]; exact if_pos h2
        unfold poiA
        rw [e, if_neg (by decide)]
        exact point15_2 _ _ _ _ _ s w MR MN h2
      · have e : poiE b s = 0 := by unfold poiE; rw [h1, hB]; exact if_neg h2
        unfold poiA
        rw [e, if_pos rfl]
        have hs2 := of_decide_eq_true h1
        have hu := sum_bounds h0
        have hst := stp_bounds h0
        have hrng := h0.2.2
        have hs3 : -10000000 ≤ s ∧ s ≤ 10000000 := by omega
        have hsm := mulB hs3 (show -25 ≤ b.m ∧ b.m ≤ 25 by omega)
        have hr : -50000000 ≤ b.rng ∧ b.rng ≤ 50000000 := by omega
        clear e hnear h1 hB
        obtain ⟨size, m, sum, rng, last⟩ := b
        dsimp only at *
        obtain ⟨U, N, T, V, F, hU, hN, hP, MH, MG, hm, he⟩ : ∃ (U : Int) (N : Nat) (T : TypeId) (V : Value) (F : FuncId), (-300000 ≤ U ∧ U ≤ 300000) ∧ (N : Int) ≤ 9000000000000000000 ∧ pntN ⟨size, m, sum, rng, last⟩ s = ⟨U * sum, U * m * size, U * (s * m - sum), N * N⟩ ∧
            (∀ W, Calls Try.prog 25 #[.agg #[.int .i64 size, .int .i64 m, .int .i64 sum, .int .i64 rng, .int .i64 last]] W fun e w' => e = .returned (.iface T V) ∧ Below W.heap.size W w') ∧
            (∀ W, Calls Try.prog F #[V] W fun e w' => e = .returned (.tuple #[.int .i64 U, .int .i64 (N : Nat)]) ∧ Below W.heap.size W w') ∧
            (∀ W, (method 240 T V "datum/base.measure").run Try.prog W = .ok (F, V) W) ∧ (∀ args W, (callFunc F args).run Try.prog W = .ok (.enter F args) W) := by
          by_cases k : size = 1
          · subst k
            have hX0 := mulB (show -250000 ≤ 10000 * m ∧ 10000 * m ≤ 250000 by omega) hr
            have hX1 := pos_mul (show 0 ≤ 10000 * m by omega) (show 0 ≤ rng by omega)
            obtain ⟨N, hN⟩ := Int.eq_ofNat_of_zero_le hX1
            refine ⟨11280 * (m - 1), N, _, _, _, by omega, by omega, ?_, fun W => chartOf_1 m sum rng last W, fun W => ?_, fun W => mth_measure_1 _ W, fun a W => ent_measure_1 a W⟩
            · have e1 : 11280 * m * (m - 1) = 11280 * (m - 1) * m * 1 := by rw [Int.mul_one, Int.mul_assoc, Int.mul_assoc, Int.mul_comm m]
              unfold pntN rootN
              dsimp only
              rw [if_pos rfl, if_pos rfl, hN, Int.natAbs_natCast, e1]
            · rw [← hN]
              exact measure_1 1 m sum rng last 11280 (m - 1) (11280 * (m - 1)) (10000 * m) (10000 * m * rng) W (fun W => width_1 1 m sum rng last W) (fun W => factorOf_any 3 0 2 11280 (by omega) (by omega) (by omega) (by decide) W)
                (fun W => ranges_1 1 m sum rng last (m - 1) (by rw [wrapJ (by omega)]; omega) W) (wrapJ (by omega)) (wrapJ (by omega)) (wrapJ (by omega))
          · have q1 : (size == 1) = false := beq_false_of_ne k
            have hF := fac_row 0 (by omega) (size - 2).toNat (by omega)
            obtain ⟨f, hf⟩ : ∃ f, fac 0 (size - 2).toNat = f := ⟨_, rfl⟩
            rw [hf] at hF
            have b5 := mulB (show -32670 ≤ f ∧ f ≤ 32670 by omega) hr
            have b6 := mulB b5 (show -10 ≤ size ∧ size ≤ 10 by omega)
            have hX1 := pos_mul (pos_mul hF.1 (show 0 ≤ rng by omega)) (show 0 ≤ size by omega)
            obtain ⟨N, hN⟩ := Int.eq_ofNat_of_zero_le hX1
            refine ⟨30000, N, _, _, _, by omega, by omega, ?_, fun W => chartOf_2 size m sum rng last q1 W, fun W => ?_, fun W => mth_measure_2 _ W, fun a W => ent_measure_2 a W⟩
            · unfold pntN rootN
              dsimp only
              rw [if_neg k, if_neg k, hf, hN, Int.natAbs_natCast]
            · rw [← hN]
              exact measure_2 size m sum rng last f (f * rng) (f * rng * size) W (fun W => factorOf_any 0 (size - 2).toNat size f (by omega) (by omega) (by omega) hf.symm W) (wrapJ (by omega)) (wrapJ (by omega))
        rw [hP]
        have b1 := mulB hU hu
        have b2 := mulB hU (show -25 ≤ m ∧ m ≤ 25 by omega)
        have b3 := mulB b2 (show -10 ≤ size ∧ size ≤ 10 by omega)
        have b4 := mulB hU (show -500000000 ≤ s * m - sum ∧ s * m - sum ≤ 500000000 by omega)
        exact point15_3 size m sum rng last s U _ (U * m) _ (s * m) (s * m - sum) _ N (N * N) w T V F MR MN MH MG (fun W => mulB_at N hN W) h2 (wrapJ (by omega)) (wrapJ (by omega)) (wrapJ (by omega)) (wrapJ (by omega)) (wrapJ (by omega)) (wrapJ (by omega)) (by show (IntKind.u64.wrap (N : Int)) = _; unfold IntKind.wrap; simp [IntKind.signed, IntKind.bits]; omega) hm he
  · rw [show basB b = false from decide_eq_false h0] at MR
    have e : poiE b s = 1 := by unfold poiE; rw [show basB b = false from decide_eq_false h0, Bool.false_and]; rfl
    unfold poiA
    rw [e, if_neg (by decide)]
    exact point15_0 _ _ _ _ _ s w MR
set_option maxRecDepth 100000 in
theorem bwide_any (b : Bas) (hI : basI b) (r : Int) (w : World) :
    Calls Try.prog 16 #[basV b, .int .i64 r] w fun e w' => e = .returned (.tuple #[.int .i64 (widA b r), .int .i64 (widE b r)]) ∧ Below w.heap.size w w' := by
  have MR := fun W => bright_any b hI W
  by_cases h0 : basOk b
  · have hB : basB b = true := decide_eq_true h0
    rw [hB] at MR
    by_cases h1 : r < 0
    · have e : widE b r = 1 := by unfold widE; rw [decide_eq_false (by omega), Bool.and_false]; rfl
      unfold widA
      rw [e]
      exact wide15_1 _ _ _ _ _ r w MR h1
    by_cases h2 : 2000000 < r
    · have e : widE b r = 1 := by unfold widE; rw [decide_eq_false (by omega), Bool.and_false]; rfl
      unfold widA
      rw [e]
      exact wide15_2 _ _ _ _ _ r w MR h1 h2
    have hr2 : decide (0 ≤ r ∧ r ≤ 2000000) = true := decide_eq_true (by omega)
    by_cases h3 : b.m < 2
    · have e : widE b r = 12 := by unfold widE; rw [hr2, hB]; exact if_pos h3
      unfold widA
      rw [e]
      exact wide15_3 _ _ _ _ _ r w MR h1 h2 h3
    have e : widE b r = 0 := by unfold widE; rw [hr2, hB]; exact if_neg h3
    unfold widA
    rw [e, if_pos rfl]
    have hz := h0.1
    have hst := stp_bounds h0
    have hrng := h0.2.2
    have hr : -50000000 ≤ b.rng ∧ b.rng ≤ 50000000 := by omega
    clear e hB hr2
    obtain ⟨size, m, sum, rng, last⟩ := b
    dsimp only at *
    obtain ⟨T, V, FR, FW, MH, MRR, MW, hm1, he1, hm2, he2, hR, hn⟩ : ∃ (T : TypeId) (V : Value) (FR FW : FuncId),
        (∀ W, Calls Try.prog 25 #[.agg #[.int .i64 size, .int .i64 m, .int .i64 sum, .int .i64 rng, .int .i64 last]] W fun e w' => e = .returned (.iface T V) ∧ Below W.heap.size W w') ∧
        (∀ W, Calls Try.prog FR #[V] W fun e w' => e = .returned (.int .i64 (mWide ⟨size, m, sum, rng, last⟩)) ∧ Below W.heap.size W w') ∧
        (∀ W, Calls Try.prog FW #[V] W fun e w' => e = .returned (.int .i64 (nWide ⟨size, m, sum, rng, last⟩)) ∧ Below W.heap.size W w') ∧
        (∀ W, (method 240 T V "datum/base.ranges").run Try.prog W = .ok (FR, V) W) ∧ (∀ args W, (callFunc FR args).run Try.prog W = .ok (.enter FR args) W) ∧
        (∀ W, (method 240 T V "datum/base.width").run Try.prog W = .ok (FW, V) W) ∧ (∀ args W, (callFunc FW args).run Try.prog W = .ok (.enter FW args) W) ∧
        (0 ≤ mWide ⟨size, m, sum, rng, last⟩ ∧ mWide ⟨size, m, sum, rng, last⟩ ≤ 25) ∧ (2 ≤ nWide ⟨size, m, sum, rng, last⟩ ∧ nWide ⟨size, m, sum, rng, last⟩ ≤ 10) := by
      unfold mWide nWide
      dsimp only
      by_cases k : size = 1
      · subst k
        rw [if_pos rfl, if_pos rfl]
        exact ⟨_, _, _, _, fun W => chartOf_1 m sum rng last W, fun W => ranges_1 1 m sum rng last (m - 1) (by rw [wrapJ (by omega)]; omega) W, fun W => width_1 1 m sum rng last W, fun W => mth_ranges_1 _ W, fun a W => ent_ranges_1 a W, fun W => mth_width_1 _ W, fun a W => ent_width_1 a W, by omega, by omega⟩
      · rw [if_neg k, if_neg k]
        exact ⟨_, _, _, _, fun W => chartOf_2 size m sum rng last (beq_false_of_ne k) W, fun W => ranges_2 size m sum rng last W, fun W => width_2 size m sum rng last W, fun W => mth_ranges_2 _ W, fun a W => ent_ranges_2 a W, fun W => mth_width_2 _ W, fun a W => ent_width_2 a W, by omega, by omega⟩
    unfold wideN
    dsimp only
    obtain ⟨R, hRR⟩ : ∃ R, mWide ⟨size, m, sum, rng, last⟩ = R := ⟨_, rfl⟩
    obtain ⟨n, hnn⟩ : ∃ n, nWide ⟨size, m, sum, rng, last⟩ = n := ⟨_, rfl⟩
    rw [hRR] at MRR hR
    rw [hnn] at MW hn
    rw [hRR, hnn]
    have hF4 := fac_row 2 (by omega) (n - 2).toNat (by omega)
    have hF3 := fac_row 1 (by omega) (n - 2).toNat (by omega)
    obtain ⟨f4, hf4⟩ : ∃ f, fac 2 (n - 2).toNat = f := ⟨_, rfl⟩
    obtain ⟨f3, hf3⟩ : ∃ f, fac 1 (n - 2).toNat = f := ⟨_, rfl⟩
    rw [hf4] at hF4
    rw [hf3] at hF3
    rw [hf4, hf3]
    have M4 := fun W => factorOf_any 2 (n - 2).toNat n f4 (by omega) (by omega) (by omega) hf4.symm W
    have M3 := fun W => factorOf_any 1 (n - 2).toNat n f3 (by omega) (by omega) (by omega) hf3.symm W
    have b4 := mulB (show -32670 ≤ f4 ∧ f4 ≤ 32670 by omega) hr
    have b3 := mulB (show -32670 ≤ f3 ∧ f3 ≤ 32670 by omega) hr
    have b1 := mulB (show -2000000 ≤ r ∧ r ≤ 2000000 by omega) (show -25 ≤ R ∧ R ≤ 25 by omega)
    have e1 : wrap64 (r * R) = r * R := wrapJ6 (by omega)
    have e2 : wrap64 (r * R * 10000) = r * R * 10000 := wrapJ6 (by omega)
    by_cases c4 : f4 * rng < r * R * 10000
    · rw [if_pos c4]
      exact wide15_4 size m sum rng last r R n (r * R) _ f4 _ w T V FR FW MR MH MRR MW M4 h1 h2 h3 e1 e2 (wrapJ (by omega)) hm1 he1 hm2 he2 c4
    · rw [if_neg c4]
      by_cases c3 : r * R * 10000 < f3 * rng
      · rw [if_pos c3]
        exact wide15_5 size m sum rng last r R n (r * R) _ f4 _ f3 _ w T V FR FW MR MH MRR MW M4 M3 h1 h2 h3 e1 e2 (wrapJ (by omega)) hm1 he1 hm2 he2 c4 (wrapJ (by omega)) c3
      · rw [if_neg c3]
        exact wide15_6 size m sum rng last r R n (r * R) _ f4 _ f3 _ w T V FR FW MR MH MRR MW M4 M3 h1 h2 h3 e1 e2 (wrapJ (by omega)) hm1 he1 hm2 he2 c4 (wrapJ (by omega)) c3
  · rw [show basB b = false from decide_eq_false h0] at MR
    have e : widE b r = 1 := by unfold widE; rw [show basB b = false from decide_eq_false h0, Bool.false_and]; rfl
    unfold widA
    rw [e]
    exact wide15_0 _ _ _ _ _ r w MR
theorem bas_code : BasCode where
  right := fun b h W => bright_any b h W
  new := fun n _ W => new15_any n W
  take := fun b h l v W hl hr => btake_any b h l v W hl hr
  point := fun b h s _ W => bpoint_any b h s W
  wide := fun b h r _ W => bwide_any b h r W
end Go.Proofs.Ytfafkdbflmennaa
