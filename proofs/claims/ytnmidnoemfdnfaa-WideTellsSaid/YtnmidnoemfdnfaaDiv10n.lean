/- math-bits Div64 by ten, its numbers. -/
import Derived.Test.YtnmidnoemfdnfaaDiv10
import Derived.WalkSmall
namespace Go.Proofs.Ytnmidnoemfdnfaa
open Go.RowKit

theorem wrapNm (a : Nat) : IntKind.u64.wrap (a : Int) = ((a % 18446744073709551616 : Nat) : Int) := by rw [IntKind.wrap_u64]; omega
theorem wrapMul (a c : Nat) : IntKind.u64.wrap ((a : Int) * (c : Int)) = ((a * c % 18446744073709551616 : Nat) : Int) := by
  rw [← Int.natCast_mul]; exact wrapNm _
theorem wrapMul' (a c : Nat) : IntKind.u64.wrap ((c : Int) * (a : Int)) = ((a * c % 18446744073709551616 : Nat) : Int) := by
  rw [Int.mul_comm]; exact wrapMul a c
theorem wrapDiv (a c : Nat) : IntKind.u64.wrap ((a : Int) / (c : Int)) = ((a / c % 18446744073709551616 : Nat) : Int) := by
  rw [← Int.natCast_ediv]; exact wrapNm _
theorem wrapAdd (a c : Nat) : IntKind.u64.wrap ((a : Int) + (c : Int)) = (((a + c) % 18446744073709551616 : Nat) : Int) := by
  rw [← Int.natCast_add]; exact wrapNm _
theorem wrapSub (a c : Nat) (h : c ≤ a) : IntKind.u64.wrap ((a : Int) - (c : Int)) = (((a - c) % 18446744073709551616 : Nat) : Int) := by
  rw [← Int.ofNat_sub h]; exact wrapNm _
theorem wrapSubM (a c : Nat) (h : c ≤ 18446744073709551616) : IntKind.u64.wrap ((a : Int) - (c : Int)) = (((a + 18446744073709551616 - c) % 18446744073709551616 : Nat) : Int) := by
  rw [IntKind.wrap_u64]; omega

theorem or60 (h q : Nat) (hh : h < 10) (hq : q < 1152921504606846976) : bits .or .u64 ((h * 1152921504606846976 : Nat) : Int) (q : Int) = ((h * 1152921504606846976 + q : Nat) : Int) := by
  rw [bits_or_u64_nat _ _ (by omega) (by omega)]
  have e : h * 1152921504606846976 + q = h * 1152921504606846976 ||| q := by
    have := Nat.two_pow_add_eq_or_of_lt (i := 60) (b := q) (by omega) h
    rw [Nat.mul_comm] at this
    exact this
  rw [e]
theorem and60 (c : Nat) (hc : c < 16) : bits .and .u64 ((c * 1152921504606846976 : Nat) : Int) 4294967295 = 0 := by
  have h := bits_and_u64_nat (c * 1152921504606846976) 4294967295 (by omega) (by omega)
  have e : c * 1152921504606846976 &&& 4294967295 = c * 1152921504606846976 % 4294967296 := Nat.and_two_pow_sub_one_eq_mod _ 32
  rw [e] at h
  have z : c * 1152921504606846976 % 4294967296 = 0 := by omega
  rw [z] at h
  exact h

theorem wIn (x : Int) (n : Nat) (h : x = (n : Int)) (hn : n < 18446744073709551616) : IntKind.u64.wrap x = (n : Int) := by rw [h, wrapNm, Nat.mod_eq_of_lt hn]
theorem wMod (x : Int) (m n : Nat) (h : x = (m : Int)) (hn : m % 18446744073709551616 = n) : IntKind.u64.wrap x = (n : Int) := by rw [h, wrapNm, hn]
section
variable (U c Q R V : Nat)
theorem dv1 (hU : U < 11529215046068469760) : U / 2684354560 < 4294967296 := by omega
theorem dv2 : U - U / 2684354560 * 2684354560 = U % 2684354560 := by omega
theorem dv3 : U / 2684354560 * 2684354560 ≤ U := by omega
theorem dv4 (hc : c < 16) (hV : V = U % 2684354560 * 4294967296 + c * 268435456) : V < 11529215046068469760 := by omega
theorem dv5 (hV : V = U % 2684354560 * 4294967296 + c * 268435456) (hQ : Q = U / 2684354560) : U * 4294967296 + c * 268435456 = Q * 11529215046068469760 + V := by omega
theorem dv7 (hQ : Q = U / 2684354560) (hR : R = U % 2684354560) : U = Q * 2684354560 + R := by subst hQ hR; exact (Nat.div_add_mod' U 2684354560).symm
theorem dv8 (h : V = Q * 2684354560 + R) : V * 4294967296 = Q * 11529215046068469760 + R * 4294967296 := by omega
theorem dv9 (Q1 Q0 R1 R0 : Nat) (s1 : U = Q1 * 2684354560 + R1) (s0 : V = Q0 * 2684354560 + R0) (t0 : R0 < 2684354560) (hV : V = R1 * 4294967296 + c * 268435456) : Q1 * 4294967296 + Q0 = (16 * U + c) / 10 := by omega
theorem dv10 (Q1 Q0 R1 R0 : Nat) (s1 : U = Q1 * 2684354560 + R1) (s0 : V = Q0 * 2684354560 + R0) (t0 : R0 < 2684354560) (hV : V = R1 * 4294967296 + c * 268435456) : R0 / 268435456 = (16 * U + c) % 10 := by omega
/-- The difference of two numbers modulo 2^64 that are V apart. -/
theorem dv6 (a b : Nat) (h : a = b + V) (hV : V < 18446744073709551616) : IntKind.u64.wrap (((a % 18446744073709551616 : Nat) : Int) - ((b % 18446744073709551616 : Nat) : Int)) = (V : Int) := by
  rw [wrapSubM _ _ (by omega)]
  congr 1
  subst h
  omega
end

theorem vw_hl (h l U c : Nat) (hU : U = h * 1152921504606846976 + l / 16) (hc : c = l % 16) : vw h l = 16 * U + c := by unfold vw; omega

theorem bQ (Q : Nat) (h : Q < 4294967296) : Q * 2684354560 < 18446744073709551616 := by omega
theorem bQ2 (Q : Nat) (h : Q < 4294967296) : Q * 4294967296 < 18446744073709551616 := by omega
theorem bR (R : Nat) (h : R < 2684354560) : R * 4294967296 < 18446744073709551616 := by omega
theorem bH (h : Nat) (hh : h < 10) : h * 1152921504606846976 < 18446744073709551616 := by omega
theorem bL (l : Nat) (hl : l < 18446744073709551616) : l / 16 < 1152921504606846976 := by omega
theorem bUh (h l : Nat) (hh : h < 10) (hl : l < 18446744073709551616) : h * 1152921504606846976 + l / 16 < 11529215046068469760 := by omega
theorem up1 (Q : Nat) (h : Q < 4294967296) : Q < 18446744073709551616 := by omega
theorem up2 (V : Nat) (h : V < 11529215046068469760) : V < 18446744073709551616 := by omega
theorem up3 (R : Nat) (h : R < 2684354560) : R < 18446744073709551616 := by omega
theorem bQQ (Q P : Nat) (h : Q < 4294967296) (h2 : P < 4294967296) : Q * 4294967296 + P < 18446744073709551616 := by omega
theorem dec1 (Q : Nat) (h : Q < 4294967296) : decide ((4294967296 : Int) ≤ (Q : Int)) = false := by rw [decide_eq_false_iff_not]; omega
theorem dec0 (Q : Nat) : decide ((Q : Int) < 0) = false := by rw [decide_eq_false_iff_not]; exact Int.not_lt.2 (Int.natCast_nonneg _)
theorem dec10 (h : Nat) (hh : h < 10) : decide ((10 : Int) ≤ (h : Int)) = false := by rw [decide_eq_false_iff_not]; omega
theorem neq0 (h : Nat) (h0 : ¬ h = 0) : ((h : Int) == 0) = false := by simp; omega
theorem div16 (l : Nat) : (l : Int) / 16 = ((l / 16 : Nat) : Int) := by omega
theorem wSelf (n : Nat) (hn : n < 18446744073709551616) : IntKind.u64.wrap (n : Int) = (n : Int) := wIn _ _ rfl hn
theorem wMulIn (a c : Nat) (h : a * c < 18446744073709551616) : IntKind.u64.wrap ((a : Int) * (c : Int)) = ((a * c : Nat) : Int) := wIn _ _ (Int.natCast_mul _ _).symm h
theorem wMulIn' (a c : Nat) (h : a * c < 18446744073709551616) : IntKind.u64.wrap ((c : Int) * (a : Int)) = ((a * c : Nat) : Int) := by rw [Int.mul_comm]; exact wMulIn a c h
theorem wDivIn (a c q : Nat) (hq : q = a / c) (h : q < 18446744073709551616) : IntKind.u64.wrap ((a : Int) / (c : Int)) = (q : Int) := wIn _ _ (by rw [hq, Int.natCast_ediv]) h
theorem wSubIn (a c r : Nat) (hr : a = c + r) (h : r < 18446744073709551616) : IntKind.u64.wrap ((a : Int) - (c : Int)) = (r : Int) := wIn _ _ (by omega) h
theorem wAddIn (a c r : Nat) (hr : r = a + c) (h : r < 18446744073709551616) : IntKind.u64.wrap ((a : Int) + (c : Int)) = (r : Int) := wIn _ _ (by omega) h
theorem wAddM (U c : Nat) : IntKind.u64.wrap (((U * 4294967296 % 18446744073709551616 : Nat) : Int) + ((c * 268435456 : Nat) : Int)) = (((U * 4294967296 + c * 268435456) % 18446744073709551616 : Nat) : Int) := wMod _ (U * 4294967296 % 18446744073709551616 + c * 268435456) _ (Int.natCast_add _ _).symm (by rw [Nat.mod_add_mod])
theorem wlow (l : Nat) : IntKind.u64.wrap ((l : Int) * 1152921504606846976) = ((l % 16 * 1152921504606846976 : Nat) : Int) := by
  have := wrapMul l 1152921504606846976
  rw [show l * 1152921504606846976 % 18446744073709551616 = l % 16 * 1152921504606846976 by omega] at this
  exact this
theorem dvT (c : Nat) : ((c * 1152921504606846976 : Nat) : Int) / 4294967296 = ((c * 268435456 : Nat) : Int) := by omega
theorem dvR (R : Nat) : ((R * 4294967296 : Nat) : Int) / 1152921504606846976 = ((R / 268435456 : Nat) : Int) := by omega

set_option maxRecDepth 100000 in
theorem div10_any (h l : Nat) (hh : h < 10) (hl : l < B64) (w : World) :
    Calls Try.prog 31 #[.int .u64 h, .int .u64 l, .int .u64 10] w fun e w' => e = .returned (.tuple #[.int .u64 ((vw h l / 10 : Nat) : Int), .int .u64 ((vw h l % 10 : Nat) : Int)]) ∧ Below w.heap.size w w' := by
  unfold B64 at hl
  by_cases h0 : h = 0
  · subst h0
    have hq : IntKind.u64.wrap ((l : Int) / 10) = (l : Int) / 10 := by rw [IntKind.wrap_u64]; omega
    refine (div10_0 l hq w).mono fun e w' ⟨he, n, hw⟩ => ⟨?_, ?_⟩
    · rw [he]
      unfold vw
      rw [Nat.zero_mul, Nat.zero_add]
      rfl
    · rw [hw]; exact below_drewN (Below.refl _ _) n
  · obtain ⟨U, hU⟩ : ∃ U, U = h * 1152921504606846976 + l / 16 := ⟨_, rfl⟩
    obtain ⟨c, hc⟩ : ∃ c, c = l % 16 := ⟨_, rfl⟩
    have hUb : U < 11529215046068469760 := hU ▸ bUh h l hh hl
    have hcb : c < 16 := hc ▸ Nat.mod_lt _ (by decide)
    obtain ⟨Q1, hQ1⟩ : ∃ Q1, Q1 = U / 2684354560 := ⟨_, rfl⟩
    obtain ⟨R1, hR1⟩ : ∃ R1, R1 = U % 2684354560 := ⟨_, rfl⟩
    obtain ⟨V, hV⟩ : ∃ V, V = U % 2684354560 * 4294967296 + c * 268435456 := ⟨_, rfl⟩
    have hVb := dv4 U c V hcb hV
    have k1 := dv5 U c Q1 V hV hQ1
    obtain ⟨Q0, hQ0⟩ : ∃ Q0, Q0 = V / 2684354560 := ⟨_, rfl⟩
    obtain ⟨R0, hR0⟩ : ∃ R0, R0 = V % 2684354560 := ⟨_, rfl⟩
    have b1 : Q1 < 4294967296 := hQ1 ▸ dv1 U hUb
    have b0 : Q0 < 4294967296 := hQ0 ▸ dv1 V hVb
    have s1 := dv7 U Q1 R1 hQ1 hR1
    have s0 := dv7 V Q0 R0 hQ0 hR0
    have t1 : R1 < 2684354560 := hR1 ▸ Nat.mod_lt _ (by decide)
    have t0 : R0 < 2684354560 := hR0 ▸ Nat.mod_lt _ (by decide)
    have hV' : V = R1 * 4294967296 + c * 268435456 := by rw [hV, hR1]
    have k0 := dv8 Q0 R0 V s0
    have vx := vw_hl h l U c hU hc
    have f1 : Q1 * 4294967296 + Q0 = vw h l / 10 := by rw [vx]; exact dv9 U c V Q1 Q0 R1 R0 s1 s0 t0 hV'
    have f2 : R0 / 268435456 = vw h l % 10 := by rw [vx]; exact dv10 U c V Q1 Q0 R1 R0 s1 s0 t0 hV'
    have r := div10_core h l (h * 1152921504606846976) (l / 16) U (c * 1152921504606846976) (c * 268435456) Q1 (Q1 * 2684354560) R1 (R1 * 4294967296) V (U * 4294967296 % 18446744073709551616) ((U * 4294967296 + c * 268435456) % 18446744073709551616) (Q1 * 11529215046068469760 % 18446744073709551616) V Q0 (Q0 * 2684354560) R0 (R0 * 4294967296) (Q1 * 4294967296) (Q1 * 4294967296 + Q0) (V * 4294967296 % 18446744073709551616) (Q0 * 11529215046068469760 % 18446744073709551616) (R0 * 4294967296) (R0 / 268435456)
      (neq0 h h0) (dec10 h hh) (by decide) (wMulIn h 1152921504606846976 (bH h hh)) (div16 l) (hU ▸ or60 h (l / 16) hh (bL l hl)) (hc ▸ wlow l) (and60 c hcb) (by decide +kernel) (dvT c)
      (wDivIn U 2684354560 Q1 hQ1 (up1 Q1 b1)) (wMulIn Q1 2684354560 (bQ Q1 b1)) (wSubIn U (Q1 * 2684354560) R1 s1 (up3 R1 t1)) (dec1 Q1 b1) (wMulIn' R1 4294967296 (bR R1 t1)) (wAddIn (R1 * 4294967296) (c * 268435456) V hV' (up2 V hVb)) (dec0 V)
      (wrapMul U 4294967296) (wAddM U c) (wrapMul Q1 11529215046068469760) (dv6 V _ _ k1 (up2 V hVb))
      (wDivIn V 2684354560 Q0 hQ0 (up1 Q0 b0)) (wMulIn Q0 2684354560 (bQ Q0 b0)) (wSubIn V (Q0 * 2684354560) R0 s0 (up3 R0 t0)) (dec1 Q0 b0) (wMulIn' R0 4294967296 (bR R0 t0)) (wSelf (R0 * 4294967296) (bR R0 t0)) (dec0 _)
      (wMulIn Q1 4294967296 (bQ2 Q1 b1)) (wAddIn (Q1 * 4294967296) Q0 _ rfl (bQQ Q1 Q0 b1 b0))
      (wrapMul V 4294967296) (wSelf _ (Nat.mod_lt _ (by decide))) (wrapMul Q0 11529215046068469760) (dv6 (R0 * 4294967296) _ _ k0 (bR R0 t0)) (dvR R0) w
    rw [f1, f2] at r
    exact r.mono fun e w' ⟨he, hw⟩ => ⟨he, hw ▸ Below.refl _ _⟩
end Go.Proofs.Ytnmidnoemfdnfaa
