/- Numbers of the laws of stage 6 that have no reference: lowest terms by cross products, and the order of ratios. No Go in sight. -/
import Derived.Test.YtjnebbjjabnipaaRatioF
namespace Go.Proofs.Ytjnebbjjabnipaa

theorem lowND_low (n d : Int) (h0 : d ≠ 0) : Low (lowN n d) (lowD n d) := by
  have hd : 0 < d.natAbs := by omega
  have hg : 0 < Nat.gcd n.natAbs d.natAbs := Nat.gcd_pos_of_pos_right _ hd
  refine ⟨?_, ?_⟩
  · have : 0 < d.natAbs / Nat.gcd n.natAbs d.natAbs := Nat.div_pos (Nat.le_of_dvd hd (Nat.gcd_dvd_right _ _)) hg
    unfold lowD; omega
  · have e1 : (lowN n d).natAbs = n.natAbs / Nat.gcd n.natAbs d.natAbs := by unfold lowN; exact sgn_natAbs _ _
    have e2 : (lowD n d).natAbs = d.natAbs / Nat.gcd n.natAbs d.natAbs := Int.natAbs_natCast _
    rw [e1, e2]
    exact Nat.coprime_div_gcd_div_gcd hg
/-- It is the same ratio. -/
theorem low_cross (n d : Int) : lowN n d * d = n * lowD n d := by
  have h1 : n.natAbs / Nat.gcd n.natAbs d.natAbs * Nat.gcd n.natAbs d.natAbs = n.natAbs := Nat.div_mul_cancel (Nat.gcd_dvd_left _ _)
  have h2 : d.natAbs / Nat.gcd n.natAbs d.natAbs * Nat.gcd n.natAbs d.natAbs = d.natAbs := Nat.div_mul_cancel (Nat.gcd_dvd_right _ _)
  unfold lowN lowD
  have hn := sgn_abs n
  have hd := sgn_abs d
  generalize Nat.gcd n.natAbs d.natAbs = g at *
  generalize n.natAbs / g = p at *
  generalize d.natAbs / g = q at *
  generalize decide (n < 0) = A at *
  generalize decide (d < 0) = B at *
  have e1 : sgn (A != B) p * d = sgn ((A != B) != B) (p * (q * g)) := by rw [← sgn_mul, h2, hd]
  have e2 : n * (q : Int) = sgn (A != false) (p * g * q) := by rw [← sgn_mul, h1, hn]; rfl
  rw [e1, e2, show p * (q * g) = p * g * q by ac_rfl]
  congr 1
  cases A <;> cases B <;> rfl
theorem ordI_neg (z : Int) : ordI (-z) = - ordI z := by unfold ordI; split <;> split <;> (try split) <;> (try split) <;> omega
end Go.Proofs.Ytjnebbjjabnipaa
