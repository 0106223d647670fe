/- math-bits Div64 by ten answers how often ten goes into a number of two words, and what is left. -/
import Derived.Test.YtnmidnoemfdnfaaBase
namespace Go.Proofs.Ytnmidnoemfdnfaa
open Go.RowKit

set_option maxRecDepth 100000 in
theorem lz10 (w : World) : Calls Try.prog 32 #[.int .u64 10] w fun e w' => e = .returned (.int .i64 60) ∧ w = w' := by
  go_enter Try.func32, Try.ntmps32
  go_wp2
  go_ret
  exact ⟨by kernel_rfl, rfl⟩

set_option maxHeartbeats 1000000 in
theorem div10_0 (l : Nat) (hq : IntKind.u64.wrap ((l : Int) / 10) = (l : Int) / 10) (w : World) : Calls Try.prog 31 #[.int .u64 0, .int .u64 l, .int .u64 10] w fun e w' => e = .returned (.tuple #[.int .u64 ((l : Int) / 10), .int .u64 ((l : Int) % 10)]) ∧ ∃ n, w' = w.drewN n := by
  go_enter Try.func31, Try.ntmps31
  go_wp2_with fail
  go_quiet (fail)
  go_wp2_with fail
  go_ret2
  exact ⟨rfl, _, rfl⟩

set_option maxRecDepth 100000 in
set_option maxHeartbeats 1000000 in
theorem div10_core (h l h60 l16 U T V1 Q1 P1 R1 A1 C1 E1 G1 H1 U21 Q0 P0 R0 A0 I1 QQ J1 H0 RR fin : Nat) (h0 : ((h : Int) == 0) = false) (h10 : decide ((10 : Int) ≤ (h : Int)) = false)
    (u0 : IntKind.u64.wrap 0 = 0)
    (e0 : IntKind.u64.wrap ((h : Int) * 1152921504606846976) = (h60 : Nat)) (e1 : (l : Int) / 16 = (l16 : Nat))
    (hor : bits .or .u64 (h60 : Int) (l16 : Int) = (U : Nat))
    (wl : IntKind.u64.wrap ((l : Int) * 1152921504606846976) = (T : Nat)) (ht : bits .and .u64 (T : Int) 4294967295 = 0)
    (hy : bits .and .u64 11529215046068469760 4294967295 = 0) (hv : (T : Int) / 4294967296 = (V1 : Nat))
    (q1 : IntKind.u64.wrap ((U : Int) / 2684354560) = (Q1 : Nat)) (p1 : IntKind.u64.wrap ((Q1 : Int) * 2684354560) = (P1 : Nat)) (r1 : IntKind.u64.wrap ((U : Int) - (P1 : Int)) = (R1 : Nat))
    (d1 : decide ((4294967296 : Int) ≤ (Q1 : Int)) = false) (a1 : IntKind.u64.wrap (4294967296 * (R1 : Int)) = (A1 : Nat)) (c1 : IntKind.u64.wrap ((A1 : Int) + (V1 : Int)) = (C1 : Nat)) (d2 : decide ((C1 : Int) < 0) = false)
    (g1 : IntKind.u64.wrap ((U : Int) * 4294967296) = (E1 : Nat)) (g2 : IntKind.u64.wrap ((E1 : Int) + (V1 : Int)) = (G1 : Nat)) (g3 : IntKind.u64.wrap ((Q1 : Int) * 11529215046068469760) = (H1 : Nat)) (g4 : IntKind.u64.wrap ((G1 : Int) - (H1 : Int)) = (U21 : Nat))
    (q2 : IntKind.u64.wrap ((U21 : Int) / 2684354560) = (Q0 : Nat)) (p2 : IntKind.u64.wrap ((Q0 : Int) * 2684354560) = (P0 : Nat)) (r2 : IntKind.u64.wrap ((U21 : Int) - (P0 : Int)) = (R0 : Nat))
    (d3 : decide ((4294967296 : Int) ≤ (Q0 : Int)) = false) (a2 : IntKind.u64.wrap (4294967296 * (R0 : Int)) = (A0 : Nat)) (c2 : IntKind.u64.wrap (A0 : Int) = (A0 : Nat)) (d4 : decide ((A0 : Int) < 0) = false)
    (i1 : IntKind.u64.wrap ((Q1 : Int) * 4294967296) = (I1 : Nat)) (i2 : IntKind.u64.wrap ((I1 : Int) + (Q0 : Int)) = (QQ : Nat))
    (j1 : IntKind.u64.wrap ((U21 : Int) * 4294967296) = (J1 : Nat)) (j2 : IntKind.u64.wrap (J1 : Int) = (J1 : Nat)) (j3 : IntKind.u64.wrap ((Q0 : Int) * 11529215046068469760) = (H0 : Nat)) (j4 : IntKind.u64.wrap ((J1 : Int) - (H0 : Int)) = (RR : Nat)) (j5 : (RR : Int) / 1152921504606846976 = (fin : Nat))
    (w : World) : Calls Try.prog 31 #[.int .u64 h, .int .u64 l, .int .u64 10] w fun e w' => e = .returned (.tuple #[.int .u64 (QQ : Int), .int .u64 (fin : Int)]) ∧ w = w' := by
  go_enter Try.func31, Try.ntmps31
  go_wp2_with fail
  refine (lz10 _).mono ?_
  rintro e w' ⟨rfl, rfl⟩
  go_wp2_with fail
  refine wp_loop_rounds 1 ?_
  rw [rounds_succ]
  go_wp2_with fail
  refine wp_loop_rounds 1 ?_
  rw [rounds_succ]
  go_wp2_with fail
  go_ret2
  exact ⟨rfl, rfl⟩
end Go.Proofs.Ytnmidnoemfdnfaa
