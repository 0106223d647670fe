/- The law DivideBack, walked: it answers true at every two wide numbers, and nothing that was in memory before is changed. -/
import Derived.Test.YtjebdahdpjfinaaAlive2
namespace Go.Proofs.Ytjebdahdpjfinaa
open Go.RowKit

theorem dback_zero (a : Nat) (w : World) :
    Calls Try.prog 5 #[.agg #[.int .u64 (hi a : Nat), .int .u64 (lo a : Nat)], .agg #[.int .u64 0, .int .u64 0]] w fun e w' => e = .returned (.bool true) ∧ Below w.heap.size w w' := by
  go_enter Try.func5, Try.ntmps5
  go_wp2_with fail
  refine (div_zero _ _).mono ?_
  rintro e w1 ⟨rfl, hb⟩
  have h3 : Box w1 (w.heap.size + 1) 0 := (Box.new0At (by simp)).call hb
  have z1 := hb.size
  have HB := Lib.hid hb; clear hb
  go_wp2_with fail
  refine (alive2 _).mono ?_
  rintro e w2 ⟨rfl, hb2⟩
  have h4 := ((h3.alloc (.cells #[.int .u64 0, .int .u64 0] 24)).alloc (.cells #[.int .u64 0, .int .u64 0] 24)).call hb2
  have c0 : w2.cell? ⟨w.heap.size + 1, 0, none⟩ = some (.int .u64 0) := h4.c0
  have c1 : w2.cell? ⟨w.heap.size + 1, 1, none⟩ = some (.int .u64 0) := h4.c1
  have z2 := hb2.size
  have HB2 := Lib.hid hb2; clear hb2
  go_wp2_with fail
  go_ret
  simp at z1 z2
  exact ⟨rfl, (((((Below.refl _ _).alloc (Nat.le_refl _) _).alloc (by simp) _).trans (HB.out.mono (by simp; omega))).alloc (by omega) _).alloc (by simp; omega) _ |>.trans (HB2.out.mono (by simp; omega))⟩

theorem dback_num (a b : Nat) (ha : a < M128) (hb : b < M128) (h0 : b ≠ 0) (w : World) :
    Calls Try.prog 5 #[.agg #[.int .u64 (hi a : Nat), .int .u64 (lo a : Nat)], .agg #[.int .u64 (hi b : Nat), .int .u64 (lo b : Nat)]] w fun e w' => e = .returned (.bool true) ∧ Below w.heap.size w w' := by
  have hD := div_num a b ha hb h0
  have e := Nat.div_add_mod a b
  have hr := Nat.mod_lt a (Nat.pos_of_ne_zero h0)
  rw [Nat.mul_comm] at e
  obtain ⟨Q, hQ⟩ : ∃ Q, a / b = Q := ⟨_, rfl⟩
  obtain ⟨R, hR⟩ : ∃ R, a % b = R := ⟨_, rfl⟩
  rw [hQ, hR] at hD e; rw [hR] at hr
  clear hQ hR
  have hq : Q ≤ Q * b := Nat.le_mul_of_pos_right Q (Nat.pos_of_ne_zero h0)
  have hT := times_fit Q b (by omega) hb (by omega)
  obtain ⟨P, hP⟩ : ∃ P, Q * b = P := ⟨_, rfl⟩
  rw [hP] at hT e hq
  have hA := add_fit P R (by omega)
  rw [e] at hA
  have hL := less_yes R b (by omega) hb hr
  have HD := Lib.hid hD; have HT := Lib.hid hT; have HA := Lib.hid hA; have HL := Lib.hid hL
  clear hD hT hA hL e hP hq hr
  go_enter Try.func5, Try.ntmps5
  go_wp2_with fail
  refine (HD.out _).mono ?_
  rintro e w1 ⟨rfl, hb1⟩
  have bA : Box w1 w.heap.size a := ((Box.new _ _ _).alloc _).call hb1
  have bB : Box w1 (w.heap.size + 1) b := (Box.newAt (by simp)).call hb1
  have zA := bA.lt; have zB := bB.lt
  have b0 := bB.c0; have b1 := bB.c1
  have hw1 : Below w.heap.size w w1 := (((Below.refl _ _).alloc (Nat.le_refl _) _).alloc (by simp) _).trans (hb1.mono (by simp; omega))
  have HW1 := Lib.hid hw1; clear hb1 hw1
  go_wp2_with fail
  refine (HT.out _).mono ?_
  rintro e w2 ⟨rfl, hb2⟩
  have bA2 := ((bA.alloc (.cells #[.int .u64 (hi Q : Nat), .int .u64 (lo Q : Nat)] 24)).alloc (.cells #[.int .u64 (hi R : Nat), .int .u64 (lo R : Nat)] 24)).call hb2
  have bB2 := ((bB.alloc (.cells #[.int .u64 (hi Q : Nat), .int .u64 (lo Q : Nat)] 24)).alloc (.cells #[.int .u64 (hi R : Nat), .int .u64 (lo R : Nat)] 24)).call hb2
  have bR2 : Box w2 (w1.heap.size + 1) R := (Box.newAt (by simp)).call hb2
  have zR2 := bR2.lt
  have r0 := bR2.c0; have r1 := bR2.c1
  have hw2 : Below w.heap.size w w2 := ((HW1.out.alloc HW1.out.size _).alloc (by have := HW1.out.size; simp; omega) _).trans (hb2.mono (by have := HW1.out.size; simp; omega))
  have HW2 := Lib.hid hw2; clear hb2 hw2 b0 b1 bA bB HW1
  go_wp2_with fail
  refine (HA.out _).mono ?_
  rintro e w3 ⟨rfl, hb3⟩
  have bA3 := (bA2.alloc (.cells #[.int .u64 (hi P : Nat), .int .u64 (lo P : Nat)] 24)).call hb3
  have bB3 := (bB2.alloc (.cells #[.int .u64 (hi P : Nat), .int .u64 (lo P : Nat)] 24)).call hb3
  have bR3 := (bR2.alloc (.cells #[.int .u64 (hi P : Nat), .int .u64 (lo P : Nat)] 24)).call hb3
  have hw3 : Below w.heap.size w w3 := (HW2.out.alloc HW2.out.size _).trans (hb3.mono (by have := HW2.out.size; simp; omega))
  have HW3 := Lib.hid hw3; clear hb3 hw3 r0 r1 bA2 bB2 bR2 HW2
  go_wp2_with fail
  refine (alive2 _).mono ?_
  rintro e w4 ⟨rfl, hb4⟩
  have bA4 := (bA3.alloc (.cells #[.int .u64 (hi a : Nat), .int .u64 (lo a : Nat)] 24)).call hb4
  have bB4 := (bB3.alloc (.cells #[.int .u64 (hi a : Nat), .int .u64 (lo a : Nat)] 24)).call hb4
  have bR4 := (bR3.alloc (.cells #[.int .u64 (hi a : Nat), .int .u64 (lo a : Nat)] 24)).call hb4
  have bS4 : Box w4 w3.heap.size a := (Box.newAt rfl).call hb4
  have a0 := bA4.c0; have a1 := bA4.c1; have b0 := bB4.c0; have b1 := bB4.c1; have r0 := bR4.c0; have r1 := bR4.c1; have s0 := bS4.c0; have s1 := bS4.c1
  have hw4 : Below w.heap.size w w4 := (HW3.out.alloc HW3.out.size _).trans (hb4.mono (by have := HW3.out.size; simp; omega))
  have HW4 := Lib.hid hw4; clear hb4 hw4 HW3
  go_wp2_with fail
  refine (HL.out _).mono ?_
  rintro e w5 ⟨rfl, hb5⟩
  go_wp2_with fail
  go_ret
  exact ⟨rfl, HW4.out.trans (hb5.mono HW4.out.size)⟩

theorem dback_walk (a b : Nat) (ha : a < M128) (hb : b < M128) (w : World) :
    Calls Try.prog 5 #[.agg #[.int .u64 (hi a : Nat), .int .u64 (lo a : Nat)], .agg #[.int .u64 (hi b : Nat), .int .u64 (lo b : Nat)]] w fun e w' => e = .returned (.bool true) ∧ Below w.heap.size w w' := by
  by_cases h : b = 0
  · subst h; exact dback_zero a w
  · exact dback_num a b ha hb h w
end Go.Proofs.Ytjebdahdpjfinaa
