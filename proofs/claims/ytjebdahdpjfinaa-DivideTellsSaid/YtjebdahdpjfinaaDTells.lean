/- The law DivideTells, walked: it answers true at every two wide numbers, and nothing that was in memory before is changed. -/
import Derived.Test.YtjebdahdpjfinaaAlive2
import Derived.Test.YtjebdahdpjfinaaRDiv
namespace Go.Proofs.Ytjebdahdpjfinaa
open Go.RowKit

theorem dtells_zero (a : Nat) (w : World) :
    Calls Try.prog 3 #[.agg #[.int .u64 (hi a : Nat), .int .u64 (lo a : Nat)], .agg #[.int .u64 0, .int .u64 0]] w fun e w' => e = .returned (.bool true) ∧ Below w.heap.size w w' := by
  go_enter Try.func3, Try.ntmps3
  go_wp2_with fail
  refine (div_zero _ _).mono ?_
  rintro e w1 ⟨rfl, hb⟩
  have h3 : Box w1 (w.heap.size + 1) 0 := (Box.new0At (by simp)).call hb
  have z3 := h3.lt
  have c0 : w1.cell? ⟨w.heap.size + 1, 0, none⟩ = some (.int .u64 0) := h3.c0
  have c1 : w1.cell? ⟨w.heap.size + 1, 1, none⟩ = some (.int .u64 0) := h3.c1
  have hw1 : Below w.heap.size w w1 := (((Below.refl _ _).alloc (Nat.le_refl _) _).alloc (by simp) _).trans (hb.mono (by simp; omega))
  have HW1 := Lib.hid hw1
  have s1 := hw1.size
  have y3 : w.heap.size < w1.heap.size := by omega
  clear hb hw1 h3
  go_wp2_with fail
  refine (alive2 _).mono ?_
  rintro e w2 ⟨rfl, hb2⟩
  have h5 : Box w2 w1.heap.size 0 := ((Box.new0At rfl).alloc _).call hb2
  have h6 : Box w2 (w1.heap.size + 1) 0 := (Box.new0At (by simp)).call hb2
  have d0 : w2.cell? ⟨w1.heap.size, 0, none⟩ = some (.int .u64 0) := h5.c0
  have d1 : w2.cell? ⟨w1.heap.size, 1, none⟩ = some (.int .u64 0) := h5.c1
  have e0 : w2.cell? ⟨w1.heap.size + 1, 0, none⟩ = some (.int .u64 0) := h6.c0
  have e1 : w2.cell? ⟨w1.heap.size + 1, 1, none⟩ = some (.int .u64 0) := h6.c1
  have hw2 : Below w.heap.size w w2 := ((HW1.out.alloc s1 _).alloc (by simp; omega) _).trans (hb2.mono (by simp; omega))
  have HW2 := Lib.hid hw2
  clear hb2 hw2 h5 h6 c0 c1
  go_wp2_with fail
  go_ret
  exact ⟨rfl, HW2.out⟩

theorem dtells_num (a b : Nat) (ha : a < M128) (hb : b < M128) (h0 : b ≠ 0) (w : World) :
    Calls Try.prog 3 #[.agg #[.int .u64 (hi a : Nat), .int .u64 (lo a : Nat)], .agg #[.int .u64 (hi b : Nat), .int .u64 (lo b : Nat)]] w fun e w' => e = .returned (.bool true) ∧ Below w.heap.size w w' := by
  have hD := div_num a b ha hb h0
  have hR := rdiv_any a b ha hb h0
  obtain ⟨Q, hQ⟩ : ∃ Q, a / b = Q := ⟨_, rfl⟩
  obtain ⟨R, hRR⟩ : ∃ R, a % b = R := ⟨_, rfl⟩
  rw [hQ, hRR] at hD hR
  have HD := Lib.hid hD; have HR := Lib.hid hR
  clear hD hR hQ hRR
  go_enter Try.func3, Try.ntmps3
  go_wp2_with fail
  refine (HD.out _).mono ?_
  rintro e w1 ⟨rfl, hb1⟩
  have bA := ((((Box.new w a 24).alloc (.cells #[.int .u64 (hi b : Nat), .int .u64 (lo b : Nat)] 24)).call hb1).alloc (.cells #[.int .u64 (hi Q : Nat), .int .u64 (lo Q : Nat)] 24)).alloc (.cells #[.int .u64 (hi R : Nat), .int .u64 (lo R : Nat)] 24)
  have bB : Box ((w1.alloc (.cells #[.int .u64 (hi Q : Nat), .int .u64 (lo Q : Nat)] 24)).alloc (.cells #[.int .u64 (hi R : Nat), .int .u64 (lo R : Nat)] 24)) (w.heap.size + 1) b := (((Box.newAt (by simp)).call hb1).alloc _).alloc _
  have bQ : Box ((w1.alloc (.cells #[.int .u64 (hi Q : Nat), .int .u64 (lo Q : Nat)] 24)).alloc (.cells #[.int .u64 (hi R : Nat), .int .u64 (lo R : Nat)] 24)) w1.heap.size Q := (Box.new _ _ _).alloc _
  have bR : Box ((w1.alloc (.cells #[.int .u64 (hi Q : Nat), .int .u64 (lo Q : Nat)] 24)).alloc (.cells #[.int .u64 (hi R : Nat), .int .u64 (lo R : Nat)] 24)) (w1.heap.size + 1) R := Box.newAt (by simp)
  have hw1 : Below w.heap.size w w1 := (((Below.refl _ _).alloc (Nat.le_refl _) _).alloc (by simp) _).trans (hb1.mono (by simp; omega))
  have hw2 : Below w.heap.size w ((w1.alloc (.cells #[.int .u64 (hi Q : Nat), .int .u64 (lo Q : Nat)] 24)).alloc (.cells #[.int .u64 (hi R : Nat), .int .u64 (lo R : Nat)] 24)) := (hw1.alloc hw1.size _).alloc (by have := hw1.size; simp; omega) _
  clear hb1 hw1
  go_upto_region 2 with fail
  obtain ⟨W2, hW2⟩ : ∃ W2, (w1.alloc (.cells #[.int .u64 (hi Q : Nat), .int .u64 (lo Q : Nat)] 24)).alloc (.cells #[.int .u64 (hi R : Nat), .int .u64 (lo R : Nat)] 24) = W2 := ⟨_, rfl⟩
  rw [hW2] at bA bB bQ bR hw2 ⊢
  have sz : W2.heap.size = w1.heap.size + 2 := by rw [← hW2]; simp
  clear hW2
  have HW2 := Lib.hid hw2
  have s2 := hw2.size
  clear hw2
  have a0 := bA.c0; have a1 := bA.c1; have b0 := bB.c0; have b1 := bB.c1
  go_cut [19] (fun s wx => s = .bool false ∧ W2 = wx)
  case first =>
    rcases box_ne2 b h0 with h | ⟨h, h'⟩
    all_goals (go_wp2_with (fail); go_meet; exact ⟨rfl, rfl⟩)
  case rest =>
    obtain ⟨rfl, rfl⟩ := hcut
    go_wp2_with fail
    refine (HR.out _).mono ?_
    rintro e w3 ⟨rfl, hb3⟩
    have bQ3 := ((bQ.call hb3).alloc (.cells #[.int .u64 (hi Q : Nat), .int .u64 (lo Q : Nat)] 24)).alloc (.cells #[.int .u64 (hi R : Nat), .int .u64 (lo R : Nat)] 24)
    have bR3 := ((bR.call hb3).alloc (.cells #[.int .u64 (hi Q : Nat), .int .u64 (lo Q : Nat)] 24)).alloc (.cells #[.int .u64 (hi R : Nat), .int .u64 (lo R : Nat)] 24)
    have bX3 : Box ((w3.alloc (.cells #[.int .u64 (hi Q : Nat), .int .u64 (lo Q : Nat)] 24)).alloc (.cells #[.int .u64 (hi R : Nat), .int .u64 (lo R : Nat)] 24)) w3.heap.size Q := (Box.new _ _ _).alloc _
    have bY3 : Box ((w3.alloc (.cells #[.int .u64 (hi Q : Nat), .int .u64 (lo Q : Nat)] 24)).alloc (.cells #[.int .u64 (hi R : Nat), .int .u64 (lo R : Nat)] 24)) (w3.heap.size + 1) R := Box.newAt (by simp)
    have hw3 : Below w.heap.size w ((w3.alloc (.cells #[.int .u64 (hi Q : Nat), .int .u64 (lo Q : Nat)] 24)).alloc (.cells #[.int .u64 (hi R : Nat), .int .u64 (lo R : Nat)] 24)) := ((HW2.out.trans (hb3.mono s2)).alloc (Nat.le_trans s2 hb3.size) _).alloc (by have := hb3.size; simp; omega) _
    have HW3 := Lib.hid hw3
    clear hb3 hw3 bA bB bQ bR a0 a1 b0 b1 HW2
    go_wp2_with fail
    refine (alive2 _).mono ?_
    rintro e w4 ⟨rfl, hb4⟩
    have bQ4 := bQ3.call hb4
    have bR4 := bR3.call hb4
    have bX4 := bX3.call hb4
    have bY4 := bY3.call hb4
    have q0 := bQ4.c0; have q1 := bQ4.c1; have r0 := bR4.c0; have r1 := bR4.c1; have x0 := bX4.c0; have x1 := bX4.c1; have y0 := bY4.c0; have y1 := bY4.c1
    have hw4 := HW3.out.trans (hb4.mono HW3.out.size)
    have HW4 := Lib.hid hw4
    clear hb4 hw4 bQ3 bR3 bX3 bY3 HW3
    go_wp2_with fail
    go_ret
    exact ⟨rfl, HW4.out⟩

theorem dtells_walk (a b : Nat) (ha : a < M128) (hb : b < M128) (w : World) :
    Calls Try.prog 3 #[.agg #[.int .u64 (hi a : Nat), .int .u64 (lo a : Nat)], .agg #[.int .u64 (hi b : Nat), .int .u64 (lo b : Nat)]] w fun e w' => e = .returned (.bool true) ∧ Below w.heap.size w w' := by
  by_cases h : b = 0
  · subst h; exact dtells_zero a w
  · exact dtells_num a b ha hb h w
end Go.Proofs.Ytjebdahdpjfinaa
