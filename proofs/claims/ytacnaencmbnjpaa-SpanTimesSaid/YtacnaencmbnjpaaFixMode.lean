/- fix.modeOf, down, up, near: the mode's function, and whether a quotient is rounded away from 0. -/
import Derived.Test.YtacnaencmbnjpaaFixDiv
import Derived.Test.YtacnaencmbnjpaaEqW
namespace Go.Proofs.Ytacnaencmbnjpaa
open Go.RowKit

theorem run_store_func {P : Program} {a : Addr} {m : Mode} {w : World} (f : Fn) (b c : Array Value) : (store a (.func f b c) m).run P w = stored P w a (.func f b c) m := run_store P w a _ m rfl
attribute [local go_sem] run_store_func
theorem mode_0 (w : World) : Calls Try.prog 57 #[.int .i64 0] w fun e w' => e = .returned (.func (.func 73) #[] #[]) ∧ Below w.heap.size w w' := by
  go_enter Try.func57, Try.ntmps57
  go_wp2_with fail
  go_ret
  exact ⟨rfl, (Below.refl _ _).alloc (Nat.le_refl _) _⟩
theorem mode_1 (w : World) : Calls Try.prog 57 #[.int .i64 1] w fun e w' => e = .returned (.func (.func 74) #[] #[]) ∧ Below w.heap.size w w' := by
  go_enter Try.func57, Try.ntmps57
  go_wp2_with fail
  go_ret
  exact ⟨rfl, (Below.refl _ _).alloc (Nat.le_refl _) _⟩
theorem mode_2 (w : World) : Calls Try.prog 57 #[.int .i64 2] w fun e w' => e = .returned (.func (.func 75) #[] #[]) ∧ Below w.heap.size w w' := by
  go_enter Try.func57, Try.ntmps57
  go_wp2_with fail
  go_ret
  exact ⟨rfl, (Below.refl _ _).alloc (Nat.le_refl _) _⟩
theorem mode_none (m : Int) (h : m < 0 ∨ 2 < m) (w : World) : Calls Try.prog 57 #[.int .i64 m] w fun e w' => e = gaveUp 1 ∧ Below w.heap.size w w' := by
  rcases h with h | h
  · go_enter Try.func57, Try.ntmps57
    go_wp2_with fail
    exact ⟨rfl, rfl, (Below.refl _ _).alloc (Nat.le_refl _) _⟩
  · have h' : ¬ m < 0 := by omega
    have h3 : 3 ≤ m := by omega
    clear h
    go_enter Try.func57, Try.ntmps57
    go_wp2_with fail
    exact ⟨rfl, rfl, (Below.refl _ _).alloc (Nat.le_refl _) _⟩
theorem down_any (B : Bool) (Q R z : Nat) (w : World) : Calls Try.prog 73 #[.agg #[.bool B, .int .u64 (hi Q : Nat), .int .u64 (lo Q : Nat), .int .u64 (hi R : Nat), .int .u64 (lo R : Nat), .int .u64 0, .int .u64 (z : Nat)]] w fun e w' => e = .returned (.bool (away 0 B Q R z)) ∧ Below w.heap.size w w' := by
  have hE := eqZero R
  obtain ⟨D, hD⟩ : ∃ D, decide (R = 0) = D := ⟨_, rfl⟩
  have hA : away 0 true Q R z = !D := by rw [← hD]; simp [away]
  rw [hD] at hE
  have HA := Lib.hid hA
  clear hD hA
  cases B with
  | false =>
    clear hE
    go_enter Try.func73, Try.ntmps73
    go_wp2_with fail
    go_ret
    exact ⟨rfl, (Below.refl _ _).alloc (Nat.le_refl _) _⟩
  | true =>
    rw [HA.out]
    go_enter Try.func73, Try.ntmps73
    go_wp2_with fail
    go_ret
    exact ⟨rfl, (Below.refl _ _).alloc (Nat.le_refl _) _⟩
theorem up_any (B : Bool) (Q R z : Nat) (w : World) : Calls Try.prog 74 #[.agg #[.bool B, .int .u64 (hi Q : Nat), .int .u64 (lo Q : Nat), .int .u64 (hi R : Nat), .int .u64 (lo R : Nat), .int .u64 0, .int .u64 (z : Nat)]] w fun e w' => e = .returned (.bool (away 1 B Q R z)) ∧ Below w.heap.size w w' := by
  have hE := eqZero R
  obtain ⟨D, hD⟩ : ∃ D, decide (R = 0) = D := ⟨_, rfl⟩
  have hA : away 1 false Q R z = !D := by rw [← hD]; simp [away]
  rw [hD] at hE
  have HA := Lib.hid hA
  clear hD hA
  cases B with
  | true =>
    clear hE
    go_enter Try.func74, Try.ntmps74
    go_wp2_with fail
    go_ret
    exact ⟨rfl, (Below.refl _ _).alloc (Nat.le_refl _) _⟩
  | false =>
    rw [HA.out]
    go_enter Try.func74, Try.ntmps74
    go_wp2_with fail
    go_ret
    exact ⟨rfl, (Below.refl _ _).alloc (Nat.le_refl _) _⟩
theorem near_core (B : Bool) (Q R z N : Nat) (L D P : Bool) (w : World)
    (m1 : ∀ w, Calls Try.prog 59 #[.agg #[.int .u64 (hi R : Nat), .int .u64 (lo R : Nat)], .agg #[.int .u64 (hi R : Nat), .int .u64 (lo R : Nat)]] w fun e w' => e = .returned (.tuple #[.agg #[.int .u64 (hi N : Nat), .int .u64 (lo N : Nat)], .bool false]) ∧ Below w.heap.size w w')
    (m2 : ∀ w, Calls Try.prog 64 #[.agg #[.int .u64 0, .int .u64 (z : Nat)], .agg #[.int .u64 (hi N : Nat), .int .u64 (lo N : Nat)]] w fun e w' => e = .returned (.bool L) ∧ Below w.heap.size w w')
    (hE : ∀ w, (Op.equalIn 10000 55 (.agg #[.int .u64 (hi N : Nat), .int .u64 (lo N : Nat)]) (.agg #[.int .u64 0, .int .u64 (z : Nat)])).run Try.prog w = .ok (decide (N = z)) w) (hD : decide (N = z) = D) (hP : ((lo Q : Int) % 2 == 1) = P) :
    Calls Try.prog 75 #[.agg #[.bool B, .int .u64 (hi Q : Nat), .int .u64 (lo Q : Nat), .int .u64 (hi R : Nat), .int .u64 (lo R : Nat), .int .u64 0, .int .u64 (z : Nat)]] w fun e w' => e = .returned (.bool (L || (D && P))) ∧ Below w.heap.size w w' := by
  rw [hD] at hE
  clear hD
  have M1 := Lib.hid m1; have M2 := Lib.hid m2
  clear m1 m2
  go_enter Try.func75, Try.ntmps75
  go_wp2_with fail
  refine (M1.out _).mono ?_
  rintro e w1 ⟨rfl, hb1⟩
  have b1 : Blk w1 w.heap.size #[.bool B, .int .u64 (hi Q : Nat), .int .u64 (lo Q : Nat), .int .u64 (hi R : Nat), .int .u64 (lo R : Nat), .int .u64 0, .int .u64 (z : Nat)] := (Blk.new _ _ _).call hb1
  have hw1 : Below w.heap.size w w1 := ((Below.refl _ _).alloc (Nat.le_refl _) _).trans (hb1.mono (by simp))
  have c3 : w1.cell? ⟨w.heap.size, 2, none⟩ = some (.int .u64 (lo Q : Nat)) := b1.cell rfl
  have c5 : w1.cell? ⟨w.heap.size, 5, none⟩ = some (.int .u64 0) := b1.cell rfl
  have c6 : w1.cell? ⟨w.heap.size, 6, none⟩ = some (.int .u64 (z : Nat)) := b1.cell rfl
  have hlt := b1.lt
  have B1 := Lib.hid b1; have HW := Lib.hid hw1
  clear hb1 b1 hw1
  go_wp2_with fail
  refine (M2.out _).mono ?_
  rintro e w2 ⟨rfl, hb2⟩
  have b1 : Blk w2 w.heap.size #[.bool B, .int .u64 (hi Q : Nat), .int .u64 (lo Q : Nat), .int .u64 (hi R : Nat), .int .u64 (lo R : Nat), .int .u64 0, .int .u64 (z : Nat)] := (B1.out.alloc _).call hb2
  have b2 : Blk w2 w1.heap.size #[.int .u64 (hi N : Nat), .int .u64 (lo N : Nat)] := (Blk.new _ _ _).call hb2
  have hw2 : Below w.heap.size w w2 := (HW.out.alloc HW.out.size _).trans (hb2.mono (by have := HW.out.size; simp; omega))
  have d5 : w2.cell? ⟨w.heap.size, 5, none⟩ = some (.int .u64 0) := b1.cell rfl
  have d6 : w2.cell? ⟨w.heap.size, 6, none⟩ = some (.int .u64 (z : Nat)) := b1.cell rfl
  have e0 : w2.cell? ⟨w1.heap.size, 0, none⟩ = some (.int .u64 (hi N : Nat)) := b2.cell rfl
  have e1 : w2.cell? ⟨w1.heap.size, 1, none⟩ = some (.int .u64 (lo N : Nat)) := b2.cell rfl
  have HW2 := Lib.hid hw2
  clear hb2 b1 b2 hw2 B1 HW c3 c5 c6
  cases L with
  | true =>
    go_wp2_with fail
    go_ret
    exact ⟨rfl, HW2.out⟩
  | false =>
    cases D with
    | true =>
      go_wp2_with fail
      go_ret
      exact ⟨by simp, HW2.out⟩
    | false =>
      go_wp2_with fail
      go_ret
      exact ⟨rfl, HW2.out⟩
theorem near_any (B : Bool) (Q R z : Nat) (hz : z < B64) (hR : R < z) (w : World) : Calls Try.prog 75 #[.agg #[.bool B, .int .u64 (hi Q : Nat), .int .u64 (lo Q : Nat), .int .u64 (hi R : Nat), .int .u64 (lo R : Nat), .int .u64 0, .int .u64 (z : Nat)]] w fun e w' => e = .returned (.bool (away 2 B Q R z)) ∧ Below w.heap.size w w' := by
  have hM : R + R < M128 := by unfold B64 at hz; unfold M128; omega
  have h1 := fun w => less_num z (R + R) (by unfold B64 at hz; unfold M128; omega) hM w
  have hE := fun w => eqWide (R + R) z w
  rw [hi_low z hz, lo_low z hz] at h1 hE
  have := near_core B Q R z (R + R) _ _ _ w (add_fit R R hM) h1 hE rfl rfl
  have e : (((lo Q : Nat) : Int) % 2 == 1) = decide (Q % 2 = 1) := by
    rw [Bool.eq_iff_iff]; unfold lo; simp; omega
  rw [e] at this
  exact this
end Go.Proofs.Ytacnaencmbnjpaa
