/- fix.MulDiv: a product that is divided and rounded by a mode, if it is an int. -/
import Derived.Test.YtacnaencmbnjpaaFixMode
namespace Go.Proofs.Ytacnaencmbnjpaa
open Go.RowKit

set_option maxHeartbeats 1000000 in
theorem md_stay_ok (K : FuncId) (eg : ∀ args w, (callFunc K args).run Try.prog w = .ok (.enter K args) w) (a b c m : Int) (B : Bool) (Q R z : Nat) (s : Int) (p0 p1 p2 p3 : Nat) (w : World)
    (c0 : w.cell? ⟨p0, 0, none⟩ = some (.int .i64 m)) (c1 : w.cell? ⟨p1, 0, none⟩ = some (.int .i64 a)) (c2 : w.cell? ⟨p2, 0, none⟩ = some (.int .i64 b)) (c3 : w.cell? ⟨p3, 0, none⟩ = some (.int .i64 c))
    (m1 : ∀ w, Calls Try.prog 57 #[.int .i64 m] w fun e w' => e = .returned (.func (.func K) #[] #[]) ∧ Below w.heap.size w w')
    (m2 : ∀ w, Calls Try.prog 58 #[.int .i64 a, .int .i64 b, .int .i64 c] w fun e w' => e = .returned (.agg #[.bool B, .int .u64 (hi Q : Nat), .int .u64 (lo Q : Nat), .int .u64 (hi R : Nat), .int .u64 (lo R : Nat), .int .u64 0, .int .u64 (z : Nat)]) ∧ Below w.heap.size w w')
    (m3 : ∀ w, Calls Try.prog K #[.agg #[.bool B, .int .u64 (hi Q : Nat), .int .u64 (lo Q : Nat), .int .u64 (hi R : Nat), .int .u64 (lo R : Nat), .int .u64 0, .int .u64 (z : Nat)]] w fun e w' => e = .returned (.bool false) ∧ Below w.heap.size w w')
    (m5 : ∀ w, Calls Try.prog 53 #[.bool B, .agg #[.int .u64 (hi Q : Nat), .int .u64 (lo Q : Nat)]] w fun e w' => e = .returned (.int .i64 s) ∧ Below w.heap.size w w') :
    Calls Try.prog 56 #[.pointer (some ⟨p0, 0, none⟩), .pointer (some ⟨p1, 0, none⟩), .pointer (some ⟨p2, 0, none⟩), .pointer (some ⟨p3, 0, none⟩)] w fun e w' => e = .returned (.int .i64 s) ∧ Below w.heap.size w w' := by
  have M1 := Lib.hid m1; have M2 := Lib.hid m2; have M3 := Lib.hid m3; have M5 := Lib.hid m5
  clear m1 m2 m3 m5
  have z1 := lt_of_cell c1; have z2 := lt_of_cell c2; have z3 := lt_of_cell c3
  have C1 := Lib.hid c1; have C2 := Lib.hid c2; have C3 := Lib.hid c3
  clear c1 c2 c3
  go_enter Try.func56, Try.ntmps56
  go_wp2_with fail
  refine (M1.out _).mono ?_
  rintro e w1 ⟨rfl, hb1⟩
  have c1 := (hb1.cell (p := ⟨p1, 0, none⟩) z1).trans C1.out; have c2 := (hb1.cell (p := ⟨p2, 0, none⟩) z2).trans C2.out; have c3 := (hb1.cell (p := ⟨p3, 0, none⟩) z3).trans C3.out
  have HW1 := Lib.hid hb1
  clear hb1 z1 z2 z3 C1 C2 C3
  go_wp2_with fail
  refine (M2.out _).mono ?_
  rintro e w2 ⟨rfl, hb2⟩
  have hw2 : Below w.heap.size w w2 := HW1.out.trans (hb2.mono HW1.out.size)
  have HW2 := Lib.hid hw2
  clear hb2 hw2 c1 c2 c3 c0
  go_wp2_with fail
  refine (M3.out _).mono ?_
  rintro e w3 ⟨rfl, hb3⟩
  have b6 : Blk w3 w2.heap.size #[.bool B, .int .u64 (hi Q : Nat), .int .u64 (lo Q : Nat), .int .u64 (hi R : Nat), .int .u64 (lo R : Nat), .int .u64 0, .int .u64 (z : Nat)] := (Blk.new _ _ _).call hb3
  have hw3 : Below w.heap.size w w3 := (HW2.out.alloc HW2.out.size _).trans (hb3.mono (by have := HW2.out.size; simp; omega))
  have s2 := HW2.out.size
  have HW3 := Lib.hid hw3
  clear hb3 hw3 HW2 HW1
  have x0 : w3.cell? ⟨w2.heap.size, 0, none⟩ = some (.bool B) := b6.cell rfl
  have x1 : w3.cell? ⟨w2.heap.size, 1, none⟩ = some (.int .u64 (hi Q : Nat)) := b6.cell rfl
  have x2 : w3.cell? ⟨w2.heap.size, 2, none⟩ = some (.int .u64 (lo Q : Nat)) := b6.cell rfl
  clear b6
  go_wp2_with fail
  refine (M5.out _).mono ?_
  rintro e w5 ⟨rfl, hb5⟩
  have hw5 : Below w.heap.size w w5 := HW3.out.trans (hb5.mono HW3.out.size)
  have HW5 := Lib.hid hw5
  clear hb5 hw5 HW3 x0 x1 x2 s2
  go_wp2_with fail
  go_ret
  exact ⟨rfl, HW5.out⟩
set_option maxHeartbeats 1000000 in
theorem md_stay_no (K : FuncId) (eg : ∀ args w, (callFunc K args).run Try.prog w = .ok (.enter K args) w) (a b c m : Int) (B : Bool) (Q R z : Nat) (p0 p1 p2 p3 : Nat) (w : World)
    (c0 : w.cell? ⟨p0, 0, none⟩ = some (.int .i64 m)) (c1 : w.cell? ⟨p1, 0, none⟩ = some (.int .i64 a)) (c2 : w.cell? ⟨p2, 0, none⟩ = some (.int .i64 b)) (c3 : w.cell? ⟨p3, 0, none⟩ = some (.int .i64 c))
    (m1 : ∀ w, Calls Try.prog 57 #[.int .i64 m] w fun e w' => e = .returned (.func (.func K) #[] #[]) ∧ Below w.heap.size w w')
    (m2 : ∀ w, Calls Try.prog 58 #[.int .i64 a, .int .i64 b, .int .i64 c] w fun e w' => e = .returned (.agg #[.bool B, .int .u64 (hi Q : Nat), .int .u64 (lo Q : Nat), .int .u64 (hi R : Nat), .int .u64 (lo R : Nat), .int .u64 0, .int .u64 (z : Nat)]) ∧ Below w.heap.size w w')
    (m3 : ∀ w, Calls Try.prog K #[.agg #[.bool B, .int .u64 (hi Q : Nat), .int .u64 (lo Q : Nat), .int .u64 (hi R : Nat), .int .u64 (lo R : Nat), .int .u64 0, .int .u64 (z : Nat)]] w fun e w' => e = .returned (.bool false) ∧ Below w.heap.size w w')
    (m5 : ∀ w, Calls Try.prog 53 #[.bool B, .agg #[.int .u64 (hi Q : Nat), .int .u64 (lo Q : Nat)]] w fun e w' => e = gaveUp 5 ∧ Below w.heap.size w w') :
    Calls Try.prog 56 #[.pointer (some ⟨p0, 0, none⟩), .pointer (some ⟨p1, 0, none⟩), .pointer (some ⟨p2, 0, none⟩), .pointer (some ⟨p3, 0, none⟩)] w fun e w' => e = gaveUp 5 ∧ Below w.heap.size w w' := by
  have M1 := Lib.hid m1; have M2 := Lib.hid m2; have M3 := Lib.hid m3; have M5 := Lib.hid m5
  clear m1 m2 m3 m5
  have z1 := lt_of_cell c1; have z2 := lt_of_cell c2; have z3 := lt_of_cell c3
  have C1 := Lib.hid c1; have C2 := Lib.hid c2; have C3 := Lib.hid c3
  clear c1 c2 c3
  go_enter Try.func56, Try.ntmps56
  go_wp2_with fail
  refine (M1.out _).mono ?_
  rintro e w1 ⟨rfl, hb1⟩
  have c1 := (hb1.cell (p := ⟨p1, 0, none⟩) z1).trans C1.out; have c2 := (hb1.cell (p := ⟨p2, 0, none⟩) z2).trans C2.out; have c3 := (hb1.cell (p := ⟨p3, 0, none⟩) z3).trans C3.out
  have HW1 := Lib.hid hb1
  clear hb1 z1 z2 z3 C1 C2 C3
  go_wp2_with fail
  refine (M2.out _).mono ?_
  rintro e w2 ⟨rfl, hb2⟩
  have hw2 : Below w.heap.size w w2 := HW1.out.trans (hb2.mono HW1.out.size)
  have HW2 := Lib.hid hw2
  clear hb2 hw2 c1 c2 c3 c0
  go_wp2_with fail
  refine (M3.out _).mono ?_
  rintro e w3 ⟨rfl, hb3⟩
  have b6 : Blk w3 w2.heap.size #[.bool B, .int .u64 (hi Q : Nat), .int .u64 (lo Q : Nat), .int .u64 (hi R : Nat), .int .u64 (lo R : Nat), .int .u64 0, .int .u64 (z : Nat)] := (Blk.new _ _ _).call hb3
  have hw3 : Below w.heap.size w w3 := (HW2.out.alloc HW2.out.size _).trans (hb3.mono (by have := HW2.out.size; simp; omega))
  have s2 := HW2.out.size
  have HW3 := Lib.hid hw3
  clear hb3 hw3 HW2 HW1
  have x0 : w3.cell? ⟨w2.heap.size, 0, none⟩ = some (.bool B) := b6.cell rfl
  have x1 : w3.cell? ⟨w2.heap.size, 1, none⟩ = some (.int .u64 (hi Q : Nat)) := b6.cell rfl
  have x2 : w3.cell? ⟨w2.heap.size, 2, none⟩ = some (.int .u64 (lo Q : Nat)) := b6.cell rfl
  clear b6
  go_wp2_with fail
  refine (M5.out _).mono ?_
  rintro e w5 ⟨rfl, hb5⟩
  have hw5 : Below w.heap.size w w5 := HW3.out.trans (hb5.mono HW3.out.size)
  have HW5 := Lib.hid hw5
  clear hb5 hw5 HW3 x0 x1 x2 s2
  unfold gaveUp
  go_wp2_with fail
  exact ⟨rfl, rfl, HW5.out⟩
set_option maxHeartbeats 1000000 in
theorem md_away_ok (K : FuncId) (eg : ∀ args w, (callFunc K args).run Try.prog w = .ok (.enter K args) w) (a b c m : Int) (B : Bool) (Q R z N : Nat) (s : Int) (p0 p1 p2 p3 : Nat) (w : World)
    (c0 : w.cell? ⟨p0, 0, none⟩ = some (.int .i64 m)) (c1 : w.cell? ⟨p1, 0, none⟩ = some (.int .i64 a)) (c2 : w.cell? ⟨p2, 0, none⟩ = some (.int .i64 b)) (c3 : w.cell? ⟨p3, 0, none⟩ = some (.int .i64 c))
    (m1 : ∀ w, Calls Try.prog 57 #[.int .i64 m] w fun e w' => e = .returned (.func (.func K) #[] #[]) ∧ Below w.heap.size w w')
    (m2 : ∀ w, Calls Try.prog 58 #[.int .i64 a, .int .i64 b, .int .i64 c] w fun e w' => e = .returned (.agg #[.bool B, .int .u64 (hi Q : Nat), .int .u64 (lo Q : Nat), .int .u64 (hi R : Nat), .int .u64 (lo R : Nat), .int .u64 0, .int .u64 (z : Nat)]) ∧ Below w.heap.size w w')
    (m3 : ∀ w, Calls Try.prog K #[.agg #[.bool B, .int .u64 (hi Q : Nat), .int .u64 (lo Q : Nat), .int .u64 (hi R : Nat), .int .u64 (lo R : Nat), .int .u64 0, .int .u64 (z : Nat)]] w fun e w' => e = .returned (.bool true) ∧ Below w.heap.size w w')
    (m4 : ∀ w, Calls Try.prog 59 #[.agg #[.int .u64 (hi Q : Nat), .int .u64 (lo Q : Nat)], .agg #[.int .u64 0, .int .u64 1]] w fun e w' => e = .returned (.tuple #[.agg #[.int .u64 (hi N : Nat), .int .u64 (lo N : Nat)], .bool false]) ∧ Below w.heap.size w w')
    (m5 : ∀ w, Calls Try.prog 53 #[.bool B, .agg #[.int .u64 (hi N : Nat), .int .u64 (lo N : Nat)]] w fun e w' => e = .returned (.int .i64 s) ∧ Below w.heap.size w w') :
    Calls Try.prog 56 #[.pointer (some ⟨p0, 0, none⟩), .pointer (some ⟨p1, 0, none⟩), .pointer (some ⟨p2, 0, none⟩), .pointer (some ⟨p3, 0, none⟩)] w fun e w' => e = .returned (.int .i64 s) ∧ Below w.heap.size w w' := by
  have M1 := Lib.hid m1; have M2 := Lib.hid m2; have M3 := Lib.hid m3; have M5 := Lib.hid m5; have M4 := Lib.hid m4
  clear m1 m2 m3 m5 m4
  have z1 := lt_of_cell c1; have z2 := lt_of_cell c2; have z3 := lt_of_cell c3
  have C1 := Lib.hid c1; have C2 := Lib.hid c2; have C3 := Lib.hid c3
  clear c1 c2 c3
  go_enter Try.func56, Try.ntmps56
  go_wp2_with fail
  refine (M1.out _).mono ?_
  rintro e w1 ⟨rfl, hb1⟩
  have c1 := (hb1.cell (p := ⟨p1, 0, none⟩) z1).trans C1.out; have c2 := (hb1.cell (p := ⟨p2, 0, none⟩) z2).trans C2.out; have c3 := (hb1.cell (p := ⟨p3, 0, none⟩) z3).trans C3.out
  have HW1 := Lib.hid hb1
  clear hb1 z1 z2 z3 C1 C2 C3
  go_wp2_with fail
  refine (M2.out _).mono ?_
  rintro e w2 ⟨rfl, hb2⟩
  have hw2 : Below w.heap.size w w2 := HW1.out.trans (hb2.mono HW1.out.size)
  have HW2 := Lib.hid hw2
  clear hb2 hw2 c1 c2 c3 c0
  go_wp2_with fail
  refine (M3.out _).mono ?_
  rintro e w3 ⟨rfl, hb3⟩
  have b6 : Blk w3 w2.heap.size #[.bool B, .int .u64 (hi Q : Nat), .int .u64 (lo Q : Nat), .int .u64 (hi R : Nat), .int .u64 (lo R : Nat), .int .u64 0, .int .u64 (z : Nat)] := (Blk.new _ _ _).call hb3
  have hw3 : Below w.heap.size w w3 := (HW2.out.alloc HW2.out.size _).trans (hb3.mono (by have := HW2.out.size; simp; omega))
  have s2 := HW2.out.size
  have HW3 := Lib.hid hw3
  clear hb3 hw3 HW2 HW1
  have x1 : w3.cell? ⟨w2.heap.size, 1, none⟩ = some (.int .u64 (hi Q : Nat)) := b6.cell rfl
  have x2 : w3.cell? ⟨w2.heap.size, 2, none⟩ = some (.int .u64 (lo Q : Nat)) := b6.cell rfl
  have B6 := Lib.hid b6
  clear b6
  go_wp2_with fail
  refine (M4.out _).mono ?_
  rintro e w4 ⟨rfl, hb4⟩
  have b6 := B6.out.call hb4
  have hw4 : Below w.heap.size w w4 := HW3.out.trans (hb4.mono HW3.out.size)
  have HW4 := Lib.hid hw4
  clear hb4 hw4 HW3 x1 x2 B6
  have y0 : w4.cell? ⟨w2.heap.size, 0, none⟩ = some (.bool B) := b6.cell rfl
  have y1 : w4.cell? ⟨w2.heap.size, 1, none⟩ = some (.int .u64 (hi Q : Nat)) := b6.cell rfl
  have y2 : w4.cell? ⟨w2.heap.size, 2, none⟩ = some (.int .u64 (lo Q : Nat)) := b6.cell rfl
  have g1 := b6.free 1; have g2 := b6.free 2
  clear b6
  go_wp2_with fail
  refine (M5.out _).mono ?_
  rintro e w5 ⟨rfl, hb5⟩
  have hw5 : Below w.heap.size w w5 := ((HW4.out.setCell (p := ⟨w2.heap.size, 1, none⟩) s2 _).setCell (p := ⟨w2.heap.size, 2, none⟩) s2 _).trans (hb5.mono (by have := HW4.out.size; simpa [World.setCell] using this))
  have HW5 := Lib.hid hw5
  clear hb5 hw5 HW4 y0 y1 y2 g1 g2
  go_wp2_with fail
  go_ret
  exact ⟨rfl, HW5.out⟩
set_option maxHeartbeats 1000000 in
theorem md_away_no (K : FuncId) (eg : ∀ args w, (callFunc K args).run Try.prog w = .ok (.enter K args) w) (a b c m : Int) (B : Bool) (Q R z N : Nat) (p0 p1 p2 p3 : Nat) (w : World)
    (c0 : w.cell? ⟨p0, 0, none⟩ = some (.int .i64 m)) (c1 : w.cell? ⟨p1, 0, none⟩ = some (.int .i64 a)) (c2 : w.cell? ⟨p2, 0, none⟩ = some (.int .i64 b)) (c3 : w.cell? ⟨p3, 0, none⟩ = some (.int .i64 c))
    (m1 : ∀ w, Calls Try.prog 57 #[.int .i64 m] w fun e w' => e = .returned (.func (.func K) #[] #[]) ∧ Below w.heap.size w w')
    (m2 : ∀ w, Calls Try.prog 58 #[.int .i64 a, .int .i64 b, .int .i64 c] w fun e w' => e = .returned (.agg #[.bool B, .int .u64 (hi Q : Nat), .int .u64 (lo Q : Nat), .int .u64 (hi R : Nat), .int .u64 (lo R : Nat), .int .u64 0, .int .u64 (z : Nat)]) ∧ Below w.heap.size w w')
    (m3 : ∀ w, Calls Try.prog K #[.agg #[.bool B, .int .u64 (hi Q : Nat), .int .u64 (lo Q : Nat), .int .u64 (hi R : Nat), .int .u64 (lo R : Nat), .int .u64 0, .int .u64 (z : Nat)]] w fun e w' => e = .returned (.bool true) ∧ Below w.heap.size w w')
    (m4 : ∀ w, Calls Try.prog 59 #[.agg #[.int .u64 (hi Q : Nat), .int .u64 (lo Q : Nat)], .agg #[.int .u64 0, .int .u64 1]] w fun e w' => e = .returned (.tuple #[.agg #[.int .u64 (hi N : Nat), .int .u64 (lo N : Nat)], .bool false]) ∧ Below w.heap.size w w')
    (m5 : ∀ w, Calls Try.prog 53 #[.bool B, .agg #[.int .u64 (hi N : Nat), .int .u64 (lo N : Nat)]] w fun e w' => e = gaveUp 5 ∧ Below w.heap.size w w') :
    Calls Try.prog 56 #[.pointer (some ⟨p0, 0, none⟩), .pointer (some ⟨p1, 0, none⟩), .pointer (some ⟨p2, 0, none⟩), .pointer (some ⟨p3, 0, none⟩)] w fun e w' => e = gaveUp 5 ∧ Below w.heap.size w w' := by
  have M1 := Lib.hid m1; have M2 := Lib.hid m2; have M3 := Lib.hid m3; have M5 := Lib.hid m5; have M4 := Lib.hid m4
  clear m1 m2 m3 m5 m4
  have z1 := lt_of_cell c1; have z2 := lt_of_cell c2; have z3 := lt_of_cell c3
  have C1 := Lib.hid c1; have C2 := Lib.hid c2; have C3 := Lib.hid c3
  clear c1 c2 c3
  go_enter Try.func56, Try.ntmps56
  go_wp2_with fail
  refine (M1.out _).mono ?_
  rintro e w1 ⟨rfl, hb1⟩
  have c1 := (hb1.cell (p := ⟨p1, 0, none⟩) z1).trans C1.out; have c2 := (hb1.cell (p := ⟨p2, 0, none⟩) z2).trans C2.out; have c3 := (hb1.cell (p := ⟨p3, 0, none⟩) z3).trans C3.out
  have HW1 := Lib.hid hb1
  clear hb1 z1 z2 z3 C1 C2 C3
  go_wp2_with fail
  refine (M2.out _).mono ?_
  rintro e w2 ⟨rfl, hb2⟩
  have hw2 : Below w.heap.size w w2 := HW1.out.trans (hb2.mono HW1.out.size)
  have HW2 := Lib.hid hw2
  clear hb2 hw2 c1 c2 c3 c0
  go_wp2_with fail
  refine (M3.out _).mono ?_
  rintro e w3 ⟨rfl, hb3⟩
  have b6 : Blk w3 w2.heap.size #[.bool B, .int .u64 (hi Q : Nat), .int .u64 (lo Q : Nat), .int .u64 (hi R : Nat), .int .u64 (lo R : Nat), .int .u64 0, .int .u64 (z : Nat)] := (Blk.new _ _ _).call hb3
  have hw3 : Below w.heap.size w w3 := (HW2.out.alloc HW2.out.size _).trans (hb3.mono (by have := HW2.out.size; simp; omega))
  have s2 := HW2.out.size
  have HW3 := Lib.hid hw3
  clear hb3 hw3 HW2 HW1
  have x1 : w3.cell? ⟨w2.heap.size, 1, none⟩ = some (.int .u64 (hi Q : Nat)) := b6.cell rfl
  have x2 : w3.cell? ⟨w2.heap.size, 2, none⟩ = some (.int .u64 (lo Q : Nat)) := b6.cell rfl
  have B6 := Lib.hid b6
  clear b6
  go_wp2_with fail
  refine (M4.out _).mono ?_
  rintro e w4 ⟨rfl, hb4⟩
  have b6 := B6.out.call hb4
  have hw4 : Below w.heap.size w w4 := HW3.out.trans (hb4.mono HW3.out.size)
  have HW4 := Lib.hid hw4
  clear hb4 hw4 HW3 x1 x2 B6
  have y0 : w4.cell? ⟨w2.heap.size, 0, none⟩ = some (.bool B) := b6.cell rfl
  have y1 : w4.cell? ⟨w2.heap.size, 1, none⟩ = some (.int .u64 (hi Q : Nat)) := b6.cell rfl
  have y2 : w4.cell? ⟨w2.heap.size, 2, none⟩ = some (.int .u64 (lo Q : Nat)) := b6.cell rfl
  have g1 := b6.free 1; have g2 := b6.free 2
  clear b6
  go_wp2_with fail
  refine (M5.out _).mono ?_
  rintro e w5 ⟨rfl, hb5⟩
  have hw5 : Below w.heap.size w w5 := ((HW4.out.setCell (p := ⟨w2.heap.size, 1, none⟩) s2 _).setCell (p := ⟨w2.heap.size, 2, none⟩) s2 _).trans (hb5.mono (by have := HW4.out.size; simpa [World.setCell] using this))
  have HW5 := Lib.hid hw5
  clear hb5 hw5 HW4 y0 y1 y2 g1 g2
  unfold gaveUp
  go_wp2_with fail
  exact ⟨rfl, rfl, HW5.out⟩
theorem md_nomode (m : Int) (p0 p1 p2 p3 : Nat) (w : World)
    (c0 : w.cell? ⟨p0, 0, none⟩ = some (.int .i64 m))
    (m1 : ∀ w, Calls Try.prog 57 #[.int .i64 m] w fun e w' => e = gaveUp 1 ∧ Below w.heap.size w w')
    : Calls Try.prog 56 #[.pointer (some ⟨p0, 0, none⟩), .pointer (some ⟨p1, 0, none⟩), .pointer (some ⟨p2, 0, none⟩), .pointer (some ⟨p3, 0, none⟩)] w fun e w' => e = gaveUp 1 ∧ Below w.heap.size w w' := by
  have M1 := Lib.hid m1
  clear m1
  go_enter Try.func56, Try.ntmps56
  go_wp2_with fail
  refine (M1.out _).mono ?_
  rintro e w1 ⟨rfl, hb1⟩
  have HW1 := Lib.hid hb1
  clear hb1
  unfold gaveUp
  go_wp2_with fail
  exact ⟨rfl, rfl, HW1.out⟩
theorem md_nodiv (K : FuncId) (a b c m : Int) (p0 p1 p2 p3 : Nat) (w : World)
    (c0 : w.cell? ⟨p0, 0, none⟩ = some (.int .i64 m)) (c1 : w.cell? ⟨p1, 0, none⟩ = some (.int .i64 a)) (c2 : w.cell? ⟨p2, 0, none⟩ = some (.int .i64 b)) (c3 : w.cell? ⟨p3, 0, none⟩ = some (.int .i64 c))
    (m1 : ∀ w, Calls Try.prog 57 #[.int .i64 m] w fun e w' => e = .returned (.func (.func K) #[] #[]) ∧ Below w.heap.size w w')
    (m2 : ∀ w, Calls Try.prog 58 #[.int .i64 a, .int .i64 b, .int .i64 c] w fun e w' => e = gaveUp 4 ∧ Below w.heap.size w w')
    : Calls Try.prog 56 #[.pointer (some ⟨p0, 0, none⟩), .pointer (some ⟨p1, 0, none⟩), .pointer (some ⟨p2, 0, none⟩), .pointer (some ⟨p3, 0, none⟩)] w fun e w' => e = gaveUp 4 ∧ Below w.heap.size w w' := by
  have M1 := Lib.hid m1; have M2 := Lib.hid m2
  clear m1 m2
  have z1 := lt_of_cell c1; have z2 := lt_of_cell c2; have z3 := lt_of_cell c3
  have C1 := Lib.hid c1; have C2 := Lib.hid c2; have C3 := Lib.hid c3
  clear c1 c2 c3
  go_enter Try.func56, Try.ntmps56
  go_wp2_with fail
  refine (M1.out _).mono ?_
  rintro e w1 ⟨rfl, hb1⟩
  have c1 := (hb1.cell (p := ⟨p1, 0, none⟩) z1).trans C1.out; have c2 := (hb1.cell (p := ⟨p2, 0, none⟩) z2).trans C2.out; have c3 := (hb1.cell (p := ⟨p3, 0, none⟩) z3).trans C3.out
  have HW1 := Lib.hid hb1
  clear hb1 z1 z2 z3 C1 C2 C3
  go_wp2_with fail
  refine (M2.out _).mono ?_
  rintro e w2 ⟨rfl, hb2⟩
  have hw2 : Below w.heap.size w w2 := HW1.out.trans (hb2.mono HW1.out.size)
  have HW2 := Lib.hid hw2
  clear hb2 hw2 c1 c2 c3 c0
  unfold gaveUp
  go_wp2_with fail
  exact ⟨rfl, rfl, HW2.out⟩

theorem add_one_fit (Q : Nat) (h : Q ≤ 85070591730234615865843651857942052864) (w : World) :
    Calls Try.prog 59 #[.agg #[.int .u64 (hi Q : Nat), .int .u64 (lo Q : Nat)], .agg #[.int .u64 0, .int .u64 1]] w fun e w' => e = .returned (.tuple #[.agg #[.int .u64 (hi (Q + 1) : Nat), .int .u64 (lo (Q + 1) : Nat)], .bool false]) ∧ Below w.heap.size w w' :=
  add_fit Q 1 (by unfold M128; omega) w
/-- What the work of MulDiv ends with, by a mode's function K. -/
theorem md_work (K : FuncId) (eg : ∀ args w, (callFunc K args).run Try.prog w = .ok (.enter K args) w) (m : Nat) (a b c : Int) (ha : IsInt a) (hb : IsInt b) (hc : IsInt c) (h0 : c ≠ 0) (p0 p1 p2 p3 : Nat) (w : World)
    (c0 : w.cell? ⟨p0, 0, none⟩ = some (.int .i64 (m : Nat))) (c1 : w.cell? ⟨p1, 0, none⟩ = some (.int .i64 a)) (c2 : w.cell? ⟨p2, 0, none⟩ = some (.int .i64 b)) (c3 : w.cell? ⟨p3, 0, none⟩ = some (.int .i64 c))
    (m1 : ∀ w, Calls Try.prog 57 #[.int .i64 (m : Nat)] w fun e w' => e = .returned (.func (.func K) #[] #[]) ∧ Below w.heap.size w w')
    (m3 : ∀ w, Calls Try.prog K #[.agg #[.bool (mdB a b c), .int .u64 (hi (mdQ a b c) : Nat), .int .u64 (lo (mdQ a b c) : Nat), .int .u64 (hi (mdR a b c) : Nat), .int .u64 (lo (mdR a b c) : Nat), .int .u64 0, .int .u64 (c.natAbs : Nat)]] w fun e w' => e = .returned (.bool (away m (mdB a b c) (mdQ a b c) (mdR a b c) c.natAbs)) ∧ Below w.heap.size w w') :
    Calls Try.prog 56 #[.pointer (some ⟨p0, 0, none⟩), .pointer (some ⟨p1, 0, none⟩), .pointer (some ⟨p2, 0, none⟩), .pointer (some ⟨p3, 0, none⟩)] w fun e w' => e = told (md a b c m) ∧ Below w.heap.size w w' := by
  have hQ := mdQ_le c ha hb
  have hM : mdQ a b c < M128 := by unfold M128; omega
  have hM1 : mdQ a b c + 1 < M128 := by unfold M128; omega
  cases hA : away m (mdB a b c) (mdQ a b c) (mdR a b c) c.natAbs with
  | true =>
    rw [hA] at m3
    have e : md a b c m = sgn (mdB a b c) (mdQ a b c + 1) := by unfold md; rw [hA]; rfl
    have hw := fun w => fixWhole_any (mdB a b c) (mdQ a b c + 1) hM1 w
    rw [← e] at hw
    by_cases h : IsInt (md a b c m)
    · rw [told_ok h] at hw ⊢
      exact md_away_ok K eg a b c _ _ _ _ _ _ _ p0 p1 p2 p3 w c0 c1 c2 c3 m1 (divided_any a b c ha hb hc h0) m3 (add_one_fit _ hQ) hw
    · rw [told_no h] at hw ⊢
      exact md_away_no K eg a b c _ _ _ _ _ _ p0 p1 p2 p3 w c0 c1 c2 c3 m1 (divided_any a b c ha hb hc h0) m3 (add_one_fit _ hQ) hw
  | false =>
    rw [hA] at m3
    have e : md a b c m = sgn (mdB a b c) (mdQ a b c) := by unfold md; rw [hA]; rfl
    have hw := fun w => fixWhole_any (mdB a b c) (mdQ a b c) hM w
    rw [← e] at hw
    by_cases h : IsInt (md a b c m)
    · rw [told_ok h] at hw ⊢
      exact md_stay_ok K eg a b c _ _ _ _ _ _ p0 p1 p2 p3 w c0 c1 c2 c3 m1 (divided_any a b c ha hb hc h0) m3 hw
    · rw [told_no h] at hw ⊢
      exact md_stay_no K eg a b c _ _ _ _ _ p0 p1 p2 p3 w c0 c1 c2 c3 m1 (divided_any a b c ha hb hc h0) m3 hw


/-- MulDiv, by what its work ends with. -/
theorem md_told (a b c m x y : Int) (w : World)
    (hk : Calls Try.prog 49 #[.func (.func 56) #[] #[.pointer (some ⟨w.heap.size + 1 + 1 + 1, 0, none⟩), .pointer (some ⟨w.heap.size, 0, none⟩), .pointer (some ⟨w.heap.size + 1, 0, none⟩), .pointer (some ⟨w.heap.size + 1 + 1, 0, none⟩)]] ((((w.alloc (.cells #[.int .i64 a] 3)).alloc (.cells #[.int .i64 b] 3)).alloc (.cells #[.int .i64 c] 3)).alloc (.cells #[.int .i64 m] 3)) fun e w' => e = .returned (.tuple #[.int .i64 x, .int .i64 y]) ∧ Below ((((w.alloc (.cells #[.int .i64 a] 3)).alloc (.cells #[.int .i64 b] 3)).alloc (.cells #[.int .i64 c] 3)).alloc (.cells #[.int .i64 m] 3)).heap.size ((((w.alloc (.cells #[.int .i64 a] 3)).alloc (.cells #[.int .i64 b] 3)).alloc (.cells #[.int .i64 c] 3)).alloc (.cells #[.int .i64 m] 3)) w') :
    Calls Try.prog 29 #[.int .i64 a, .int .i64 b, .int .i64 c, .int .i64 m] w fun e w' => e = .returned (.tuple #[.int .i64 x, .int .i64 y]) ∧ Below w.heap.size w w' := by
  have HK := Lib.hid hk
  clear hk
  have hmf : ∀ (fn : Fn) (first cap : Array Value) (w : World), (Instr.makeFunc fn first cap).run Try.prog w = .ok (.func fn first cap) w := fun _ _ _ _ => rfl
  go_enter Try.func29, Try.ntmps29
  go_wp2_with fail
  refine HK.out.mono ?_
  rintro e w1 ⟨rfl, hb1⟩
  have HW := Lib.hid ((((((Below.refl w.heap.size w).alloc (Nat.le_refl _) _).alloc (by simp) _).alloc (by simp; omega) _).alloc (by simp; omega) _).trans (hb1.mono (by simp; omega)))
  clear hb1
  go_wp2_with fail
  go_ret2
  exact ⟨rfl, HW.out⟩
theorem md_boxes (a b c m : Int) (w w1 : World) (hb : Below ((((w.alloc (.cells #[.int .i64 a] 3)).alloc (.cells #[.int .i64 b] 3)).alloc (.cells #[.int .i64 c] 3)).alloc (.cells #[.int .i64 m] 3)).heap.size ((((w.alloc (.cells #[.int .i64 a] 3)).alloc (.cells #[.int .i64 b] 3)).alloc (.cells #[.int .i64 c] 3)).alloc (.cells #[.int .i64 m] 3)) w1) :
    w1.cell? ⟨w.heap.size, 0, none⟩ = some (.int .i64 a) ∧ w1.cell? ⟨w.heap.size + 1, 0, none⟩ = some (.int .i64 b) ∧ w1.cell? ⟨w.heap.size + 1 + 1, 0, none⟩ = some (.int .i64 c) ∧ w1.cell? ⟨w.heap.size + 1 + 1 + 1, 0, none⟩ = some (.int .i64 m) :=
  ⟨(((((IBox.new _ _ _).alloc _).alloc _).alloc _).call hb).c, ((((IBox.newAt (by simp)).alloc _).alloc _).call hb).c, (((IBox.newAt (by simp)).alloc _).call hb).c, ((IBox.newAt (by simp)).call hb).c⟩
theorem eg1 : ∀ args w, (callFunc 56 args).run Try.prog w = .ok (.enter 56 args) w := enters_of Try.func56 (by kernel_rfl) rfl
theorem muldiv_any (m : Nat) (hm : m ≤ 2) (a b c : Int) (ha : IsInt a) (hb : IsInt b) (hc : IsInt c) (h0 : c ≠ 0) (w : World) :
    Calls Try.prog 29 #[.int .i64 a, .int .i64 b, .int .i64 c, .int .i64 (m : Nat)] w fun e w' => e = .returned (.tuple #[.int .i64 (ans (md a b c m)), .int .i64 (err (md a b c m))]) ∧ Below w.heap.size w w' := by
  refine md_told _ _ _ _ _ _ w (attempt_told _ _ (md a b c m) _ eg1 fun w1 hb1 => ?_)
  obtain ⟨k1, k2, k3, k4⟩ := md_boxes a b c (m : Nat) w w1 hb1
  have hz := mdR_lt a b h0
  rcases (by omega : m = 0 ∨ m = 1 ∨ m = 2) with rfl | rfl | rfl
  · exact md_work 73 (enters_of Try.func73 (by kernel_rfl) rfl) 0 a b c ha hb hc h0 _ _ _ _ w1 k4 k1 k2 k3 mode_0 (down_any _ _ _ _)
  · exact md_work 74 (enters_of Try.func74 (by kernel_rfl) rfl) 1 a b c ha hb hc h0 _ _ _ _ w1 k4 k1 k2 k3 mode_1 (up_any _ _ _ _)
  · exact md_work 75 (enters_of Try.func75 (by kernel_rfl) rfl) 2 a b c ha hb hc h0 _ _ _ _ w1 k4 k1 k2 k3 mode_2 (near_any _ _ _ _ (natAbs_B hc) hz)
theorem muldiv_nomode (m a b c : Int) (h : m < 0 ∨ 2 < m) (w : World) :
    Calls Try.prog 29 #[.int .i64 a, .int .i64 b, .int .i64 c, .int .i64 m] w fun e w' => e = .returned (.tuple #[.int .i64 0, .int .i64 1]) ∧ Below w.heap.size w w' := by
  refine md_told _ _ _ _ _ _ w (attempt_no _ _ 1 _ eg1 fun w1 hb1 => ?_)
  obtain ⟨k1, k2, k3, k4⟩ := md_boxes a b c m w w1 hb1
  exact md_nomode m _ _ _ _ w1 k4 (mode_none m h)
theorem muldiv_zero (m : Nat) (hm : m ≤ 2) (a b : Int) (ha : IsInt a) (hb : IsInt b) (w : World) :
    Calls Try.prog 29 #[.int .i64 a, .int .i64 b, .int .i64 0, .int .i64 (m : Nat)] w fun e w' => e = .returned (.tuple #[.int .i64 0, .int .i64 4]) ∧ Below w.heap.size w w' := by
  refine md_told _ _ _ _ _ _ w (attempt_no _ _ 4 _ eg1 fun w1 hb1 => ?_)
  obtain ⟨k1, k2, k3, k4⟩ := md_boxes a b 0 (m : Nat) w w1 hb1
  rcases (by omega : m = 0 ∨ m = 1 ∨ m = 2) with rfl | rfl | rfl
  · exact md_nodiv _ a b 0 _ _ _ _ _ w1 k4 k1 k2 k3 mode_0 (divided_zero a b ha hb)
  · exact md_nodiv _ a b 0 _ _ _ _ _ w1 k4 k1 k2 k3 mode_1 (divided_zero a b ha hb)
  · exact md_nodiv _ a b 0 _ _ _ _ _ w1 k4 k1 k2 k3 mode_2 (divided_zero a b ha hb)
end Go.Proofs.Ytacnaencmbnjpaa
