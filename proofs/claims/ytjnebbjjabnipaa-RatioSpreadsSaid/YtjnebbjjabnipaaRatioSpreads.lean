/- The law RatioSpreads, walked: Add and Mul do not hang on order, Mul is spread over Add; nothing that was in memory before is changed. -/
import Derived.Test.YtjnebbjjabnipaaRatioMade
import Derived.Test.YtjnebbjjabnipaaRatioLow
namespace Go.Proofs.Ytjnebbjjabnipaa
open Go.RowKit

theorem dd_int {d : Int} (h : IsInt d) : IsInt (ddOf d) := by unfold ddOf; split; decide; exact h
theorem rspreads_no (l0 l1 l2 l3 l4 l5 : Int) (w : World)
    (m0 : ∀ w, Calls Try.prog 21 #[.agg #[.int .i64 l0, .int .i64 l1, .int .i64 l2, .int .i64 l3, .int .i64 l4, .int .i64 l5]] w fun en w' => (∃ a0 a1 a2 a3 a4 a5 : Int, en = .returned (.tuple #[.agg #[.int .i64 a0, .int .i64 a1, .int .i64 a2, .int .i64 a3, .int .i64 a4, .int .i64 a5], .bool false])) ∧ Below w.heap.size w w') :
    Calls Try.prog 6 #[.agg #[.int .i64 l0, .int .i64 l1, .int .i64 l2, .int .i64 l3, .int .i64 l4, .int .i64 l5]] w fun en w' => en = .returned (.bool true) ∧ Below w.heap.size w w' := by
  have M0 := Lib.hid m0
  clear m0
  go_enter Try.func6, Try.ntmps6
  go_wp2_with fail
  refine (M0.out _).mono ?_
  rintro e w1 ⟨⟨a0, a1, a2, a3, a4, a5, rfl⟩, hb⟩
  have HMw1 := Lib.hid (((Mem.start w).new w.heap.size _ _ rfl).call hb)
  clear hb
  go_wp2_with fail
  refine (alive6 _).mono ?_
  rintro e w2 ⟨rfl, hb⟩
  have HMw2 := Lib.hid ((HMw1.out.new w1.heap.size _ _ rfl).call hb)
  clear hb HMw1
  go_wp2_with fail
  go_ret
  exact ⟨rfl, HMw2.out.low⟩
set_option maxRecDepth 100000 in
set_option maxHeartbeats 4000000 in
theorem rspreads_e (l0 l1 l2 l3 l4 l5 x0 y0 x1 y1 x2 y2 : Int) (u1 u2 e v1 v2 g s1 s2 i p1 p2 j q1 q2 k t1 t2 o : Int) (w : World) (he : e ≠ 0)
    (m0 : ∀ w, Calls Try.prog 21 #[.agg #[.int .i64 l0, .int .i64 l1, .int .i64 l2, .int .i64 l3, .int .i64 l4, .int .i64 l5]] w fun en w' => en = .returned (.tuple #[.agg #[.int .i64 x0, .int .i64 y0, .int .i64 x1, .int .i64 y1, .int .i64 x2, .int .i64 y2], .bool true]) ∧ Below w.heap.size w w')
    (m1 : ∀ w, Calls Try.prog 14 #[.agg #[.int .i64 x0, .int .i64 y0], .agg #[.int .i64 x1, .int .i64 y1]] w fun en w' => en = .returned (.tuple #[.agg #[.int .i64 u1, .int .i64 u2], .int .i64 e]) ∧ Below w.heap.size w w')
    (m2 : ∀ w, Calls Try.prog 14 #[.agg #[.int .i64 x1, .int .i64 y1], .agg #[.int .i64 x0, .int .i64 y0]] w fun en w' => en = .returned (.tuple #[.agg #[.int .i64 u1, .int .i64 u2], .int .i64 e]) ∧ Below w.heap.size w w')
    (m3 : ∀ w, Calls Try.prog 15 #[.agg #[.int .i64 x0, .int .i64 y0], .agg #[.int .i64 x1, .int .i64 y1]] w fun en w' => en = .returned (.tuple #[.agg #[.int .i64 v1, .int .i64 v2], .int .i64 g]) ∧ Below w.heap.size w w')
    (m4 : ∀ w, Calls Try.prog 15 #[.agg #[.int .i64 x1, .int .i64 y1], .agg #[.int .i64 x0, .int .i64 y0]] w fun en w' => en = .returned (.tuple #[.agg #[.int .i64 v1, .int .i64 v2], .int .i64 g]) ∧ Below w.heap.size w w')
    (m5 : ∀ w, Calls Try.prog 15 #[.agg #[.int .i64 x2, .int .i64 y2], .agg #[.int .i64 u1, .int .i64 u2]] w fun en w' => en = .returned (.tuple #[.agg #[.int .i64 s1, .int .i64 s2], .int .i64 i]) ∧ Below w.heap.size w w')
    (m6 : ∀ w, Calls Try.prog 15 #[.agg #[.int .i64 x2, .int .i64 y2], .agg #[.int .i64 x0, .int .i64 y0]] w fun en w' => en = .returned (.tuple #[.agg #[.int .i64 p1, .int .i64 p2], .int .i64 j]) ∧ Below w.heap.size w w')
    (m7 : ∀ w, Calls Try.prog 15 #[.agg #[.int .i64 x2, .int .i64 y2], .agg #[.int .i64 x1, .int .i64 y1]] w fun en w' => en = .returned (.tuple #[.agg #[.int .i64 q1, .int .i64 q2], .int .i64 k]) ∧ Below w.heap.size w w')
    (m8 : ∀ w, Calls Try.prog 14 #[.agg #[.int .i64 p1, .int .i64 p2], .agg #[.int .i64 q1, .int .i64 q2]] w fun en w' => en = .returned (.tuple #[.agg #[.int .i64 t1, .int .i64 t2], .int .i64 o]) ∧ Below w.heap.size w w') :
    Calls Try.prog 6 #[.agg #[.int .i64 l0, .int .i64 l1, .int .i64 l2, .int .i64 l3, .int .i64 l4, .int .i64 l5]] w fun en w' => en = .returned (.bool true) ∧ Below w.heap.size w w' := by
  have M0 := Lib.hid m0; have M1 := Lib.hid m1; have M2 := Lib.hid m2; have M3 := Lib.hid m3; have M4 := Lib.hid m4; have M5 := Lib.hid m5; have M6 := Lib.hid m6; have M7 := Lib.hid m7; have M8 := Lib.hid m8
  clear m0 m1 m2 m3 m4 m5 m6 m7 m8
  have hqe : (e == 0) = false := by simpa using he
  have hpe : (e != 0) = true := by simpa using he
  have hE1 := eqRatio_same u1 u2; have hE2 := eqRatio_same v1 v2
  go_enter Try.func6, Try.ntmps6
  go_wp2_with fail
  refine (M0.out _).mono ?_
  rintro e w1 ⟨rfl, hb⟩
  have HMw1 := Lib.hid (((Mem.start w).new w.heap.size _ _ rfl).call hb)
  clear hb
  go_wp2_with fail
  refine (M1.out _).mono ?_
  rintro e w2 ⟨rfl, hb⟩
  have HMw2 := Lib.hid ((HMw1.out.new w1.heap.size _ _ rfl).call hb)
  clear hb HMw1
  have lr : w1.heap.size < w2.heap.size := HMw2.out.lt 0 rfl
  have cr0 : w2.cell? ⟨w1.heap.size, 0, none⟩ = some (.int .i64 x0) := HMw2.out.cell 0 rfl rfl
  have cr1 : w2.cell? ⟨w1.heap.size, 1, none⟩ = some (.int .i64 y0) := HMw2.out.cell 0 rfl rfl
  have cr2 : w2.cell? ⟨w1.heap.size, 2, none⟩ = some (.int .i64 x1) := HMw2.out.cell 0 rfl rfl
  have cr3 : w2.cell? ⟨w1.heap.size, 3, none⟩ = some (.int .i64 y1) := HMw2.out.cell 0 rfl rfl
  have cr4 : w2.cell? ⟨w1.heap.size, 4, none⟩ = some (.int .i64 x2) := HMw2.out.cell 0 rfl rfl
  have cr5 : w2.cell? ⟨w1.heap.size, 5, none⟩ = some (.int .i64 y2) := HMw2.out.cell 0 rfl rfl
  go_wp2_with fail
  refine (M2.out _).mono ?_
  rintro e w3 ⟨rfl, hb⟩
  have HMw3 := Lib.hid ((HMw2.out.new w2.heap.size _ _ rfl).call hb)
  clear hb lr cr0 cr1 cr2 cr3 cr4 cr5 HMw2
  have lr : w1.heap.size < w3.heap.size := HMw3.out.lt 1 rfl
  have cr0 : w3.cell? ⟨w1.heap.size, 0, none⟩ = some (.int .i64 x0) := HMw3.out.cell 1 rfl rfl
  have cr1 : w3.cell? ⟨w1.heap.size, 1, none⟩ = some (.int .i64 y0) := HMw3.out.cell 1 rfl rfl
  have cr2 : w3.cell? ⟨w1.heap.size, 2, none⟩ = some (.int .i64 x1) := HMw3.out.cell 1 rfl rfl
  have cr3 : w3.cell? ⟨w1.heap.size, 3, none⟩ = some (.int .i64 y1) := HMw3.out.cell 1 rfl rfl
  have cr4 : w3.cell? ⟨w1.heap.size, 4, none⟩ = some (.int .i64 x2) := HMw3.out.cell 1 rfl rfl
  have cr5 : w3.cell? ⟨w1.heap.size, 5, none⟩ = some (.int .i64 y2) := HMw3.out.cell 1 rfl rfl
  go_wp2_with fail
  refine (M3.out _).mono ?_
  rintro e w4 ⟨rfl, hb⟩
  have HMw4 := Lib.hid ((HMw3.out.new w3.heap.size _ _ rfl).call hb)
  clear hb lr cr0 cr1 cr2 cr3 cr4 cr5 HMw3
  have lr : w1.heap.size < w4.heap.size := HMw4.out.lt 2 rfl
  have cr0 : w4.cell? ⟨w1.heap.size, 0, none⟩ = some (.int .i64 x0) := HMw4.out.cell 2 rfl rfl
  have cr1 : w4.cell? ⟨w1.heap.size, 1, none⟩ = some (.int .i64 y0) := HMw4.out.cell 2 rfl rfl
  have cr2 : w4.cell? ⟨w1.heap.size, 2, none⟩ = some (.int .i64 x1) := HMw4.out.cell 2 rfl rfl
  have cr3 : w4.cell? ⟨w1.heap.size, 3, none⟩ = some (.int .i64 y1) := HMw4.out.cell 2 rfl rfl
  have cr4 : w4.cell? ⟨w1.heap.size, 4, none⟩ = some (.int .i64 x2) := HMw4.out.cell 2 rfl rfl
  have cr5 : w4.cell? ⟨w1.heap.size, 5, none⟩ = some (.int .i64 y2) := HMw4.out.cell 2 rfl rfl
  go_wp2_with fail
  refine (M4.out _).mono ?_
  rintro e w5 ⟨rfl, hb⟩
  have HMw5 := Lib.hid ((HMw4.out.new w4.heap.size _ _ rfl).call hb)
  clear hb lr cr0 cr1 cr2 cr3 cr4 cr5 HMw4
  have ls : w2.heap.size < w5.heap.size := HMw5.out.lt 2 rfl
  have cs0 : w5.cell? ⟨w2.heap.size, 0, none⟩ = some (.int .i64 u1) := HMw5.out.cell 2 rfl rfl
  have cs1 : w5.cell? ⟨w2.heap.size, 1, none⟩ = some (.int .i64 u2) := HMw5.out.cell 2 rfl rfl
  have ls_ : w3.heap.size < w5.heap.size := HMw5.out.lt 1 rfl
  have cs_0 : w5.cell? ⟨w3.heap.size, 0, none⟩ = some (.int .i64 u1) := HMw5.out.cell 1 rfl rfl
  have cs_1 : w5.cell? ⟨w3.heap.size, 1, none⟩ = some (.int .i64 u2) := HMw5.out.cell 1 rfl rfl
  have lm : w4.heap.size < w5.heap.size := HMw5.out.lt 0 rfl
  have cm0 : w5.cell? ⟨w4.heap.size, 0, none⟩ = some (.int .i64 v1) := HMw5.out.cell 0 rfl rfl
  have cm1 : w5.cell? ⟨w4.heap.size, 1, none⟩ = some (.int .i64 v2) := HMw5.out.cell 0 rfl rfl
  go_wp2_with fail
  refine (alive6 _).mono ?_
  rintro e w6 ⟨rfl, hb⟩
  have HMw6 := Lib.hid ((HMw5.out.new w5.heap.size _ _ rfl).call hb)
  clear hb ls cs0 cs1 ls_ cs_0 cs_1 lm cm0 cm1 HMw5
  have lr : w1.heap.size < w6.heap.size := HMw6.out.lt 4 rfl
  have cr0 : w6.cell? ⟨w1.heap.size, 0, none⟩ = some (.int .i64 x0) := HMw6.out.cell 4 rfl rfl
  have cr1 : w6.cell? ⟨w1.heap.size, 1, none⟩ = some (.int .i64 y0) := HMw6.out.cell 4 rfl rfl
  have cr2 : w6.cell? ⟨w1.heap.size, 2, none⟩ = some (.int .i64 x1) := HMw6.out.cell 4 rfl rfl
  have cr3 : w6.cell? ⟨w1.heap.size, 3, none⟩ = some (.int .i64 y1) := HMw6.out.cell 4 rfl rfl
  have cr4 : w6.cell? ⟨w1.heap.size, 4, none⟩ = some (.int .i64 x2) := HMw6.out.cell 4 rfl rfl
  have cr5 : w6.cell? ⟨w1.heap.size, 5, none⟩ = some (.int .i64 y2) := HMw6.out.cell 4 rfl rfl
  have ls : w2.heap.size < w6.heap.size := HMw6.out.lt 3 rfl
  have cs0 : w6.cell? ⟨w2.heap.size, 0, none⟩ = some (.int .i64 u1) := HMw6.out.cell 3 rfl rfl
  have cs1 : w6.cell? ⟨w2.heap.size, 1, none⟩ = some (.int .i64 u2) := HMw6.out.cell 3 rfl rfl
  go_wp2_with fail
  refine (M5.out _).mono ?_
  rintro e w7 ⟨rfl, hb⟩
  have HMw7 := Lib.hid (HMw6.out.call hb)
  clear hb lr cr0 cr1 cr2 cr3 cr4 cr5 ls cs0 cs1 HMw6
  have lr : w1.heap.size < w7.heap.size := HMw7.out.lt 4 rfl
  have cr0 : w7.cell? ⟨w1.heap.size, 0, none⟩ = some (.int .i64 x0) := HMw7.out.cell 4 rfl rfl
  have cr1 : w7.cell? ⟨w1.heap.size, 1, none⟩ = some (.int .i64 y0) := HMw7.out.cell 4 rfl rfl
  have cr2 : w7.cell? ⟨w1.heap.size, 2, none⟩ = some (.int .i64 x1) := HMw7.out.cell 4 rfl rfl
  have cr3 : w7.cell? ⟨w1.heap.size, 3, none⟩ = some (.int .i64 y1) := HMw7.out.cell 4 rfl rfl
  have cr4 : w7.cell? ⟨w1.heap.size, 4, none⟩ = some (.int .i64 x2) := HMw7.out.cell 4 rfl rfl
  have cr5 : w7.cell? ⟨w1.heap.size, 5, none⟩ = some (.int .i64 y2) := HMw7.out.cell 4 rfl rfl
  go_wp2_with fail
  refine (M6.out _).mono ?_
  rintro e w8 ⟨rfl, hb⟩
  have HMw8 := Lib.hid ((HMw7.out.new w7.heap.size _ _ rfl).call hb)
  clear hb lr cr0 cr1 cr2 cr3 cr4 cr5 HMw7
  have lr : w1.heap.size < w8.heap.size := HMw8.out.lt 5 rfl
  have cr0 : w8.cell? ⟨w1.heap.size, 0, none⟩ = some (.int .i64 x0) := HMw8.out.cell 5 rfl rfl
  have cr1 : w8.cell? ⟨w1.heap.size, 1, none⟩ = some (.int .i64 y0) := HMw8.out.cell 5 rfl rfl
  have cr2 : w8.cell? ⟨w1.heap.size, 2, none⟩ = some (.int .i64 x1) := HMw8.out.cell 5 rfl rfl
  have cr3 : w8.cell? ⟨w1.heap.size, 3, none⟩ = some (.int .i64 y1) := HMw8.out.cell 5 rfl rfl
  have cr4 : w8.cell? ⟨w1.heap.size, 4, none⟩ = some (.int .i64 x2) := HMw8.out.cell 5 rfl rfl
  have cr5 : w8.cell? ⟨w1.heap.size, 5, none⟩ = some (.int .i64 y2) := HMw8.out.cell 5 rfl rfl
  go_wp2_with fail
  refine (M7.out _).mono ?_
  rintro e w9 ⟨rfl, hb⟩
  have HMw9 := Lib.hid ((HMw8.out.new w8.heap.size _ _ rfl).call hb)
  clear hb lr cr0 cr1 cr2 cr3 cr4 cr5 HMw8
  have lp : w8.heap.size < w9.heap.size := HMw9.out.lt 0 rfl
  have cp0 : w9.cell? ⟨w8.heap.size, 0, none⟩ = some (.int .i64 p1) := HMw9.out.cell 0 rfl rfl
  have cp1 : w9.cell? ⟨w8.heap.size, 1, none⟩ = some (.int .i64 p2) := HMw9.out.cell 0 rfl rfl
  go_wp2_with fail
  refine (M8.out _).mono ?_
  rintro e w10 ⟨rfl, hb⟩
  have HMw10 := Lib.hid ((HMw9.out.new w9.heap.size _ _ rfl).call hb)
  clear hb lp cp0 cp1 HMw9
  have la : w7.heap.size < w10.heap.size := HMw10.out.lt 2 rfl
  have ca0 : w10.cell? ⟨w7.heap.size, 0, none⟩ = some (.int .i64 s1) := HMw10.out.cell 2 rfl rfl
  have ca1 : w10.cell? ⟨w7.heap.size, 1, none⟩ = some (.int .i64 s2) := HMw10.out.cell 2 rfl rfl
  go_wp2_with fail
  go_ret
  exact ⟨rfl, (HMw10.out.new w10.heap.size _ _ rfl).low⟩
set_option maxRecDepth 100000 in
set_option maxHeartbeats 4000000 in
theorem rspreads_i (l0 l1 l2 l3 l4 l5 x0 y0 x1 y1 x2 y2 : Int) (u1 u2 v1 v2 g s1 s2 i p1 p2 j q1 q2 k t1 t2 o : Int) (w : World) (hi : i ≠ 0)
    (m0 : ∀ w, Calls Try.prog 21 #[.agg #[.int .i64 l0, .int .i64 l1, .int .i64 l2, .int .i64 l3, .int .i64 l4, .int .i64 l5]] w fun en w' => en = .returned (.tuple #[.agg #[.int .i64 x0, .int .i64 y0, .int .i64 x1, .int .i64 y1, .int .i64 x2, .int .i64 y2], .bool true]) ∧ Below w.heap.size w w')
    (m1 : ∀ w, Calls Try.prog 14 #[.agg #[.int .i64 x0, .int .i64 y0], .agg #[.int .i64 x1, .int .i64 y1]] w fun en w' => en = .returned (.tuple #[.agg #[.int .i64 u1, .int .i64 u2], .int .i64 0]) ∧ Below w.heap.size w w')
    (m2 : ∀ w, Calls Try.prog 14 #[.agg #[.int .i64 x1, .int .i64 y1], .agg #[.int .i64 x0, .int .i64 y0]] w fun en w' => en = .returned (.tuple #[.agg #[.int .i64 u1, .int .i64 u2], .int .i64 0]) ∧ Below w.heap.size w w')
    (m3 : ∀ w, Calls Try.prog 15 #[.agg #[.int .i64 x0, .int .i64 y0], .agg #[.int .i64 x1, .int .i64 y1]] w fun en w' => en = .returned (.tuple #[.agg #[.int .i64 v1, .int .i64 v2], .int .i64 g]) ∧ Below w.heap.size w w')
    (m4 : ∀ w, Calls Try.prog 15 #[.agg #[.int .i64 x1, .int .i64 y1], .agg #[.int .i64 x0, .int .i64 y0]] w fun en w' => en = .returned (.tuple #[.agg #[.int .i64 v1, .int .i64 v2], .int .i64 g]) ∧ Below w.heap.size w w')
    (m5 : ∀ w, Calls Try.prog 15 #[.agg #[.int .i64 x2, .int .i64 y2], .agg #[.int .i64 u1, .int .i64 u2]] w fun en w' => en = .returned (.tuple #[.agg #[.int .i64 s1, .int .i64 s2], .int .i64 i]) ∧ Below w.heap.size w w')
    (m6 : ∀ w, Calls Try.prog 15 #[.agg #[.int .i64 x2, .int .i64 y2], .agg #[.int .i64 x0, .int .i64 y0]] w fun en w' => en = .returned (.tuple #[.agg #[.int .i64 p1, .int .i64 p2], .int .i64 j]) ∧ Below w.heap.size w w')
    (m7 : ∀ w, Calls Try.prog 15 #[.agg #[.int .i64 x2, .int .i64 y2], .agg #[.int .i64 x1, .int .i64 y1]] w fun en w' => en = .returned (.tuple #[.agg #[.int .i64 q1, .int .i64 q2], .int .i64 k]) ∧ Below w.heap.size w w')
    (m8 : ∀ w, Calls Try.prog 14 #[.agg #[.int .i64 p1, .int .i64 p2], .agg #[.int .i64 q1, .int .i64 q2]] w fun en w' => en = .returned (.tuple #[.agg #[.int .i64 t1, .int .i64 t2], .int .i64 o]) ∧ Below w.heap.size w w') :
    Calls Try.prog 6 #[.agg #[.int .i64 l0, .int .i64 l1, .int .i64 l2, .int .i64 l3, .int .i64 l4, .int .i64 l5]] w fun en w' => en = .returned (.bool true) ∧ Below w.heap.size w w' := by
  have M0 := Lib.hid m0; have M1 := Lib.hid m1; have M2 := Lib.hid m2; have M3 := Lib.hid m3; have M4 := Lib.hid m4; have M5 := Lib.hid m5; have M6 := Lib.hid m6; have M7 := Lib.hid m7; have M8 := Lib.hid m8
  clear m0 m1 m2 m3 m4 m5 m6 m7 m8
  have hqi : (i == 0) = false := by simpa using hi
  have hpi : (i != 0) = true := by simpa using hi
  have hE1 := eqRatio_same u1 u2; have hE2 := eqRatio_same v1 v2
  go_enter Try.func6, Try.ntmps6
  go_wp2_with fail
  refine (M0.out _).mono ?_
  rintro e w1 ⟨rfl, hb⟩
  have HMw1 := Lib.hid (((Mem.start w).new w.heap.size _ _ rfl).call hb)
  clear hb
  go_wp2_with fail
  refine (M1.out _).mono ?_
  rintro e w2 ⟨rfl, hb⟩
  have HMw2 := Lib.hid ((HMw1.out.new w1.heap.size _ _ rfl).call hb)
  clear hb HMw1
  have lr : w1.heap.size < w2.heap.size := HMw2.out.lt 0 rfl
  have cr0 : w2.cell? ⟨w1.heap.size, 0, none⟩ = some (.int .i64 x0) := HMw2.out.cell 0 rfl rfl
  have cr1 : w2.cell? ⟨w1.heap.size, 1, none⟩ = some (.int .i64 y0) := HMw2.out.cell 0 rfl rfl
  have cr2 : w2.cell? ⟨w1.heap.size, 2, none⟩ = some (.int .i64 x1) := HMw2.out.cell 0 rfl rfl
  have cr3 : w2.cell? ⟨w1.heap.size, 3, none⟩ = some (.int .i64 y1) := HMw2.out.cell 0 rfl rfl
  have cr4 : w2.cell? ⟨w1.heap.size, 4, none⟩ = some (.int .i64 x2) := HMw2.out.cell 0 rfl rfl
  have cr5 : w2.cell? ⟨w1.heap.size, 5, none⟩ = some (.int .i64 y2) := HMw2.out.cell 0 rfl rfl
  go_wp2_with fail
  refine (M2.out _).mono ?_
  rintro e w3 ⟨rfl, hb⟩
  have HMw3 := Lib.hid ((HMw2.out.new w2.heap.size _ _ rfl).call hb)
  clear hb lr cr0 cr1 cr2 cr3 cr4 cr5 HMw2
  have lr : w1.heap.size < w3.heap.size := HMw3.out.lt 1 rfl
  have cr0 : w3.cell? ⟨w1.heap.size, 0, none⟩ = some (.int .i64 x0) := HMw3.out.cell 1 rfl rfl
  have cr1 : w3.cell? ⟨w1.heap.size, 1, none⟩ = some (.int .i64 y0) := HMw3.out.cell 1 rfl rfl
  have cr2 : w3.cell? ⟨w1.heap.size, 2, none⟩ = some (.int .i64 x1) := HMw3.out.cell 1 rfl rfl
  have cr3 : w3.cell? ⟨w1.heap.size, 3, none⟩ = some (.int .i64 y1) := HMw3.out.cell 1 rfl rfl
  have cr4 : w3.cell? ⟨w1.heap.size, 4, none⟩ = some (.int .i64 x2) := HMw3.out.cell 1 rfl rfl
  have cr5 : w3.cell? ⟨w1.heap.size, 5, none⟩ = some (.int .i64 y2) := HMw3.out.cell 1 rfl rfl
  go_wp2_with fail
  refine (M3.out _).mono ?_
  rintro e w4 ⟨rfl, hb⟩
  have HMw4 := Lib.hid ((HMw3.out.new w3.heap.size _ _ rfl).call hb)
  clear hb lr cr0 cr1 cr2 cr3 cr4 cr5 HMw3
  have lr : w1.heap.size < w4.heap.size := HMw4.out.lt 2 rfl
  have cr0 : w4.cell? ⟨w1.heap.size, 0, none⟩ = some (.int .i64 x0) := HMw4.out.cell 2 rfl rfl
  have cr1 : w4.cell? ⟨w1.heap.size, 1, none⟩ = some (.int .i64 y0) := HMw4.out.cell 2 rfl rfl
  have cr2 : w4.cell? ⟨w1.heap.size, 2, none⟩ = some (.int .i64 x1) := HMw4.out.cell 2 rfl rfl
  have cr3 : w4.cell? ⟨w1.heap.size, 3, none⟩ = some (.int .i64 y1) := HMw4.out.cell 2 rfl rfl
  have cr4 : w4.cell? ⟨w1.heap.size, 4, none⟩ = some (.int .i64 x2) := HMw4.out.cell 2 rfl rfl
  have cr5 : w4.cell? ⟨w1.heap.size, 5, none⟩ = some (.int .i64 y2) := HMw4.out.cell 2 rfl rfl
  go_wp2_with fail
  refine (M4.out _).mono ?_
  rintro e w5 ⟨rfl, hb⟩
  have HMw5 := Lib.hid ((HMw4.out.new w4.heap.size _ _ rfl).call hb)
  clear hb lr cr0 cr1 cr2 cr3 cr4 cr5 HMw4
  have ls : w2.heap.size < w5.heap.size := HMw5.out.lt 2 rfl
  have cs0 : w5.cell? ⟨w2.heap.size, 0, none⟩ = some (.int .i64 u1) := HMw5.out.cell 2 rfl rfl
  have cs1 : w5.cell? ⟨w2.heap.size, 1, none⟩ = some (.int .i64 u2) := HMw5.out.cell 2 rfl rfl
  have ls_ : w3.heap.size < w5.heap.size := HMw5.out.lt 1 rfl
  have cs_0 : w5.cell? ⟨w3.heap.size, 0, none⟩ = some (.int .i64 u1) := HMw5.out.cell 1 rfl rfl
  have cs_1 : w5.cell? ⟨w3.heap.size, 1, none⟩ = some (.int .i64 u2) := HMw5.out.cell 1 rfl rfl
  have lm : w4.heap.size < w5.heap.size := HMw5.out.lt 0 rfl
  have cm0 : w5.cell? ⟨w4.heap.size, 0, none⟩ = some (.int .i64 v1) := HMw5.out.cell 0 rfl rfl
  have cm1 : w5.cell? ⟨w4.heap.size, 1, none⟩ = some (.int .i64 v2) := HMw5.out.cell 0 rfl rfl
  go_wp2_with fail
  refine (alive6 _).mono ?_
  rintro e w6 ⟨rfl, hb⟩
  have HMw6 := Lib.hid ((HMw5.out.new w5.heap.size _ _ rfl).call hb)
  clear hb ls cs0 cs1 ls_ cs_0 cs_1 lm cm0 cm1 HMw5
  have lr : w1.heap.size < w6.heap.size := HMw6.out.lt 4 rfl
  have cr0 : w6.cell? ⟨w1.heap.size, 0, none⟩ = some (.int .i64 x0) := HMw6.out.cell 4 rfl rfl
  have cr1 : w6.cell? ⟨w1.heap.size, 1, none⟩ = some (.int .i64 y0) := HMw6.out.cell 4 rfl rfl
  have cr2 : w6.cell? ⟨w1.heap.size, 2, none⟩ = some (.int .i64 x1) := HMw6.out.cell 4 rfl rfl
  have cr3 : w6.cell? ⟨w1.heap.size, 3, none⟩ = some (.int .i64 y1) := HMw6.out.cell 4 rfl rfl
  have cr4 : w6.cell? ⟨w1.heap.size, 4, none⟩ = some (.int .i64 x2) := HMw6.out.cell 4 rfl rfl
  have cr5 : w6.cell? ⟨w1.heap.size, 5, none⟩ = some (.int .i64 y2) := HMw6.out.cell 4 rfl rfl
  have ls : w2.heap.size < w6.heap.size := HMw6.out.lt 3 rfl
  have cs0 : w6.cell? ⟨w2.heap.size, 0, none⟩ = some (.int .i64 u1) := HMw6.out.cell 3 rfl rfl
  have cs1 : w6.cell? ⟨w2.heap.size, 1, none⟩ = some (.int .i64 u2) := HMw6.out.cell 3 rfl rfl
  go_wp2_with fail
  refine (M5.out _).mono ?_
  rintro e w7 ⟨rfl, hb⟩
  have HMw7 := Lib.hid (HMw6.out.call hb)
  clear hb lr cr0 cr1 cr2 cr3 cr4 cr5 ls cs0 cs1 HMw6
  have lr : w1.heap.size < w7.heap.size := HMw7.out.lt 4 rfl
  have cr0 : w7.cell? ⟨w1.heap.size, 0, none⟩ = some (.int .i64 x0) := HMw7.out.cell 4 rfl rfl
  have cr1 : w7.cell? ⟨w1.heap.size, 1, none⟩ = some (.int .i64 y0) := HMw7.out.cell 4 rfl rfl
  have cr2 : w7.cell? ⟨w1.heap.size, 2, none⟩ = some (.int .i64 x1) := HMw7.out.cell 4 rfl rfl
  have cr3 : w7.cell? ⟨w1.heap.size, 3, none⟩ = some (.int .i64 y1) := HMw7.out.cell 4 rfl rfl
  have cr4 : w7.cell? ⟨w1.heap.size, 4, none⟩ = some (.int .i64 x2) := HMw7.out.cell 4 rfl rfl
  have cr5 : w7.cell? ⟨w1.heap.size, 5, none⟩ = some (.int .i64 y2) := HMw7.out.cell 4 rfl rfl
  go_wp2_with fail
  refine (M6.out _).mono ?_
  rintro e w8 ⟨rfl, hb⟩
  have HMw8 := Lib.hid ((HMw7.out.new w7.heap.size _ _ rfl).call hb)
  clear hb lr cr0 cr1 cr2 cr3 cr4 cr5 HMw7
  have lr : w1.heap.size < w8.heap.size := HMw8.out.lt 5 rfl
  have cr0 : w8.cell? ⟨w1.heap.size, 0, none⟩ = some (.int .i64 x0) := HMw8.out.cell 5 rfl rfl
  have cr1 : w8.cell? ⟨w1.heap.size, 1, none⟩ = some (.int .i64 y0) := HMw8.out.cell 5 rfl rfl
  have cr2 : w8.cell? ⟨w1.heap.size, 2, none⟩ = some (.int .i64 x1) := HMw8.out.cell 5 rfl rfl
  have cr3 : w8.cell? ⟨w1.heap.size, 3, none⟩ = some (.int .i64 y1) := HMw8.out.cell 5 rfl rfl
  have cr4 : w8.cell? ⟨w1.heap.size, 4, none⟩ = some (.int .i64 x2) := HMw8.out.cell 5 rfl rfl
  have cr5 : w8.cell? ⟨w1.heap.size, 5, none⟩ = some (.int .i64 y2) := HMw8.out.cell 5 rfl rfl
  go_wp2_with fail
  refine (M7.out _).mono ?_
  rintro e w9 ⟨rfl, hb⟩
  have HMw9 := Lib.hid ((HMw8.out.new w8.heap.size _ _ rfl).call hb)
  clear hb lr cr0 cr1 cr2 cr3 cr4 cr5 HMw8
  have lp : w8.heap.size < w9.heap.size := HMw9.out.lt 0 rfl
  have cp0 : w9.cell? ⟨w8.heap.size, 0, none⟩ = some (.int .i64 p1) := HMw9.out.cell 0 rfl rfl
  have cp1 : w9.cell? ⟨w8.heap.size, 1, none⟩ = some (.int .i64 p2) := HMw9.out.cell 0 rfl rfl
  go_wp2_with fail
  refine (M8.out _).mono ?_
  rintro e w10 ⟨rfl, hb⟩
  have HMw10 := Lib.hid ((HMw9.out.new w9.heap.size _ _ rfl).call hb)
  clear hb lp cp0 cp1 HMw9
  have la : w7.heap.size < w10.heap.size := HMw10.out.lt 2 rfl
  have ca0 : w10.cell? ⟨w7.heap.size, 0, none⟩ = some (.int .i64 s1) := HMw10.out.cell 2 rfl rfl
  have ca1 : w10.cell? ⟨w7.heap.size, 1, none⟩ = some (.int .i64 s2) := HMw10.out.cell 2 rfl rfl
  go_wp2_with fail
  go_ret
  exact ⟨rfl, (HMw10.out.new w10.heap.size _ _ rfl).low⟩
set_option maxRecDepth 100000 in
set_option maxHeartbeats 4000000 in
theorem rspreads_j (l0 l1 l2 l3 l4 l5 x0 y0 x1 y1 x2 y2 : Int) (u1 u2 v1 v2 g s1 s2 p1 p2 j q1 q2 k t1 t2 o : Int) (w : World) (hj : j ≠ 0)
    (m0 : ∀ w, Calls Try.prog 21 #[.agg #[.int .i64 l0, .int .i64 l1, .int .i64 l2, .int .i64 l3, .int .i64 l4, .int .i64 l5]] w fun en w' => en = .returned (.tuple #[.agg #[.int .i64 x0, .int .i64 y0, .int .i64 x1, .int .i64 y1, .int .i64 x2, .int .i64 y2], .bool true]) ∧ Below w.heap.size w w')
    (m1 : ∀ w, Calls Try.prog 14 #[.agg #[.int .i64 x0, .int .i64 y0], .agg #[.int .i64 x1, .int .i64 y1]] w fun en w' => en = .returned (.tuple #[.agg #[.int .i64 u1, .int .i64 u2], .int .i64 0]) ∧ Below w.heap.size w w')
    (m2 : ∀ w, Calls Try.prog 14 #[.agg #[.int .i64 x1, .int .i64 y1], .agg #[.int .i64 x0, .int .i64 y0]] w fun en w' => en = .returned (.tuple #[.agg #[.int .i64 u1, .int .i64 u2], .int .i64 0]) ∧ Below w.heap.size w w')
    (m3 : ∀ w, Calls Try.prog 15 #[.agg #[.int .i64 x0, .int .i64 y0], .agg #[.int .i64 x1, .int .i64 y1]] w fun en w' => en = .returned (.tuple #[.agg #[.int .i64 v1, .int .i64 v2], .int .i64 g]) ∧ Below w.heap.size w w')
    (m4 : ∀ w, Calls Try.prog 15 #[.agg #[.int .i64 x1, .int .i64 y1], .agg #[.int .i64 x0, .int .i64 y0]] w fun en w' => en = .returned (.tuple #[.agg #[.int .i64 v1, .int .i64 v2], .int .i64 g]) ∧ Below w.heap.size w w')
    (m5 : ∀ w, Calls Try.prog 15 #[.agg #[.int .i64 x2, .int .i64 y2], .agg #[.int .i64 u1, .int .i64 u2]] w fun en w' => en = .returned (.tuple #[.agg #[.int .i64 s1, .int .i64 s2], .int .i64 0]) ∧ Below w.heap.size w w')
    (m6 : ∀ w, Calls Try.prog 15 #[.agg #[.int .i64 x2, .int .i64 y2], .agg #[.int .i64 x0, .int .i64 y0]] w fun en w' => en = .returned (.tuple #[.agg #[.int .i64 p1, .int .i64 p2], .int .i64 j]) ∧ Below w.heap.size w w')
    (m7 : ∀ w, Calls Try.prog 15 #[.agg #[.int .i64 x2, .int .i64 y2], .agg #[.int .i64 x1, .int .i64 y1]] w fun en w' => en = .returned (.tuple #[.agg #[.int .i64 q1, .int .i64 q2], .int .i64 k]) ∧ Below w.heap.size w w')
    (m8 : ∀ w, Calls Try.prog 14 #[.agg #[.int .i64 p1, .int .i64 p2], .agg #[.int .i64 q1, .int .i64 q2]] w fun en w' => en = .returned (.tuple #[.agg #[.int .i64 t1, .int .i64 t2], .int .i64 o]) ∧ Below w.heap.size w w') :
    Calls Try.prog 6 #[.agg #[.int .i64 l0, .int .i64 l1, .int .i64 l2, .int .i64 l3, .int .i64 l4, .int .i64 l5]] w fun en w' => en = .returned (.bool true) ∧ Below w.heap.size w w' := by
  have M0 := Lib.hid m0; have M1 := Lib.hid m1; have M2 := Lib.hid m2; have M3 := Lib.hid m3; have M4 := Lib.hid m4; have M5 := Lib.hid m5; have M6 := Lib.hid m6; have M7 := Lib.hid m7; have M8 := Lib.hid m8
  clear m0 m1 m2 m3 m4 m5 m6 m7 m8
  have hqj : (j == 0) = false := by simpa using hj
  have hpj : (j != 0) = true := by simpa using hj
  have hE1 := eqRatio_same u1 u2; have hE2 := eqRatio_same v1 v2
  go_enter Try.func6, Try.ntmps6
  go_wp2_with fail
  refine (M0.out _).mono ?_
  rintro e w1 ⟨rfl, hb⟩
  have HMw1 := Lib.hid (((Mem.start w).new w.heap.size _ _ rfl).call hb)
  clear hb
  go_wp2_with fail
  refine (M1.out _).mono ?_
  rintro e w2 ⟨rfl, hb⟩
  have HMw2 := Lib.hid ((HMw1.out.new w1.heap.size _ _ rfl).call hb)
  clear hb HMw1
  have lr : w1.heap.size < w2.heap.size := HMw2.out.lt 0 rfl
  have cr0 : w2.cell? ⟨w1.heap.size, 0, none⟩ = some (.int .i64 x0) := HMw2.out.cell 0 rfl rfl
  have cr1 : w2.cell? ⟨w1.heap.size, 1, none⟩ = some (.int .i64 y0) := HMw2.out.cell 0 rfl rfl
  have cr2 : w2.cell? ⟨w1.heap.size, 2, none⟩ = some (.int .i64 x1) := HMw2.out.cell 0 rfl rfl
  have cr3 : w2.cell? ⟨w1.heap.size, 3, none⟩ = some (.int .i64 y1) := HMw2.out.cell 0 rfl rfl
  have cr4 : w2.cell? ⟨w1.heap.size, 4, none⟩ = some (.int .i64 x2) := HMw2.out.cell 0 rfl rfl
  have cr5 : w2.cell? ⟨w1.heap.size, 5, none⟩ = some (.int .i64 y2) := HMw2.out.cell 0 rfl rfl
  go_wp2_with fail
  refine (M2.out _).mono ?_
  rintro e w3 ⟨rfl, hb⟩
  have HMw3 := Lib.hid ((HMw2.out.new w2.heap.size _ _ rfl).call hb)
  clear hb lr cr0 cr1 cr2 cr3 cr4 cr5 HMw2
  have lr : w1.heap.size < w3.heap.size := HMw3.out.lt 1 rfl
  have cr0 : w3.cell? ⟨w1.heap.size, 0, none⟩ = some (.int .i64 x0) := HMw3.out.cell 1 rfl rfl
  have cr1 : w3.cell? ⟨w1.heap.size, 1, none⟩ = some (.int .i64 y0) := HMw3.out.cell 1 rfl rfl
  have cr2 : w3.cell? ⟨w1.heap.size, 2, none⟩ = some (.int .i64 x1) := HMw3.out.cell 1 rfl rfl
  have cr3 : w3.cell? ⟨w1.heap.size, 3, none⟩ = some (.int .i64 y1) := HMw3.out.cell 1 rfl rfl
  have cr4 : w3.cell? ⟨w1.heap.size, 4, none⟩ = some (.int .i64 x2) := HMw3.out.cell 1 rfl rfl
  have cr5 : w3.cell? ⟨w1.heap.size, 5, none⟩ = some (.int .i64 y2) := HMw3.out.cell 1 rfl rfl
  go_wp2_with fail
  refine (M3.out _).mono ?_
  rintro e w4 ⟨rfl, hb⟩
  have HMw4 := Lib.hid ((HMw3.out.new w3.heap.size _ _ rfl).call hb)
  clear hb lr cr0 cr1 cr2 cr3 cr4 cr5 HMw3
  have lr : w1.heap.size < w4.heap.size := HMw4.out.lt 2 rfl
  have cr0 : w4.cell? ⟨w1.heap.size, 0, none⟩ = some (.int .i64 x0) := HMw4.out.cell 2 rfl rfl
  have cr1 : w4.cell? ⟨w1.heap.size, 1, none⟩ = some (.int .i64 y0) := HMw4.out.cell 2 rfl rfl
  have cr2 : w4.cell? ⟨w1.heap.size, 2, none⟩ = some (.int .i64 x1) := HMw4.out.cell 2 rfl rfl
  have cr3 : w4.cell? ⟨w1.heap.size, 3, none⟩ = some (.int .i64 y1) := HMw4.out.cell 2 rfl rfl
  have cr4 : w4.cell? ⟨w1.heap.size, 4, none⟩ = some (.int .i64 x2) := HMw4.out.cell 2 rfl rfl
  have cr5 : w4.cell? ⟨w1.heap.size, 5, none⟩ = some (.int .i64 y2) := HMw4.out.cell 2 rfl rfl
  go_wp2_with fail
  refine (M4.out _).mono ?_
  rintro e w5 ⟨rfl, hb⟩
  have HMw5 := Lib.hid ((HMw4.out.new w4.heap.size _ _ rfl).call hb)
  clear hb lr cr0 cr1 cr2 cr3 cr4 cr5 HMw4
  have ls : w2.heap.size < w5.heap.size := HMw5.out.lt 2 rfl
  have cs0 : w5.cell? ⟨w2.heap.size, 0, none⟩ = some (.int .i64 u1) := HMw5.out.cell 2 rfl rfl
  have cs1 : w5.cell? ⟨w2.heap.size, 1, none⟩ = some (.int .i64 u2) := HMw5.out.cell 2 rfl rfl
  have ls_ : w3.heap.size < w5.heap.size := HMw5.out.lt 1 rfl
  have cs_0 : w5.cell? ⟨w3.heap.size, 0, none⟩ = some (.int .i64 u1) := HMw5.out.cell 1 rfl rfl
  have cs_1 : w5.cell? ⟨w3.heap.size, 1, none⟩ = some (.int .i64 u2) := HMw5.out.cell 1 rfl rfl
  have lm : w4.heap.size < w5.heap.size := HMw5.out.lt 0 rfl
  have cm0 : w5.cell? ⟨w4.heap.size, 0, none⟩ = some (.int .i64 v1) := HMw5.out.cell 0 rfl rfl
  have cm1 : w5.cell? ⟨w4.heap.size, 1, none⟩ = some (.int .i64 v2) := HMw5.out.cell 0 rfl rfl
  go_wp2_with fail
  refine (alive6 _).mono ?_
  rintro e w6 ⟨rfl, hb⟩
  have HMw6 := Lib.hid ((HMw5.out.new w5.heap.size _ _ rfl).call hb)
  clear hb ls cs0 cs1 ls_ cs_0 cs_1 lm cm0 cm1 HMw5
  have lr : w1.heap.size < w6.heap.size := HMw6.out.lt 4 rfl
  have cr0 : w6.cell? ⟨w1.heap.size, 0, none⟩ = some (.int .i64 x0) := HMw6.out.cell 4 rfl rfl
  have cr1 : w6.cell? ⟨w1.heap.size, 1, none⟩ = some (.int .i64 y0) := HMw6.out.cell 4 rfl rfl
  have cr2 : w6.cell? ⟨w1.heap.size, 2, none⟩ = some (.int .i64 x1) := HMw6.out.cell 4 rfl rfl
  have cr3 : w6.cell? ⟨w1.heap.size, 3, none⟩ = some (.int .i64 y1) := HMw6.out.cell 4 rfl rfl
  have cr4 : w6.cell? ⟨w1.heap.size, 4, none⟩ = some (.int .i64 x2) := HMw6.out.cell 4 rfl rfl
  have cr5 : w6.cell? ⟨w1.heap.size, 5, none⟩ = some (.int .i64 y2) := HMw6.out.cell 4 rfl rfl
  have ls : w2.heap.size < w6.heap.size := HMw6.out.lt 3 rfl
  have cs0 : w6.cell? ⟨w2.heap.size, 0, none⟩ = some (.int .i64 u1) := HMw6.out.cell 3 rfl rfl
  have cs1 : w6.cell? ⟨w2.heap.size, 1, none⟩ = some (.int .i64 u2) := HMw6.out.cell 3 rfl rfl
  go_wp2_with fail
  refine (M5.out _).mono ?_
  rintro e w7 ⟨rfl, hb⟩
  have HMw7 := Lib.hid (HMw6.out.call hb)
  clear hb lr cr0 cr1 cr2 cr3 cr4 cr5 ls cs0 cs1 HMw6
  have lr : w1.heap.size < w7.heap.size := HMw7.out.lt 4 rfl
  have cr0 : w7.cell? ⟨w1.heap.size, 0, none⟩ = some (.int .i64 x0) := HMw7.out.cell 4 rfl rfl
  have cr1 : w7.cell? ⟨w1.heap.size, 1, none⟩ = some (.int .i64 y0) := HMw7.out.cell 4 rfl rfl
  have cr2 : w7.cell? ⟨w1.heap.size, 2, none⟩ = some (.int .i64 x1) := HMw7.out.cell 4 rfl rfl
  have cr3 : w7.cell? ⟨w1.heap.size, 3, none⟩ = some (.int .i64 y1) := HMw7.out.cell 4 rfl rfl
  have cr4 : w7.cell? ⟨w1.heap.size, 4, none⟩ = some (.int .i64 x2) := HMw7.out.cell 4 rfl rfl
  have cr5 : w7.cell? ⟨w1.heap.size, 5, none⟩ = some (.int .i64 y2) := HMw7.out.cell 4 rfl rfl
  go_wp2_with fail
  refine (M6.out _).mono ?_
  rintro e w8 ⟨rfl, hb⟩
  have HMw8 := Lib.hid ((HMw7.out.new w7.heap.size _ _ rfl).call hb)
  clear hb lr cr0 cr1 cr2 cr3 cr4 cr5 HMw7
  have lr : w1.heap.size < w8.heap.size := HMw8.out.lt 5 rfl
  have cr0 : w8.cell? ⟨w1.heap.size, 0, none⟩ = some (.int .i64 x0) := HMw8.out.cell 5 rfl rfl
  have cr1 : w8.cell? ⟨w1.heap.size, 1, none⟩ = some (.int .i64 y0) := HMw8.out.cell 5 rfl rfl
  have cr2 : w8.cell? ⟨w1.heap.size, 2, none⟩ = some (.int .i64 x1) := HMw8.out.cell 5 rfl rfl
  have cr3 : w8.cell? ⟨w1.heap.size, 3, none⟩ = some (.int .i64 y1) := HMw8.out.cell 5 rfl rfl
  have cr4 : w8.cell? ⟨w1.heap.size, 4, none⟩ = some (.int .i64 x2) := HMw8.out.cell 5 rfl rfl
  have cr5 : w8.cell? ⟨w1.heap.size, 5, none⟩ = some (.int .i64 y2) := HMw8.out.cell 5 rfl rfl
  go_wp2_with fail
  refine (M7.out _).mono ?_
  rintro e w9 ⟨rfl, hb⟩
  have HMw9 := Lib.hid ((HMw8.out.new w8.heap.size _ _ rfl).call hb)
  clear hb lr cr0 cr1 cr2 cr3 cr4 cr5 HMw8
  have lp : w8.heap.size < w9.heap.size := HMw9.out.lt 0 rfl
  have cp0 : w9.cell? ⟨w8.heap.size, 0, none⟩ = some (.int .i64 p1) := HMw9.out.cell 0 rfl rfl
  have cp1 : w9.cell? ⟨w8.heap.size, 1, none⟩ = some (.int .i64 p2) := HMw9.out.cell 0 rfl rfl
  go_wp2_with fail
  refine (M8.out _).mono ?_
  rintro e w10 ⟨rfl, hb⟩
  have HMw10 := Lib.hid ((HMw9.out.new w9.heap.size _ _ rfl).call hb)
  clear hb lp cp0 cp1 HMw9
  have la : w7.heap.size < w10.heap.size := HMw10.out.lt 2 rfl
  have ca0 : w10.cell? ⟨w7.heap.size, 0, none⟩ = some (.int .i64 s1) := HMw10.out.cell 2 rfl rfl
  have ca1 : w10.cell? ⟨w7.heap.size, 1, none⟩ = some (.int .i64 s2) := HMw10.out.cell 2 rfl rfl
  go_wp2_with fail
  go_ret
  exact ⟨rfl, (HMw10.out.new w10.heap.size _ _ rfl).low⟩
set_option maxRecDepth 100000 in
set_option maxHeartbeats 4000000 in
theorem rspreads_k (l0 l1 l2 l3 l4 l5 x0 y0 x1 y1 x2 y2 : Int) (u1 u2 v1 v2 g s1 s2 p1 p2 q1 q2 k t1 t2 o : Int) (w : World) (hk : k ≠ 0)
    (m0 : ∀ w, Calls Try.prog 21 #[.agg #[.int .i64 l0, .int .i64 l1, .int .i64 l2, .int .i64 l3, .int .i64 l4, .int .i64 l5]] w fun en w' => en = .returned (.tuple #[.agg #[.int .i64 x0, .int .i64 y0, .int .i64 x1, .int .i64 y1, .int .i64 x2, .int .i64 y2], .bool true]) ∧ Below w.heap.size w w')
    (m1 : ∀ w, Calls Try.prog 14 #[.agg #[.int .i64 x0, .int .i64 y0], .agg #[.int .i64 x1, .int .i64 y1]] w fun en w' => en = .returned (.tuple #[.agg #[.int .i64 u1, .int .i64 u2], .int .i64 0]) ∧ Below w.heap.size w w')
    (m2 : ∀ w, Calls Try.prog 14 #[.agg #[.int .i64 x1, .int .i64 y1], .agg #[.int .i64 x0, .int .i64 y0]] w fun en w' => en = .returned (.tuple #[.agg #[.int .i64 u1, .int .i64 u2], .int .i64 0]) ∧ Below w.heap.size w w')
    (m3 : ∀ w, Calls Try.prog 15 #[.agg #[.int .i64 x0, .int .i64 y0], .agg #[.int .i64 x1, .int .i64 y1]] w fun en w' => en = .returned (.tuple #[.agg #[.int .i64 v1, .int .i64 v2], .int .i64 g]) ∧ Below w.heap.size w w')
    (m4 : ∀ w, Calls Try.prog 15 #[.agg #[.int .i64 x1, .int .i64 y1], .agg #[.int .i64 x0, .int .i64 y0]] w fun en w' => en = .returned (.tuple #[.agg #[.int .i64 v1, .int .i64 v2], .int .i64 g]) ∧ Below w.heap.size w w')
    (m5 : ∀ w, Calls Try.prog 15 #[.agg #[.int .i64 x2, .int .i64 y2], .agg #[.int .i64 u1, .int .i64 u2]] w fun en w' => en = .returned (.tuple #[.agg #[.int .i64 s1, .int .i64 s2], .int .i64 0]) ∧ Below w.heap.size w w')
    (m6 : ∀ w, Calls Try.prog 15 #[.agg #[.int .i64 x2, .int .i64 y2], .agg #[.int .i64 x0, .int .i64 y0]] w fun en w' => en = .returned (.tuple #[.agg #[.int .i64 p1, .int .i64 p2], .int .i64 0]) ∧ Below w.heap.size w w')
    (m7 : ∀ w, Calls Try.prog 15 #[.agg #[.int .i64 x2, .int .i64 y2], .agg #[.int .i64 x1, .int .i64 y1]] w fun en w' => en = .returned (.tuple #[.agg #[.int .i64 q1, .int .i64 q2], .int .i64 k]) ∧ Below w.heap.size w w')
    (m8 : ∀ w, Calls Try.prog 14 #[.agg #[.int .i64 p1, .int .i64 p2], .agg #[.int .i64 q1, .int .i64 q2]] w fun en w' => en = .returned (.tuple #[.agg #[.int .i64 t1, .int .i64 t2], .int .i64 o]) ∧ Below w.heap.size w w') :
    Calls Try.prog 6 #[.agg #[.int .i64 l0, .int .i64 l1, .int .i64 l2, .int .i64 l3, .int .i64 l4, .int .i64 l5]] w fun en w' => en = .returned (.bool true) ∧ Below w.heap.size w w' := by
  have M0 := Lib.hid m0; have M1 := Lib.hid m1; have M2 := Lib.hid m2; have M3 := Lib.hid m3; have M4 := Lib.hid m4; have M5 := Lib.hid m5; have M6 := Lib.hid m6; have M7 := Lib.hid m7; have M8 := Lib.hid m8
  clear m0 m1 m2 m3 m4 m5 m6 m7 m8
  have hqk : (k == 0) = false := by simpa using hk
  have hpk : (k != 0) = true := by simpa using hk
  have hE1 := eqRatio_same u1 u2; have hE2 := eqRatio_same v1 v2
  go_enter Try.func6, Try.ntmps6
  go_wp2_with fail
  refine (M0.out _).mono ?_
  rintro e w1 ⟨rfl, hb⟩
  have HMw1 := Lib.hid (((Mem.start w).new w.heap.size _ _ rfl).call hb)
  clear hb
  go_wp2_with fail
  refine (M1.out _).mono ?_
  rintro e w2 ⟨rfl, hb⟩
  have HMw2 := Lib.hid ((HMw1.out.new w1.heap.size _ _ rfl).call hb)
  clear hb HMw1
  have lr : w1.heap.size < w2.heap.size := HMw2.out.lt 0 rfl
  have cr0 : w2.cell? ⟨w1.heap.size, 0, none⟩ = some (.int .i64 x0) := HMw2.out.cell 0 rfl rfl
  have cr1 : w2.cell? ⟨w1.heap.size, 1, none⟩ = some (.int .i64 y0) := HMw2.out.cell 0 rfl rfl
  have cr2 : w2.cell? ⟨w1.heap.size, 2, none⟩ = some (.int .i64 x1) := HMw2.out.cell 0 rfl rfl
  have cr3 : w2.cell? ⟨w1.heap.size, 3, none⟩ = some (.int .i64 y1) := HMw2.out.cell 0 rfl rfl
  have cr4 : w2.cell? ⟨w1.heap.size, 4, none⟩ = some (.int .i64 x2) := HMw2.out.cell 0 rfl rfl
  have cr5 : w2.cell? ⟨w1.heap.size, 5, none⟩ = some (.int .i64 y2) := HMw2.out.cell 0 rfl rfl
  go_wp2_with fail
  refine (M2.out _).mono ?_
  rintro e w3 ⟨rfl, hb⟩
  have HMw3 := Lib.hid ((HMw2.out.new w2.heap.size _ _ rfl).call hb)
  clear hb lr cr0 cr1 cr2 cr3 cr4 cr5 HMw2
  have lr : w1.heap.size < w3.heap.size := HMw3.out.lt 1 rfl
  have cr0 : w3.cell? ⟨w1.heap.size, 0, none⟩ = some (.int .i64 x0) := HMw3.out.cell 1 rfl rfl
  have cr1 : w3.cell? ⟨w1.heap.size, 1, none⟩ = some (.int .i64 y0) := HMw3.out.cell 1 rfl rfl
  have cr2 : w3.cell? ⟨w1.heap.size, 2, none⟩ = some (.int .i64 x1) := HMw3.out.cell 1 rfl rfl
  have cr3 : w3.cell? ⟨w1.heap.size, 3, none⟩ = some (.int .i64 y1) := HMw3.out.cell 1 rfl rfl
  have cr4 : w3.cell? ⟨w1.heap.size, 4, none⟩ = some (.int .i64 x2) := HMw3.out.cell 1 rfl rfl
  have cr5 : w3.cell? ⟨w1.heap.size, 5, none⟩ = some (.int .i64 y2) := HMw3.out.cell 1 rfl rfl
  go_wp2_with fail
  refine (M3.out _).mono ?_
  rintro e w4 ⟨rfl, hb⟩
  have HMw4 := Lib.hid ((HMw3.out.new w3.heap.size _ _ rfl).call hb)
  clear hb lr cr0 cr1 cr2 cr3 cr4 cr5 HMw3
  have lr : w1.heap.size < w4.heap.size := HMw4.out.lt 2 rfl
  have cr0 : w4.cell? ⟨w1.heap.size, 0, none⟩ = some (.int .i64 x0) := HMw4.out.cell 2 rfl rfl
  have cr1 : w4.cell? ⟨w1.heap.size, 1, none⟩ = some (.int .i64 y0) := HMw4.out.cell 2 rfl rfl
  have cr2 : w4.cell? ⟨w1.heap.size, 2, none⟩ = some (.int .i64 x1) := HMw4.out.cell 2 rfl rfl
  have cr3 : w4.cell? ⟨w1.heap.size, 3, none⟩ = some (.int .i64 y1) := HMw4.out.cell 2 rfl rfl
  have cr4 : w4.cell? ⟨w1.heap.size, 4, none⟩ = some (.int .i64 x2) := HMw4.out.cell 2 rfl rfl
  have cr5 : w4.cell? ⟨w1.heap.size, 5, none⟩ = some (.int .i64 y2) := HMw4.out.cell 2 rfl rfl
  go_wp2_with fail
  refine (M4.out _).mono ?_
  rintro e w5 ⟨rfl, hb⟩
  have HMw5 := Lib.hid ((HMw4.out.new w4.heap.size _ _ rfl).call hb)
  clear hb lr cr0 cr1 cr2 cr3 cr4 cr5 HMw4
  have ls : w2.heap.size < w5.heap.size := HMw5.out.lt 2 rfl
  have cs0 : w5.cell? ⟨w2.heap.size, 0, none⟩ = some (.int .i64 u1) := HMw5.out.cell 2 rfl rfl
  have cs1 : w5.cell? ⟨w2.heap.size, 1, none⟩ = some (.int .i64 u2) := HMw5.out.cell 2 rfl rfl
  have ls_ : w3.heap.size < w5.heap.size := HMw5.out.lt 1 rfl
  have cs_0 : w5.cell? ⟨w3.heap.size, 0, none⟩ = some (.int .i64 u1) := HMw5.out.cell 1 rfl rfl
  have cs_1 : w5.cell? ⟨w3.heap.size, 1, none⟩ = some (.int .i64 u2) := HMw5.out.cell 1 rfl rfl
  have lm : w4.heap.size < w5.heap.size := HMw5.out.lt 0 rfl
  have cm0 : w5.cell? ⟨w4.heap.size, 0, none⟩ = some (.int .i64 v1) := HMw5.out.cell 0 rfl rfl
  have cm1 : w5.cell? ⟨w4.heap.size, 1, none⟩ = some (.int .i64 v2) := HMw5.out.cell 0 rfl rfl
  go_wp2_with fail
  refine (alive6 _).mono ?_
  rintro e w6 ⟨rfl, hb⟩
  have HMw6 := Lib.hid ((HMw5.out.new w5.heap.size _ _ rfl).call hb)
  clear hb ls cs0 cs1 ls_ cs_0 cs_1 lm cm0 cm1 HMw5
  have lr : w1.heap.size < w6.heap.size := HMw6.out.lt 4 rfl
  have cr0 : w6.cell? ⟨w1.heap.size, 0, none⟩ = some (.int .i64 x0) := HMw6.out.cell 4 rfl rfl
  have cr1 : w6.cell? ⟨w1.heap.size, 1, none⟩ = some (.int .i64 y0) := HMw6.out.cell 4 rfl rfl
  have cr2 : w6.cell? ⟨w1.heap.size, 2, none⟩ = some (.int .i64 x1) := HMw6.out.cell 4 rfl rfl
  have cr3 : w6.cell? ⟨w1.heap.size, 3, none⟩ = some (.int .i64 y1) := HMw6.out.cell 4 rfl rfl
  have cr4 : w6.cell? ⟨w1.heap.size, 4, none⟩ = some (.int .i64 x2) := HMw6.out.cell 4 rfl rfl
  have cr5 : w6.cell? ⟨w1.heap.size, 5, none⟩ = some (.int .i64 y2) := HMw6.out.cell 4 rfl rfl
  have ls : w2.heap.size < w6.heap.size := HMw6.out.lt 3 rfl
  have cs0 : w6.cell? ⟨w2.heap.size, 0, none⟩ = some (.int .i64 u1) := HMw6.out.cell 3 rfl rfl
  have cs1 : w6.cell? ⟨w2.heap.size, 1, none⟩ = some (.int .i64 u2) := HMw6.out.cell 3 rfl rfl
  go_wp2_with fail
  refine (M5.out _).mono ?_
  rintro e w7 ⟨rfl, hb⟩
  have HMw7 := Lib.hid (HMw6.out.call hb)
  clear hb lr cr0 cr1 cr2 cr3 cr4 cr5 ls cs0 cs1 HMw6
  have lr : w1.heap.size < w7.heap.size := HMw7.out.lt 4 rfl
  have cr0 : w7.cell? ⟨w1.heap.size, 0, none⟩ = some (.int .i64 x0) := HMw7.out.cell 4 rfl rfl
  have cr1 : w7.cell? ⟨w1.heap.size, 1, none⟩ = some (.int .i64 y0) := HMw7.out.cell 4 rfl rfl
  have cr2 : w7.cell? ⟨w1.heap.size, 2, none⟩ = some (.int .i64 x1) := HMw7.out.cell 4 rfl rfl
  have cr3 : w7.cell? ⟨w1.heap.size, 3, none⟩ = some (.int .i64 y1) := HMw7.out.cell 4 rfl rfl
  have cr4 : w7.cell? ⟨w1.heap.size, 4, none⟩ = some (.int .i64 x2) := HMw7.out.cell 4 rfl rfl
  have cr5 : w7.cell? ⟨w1.heap.size, 5, none⟩ = some (.int .i64 y2) := HMw7.out.cell 4 rfl rfl
  go_wp2_with fail
  refine (M6.out _).mono ?_
  rintro e w8 ⟨rfl, hb⟩
  have HMw8 := Lib.hid ((HMw7.out.new w7.heap.size _ _ rfl).call hb)
  clear hb lr cr0 cr1 cr2 cr3 cr4 cr5 HMw7
  have lr : w1.heap.size < w8.heap.size := HMw8.out.lt 5 rfl
  have cr0 : w8.cell? ⟨w1.heap.size, 0, none⟩ = some (.int .i64 x0) := HMw8.out.cell 5 rfl rfl
  have cr1 : w8.cell? ⟨w1.heap.size, 1, none⟩ = some (.int .i64 y0) := HMw8.out.cell 5 rfl rfl
  have cr2 : w8.cell? ⟨w1.heap.size, 2, none⟩ = some (.int .i64 x1) := HMw8.out.cell 5 rfl rfl
  have cr3 : w8.cell? ⟨w1.heap.size, 3, none⟩ = some (.int .i64 y1) := HMw8.out.cell 5 rfl rfl
  have cr4 : w8.cell? ⟨w1.heap.size, 4, none⟩ = some (.int .i64 x2) := HMw8.out.cell 5 rfl rfl
  have cr5 : w8.cell? ⟨w1.heap.size, 5, none⟩ = some (.int .i64 y2) := HMw8.out.cell 5 rfl rfl
  go_wp2_with fail
  refine (M7.out _).mono ?_
  rintro e w9 ⟨rfl, hb⟩
  have HMw9 := Lib.hid ((HMw8.out.new w8.heap.size _ _ rfl).call hb)
  clear hb lr cr0 cr1 cr2 cr3 cr4 cr5 HMw8
  have lp : w8.heap.size < w9.heap.size := HMw9.out.lt 0 rfl
  have cp0 : w9.cell? ⟨w8.heap.size, 0, none⟩ = some (.int .i64 p1) := HMw9.out.cell 0 rfl rfl
  have cp1 : w9.cell? ⟨w8.heap.size, 1, none⟩ = some (.int .i64 p2) := HMw9.out.cell 0 rfl rfl
  go_wp2_with fail
  refine (M8.out _).mono ?_
  rintro e w10 ⟨rfl, hb⟩
  have HMw10 := Lib.hid ((HMw9.out.new w9.heap.size _ _ rfl).call hb)
  clear hb lp cp0 cp1 HMw9
  have la : w7.heap.size < w10.heap.size := HMw10.out.lt 2 rfl
  have ca0 : w10.cell? ⟨w7.heap.size, 0, none⟩ = some (.int .i64 s1) := HMw10.out.cell 2 rfl rfl
  have ca1 : w10.cell? ⟨w7.heap.size, 1, none⟩ = some (.int .i64 s2) := HMw10.out.cell 2 rfl rfl
  go_wp2_with fail
  go_ret
  exact ⟨rfl, (HMw10.out.new w10.heap.size _ _ rfl).low⟩
set_option maxRecDepth 100000 in
set_option maxHeartbeats 4000000 in
theorem rspreads_ok (l0 l1 l2 l3 l4 l5 x0 y0 x1 y1 x2 y2 : Int) (u1 u2 v1 v2 g s1 s2 p1 p2 q1 q2 : Int) (w : World)
    (m0 : ∀ w, Calls Try.prog 21 #[.agg #[.int .i64 l0, .int .i64 l1, .int .i64 l2, .int .i64 l3, .int .i64 l4, .int .i64 l5]] w fun en w' => en = .returned (.tuple #[.agg #[.int .i64 x0, .int .i64 y0, .int .i64 x1, .int .i64 y1, .int .i64 x2, .int .i64 y2], .bool true]) ∧ Below w.heap.size w w')
    (m1 : ∀ w, Calls Try.prog 14 #[.agg #[.int .i64 x0, .int .i64 y0], .agg #[.int .i64 x1, .int .i64 y1]] w fun en w' => en = .returned (.tuple #[.agg #[.int .i64 u1, .int .i64 u2], .int .i64 0]) ∧ Below w.heap.size w w')
    (m2 : ∀ w, Calls Try.prog 14 #[.agg #[.int .i64 x1, .int .i64 y1], .agg #[.int .i64 x0, .int .i64 y0]] w fun en w' => en = .returned (.tuple #[.agg #[.int .i64 u1, .int .i64 u2], .int .i64 0]) ∧ Below w.heap.size w w')
    (m3 : ∀ w, Calls Try.prog 15 #[.agg #[.int .i64 x0, .int .i64 y0], .agg #[.int .i64 x1, .int .i64 y1]] w fun en w' => en = .returned (.tuple #[.agg #[.int .i64 v1, .int .i64 v2], .int .i64 g]) ∧ Below w.heap.size w w')
    (m4 : ∀ w, Calls Try.prog 15 #[.agg #[.int .i64 x1, .int .i64 y1], .agg #[.int .i64 x0, .int .i64 y0]] w fun en w' => en = .returned (.tuple #[.agg #[.int .i64 v1, .int .i64 v2], .int .i64 g]) ∧ Below w.heap.size w w')
    (m5 : ∀ w, Calls Try.prog 15 #[.agg #[.int .i64 x2, .int .i64 y2], .agg #[.int .i64 u1, .int .i64 u2]] w fun en w' => en = .returned (.tuple #[.agg #[.int .i64 s1, .int .i64 s2], .int .i64 0]) ∧ Below w.heap.size w w')
    (m6 : ∀ w, Calls Try.prog 15 #[.agg #[.int .i64 x2, .int .i64 y2], .agg #[.int .i64 x0, .int .i64 y0]] w fun en w' => en = .returned (.tuple #[.agg #[.int .i64 p1, .int .i64 p2], .int .i64 0]) ∧ Below w.heap.size w w')
    (m7 : ∀ w, Calls Try.prog 15 #[.agg #[.int .i64 x2, .int .i64 y2], .agg #[.int .i64 x1, .int .i64 y1]] w fun en w' => en = .returned (.tuple #[.agg #[.int .i64 q1, .int .i64 q2], .int .i64 0]) ∧ Below w.heap.size w w')
    (m8 : ∀ w, Calls Try.prog 14 #[.agg #[.int .i64 p1, .int .i64 p2], .agg #[.int .i64 q1, .int .i64 q2]] w fun en w' => en = .returned (.tuple #[.agg #[.int .i64 s1, .int .i64 s2], .int .i64 0]) ∧ Below w.heap.size w w') :
    Calls Try.prog 6 #[.agg #[.int .i64 l0, .int .i64 l1, .int .i64 l2, .int .i64 l3, .int .i64 l4, .int .i64 l5]] w fun en w' => en = .returned (.bool true) ∧ Below w.heap.size w w' := by
  have M0 := Lib.hid m0; have M1 := Lib.hid m1; have M2 := Lib.hid m2; have M3 := Lib.hid m3; have M4 := Lib.hid m4; have M5 := Lib.hid m5; have M6 := Lib.hid m6; have M7 := Lib.hid m7; have M8 := Lib.hid m8
  clear m0 m1 m2 m3 m4 m5 m6 m7 m8
  have hE1 := eqRatio_same u1 u2; have hE2 := eqRatio_same v1 v2
  have hE3 := eqRatio_same s1 s2
  go_enter Try.func6, Try.ntmps6
  go_wp2_with fail
  refine (M0.out _).mono ?_
  rintro e w1 ⟨rfl, hb⟩
  have HMw1 := Lib.hid (((Mem.start w).new w.heap.size _ _ rfl).call hb)
  clear hb
  go_wp2_with fail
  refine (M1.out _).mono ?_
  rintro e w2 ⟨rfl, hb⟩
  have HMw2 := Lib.hid ((HMw1.out.new w1.heap.size _ _ rfl).call hb)
  clear hb HMw1
  have lr : w1.heap.size < w2.heap.size := HMw2.out.lt 0 rfl
  have cr0 : w2.cell? ⟨w1.heap.size, 0, none⟩ = some (.int .i64 x0) := HMw2.out.cell 0 rfl rfl
  have cr1 : w2.cell? ⟨w1.heap.size, 1, none⟩ = some (.int .i64 y0) := HMw2.out.cell 0 rfl rfl
  have cr2 : w2.cell? ⟨w1.heap.size, 2, none⟩ = some (.int .i64 x1) := HMw2.out.cell 0 rfl rfl
  have cr3 : w2.cell? ⟨w1.heap.size, 3, none⟩ = some (.int .i64 y1) := HMw2.out.cell 0 rfl rfl
  have cr4 : w2.cell? ⟨w1.heap.size, 4, none⟩ = some (.int .i64 x2) := HMw2.out.cell 0 rfl rfl
  have cr5 : w2.cell? ⟨w1.heap.size, 5, none⟩ = some (.int .i64 y2) := HMw2.out.cell 0 rfl rfl
  go_wp2_with fail
  refine (M2.out _).mono ?_
  rintro e w3 ⟨rfl, hb⟩
  have HMw3 := Lib.hid ((HMw2.out.new w2.heap.size _ _ rfl).call hb)
  clear hb lr cr0 cr1 cr2 cr3 cr4 cr5 HMw2
  have lr : w1.heap.size < w3.heap.size := HMw3.out.lt 1 rfl
  have cr0 : w3.cell? ⟨w1.heap.size, 0, none⟩ = some (.int .i64 x0) := HMw3.out.cell 1 rfl rfl
  have cr1 : w3.cell? ⟨w1.heap.size, 1, none⟩ = some (.int .i64 y0) := HMw3.out.cell 1 rfl rfl
  have cr2 : w3.cell? ⟨w1.heap.size, 2, none⟩ = some (.int .i64 x1) := HMw3.out.cell 1 rfl rfl
  have cr3 : w3.cell? ⟨w1.heap.size, 3, none⟩ = some (.int .i64 y1) := HMw3.out.cell 1 rfl rfl
  have cr4 : w3.cell? ⟨w1.heap.size, 4, none⟩ = some (.int .i64 x2) := HMw3.out.cell 1 rfl rfl
  have cr5 : w3.cell? ⟨w1.heap.size, 5, none⟩ = some (.int .i64 y2) := HMw3.out.cell 1 rfl rfl
  go_wp2_with fail
  refine (M3.out _).mono ?_
  rintro e w4 ⟨rfl, hb⟩
  have HMw4 := Lib.hid ((HMw3.out.new w3.heap.size _ _ rfl).call hb)
  clear hb lr cr0 cr1 cr2 cr3 cr4 cr5 HMw3
  have lr : w1.heap.size < w4.heap.size := HMw4.out.lt 2 rfl
  have cr0 : w4.cell? ⟨w1.heap.size, 0, none⟩ = some (.int .i64 x0) := HMw4.out.cell 2 rfl rfl
  have cr1 : w4.cell? ⟨w1.heap.size, 1, none⟩ = some (.int .i64 y0) := HMw4.out.cell 2 rfl rfl
  have cr2 : w4.cell? ⟨w1.heap.size, 2, none⟩ = some (.int .i64 x1) := HMw4.out.cell 2 rfl rfl
  have cr3 : w4.cell? ⟨w1.heap.size, 3, none⟩ = some (.int .i64 y1) := HMw4.out.cell 2 rfl rfl
  have cr4 : w4.cell? ⟨w1.heap.size, 4, none⟩ = some (.int .i64 x2) := HMw4.out.cell 2 rfl rfl
  have cr5 : w4.cell? ⟨w1.heap.size, 5, none⟩ = some (.int .i64 y2) := HMw4.out.cell 2 rfl rfl
  go_wp2_with fail
  refine (M4.out _).mono ?_
  rintro e w5 ⟨rfl, hb⟩
  have HMw5 := Lib.hid ((HMw4.out.new w4.heap.size _ _ rfl).call hb)
  clear hb lr cr0 cr1 cr2 cr3 cr4 cr5 HMw4
  have ls : w2.heap.size < w5.heap.size := HMw5.out.lt 2 rfl
  have cs0 : w5.cell? ⟨w2.heap.size, 0, none⟩ = some (.int .i64 u1) := HMw5.out.cell 2 rfl rfl
  have cs1 : w5.cell? ⟨w2.heap.size, 1, none⟩ = some (.int .i64 u2) := HMw5.out.cell 2 rfl rfl
  have ls_ : w3.heap.size < w5.heap.size := HMw5.out.lt 1 rfl
  have cs_0 : w5.cell? ⟨w3.heap.size, 0, none⟩ = some (.int .i64 u1) := HMw5.out.cell 1 rfl rfl
  have cs_1 : w5.cell? ⟨w3.heap.size, 1, none⟩ = some (.int .i64 u2) := HMw5.out.cell 1 rfl rfl
  have lm : w4.heap.size < w5.heap.size := HMw5.out.lt 0 rfl
  have cm0 : w5.cell? ⟨w4.heap.size, 0, none⟩ = some (.int .i64 v1) := HMw5.out.cell 0 rfl rfl
  have cm1 : w5.cell? ⟨w4.heap.size, 1, none⟩ = some (.int .i64 v2) := HMw5.out.cell 0 rfl rfl
  go_wp2_with fail
  refine (alive6 _).mono ?_
  rintro e w6 ⟨rfl, hb⟩
  have HMw6 := Lib.hid ((HMw5.out.new w5.heap.size _ _ rfl).call hb)
  clear hb ls cs0 cs1 ls_ cs_0 cs_1 lm cm0 cm1 HMw5
  have lr : w1.heap.size < w6.heap.size := HMw6.out.lt 4 rfl
  have cr0 : w6.cell? ⟨w1.heap.size, 0, none⟩ = some (.int .i64 x0) := HMw6.out.cell 4 rfl rfl
  have cr1 : w6.cell? ⟨w1.heap.size, 1, none⟩ = some (.int .i64 y0) := HMw6.out.cell 4 rfl rfl
  have cr2 : w6.cell? ⟨w1.heap.size, 2, none⟩ = some (.int .i64 x1) := HMw6.out.cell 4 rfl rfl
  have cr3 : w6.cell? ⟨w1.heap.size, 3, none⟩ = some (.int .i64 y1) := HMw6.out.cell 4 rfl rfl
  have cr4 : w6.cell? ⟨w1.heap.size, 4, none⟩ = some (.int .i64 x2) := HMw6.out.cell 4 rfl rfl
  have cr5 : w6.cell? ⟨w1.heap.size, 5, none⟩ = some (.int .i64 y2) := HMw6.out.cell 4 rfl rfl
  have ls : w2.heap.size < w6.heap.size := HMw6.out.lt 3 rfl
  have cs0 : w6.cell? ⟨w2.heap.size, 0, none⟩ = some (.int .i64 u1) := HMw6.out.cell 3 rfl rfl
  have cs1 : w6.cell? ⟨w2.heap.size, 1, none⟩ = some (.int .i64 u2) := HMw6.out.cell 3 rfl rfl
  go_wp2_with fail
  refine (M5.out _).mono ?_
  rintro e w7 ⟨rfl, hb⟩
  have HMw7 := Lib.hid (HMw6.out.call hb)
  clear hb lr cr0 cr1 cr2 cr3 cr4 cr5 ls cs0 cs1 HMw6
  have lr : w1.heap.size < w7.heap.size := HMw7.out.lt 4 rfl
  have cr0 : w7.cell? ⟨w1.heap.size, 0, none⟩ = some (.int .i64 x0) := HMw7.out.cell 4 rfl rfl
  have cr1 : w7.cell? ⟨w1.heap.size, 1, none⟩ = some (.int .i64 y0) := HMw7.out.cell 4 rfl rfl
  have cr2 : w7.cell? ⟨w1.heap.size, 2, none⟩ = some (.int .i64 x1) := HMw7.out.cell 4 rfl rfl
  have cr3 : w7.cell? ⟨w1.heap.size, 3, none⟩ = some (.int .i64 y1) := HMw7.out.cell 4 rfl rfl
  have cr4 : w7.cell? ⟨w1.heap.size, 4, none⟩ = some (.int .i64 x2) := HMw7.out.cell 4 rfl rfl
  have cr5 : w7.cell? ⟨w1.heap.size, 5, none⟩ = some (.int .i64 y2) := HMw7.out.cell 4 rfl rfl
  go_wp2_with fail
  refine (M6.out _).mono ?_
  rintro e w8 ⟨rfl, hb⟩
  have HMw8 := Lib.hid ((HMw7.out.new w7.heap.size _ _ rfl).call hb)
  clear hb lr cr0 cr1 cr2 cr3 cr4 cr5 HMw7
  have lr : w1.heap.size < w8.heap.size := HMw8.out.lt 5 rfl
  have cr0 : w8.cell? ⟨w1.heap.size, 0, none⟩ = some (.int .i64 x0) := HMw8.out.cell 5 rfl rfl
  have cr1 : w8.cell? ⟨w1.heap.size, 1, none⟩ = some (.int .i64 y0) := HMw8.out.cell 5 rfl rfl
  have cr2 : w8.cell? ⟨w1.heap.size, 2, none⟩ = some (.int .i64 x1) := HMw8.out.cell 5 rfl rfl
  have cr3 : w8.cell? ⟨w1.heap.size, 3, none⟩ = some (.int .i64 y1) := HMw8.out.cell 5 rfl rfl
  have cr4 : w8.cell? ⟨w1.heap.size, 4, none⟩ = some (.int .i64 x2) := HMw8.out.cell 5 rfl rfl
  have cr5 : w8.cell? ⟨w1.heap.size, 5, none⟩ = some (.int .i64 y2) := HMw8.out.cell 5 rfl rfl
  go_wp2_with fail
  refine (M7.out _).mono ?_
  rintro e w9 ⟨rfl, hb⟩
  have HMw9 := Lib.hid ((HMw8.out.new w8.heap.size _ _ rfl).call hb)
  clear hb lr cr0 cr1 cr2 cr3 cr4 cr5 HMw8
  have lp : w8.heap.size < w9.heap.size := HMw9.out.lt 0 rfl
  have cp0 : w9.cell? ⟨w8.heap.size, 0, none⟩ = some (.int .i64 p1) := HMw9.out.cell 0 rfl rfl
  have cp1 : w9.cell? ⟨w8.heap.size, 1, none⟩ = some (.int .i64 p2) := HMw9.out.cell 0 rfl rfl
  go_wp2_with fail
  refine (M8.out _).mono ?_
  rintro e w10 ⟨rfl, hb⟩
  have HMw10 := Lib.hid ((HMw9.out.new w9.heap.size _ _ rfl).call hb)
  clear hb lp cp0 cp1 HMw9
  have la : w7.heap.size < w10.heap.size := HMw10.out.lt 2 rfl
  have ca0 : w10.cell? ⟨w7.heap.size, 0, none⟩ = some (.int .i64 s1) := HMw10.out.cell 2 rfl rfl
  have ca1 : w10.cell? ⟨w7.heap.size, 1, none⟩ = some (.int .i64 s2) := HMw10.out.cell 2 rfl rfl
  go_wp2_with fail
  go_ret
  exact ⟨rfl, (HMw10.out.new w10.heap.size _ _ rfl).low⟩
/-- Add and Mul answer something of whatever ints. -/
theorem qmul_some (a1 a2 b1 b2 : Int) (ha1 : IsInt a1) (ha2 : IsInt a2) (hb1 : IsInt b1) (hb2 : IsInt b2) : ∃ x y e : Int, IsInt x ∧ IsInt y ∧ ∀ w, Calls Try.prog 15 #[.agg #[.int .i64 a1, .int .i64 a2], .agg #[.int .i64 b1, .int .i64 b2]] w fun en w' => en = .returned (.tuple #[.agg #[.int .i64 x, .int .i64 y], .int .i64 e]) ∧ Below w.heap.size w w' := by
  by_cases h : Low a1 a2 ∧ Low b1 b2
  · refine ⟨_, _, _, ?_, ?_, qmul_ok a1 a2 b1 b2 ha1 ha2 hb1 hb2 h.1 h.2⟩
    · unfold raN; split; rename_i f; exact f.2.1; decide
    · unfold raD; split; rename_i f; exact f.2.2; decide
  · exact ⟨_, _, _, by decide, by decide, qmul_no a1 a2 b1 b2 ha1 ha2 hb1 hb2 h⟩
theorem qadd_some (a1 a2 b1 b2 : Int) (ha1 : IsInt a1) (ha2 : IsInt a2) (hb1 : IsInt b1) (hb2 : IsInt b2) : ∃ x y e : Int, IsInt x ∧ IsInt y ∧ ∀ w, Calls Try.prog 14 #[.agg #[.int .i64 a1, .int .i64 a2], .agg #[.int .i64 b1, .int .i64 b2]] w fun en w' => en = .returned (.tuple #[.agg #[.int .i64 x, .int .i64 y], .int .i64 e]) ∧ Below w.heap.size w w' := by
  by_cases h : Low a1 a2 ∧ Low b1 b2
  · refine ⟨_, _, _, ?_, ?_, qadd_ok a1 a2 b1 b2 ha1 ha2 hb1 hb2 h.1 h.2⟩
    · unfold raN; split; rename_i f; exact f.2.1; decide
    · unfold raD; split; rename_i f; exact f.2.2; decide
  · exact ⟨_, _, _, by decide, by decide, qadd_no a1 a2 b1 b2 ha1 ha2 hb1 hb2 h⟩
/-- Products over sums, in lowest terms both ways. -/
theorem low_spread (x0 y0 x1 y1 x2 y2 : Int) (p0 : y0 ≠ 0) (p1 : y1 ≠ 0) (p2 : y2 ≠ 0) :
    lowN (lowN (x2 * x0) (y2 * y0) * lowD (x2 * x1) (y2 * y1) + lowN (x2 * x1) (y2 * y1) * lowD (x2 * x0) (y2 * y0)) (lowD (x2 * x0) (y2 * y0) * lowD (x2 * x1) (y2 * y1)) = lowN (x2 * lowN (x0 * y1 + x1 * y0) (y0 * y1)) (y2 * lowD (x0 * y1 + x1 * y0) (y0 * y1)) ∧
    lowD (lowN (x2 * x0) (y2 * y0) * lowD (x2 * x1) (y2 * y1) + lowN (x2 * x1) (y2 * y1) * lowD (x2 * x0) (y2 * y0)) (lowD (x2 * x0) (y2 * y0) * lowD (x2 * x1) (y2 * y1)) = lowD (x2 * lowN (x0 * y1 + x1 * y0) (y0 * y1)) (y2 * lowD (x0 * y1 + x1 * y0) (y0 * y1)) := by
  have q0 : y2 * y0 ≠ 0 := Int.mul_ne_zero p2 p0
  have q1 : y2 * y1 ≠ 0 := Int.mul_ne_zero p2 p1
  have qs : y0 * y1 ≠ 0 := Int.mul_ne_zero p0 p1
  have ca := low_cross (x2 * x0) (y2 * y0)
  have cb := low_cross (x2 * x1) (y2 * y1)
  have cs := low_cross (x0 * y1 + x1 * y0) (y0 * y1)
  have da := (lowND_low (x2 * x0) (y2 * y0) q0).1
  have db := (lowND_low (x2 * x1) (y2 * y1) q1).1
  have ds := (lowND_low (x0 * y1 + x1 * y0) (y0 * y1) qs).1
  generalize lowN (x2 * x0) (y2 * y0) = A at *
  generalize lowD (x2 * x0) (y2 * y0) = a at *
  generalize lowN (x2 * x1) (y2 * y1) = B at *
  generalize lowD (x2 * x1) (y2 * y1) = b at *
  generalize lowN (x0 * y1 + x1 * y0) (y0 * y1) = S at *
  generalize lowD (x0 * y1 + x1 * y0) (y0 * y1) = s at *
  have ab : a * b ≠ 0 := Int.mul_ne_zero (by omega) (by omega)
  have ys : y2 * s ≠ 0 := Int.mul_ne_zero p2 (by omega)
  refine low_unique (lowND_low _ _ ab) (lowND_low _ _ ys) ?_
  have c1 := low_cross (A * b + B * a) (a * b)
  have c2 := low_cross (x2 * S) (y2 * s)
  generalize lowN (A * b + B * a) (a * b) = T at *
  generalize lowD (A * b + B * a) (a * b) = t at *
  generalize lowN (x2 * S) (y2 * s) = U at *
  generalize lowD (x2 * S) (y2 * s) = u at *
  -- (A b + B a) / (a b) = x2 S / (y2 s)
  have key : (A * b + B * a) * (y2 * s) = (x2 * S) * (a * b) := by
    refine Int.eq_of_mul_eq_mul_right (a := (y2 * y0) * (y0 * y1) * y1) (Int.mul_ne_zero (Int.mul_ne_zero q0 qs) p1) ?_
    calc (A * b + B * a) * (y2 * s) * ((y2 * y0) * (y0 * y1) * y1)
        = (A * (y2 * y0)) * b * (y0 * y1) * (y2 * s * y1) + (B * (y2 * y1)) * a * (y0 * y1) * (y2 * s * y0) := by rw [Int.add_mul, Int.add_mul]; congr 1 <;> ac_rfl
      _ = (x2 * x0 * a) * b * (y0 * y1) * (y2 * s * y1) + (x2 * x1 * b) * a * (y0 * y1) * (y2 * s * y0) := by rw [ca, cb]
      _ = (x0 * y1 + x1 * y0) * s * (x2 * y2 * (y0 * y1) * (a * b)) := by rw [Int.add_mul, Int.add_mul]; congr 1 <;> ac_rfl
      _ = S * (y0 * y1) * (x2 * y2 * (y0 * y1) * (a * b)) := by rw [cs]
      _ = (x2 * S) * (a * b) * ((y2 * y0) * (y0 * y1) * y1) := by ac_rfl
  refine Int.eq_of_mul_eq_mul_right (a := (a * b) * (y2 * s)) (Int.mul_ne_zero ab ys) ?_
  calc T * u * ((a * b) * (y2 * s)) = (T * (a * b)) * (u * (y2 * s)) := by ac_rfl
    _ = ((A * b + B * a) * t) * (u * (y2 * s)) := by rw [c1]
    _ = ((A * b + B * a) * (y2 * s)) * (t * u) := by ac_rfl
    _ = ((x2 * S) * (a * b)) * (t * u) := by rw [key]
    _ = ((x2 * S) * u) * (t * (a * b)) := by ac_rfl
    _ = (U * (y2 * s)) * (t * (a * b)) := by rw [c2]
    _ = U * t * ((a * b) * (y2 * s)) := by ac_rfl
theorem rspreads_yes (l0 l1 l2 l3 l4 l5 x0 y0 x1 y1 x2 y2 : Int) (i0 : IsInt x0) (j0 : IsInt y0) (i1 : IsInt x1) (j1 : IsInt y1) (i2 : IsInt x2) (j2 : IsInt y2) (L0 : Low x0 y0) (L1 : Low x1 y1) (L2 : Low x2 y2) (w : World)
    (m0 : ∀ w, Calls Try.prog 21 #[.agg #[.int .i64 l0, .int .i64 l1, .int .i64 l2, .int .i64 l3, .int .i64 l4, .int .i64 l5]] w fun en w' => en = .returned (.tuple #[.agg #[.int .i64 x0, .int .i64 y0, .int .i64 x1, .int .i64 y1, .int .i64 x2, .int .i64 y2], .bool true]) ∧ Below w.heap.size w w') :
    Calls Try.prog 6 #[.agg #[.int .i64 l0, .int .i64 l1, .int .i64 l2, .int .i64 l3, .int .i64 l4, .int .i64 l5]] w fun en w' => en = .returned (.bool true) ∧ Below w.heap.size w w' := by
  have c1 := qadd_ok x0 y0 x1 y1 i0 j0 i1 j1 L0 L1
  have c2 := qadd_ok x1 y1 x0 y0 i1 j1 i0 j0 L1 L0
  have c3 := qmul_ok x0 y0 x1 y1 i0 j0 i1 j1 L0 L1
  have c4 := qmul_ok x1 y1 x0 y0 i1 j1 i0 j0 L1 L0
  have p0 : y0 ≠ 0 := by have := L0.1; omega
  have p1 : y1 ≠ 0 := by have := L1.1; omega
  have p2 : y2 ≠ 0 := by have := L2.1; omega
  rw [Int.add_comm (x1 * y0), Int.mul_comm y1 y0] at c2
  rw [Int.mul_comm x1 x0, Int.mul_comm y1 y0] at c4
  have qs : y0 * y1 ≠ 0 := Int.mul_ne_zero p0 p1
  have q0 : y2 * y0 ≠ 0 := Int.mul_ne_zero p2 p0
  have q1 : y2 * y1 ≠ 0 := Int.mul_ne_zero p2 p1
  by_cases f : Fits (x0 * y1 + x1 * y0) (y0 * y1)
  · rw [raE_ok f, raN_ok f, raD_ok f] at c1 c2
    have Ls := lowND_low (x0 * y1 + x1 * y0) (y0 * y1) f.1
    have c5 := qmul_ok x2 y2 _ _ i2 j2 f.2.1 f.2.2 L2 Ls
    have c6 := qmul_ok x2 y2 x0 y0 i2 j2 i0 j0 L2 L0
    have c7 := qmul_ok x2 y2 x1 y1 i2 j2 i1 j1 L2 L1
    have qz : y2 * lowD (x0 * y1 + x1 * y0) (y0 * y1) ≠ 0 := Int.mul_ne_zero p2 (by have := Ls.1; omega)
    have t8 := fun hx hy hz hw => qadd_some (raN (x2 * x0) (y2 * y0)) (raD (x2 * x0) (y2 * y0)) (raN (x2 * x1) (y2 * y1)) (raD (x2 * x1) (y2 * y1)) hx hy hz hw
    have iN : ∀ n d, IsInt (raN n d) := fun n d => by unfold raN; split; rename_i f; exact f.2.1; decide
    have iD : ∀ n d, IsInt (raD n d) := fun n d => by unfold raD; split; rename_i f; exact f.2.2; decide
    obtain ⟨t1, t2, o, _, _, c8⟩ := t8 (iN _ _) (iD _ _) (iN _ _) (iD _ _)
    by_cases g : Fits (x2 * lowN (x0 * y1 + x1 * y0) (y0 * y1)) (y2 * lowD (x0 * y1 + x1 * y0) (y0 * y1))
    · rw [raE_ok g] at c5
      by_cases h : Fits (x2 * x0) (y2 * y0)
      · rw [raE_ok h] at c6
        by_cases k : Fits (x2 * x1) (y2 * y1)
        · rw [raE_ok k] at c7
          rw [raN_ok h, raD_ok h] at c6
          rw [raN_ok k, raD_ok k] at c7
          have c9 := qadd_ok _ _ _ _ h.2.1 h.2.2 k.2.1 k.2.2 (lowND_low _ _ h.1) (lowND_low _ _ k.1)
          obtain ⟨e1, e2⟩ := low_spread x0 y0 x1 y1 x2 y2 p0 p1 p2
          have hz : lowD (x2 * x0) (y2 * y0) * lowD (x2 * x1) (y2 * y1) ≠ 0 := Int.mul_ne_zero (by have := (lowND_low (x2 * x0) (y2 * y0) h.1).1; omega) (by have := (lowND_low (x2 * x1) (y2 * y1) k.1).1; omega)
          have fin : Fits (lowN (x2 * x0) (y2 * y0) * lowD (x2 * x1) (y2 * y1) + lowN (x2 * x1) (y2 * y1) * lowD (x2 * x0) (y2 * y0)) (lowD (x2 * x0) (y2 * y0) * lowD (x2 * x1) (y2 * y1)) := ⟨hz, by rw [e1]; exact g.2.1, by rw [e2]; exact g.2.2⟩
          rw [raE_ok fin, raN_ok fin, raD_ok fin, e1, e2] at c9
          rw [raN_ok g, raD_ok g] at c5
          exact rspreads_ok l0 l1 l2 l3 l4 l5 x0 y0 x1 y1 x2 y2 _ _ _ _ _ _ _ _ _ _ _ w m0 c1 c2 c3 c4 c5 c6 c7 c9
        · rw [raE_no q1 k] at c7
          exact rspreads_k l0 l1 l2 l3 l4 l5 x0 y0 x1 y1 x2 y2 _ _ _ _ _ _ _ _ _ _ _ _ _ _ _ w (by decide) m0 c1 c2 c3 c4 c5 c6 c7 c8
      · rw [raE_no q0 h] at c6
        exact rspreads_j l0 l1 l2 l3 l4 l5 x0 y0 x1 y1 x2 y2 _ _ _ _ _ _ _ _ _ _ _ _ _ _ _ _ w (by decide) m0 c1 c2 c3 c4 c5 c6 c7 c8
    · rw [raE_no qz g] at c5
      exact rspreads_i l0 l1 l2 l3 l4 l5 x0 y0 x1 y1 x2 y2 _ _ _ _ _ _ _ _ _ _ _ _ _ _ _ _ _ w (by decide) m0 c1 c2 c3 c4 c5 c6 c7 c8
  · rw [raE_no qs f] at c1 c2
    have iN : ∀ n d, IsInt (raN n d) := fun n d => by unfold raN; split; rename_i f; exact f.2.1; decide
    have iD : ∀ n d, IsInt (raD n d) := fun n d => by unfold raD; split; rename_i f; exact f.2.2; decide
    obtain ⟨s1, s2, i, _, _, c5⟩ := qmul_some x2 y2 (raN (x0 * y1 + x1 * y0) (y0 * y1)) (raD (x0 * y1 + x1 * y0) (y0 * y1)) i2 j2 (iN _ _) (iD _ _)
    obtain ⟨a1, a2, j, ia1, ia2, c6⟩ := qmul_some x2 y2 x0 y0 i2 j2 i0 j0
    obtain ⟨b1, b2, k, ib1, ib2, c7⟩ := qmul_some x2 y2 x1 y1 i2 j2 i1 j1
    obtain ⟨t1, t2, o, _, _, c8⟩ := qadd_some a1 a2 b1 b2 ia1 ia2 ib1 ib2
    exact rspreads_e l0 l1 l2 l3 l4 l5 x0 y0 x1 y1 x2 y2 _ _ _ _ _ _ _ _ _ _ _ _ _ _ _ _ _ _ w (by decide) m0 c1 c2 c3 c4 c5 c6 c7 c8
theorem rspreads_walk (l0 l1 l2 l3 l4 l5 : Int) (h0 : IsInt l0) (h1 : IsInt l1) (h2 : IsInt l2) (h3 : IsInt l3) (h4 : IsInt l4) (h5 : IsInt l5) (w : World) :
    Calls Try.prog 6 #[.agg #[.int .i64 l0, .int .i64 l1, .int .i64 l2, .int .i64 l3, .int .i64 l4, .int .i64 l5]] w fun en w' => en = .returned (.bool true) ∧ Below w.heap.size w w' := by
  have n0 := new_any l0 (ddOf l1) h0 (dd_int h1)
  have n1 := new_any l2 (ddOf l3) h2 (dd_int h3)
  have n2 := new_any l4 (ddOf l5) h4 (dd_int h5)
  have mk := fun w => made_core l0 l1 l2 l3 l4 l5 _ _ _ _ _ _ _ _ _ w n0 n1 n2
  by_cases E : raE l0 (ddOf l1) = 0 ∧ raE l2 (ddOf l3) = 0 ∧ raE l4 (ddOf l5) = 0
  · have m0 : ∀ w, Calls Try.prog 21 #[.agg #[.int .i64 l0, .int .i64 l1, .int .i64 l2, .int .i64 l3, .int .i64 l4, .int .i64 l5]] w fun en w' => en = .returned (.tuple #[.agg #[.int .i64 (raN l0 (ddOf l1)), .int .i64 (raD l0 (ddOf l1)), .int .i64 (raN l2 (ddOf l3)), .int .i64 (raD l2 (ddOf l3)), .int .i64 (raN l4 (ddOf l5)), .int .i64 (raD l4 (ddOf l5))], .bool true]) ∧ Below w.heap.size w w' := fun w => (mk w).mono fun en w' h => ⟨by
      rcases h.1 with k | k
      · exact k.2.2.2
      · exact absurd E k.1, h.2⟩
    obtain ⟨E0, E1, E2⟩ := E
    have f0 := raE_zero.1 E0
    have f1 := raE_zero.1 E1
    have f2 := raE_zero.1 E2
    rw [raN_ok f0, raD_ok f0, raN_ok f1, raD_ok f1, raN_ok f2, raD_ok f2] at m0
    have L0 := lowND_low l0 (ddOf l1) f0.1
    have L1 := lowND_low l2 (ddOf l3) f1.1
    have L2 := lowND_low l4 (ddOf l5) f2.1
    exact rspreads_yes l0 l1 l2 l3 l4 l5 _ _ _ _ _ _ f0.2.1 f0.2.2 f1.2.1 f1.2.2 f2.2.1 f2.2.2 L0 L1 L2 w m0
  · exact rspreads_no l0 l1 l2 l3 l4 l5 w fun w => (mk w).mono fun en w' h => ⟨by
      rcases h.1 with k | k
      · exact absurd ⟨k.1, k.2.1, k.2.2.1⟩ E
      · exact k.2, h.2⟩
end Go.Proofs.Ytjnebbjjabnipaa
