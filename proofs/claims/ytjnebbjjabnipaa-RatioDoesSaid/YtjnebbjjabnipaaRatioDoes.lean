/- The law RatioDoes, walked: Cmp, Add, Mul and Enclose are as the reference's; nothing that was in memory before is changed. -/
import Derived.Test.YtjnebbjjabnipaaAlive6
import Derived.Test.YtjnebbjjabnipaaRatioRef
namespace Go.Proofs.Ytjnebbjjabnipaa
open Go.RowKit

theorem eqSpan (a b c d : Int) (w : World) : (Op.equalIn 10000 34 (.agg #[.int .i64 a, .int .i64 b]) (.agg #[.int .i64 c, .int .i64 d])).run Try.prog w = .ok (decide (a = c ∧ b = d)) w := by
  by_cases h : a = c ∧ b = d
  · rw [decide_eq_true h]
    obtain ⟨rfl, rfl⟩ := h
    go_simp
  · rw [decide_eq_false h]
    by_cases k : a = c
    · have e1 : (a == c) = true := by simpa using k
      have e2 : (b == d) = false := by simpa using fun e => h ⟨k, e⟩
      go_simp
    · have e1 : (a == c) = false := by simpa using k
      go_simp
theorem eqSpan_same (a b : Int) (w : World) : (Op.equalIn 10000 34 (.agg #[.int .i64 a, .int .i64 b]) (.agg #[.int .i64 a, .int .i64 b])).run Try.prog w = .ok true w := by
  rw [eqSpan, decide_eq_true ⟨rfl, rfl⟩]
set_option maxHeartbeats 2000000 in
theorem rdoes_000 (a1 a2 b1 b2 s : Int) (w : World)
    (c1 : ∀ w, Calls Try.prog 13 #[.agg #[.int .i64 a1, .int .i64 a2], .agg #[.int .i64 b1, .int .i64 b2]] w fun en w' => en = .returned (.tuple #[.int .i64 0, .int .i64 1]) ∧ Below w.heap.size w w')
    (c2 : ∀ w, Calls Try.prog 14 #[.agg #[.int .i64 a1, .int .i64 a2], .agg #[.int .i64 b1, .int .i64 b2]] w fun en w' => en = .returned (.tuple #[.agg #[.int .i64 0, .int .i64 0], .int .i64 1]) ∧ Below w.heap.size w w')
    (c3 : ∀ w, Calls Try.prog 15 #[.agg #[.int .i64 a1, .int .i64 a2], .agg #[.int .i64 b1, .int .i64 b2]] w fun en w' => en = .returned (.tuple #[.agg #[.int .i64 0, .int .i64 0], .int .i64 1]) ∧ Below w.heap.size w w')
    (c4 : ∀ w, Calls Try.prog 16 #[.agg #[.int .i64 a1, .int .i64 a2], .int .i64 s] w fun en w' => en = .returned (.tuple #[.agg #[.int .i64 0, .int .i64 0], .int .i64 1]) ∧ Below w.heap.size w w')
    (c5 : ∀ w, Calls Try.prog 10 #[.agg #[.int .i64 a1, .int .i64 a2]] w fun en w' => en = .returned (.bool false) ∧ Below w.heap.size w w') :
    Calls Try.prog 4 #[.agg #[.int .i64 a1, .int .i64 a2], .agg #[.int .i64 b1, .int .i64 b2], .int .i64 s] w fun en w' => en = .returned (.bool true) ∧ Below w.heap.size w w' := by
  have C1 := Lib.hid c1; have C2 := Lib.hid c2; have C3 := Lib.hid c3; have C4 := Lib.hid c4; have C5 := Lib.hid c5
  clear c1 c2 c3 c4 c5
  go_enter Try.func4, Try.ntmps4
  go_wp2_with fail
  refine (C1.out _).mono ?_
  rintro e w1 ⟨rfl, hb⟩
  have HMw1 := Lib.hid ((((Mem.start w).new w.heap.size _ _ rfl).new (w.heap.size + 1) _ _ (by simp)).call hb)
  clear hb
  have la : w.heap.size < w1.heap.size := HMw1.out.lt 1 rfl
  have ca0 : w1.cell? ⟨w.heap.size, 0, none⟩ = some (.int .i64 a1) := HMw1.out.cell 1 rfl rfl
  have ca1 : w1.cell? ⟨w.heap.size, 1, none⟩ = some (.int .i64 a2) := HMw1.out.cell 1 rfl rfl
  have lb : (w.heap.size + 1) < w1.heap.size := HMw1.out.lt 0 rfl
  have cb0 : w1.cell? ⟨(w.heap.size + 1), 0, none⟩ = some (.int .i64 b1) := HMw1.out.cell 0 rfl rfl
  have cb1 : w1.cell? ⟨(w.heap.size + 1), 1, none⟩ = some (.int .i64 b2) := HMw1.out.cell 0 rfl rfl
  go_wp2_with fail
  refine (C2.out _).mono ?_
  rintro e w2 ⟨rfl, hb⟩
  have HMw2 := Lib.hid (HMw1.out.call hb)
  clear hb la ca0 ca1 lb cb0 cb1 HMw1
  have la : w.heap.size < w2.heap.size := HMw2.out.lt 1 rfl
  have ca0 : w2.cell? ⟨w.heap.size, 0, none⟩ = some (.int .i64 a1) := HMw2.out.cell 1 rfl rfl
  have ca1 : w2.cell? ⟨w.heap.size, 1, none⟩ = some (.int .i64 a2) := HMw2.out.cell 1 rfl rfl
  have lb : (w.heap.size + 1) < w2.heap.size := HMw2.out.lt 0 rfl
  have cb0 : w2.cell? ⟨(w.heap.size + 1), 0, none⟩ = some (.int .i64 b1) := HMw2.out.cell 0 rfl rfl
  have cb1 : w2.cell? ⟨(w.heap.size + 1), 1, none⟩ = some (.int .i64 b2) := HMw2.out.cell 0 rfl rfl
  go_wp2_with fail
  refine (C3.out _).mono ?_
  rintro e w3 ⟨rfl, hb⟩
  have HMw3 := Lib.hid ((HMw2.out.new w2.heap.size _ _ rfl).call hb)
  clear hb la ca0 ca1 lb cb0 cb1 HMw2
  have la : w.heap.size < w3.heap.size := HMw3.out.lt 2 rfl
  have ca0 : w3.cell? ⟨w.heap.size, 0, none⟩ = some (.int .i64 a1) := HMw3.out.cell 2 rfl rfl
  have ca1 : w3.cell? ⟨w.heap.size, 1, none⟩ = some (.int .i64 a2) := HMw3.out.cell 2 rfl rfl
  have lb : (w.heap.size + 1) < w3.heap.size := HMw3.out.lt 1 rfl
  have cb0 : w3.cell? ⟨(w.heap.size + 1), 0, none⟩ = some (.int .i64 b1) := HMw3.out.cell 1 rfl rfl
  have cb1 : w3.cell? ⟨(w.heap.size + 1), 1, none⟩ = some (.int .i64 b2) := HMw3.out.cell 1 rfl rfl
  go_wp2_with fail
  refine (C4.out _).mono ?_
  rintro e w4 ⟨rfl, hb⟩
  have HMw4 := Lib.hid ((HMw3.out.new w3.heap.size _ _ rfl).call hb)
  clear hb la ca0 ca1 lb cb0 cb1 HMw3
  go_wp2_with fail
  refine (alive6 _).mono ?_
  rintro e w5 ⟨rfl, hb⟩
  have HMw5 := Lib.hid ((HMw4.out.new w4.heap.size _ _ rfl).call hb)
  clear hb HMw4
  have la : w.heap.size < w5.heap.size := HMw5.out.lt 4 rfl
  have ca0 : w5.cell? ⟨w.heap.size, 0, none⟩ = some (.int .i64 a1) := HMw5.out.cell 4 rfl rfl
  have ca1 : w5.cell? ⟨w.heap.size, 1, none⟩ = some (.int .i64 a2) := HMw5.out.cell 4 rfl rfl
  go_wp2_with fail
  refine (C5.out _).mono ?_
  rintro e w6 ⟨rfl, hb⟩
  have HMw6 := Lib.hid (HMw5.out.call hb)
  clear hb la ca0 ca1 HMw5
  have lx : w4.heap.size < w6.heap.size := HMw6.out.lt 0 rfl
  have cx0 : w6.cell? ⟨w4.heap.size, 0, none⟩ = some (.int .i64 0) := HMw6.out.cell 0 rfl rfl
  have cx1 : w6.cell? ⟨w4.heap.size, 1, none⟩ = some (.int .i64 0) := HMw6.out.cell 0 rfl rfl
  have la : w.heap.size < w6.heap.size := HMw6.out.lt 4 rfl
  have ca0 : w6.cell? ⟨w.heap.size, 0, none⟩ = some (.int .i64 a1) := HMw6.out.cell 4 rfl rfl
  have ca1 : w6.cell? ⟨w.heap.size, 1, none⟩ = some (.int .i64 a2) := HMw6.out.cell 4 rfl rfl
  go_wp2_with fail
  refine (C5.out _).mono ?_
  rintro e w7 ⟨rfl, hb⟩
  have HMw7 := Lib.hid (HMw6.out.call hb)
  clear hb lx cx0 cx1 la ca0 ca1 HMw6
  have ls : w2.heap.size < w7.heap.size := HMw7.out.lt 2 rfl
  have cs0 : w7.cell? ⟨w2.heap.size, 0, none⟩ = some (.int .i64 0) := HMw7.out.cell 2 rfl rfl
  have cs1 : w7.cell? ⟨w2.heap.size, 1, none⟩ = some (.int .i64 0) := HMw7.out.cell 2 rfl rfl
  have lm : w3.heap.size < w7.heap.size := HMw7.out.lt 1 rfl
  have cm0 : w7.cell? ⟨w3.heap.size, 0, none⟩ = some (.int .i64 0) := HMw7.out.cell 1 rfl rfl
  have cm1 : w7.cell? ⟨w3.heap.size, 1, none⟩ = some (.int .i64 0) := HMw7.out.cell 1 rfl rfl
  go_wp2_with fail
  go_ret
  exact ⟨rfl, HMw7.out.low⟩
set_option maxHeartbeats 2000000 in
theorem rdoes_110 (a1 a2 b1 b2 s : Int) (w : World) (hs : s < 1)
    (c1 : ∀ w, Calls Try.prog 13 #[.agg #[.int .i64 a1, .int .i64 a2], .agg #[.int .i64 b1, .int .i64 b2]] w fun en w' => en = .returned (.tuple #[.int .i64 0, .int .i64 1]) ∧ Below w.heap.size w w')
    (c2 : ∀ w, Calls Try.prog 14 #[.agg #[.int .i64 a1, .int .i64 a2], .agg #[.int .i64 b1, .int .i64 b2]] w fun en w' => en = .returned (.tuple #[.agg #[.int .i64 0, .int .i64 0], .int .i64 1]) ∧ Below w.heap.size w w')
    (c3 : ∀ w, Calls Try.prog 15 #[.agg #[.int .i64 a1, .int .i64 a2], .agg #[.int .i64 b1, .int .i64 b2]] w fun en w' => en = .returned (.tuple #[.agg #[.int .i64 0, .int .i64 0], .int .i64 1]) ∧ Below w.heap.size w w')
    (c4 : ∀ w, Calls Try.prog 16 #[.agg #[.int .i64 a1, .int .i64 a2], .int .i64 s] w fun en w' => en = .returned (.tuple #[.agg #[.int .i64 0, .int .i64 0], .int .i64 3]) ∧ Below w.heap.size w w')
    (c5 : ∀ w, Calls Try.prog 10 #[.agg #[.int .i64 a1, .int .i64 a2]] w fun en w' => en = .returned (.bool true) ∧ Below w.heap.size w w')
    (c6 : ∀ w, Calls Try.prog 10 #[.agg #[.int .i64 b1, .int .i64 b2]] w fun en w' => en = .returned (.bool false) ∧ Below w.heap.size w w') :
    Calls Try.prog 4 #[.agg #[.int .i64 a1, .int .i64 a2], .agg #[.int .i64 b1, .int .i64 b2], .int .i64 s] w fun en w' => en = .returned (.bool true) ∧ Below w.heap.size w w' := by
  have C1 := Lib.hid c1; have C2 := Lib.hid c2; have C3 := Lib.hid c3; have C4 := Lib.hid c4; have C5 := Lib.hid c5; have C6 := Lib.hid c6
  clear c1 c2 c3 c4 c5 c6
  go_enter Try.func4, Try.ntmps4
  go_wp2_with fail
  refine (C1.out _).mono ?_
  rintro e w1 ⟨rfl, hb⟩
  have HMw1 := Lib.hid ((((Mem.start w).new w.heap.size _ _ rfl).new (w.heap.size + 1) _ _ (by simp)).call hb)
  clear hb
  have la : w.heap.size < w1.heap.size := HMw1.out.lt 1 rfl
  have ca0 : w1.cell? ⟨w.heap.size, 0, none⟩ = some (.int .i64 a1) := HMw1.out.cell 1 rfl rfl
  have ca1 : w1.cell? ⟨w.heap.size, 1, none⟩ = some (.int .i64 a2) := HMw1.out.cell 1 rfl rfl
  have lb : (w.heap.size + 1) < w1.heap.size := HMw1.out.lt 0 rfl
  have cb0 : w1.cell? ⟨(w.heap.size + 1), 0, none⟩ = some (.int .i64 b1) := HMw1.out.cell 0 rfl rfl
  have cb1 : w1.cell? ⟨(w.heap.size + 1), 1, none⟩ = some (.int .i64 b2) := HMw1.out.cell 0 rfl rfl
  go_wp2_with fail
  refine (C2.out _).mono ?_
  rintro e w2 ⟨rfl, hb⟩
  have HMw2 := Lib.hid (HMw1.out.call hb)
  clear hb la ca0 ca1 lb cb0 cb1 HMw1
  have la : w.heap.size < w2.heap.size := HMw2.out.lt 1 rfl
  have ca0 : w2.cell? ⟨w.heap.size, 0, none⟩ = some (.int .i64 a1) := HMw2.out.cell 1 rfl rfl
  have ca1 : w2.cell? ⟨w.heap.size, 1, none⟩ = some (.int .i64 a2) := HMw2.out.cell 1 rfl rfl
  have lb : (w.heap.size + 1) < w2.heap.size := HMw2.out.lt 0 rfl
  have cb0 : w2.cell? ⟨(w.heap.size + 1), 0, none⟩ = some (.int .i64 b1) := HMw2.out.cell 0 rfl rfl
  have cb1 : w2.cell? ⟨(w.heap.size + 1), 1, none⟩ = some (.int .i64 b2) := HMw2.out.cell 0 rfl rfl
  go_wp2_with fail
  refine (C3.out _).mono ?_
  rintro e w3 ⟨rfl, hb⟩
  have HMw3 := Lib.hid ((HMw2.out.new w2.heap.size _ _ rfl).call hb)
  clear hb la ca0 ca1 lb cb0 cb1 HMw2
  have la : w.heap.size < w3.heap.size := HMw3.out.lt 2 rfl
  have ca0 : w3.cell? ⟨w.heap.size, 0, none⟩ = some (.int .i64 a1) := HMw3.out.cell 2 rfl rfl
  have ca1 : w3.cell? ⟨w.heap.size, 1, none⟩ = some (.int .i64 a2) := HMw3.out.cell 2 rfl rfl
  have lb : (w.heap.size + 1) < w3.heap.size := HMw3.out.lt 1 rfl
  have cb0 : w3.cell? ⟨(w.heap.size + 1), 0, none⟩ = some (.int .i64 b1) := HMw3.out.cell 1 rfl rfl
  have cb1 : w3.cell? ⟨(w.heap.size + 1), 1, none⟩ = some (.int .i64 b2) := HMw3.out.cell 1 rfl rfl
  go_wp2_with fail
  refine (C4.out _).mono ?_
  rintro e w4 ⟨rfl, hb⟩
  have HMw4 := Lib.hid ((HMw3.out.new w3.heap.size _ _ rfl).call hb)
  clear hb la ca0 ca1 lb cb0 cb1 HMw3
  go_wp2_with fail
  refine (alive6 _).mono ?_
  rintro e w5 ⟨rfl, hb⟩
  have HMw5 := Lib.hid ((HMw4.out.new w4.heap.size _ _ rfl).call hb)
  clear hb HMw4
  have la : w.heap.size < w5.heap.size := HMw5.out.lt 4 rfl
  have ca0 : w5.cell? ⟨w.heap.size, 0, none⟩ = some (.int .i64 a1) := HMw5.out.cell 4 rfl rfl
  have ca1 : w5.cell? ⟨w.heap.size, 1, none⟩ = some (.int .i64 a2) := HMw5.out.cell 4 rfl rfl
  go_wp2_with fail
  refine (C5.out _).mono ?_
  rintro e w6 ⟨rfl, hb⟩
  have HMw6 := Lib.hid (HMw5.out.call hb)
  clear hb la ca0 ca1 HMw5
  have lx : w4.heap.size < w6.heap.size := HMw6.out.lt 0 rfl
  have cx0 : w6.cell? ⟨w4.heap.size, 0, none⟩ = some (.int .i64 0) := HMw6.out.cell 0 rfl rfl
  have cx1 : w6.cell? ⟨w4.heap.size, 1, none⟩ = some (.int .i64 0) := HMw6.out.cell 0 rfl rfl
  have la : w.heap.size < w6.heap.size := HMw6.out.lt 4 rfl
  have ca0 : w6.cell? ⟨w.heap.size, 0, none⟩ = some (.int .i64 a1) := HMw6.out.cell 4 rfl rfl
  have ca1 : w6.cell? ⟨w.heap.size, 1, none⟩ = some (.int .i64 a2) := HMw6.out.cell 4 rfl rfl
  go_wp2_with fail
  refine (C5.out _).mono ?_
  rintro e w7 ⟨rfl, hb⟩
  have HMw7 := Lib.hid (HMw6.out.call hb)
  clear hb lx cx0 cx1 la ca0 ca1 HMw6
  have lb : (w.heap.size + 1) < w7.heap.size := HMw7.out.lt 3 rfl
  have cb0 : w7.cell? ⟨(w.heap.size + 1), 0, none⟩ = some (.int .i64 b1) := HMw7.out.cell 3 rfl rfl
  have cb1 : w7.cell? ⟨(w.heap.size + 1), 1, none⟩ = some (.int .i64 b2) := HMw7.out.cell 3 rfl rfl
  go_wp2_with fail
  refine (C6.out _).mono ?_
  rintro e w8 ⟨rfl, hb⟩
  have HMw8 := Lib.hid (HMw7.out.call hb)
  clear hb lb cb0 cb1 HMw7
  have ls : w2.heap.size < w8.heap.size := HMw8.out.lt 2 rfl
  have cs0 : w8.cell? ⟨w2.heap.size, 0, none⟩ = some (.int .i64 0) := HMw8.out.cell 2 rfl rfl
  have cs1 : w8.cell? ⟨w2.heap.size, 1, none⟩ = some (.int .i64 0) := HMw8.out.cell 2 rfl rfl
  have lm : w3.heap.size < w8.heap.size := HMw8.out.lt 1 rfl
  have cm0 : w8.cell? ⟨w3.heap.size, 0, none⟩ = some (.int .i64 0) := HMw8.out.cell 1 rfl rfl
  have cm1 : w8.cell? ⟨w3.heap.size, 1, none⟩ = some (.int .i64 0) := HMw8.out.cell 1 rfl rfl
  go_wp2_with fail
  go_ret
  exact ⟨rfl, HMw8.out.low⟩
set_option maxHeartbeats 2000000 in
theorem rdoes_111 (a1 a2 b1 b2 s : Int) (o p1 p2 f m1 m2 g : Int) (w : World) (hs : s < 1)
    (c1 : ∀ w, Calls Try.prog 13 #[.agg #[.int .i64 a1, .int .i64 a2], .agg #[.int .i64 b1, .int .i64 b2]] w fun en w' => en = .returned (.tuple #[.int .i64 o, .int .i64 0]) ∧ Below w.heap.size w w')
    (c2 : ∀ w, Calls Try.prog 14 #[.agg #[.int .i64 a1, .int .i64 a2], .agg #[.int .i64 b1, .int .i64 b2]] w fun en w' => en = .returned (.tuple #[.agg #[.int .i64 p1, .int .i64 p2], .int .i64 f]) ∧ Below w.heap.size w w')
    (c3 : ∀ w, Calls Try.prog 15 #[.agg #[.int .i64 a1, .int .i64 a2], .agg #[.int .i64 b1, .int .i64 b2]] w fun en w' => en = .returned (.tuple #[.agg #[.int .i64 m1, .int .i64 m2], .int .i64 g]) ∧ Below w.heap.size w w')
    (c4 : ∀ w, Calls Try.prog 16 #[.agg #[.int .i64 a1, .int .i64 a2], .int .i64 s] w fun en w' => en = .returned (.tuple #[.agg #[.int .i64 0, .int .i64 0], .int .i64 3]) ∧ Below w.heap.size w w')
    (c5 : ∀ w, Calls Try.prog 10 #[.agg #[.int .i64 a1, .int .i64 a2]] w fun en w' => en = .returned (.bool true) ∧ Below w.heap.size w w')
    (c6 : ∀ w, Calls Try.prog 10 #[.agg #[.int .i64 b1, .int .i64 b2]] w fun en w' => en = .returned (.bool true) ∧ Below w.heap.size w w')
    (c8 : ∀ w, Calls Try.prog 18 #[.agg #[.int .i64 a1, .int .i64 a2], .agg #[.int .i64 b1, .int .i64 b2]] w fun en w' => en = .returned (.tuple #[.agg #[.int .i64 p1, .int .i64 p2], .int .i64 f]) ∧ Below w.heap.size w w')
    (c9 : ∀ w, Calls Try.prog 19 #[.agg #[.int .i64 a1, .int .i64 a2], .agg #[.int .i64 b1, .int .i64 b2]] w fun en w' => en = .returned (.tuple #[.agg #[.int .i64 m1, .int .i64 m2], .int .i64 g]) ∧ Below w.heap.size w w')
    (c0 : ∀ w, Calls Try.prog 20 #[.agg #[.int .i64 a1, .int .i64 a2], .agg #[.int .i64 b1, .int .i64 b2]] w fun en w' => en = .returned (.int .i64 o) ∧ Below w.heap.size w w') :
    Calls Try.prog 4 #[.agg #[.int .i64 a1, .int .i64 a2], .agg #[.int .i64 b1, .int .i64 b2], .int .i64 s] w fun en w' => en = .returned (.bool true) ∧ Below w.heap.size w w' := by
  have C1 := Lib.hid c1; have C2 := Lib.hid c2; have C3 := Lib.hid c3; have C4 := Lib.hid c4; have C5 := Lib.hid c5; have C6 := Lib.hid c6; have C8 := Lib.hid c8; have C9 := Lib.hid c9; have C0 := Lib.hid c0
  clear c1 c2 c3 c4 c5 c6 c8 c9 c0
  have hE1 := eqRatio_same p1 p2; have hE2 := eqRatio_same m1 m2
  go_enter Try.func4, Try.ntmps4
  go_wp2_with fail
  refine (C1.out _).mono ?_
  rintro e w1 ⟨rfl, hb⟩
  have HMw1 := Lib.hid ((((Mem.start w).new w.heap.size _ _ rfl).new (w.heap.size + 1) _ _ (by simp)).call hb)
  clear hb
  have la : w.heap.size < w1.heap.size := HMw1.out.lt 1 rfl
  have ca0 : w1.cell? ⟨w.heap.size, 0, none⟩ = some (.int .i64 a1) := HMw1.out.cell 1 rfl rfl
  have ca1 : w1.cell? ⟨w.heap.size, 1, none⟩ = some (.int .i64 a2) := HMw1.out.cell 1 rfl rfl
  have lb : (w.heap.size + 1) < w1.heap.size := HMw1.out.lt 0 rfl
  have cb0 : w1.cell? ⟨(w.heap.size + 1), 0, none⟩ = some (.int .i64 b1) := HMw1.out.cell 0 rfl rfl
  have cb1 : w1.cell? ⟨(w.heap.size + 1), 1, none⟩ = some (.int .i64 b2) := HMw1.out.cell 0 rfl rfl
  go_wp2_with fail
  refine (C2.out _).mono ?_
  rintro e w2 ⟨rfl, hb⟩
  have HMw2 := Lib.hid (HMw1.out.call hb)
  clear hb la ca0 ca1 lb cb0 cb1 HMw1
  have la : w.heap.size < w2.heap.size := HMw2.out.lt 1 rfl
  have ca0 : w2.cell? ⟨w.heap.size, 0, none⟩ = some (.int .i64 a1) := HMw2.out.cell 1 rfl rfl
  have ca1 : w2.cell? ⟨w.heap.size, 1, none⟩ = some (.int .i64 a2) := HMw2.out.cell 1 rfl rfl
  have lb : (w.heap.size + 1) < w2.heap.size := HMw2.out.lt 0 rfl
  have cb0 : w2.cell? ⟨(w.heap.size + 1), 0, none⟩ = some (.int .i64 b1) := HMw2.out.cell 0 rfl rfl
  have cb1 : w2.cell? ⟨(w.heap.size + 1), 1, none⟩ = some (.int .i64 b2) := HMw2.out.cell 0 rfl rfl
  go_wp2_with fail
  refine (C3.out _).mono ?_
  rintro e w3 ⟨rfl, hb⟩
  have HMw3 := Lib.hid ((HMw2.out.new w2.heap.size _ _ rfl).call hb)
  clear hb la ca0 ca1 lb cb0 cb1 HMw2
  have la : w.heap.size < w3.heap.size := HMw3.out.lt 2 rfl
  have ca0 : w3.cell? ⟨w.heap.size, 0, none⟩ = some (.int .i64 a1) := HMw3.out.cell 2 rfl rfl
  have ca1 : w3.cell? ⟨w.heap.size, 1, none⟩ = some (.int .i64 a2) := HMw3.out.cell 2 rfl rfl
  have lb : (w.heap.size + 1) < w3.heap.size := HMw3.out.lt 1 rfl
  have cb0 : w3.cell? ⟨(w.heap.size + 1), 0, none⟩ = some (.int .i64 b1) := HMw3.out.cell 1 rfl rfl
  have cb1 : w3.cell? ⟨(w.heap.size + 1), 1, none⟩ = some (.int .i64 b2) := HMw3.out.cell 1 rfl rfl
  go_wp2_with fail
  refine (C4.out _).mono ?_
  rintro e w4 ⟨rfl, hb⟩
  have HMw4 := Lib.hid ((HMw3.out.new w3.heap.size _ _ rfl).call hb)
  clear hb la ca0 ca1 lb cb0 cb1 HMw3
  go_wp2_with fail
  refine (alive6 _).mono ?_
  rintro e w5 ⟨rfl, hb⟩
  have HMw5 := Lib.hid ((HMw4.out.new w4.heap.size _ _ rfl).call hb)
  clear hb HMw4
  have la : w.heap.size < w5.heap.size := HMw5.out.lt 4 rfl
  have ca0 : w5.cell? ⟨w.heap.size, 0, none⟩ = some (.int .i64 a1) := HMw5.out.cell 4 rfl rfl
  have ca1 : w5.cell? ⟨w.heap.size, 1, none⟩ = some (.int .i64 a2) := HMw5.out.cell 4 rfl rfl
  go_wp2_with fail
  refine (C5.out _).mono ?_
  rintro e w6 ⟨rfl, hb⟩
  have HMw6 := Lib.hid (HMw5.out.call hb)
  clear hb la ca0 ca1 HMw5
  have lx : w4.heap.size < w6.heap.size := HMw6.out.lt 0 rfl
  have cx0 : w6.cell? ⟨w4.heap.size, 0, none⟩ = some (.int .i64 0) := HMw6.out.cell 0 rfl rfl
  have cx1 : w6.cell? ⟨w4.heap.size, 1, none⟩ = some (.int .i64 0) := HMw6.out.cell 0 rfl rfl
  have la : w.heap.size < w6.heap.size := HMw6.out.lt 4 rfl
  have ca0 : w6.cell? ⟨w.heap.size, 0, none⟩ = some (.int .i64 a1) := HMw6.out.cell 4 rfl rfl
  have ca1 : w6.cell? ⟨w.heap.size, 1, none⟩ = some (.int .i64 a2) := HMw6.out.cell 4 rfl rfl
  go_wp2_with fail
  refine (C5.out _).mono ?_
  rintro e w7 ⟨rfl, hb⟩
  have HMw7 := Lib.hid (HMw6.out.call hb)
  clear hb lx cx0 cx1 la ca0 ca1 HMw6
  have lb : (w.heap.size + 1) < w7.heap.size := HMw7.out.lt 3 rfl
  have cb0 : w7.cell? ⟨(w.heap.size + 1), 0, none⟩ = some (.int .i64 b1) := HMw7.out.cell 3 rfl rfl
  have cb1 : w7.cell? ⟨(w.heap.size + 1), 1, none⟩ = some (.int .i64 b2) := HMw7.out.cell 3 rfl rfl
  go_wp2_with fail
  refine (C6.out _).mono ?_
  rintro e w8 ⟨rfl, hb⟩
  have HMw8 := Lib.hid (HMw7.out.call hb)
  clear hb lb cb0 cb1 HMw7
  have la : w.heap.size < w8.heap.size := HMw8.out.lt 4 rfl
  have ca0 : w8.cell? ⟨w.heap.size, 0, none⟩ = some (.int .i64 a1) := HMw8.out.cell 4 rfl rfl
  have ca1 : w8.cell? ⟨w.heap.size, 1, none⟩ = some (.int .i64 a2) := HMw8.out.cell 4 rfl rfl
  have lb : (w.heap.size + 1) < w8.heap.size := HMw8.out.lt 3 rfl
  have cb0 : w8.cell? ⟨(w.heap.size + 1), 0, none⟩ = some (.int .i64 b1) := HMw8.out.cell 3 rfl rfl
  have cb1 : w8.cell? ⟨(w.heap.size + 1), 1, none⟩ = some (.int .i64 b2) := HMw8.out.cell 3 rfl rfl
  go_wp2_with fail
  refine (C8.out _).mono ?_
  rintro e w9 ⟨rfl, hb⟩
  have HMw9 := Lib.hid (HMw8.out.call hb)
  clear hb la ca0 ca1 lb cb0 cb1 HMw8
  have la : w.heap.size < w9.heap.size := HMw9.out.lt 4 rfl
  have ca0 : w9.cell? ⟨w.heap.size, 0, none⟩ = some (.int .i64 a1) := HMw9.out.cell 4 rfl rfl
  have ca1 : w9.cell? ⟨w.heap.size, 1, none⟩ = some (.int .i64 a2) := HMw9.out.cell 4 rfl rfl
  have lb : (w.heap.size + 1) < w9.heap.size := HMw9.out.lt 3 rfl
  have cb0 : w9.cell? ⟨(w.heap.size + 1), 0, none⟩ = some (.int .i64 b1) := HMw9.out.cell 3 rfl rfl
  have cb1 : w9.cell? ⟨(w.heap.size + 1), 1, none⟩ = some (.int .i64 b2) := HMw9.out.cell 3 rfl rfl
  go_wp2_with fail
  refine (C9.out _).mono ?_
  rintro e w10 ⟨rfl, hb⟩
  have HMw10 := Lib.hid ((HMw9.out.new w9.heap.size _ _ rfl).call hb)
  clear hb la ca0 ca1 lb cb0 cb1 HMw9
  have la : w.heap.size < w10.heap.size := HMw10.out.lt 5 rfl
  have ca0 : w10.cell? ⟨w.heap.size, 0, none⟩ = some (.int .i64 a1) := HMw10.out.cell 5 rfl rfl
  have ca1 : w10.cell? ⟨w.heap.size, 1, none⟩ = some (.int .i64 a2) := HMw10.out.cell 5 rfl rfl
  have lb : (w.heap.size + 1) < w10.heap.size := HMw10.out.lt 4 rfl
  have cb0 : w10.cell? ⟨(w.heap.size + 1), 0, none⟩ = some (.int .i64 b1) := HMw10.out.cell 4 rfl rfl
  have cb1 : w10.cell? ⟨(w.heap.size + 1), 1, none⟩ = some (.int .i64 b2) := HMw10.out.cell 4 rfl rfl
  go_wp2_with fail
  refine (C0.out _).mono ?_
  rintro e w11 ⟨rfl, hb⟩
  have HMw11 := Lib.hid ((HMw10.out.new w10.heap.size _ _ rfl).call hb)
  clear hb la ca0 ca1 lb cb0 cb1 HMw10
  have ls : w2.heap.size < w11.heap.size := HMw11.out.lt 4 rfl
  have cs0 : w11.cell? ⟨w2.heap.size, 0, none⟩ = some (.int .i64 p1) := HMw11.out.cell 4 rfl rfl
  have cs1 : w11.cell? ⟨w2.heap.size, 1, none⟩ = some (.int .i64 p2) := HMw11.out.cell 4 rfl rfl
  have lt : w9.heap.size < w11.heap.size := HMw11.out.lt 1 rfl
  have ct0 : w11.cell? ⟨w9.heap.size, 0, none⟩ = some (.int .i64 p1) := HMw11.out.cell 1 rfl rfl
  have ct1 : w11.cell? ⟨w9.heap.size, 1, none⟩ = some (.int .i64 p2) := HMw11.out.cell 1 rfl rfl
  have lm : w3.heap.size < w11.heap.size := HMw11.out.lt 3 rfl
  have cm0 : w11.cell? ⟨w3.heap.size, 0, none⟩ = some (.int .i64 m1) := HMw11.out.cell 3 rfl rfl
  have cm1 : w11.cell? ⟨w3.heap.size, 1, none⟩ = some (.int .i64 m2) := HMw11.out.cell 3 rfl rfl
  have ln : w10.heap.size < w11.heap.size := HMw11.out.lt 0 rfl
  have cn0 : w11.cell? ⟨w10.heap.size, 0, none⟩ = some (.int .i64 m1) := HMw11.out.cell 0 rfl rfl
  have cn1 : w11.cell? ⟨w10.heap.size, 1, none⟩ = some (.int .i64 m2) := HMw11.out.cell 0 rfl rfl
  go_wp2_with fail
  go_ret
  exact ⟨rfl, HMw11.out.low⟩
set_option maxHeartbeats 2000000 in
theorem rdoes_100 (a1 a2 b1 b2 s : Int) (u v h : Int) (w : World) (hs : ¬ s < 1)
    (c1 : ∀ w, Calls Try.prog 13 #[.agg #[.int .i64 a1, .int .i64 a2], .agg #[.int .i64 b1, .int .i64 b2]] w fun en w' => en = .returned (.tuple #[.int .i64 0, .int .i64 1]) ∧ Below w.heap.size w w')
    (c2 : ∀ w, Calls Try.prog 14 #[.agg #[.int .i64 a1, .int .i64 a2], .agg #[.int .i64 b1, .int .i64 b2]] w fun en w' => en = .returned (.tuple #[.agg #[.int .i64 0, .int .i64 0], .int .i64 1]) ∧ Below w.heap.size w w')
    (c3 : ∀ w, Calls Try.prog 15 #[.agg #[.int .i64 a1, .int .i64 a2], .agg #[.int .i64 b1, .int .i64 b2]] w fun en w' => en = .returned (.tuple #[.agg #[.int .i64 0, .int .i64 0], .int .i64 1]) ∧ Below w.heap.size w w')
    (c4 : ∀ w, Calls Try.prog 16 #[.agg #[.int .i64 a1, .int .i64 a2], .int .i64 s] w fun en w' => en = .returned (.tuple #[.agg #[.int .i64 u, .int .i64 v], .int .i64 h]) ∧ Below w.heap.size w w')
    (c5 : ∀ w, Calls Try.prog 10 #[.agg #[.int .i64 a1, .int .i64 a2]] w fun en w' => en = .returned (.bool true) ∧ Below w.heap.size w w')
    (c6 : ∀ w, Calls Try.prog 10 #[.agg #[.int .i64 b1, .int .i64 b2]] w fun en w' => en = .returned (.bool false) ∧ Below w.heap.size w w')
    (c7 : ∀ w, Calls Try.prog 17 #[.agg #[.int .i64 a1, .int .i64 a2], .int .i64 s] w fun en w' => en = .returned (.tuple #[.agg #[.int .i64 u, .int .i64 v], .int .i64 h]) ∧ Below w.heap.size w w') :
    Calls Try.prog 4 #[.agg #[.int .i64 a1, .int .i64 a2], .agg #[.int .i64 b1, .int .i64 b2], .int .i64 s] w fun en w' => en = .returned (.bool true) ∧ Below w.heap.size w w' := by
  have C1 := Lib.hid c1; have C2 := Lib.hid c2; have C3 := Lib.hid c3; have C4 := Lib.hid c4; have C5 := Lib.hid c5; have C6 := Lib.hid c6; have C7 := Lib.hid c7
  clear c1 c2 c3 c4 c5 c6 c7
  have hE3 := eqSpan_same u v
  go_enter Try.func4, Try.ntmps4
  go_wp2_with fail
  refine (C1.out _).mono ?_
  rintro e w1 ⟨rfl, hb⟩
  have HMw1 := Lib.hid ((((Mem.start w).new w.heap.size _ _ rfl).new (w.heap.size + 1) _ _ (by simp)).call hb)
  clear hb
  have la : w.heap.size < w1.heap.size := HMw1.out.lt 1 rfl
  have ca0 : w1.cell? ⟨w.heap.size, 0, none⟩ = some (.int .i64 a1) := HMw1.out.cell 1 rfl rfl
  have ca1 : w1.cell? ⟨w.heap.size, 1, none⟩ = some (.int .i64 a2) := HMw1.out.cell 1 rfl rfl
  have lb : (w.heap.size + 1) < w1.heap.size := HMw1.out.lt 0 rfl
  have cb0 : w1.cell? ⟨(w.heap.size + 1), 0, none⟩ = some (.int .i64 b1) := HMw1.out.cell 0 rfl rfl
  have cb1 : w1.cell? ⟨(w.heap.size + 1), 1, none⟩ = some (.int .i64 b2) := HMw1.out.cell 0 rfl rfl
  go_wp2_with fail
  refine (C2.out _).mono ?_
  rintro e w2 ⟨rfl, hb⟩
  have HMw2 := Lib.hid (HMw1.out.call hb)
  clear hb la ca0 ca1 lb cb0 cb1 HMw1
  have la : w.heap.size < w2.heap.size := HMw2.out.lt 1 rfl
  have ca0 : w2.cell? ⟨w.heap.size, 0, none⟩ = some (.int .i64 a1) := HMw2.out.cell 1 rfl rfl
  have ca1 : w2.cell? ⟨w.heap.size, 1, none⟩ = some (.int .i64 a2) := HMw2.out.cell 1 rfl rfl
  have lb : (w.heap.size + 1) < w2.heap.size := HMw2.out.lt 0 rfl
  have cb0 : w2.cell? ⟨(w.heap.size + 1), 0, none⟩ = some (.int .i64 b1) := HMw2.out.cell 0 rfl rfl
  have cb1 : w2.cell? ⟨(w.heap.size + 1), 1, none⟩ = some (.int .i64 b2) := HMw2.out.cell 0 rfl rfl
  go_wp2_with fail
  refine (C3.out _).mono ?_
  rintro e w3 ⟨rfl, hb⟩
  have HMw3 := Lib.hid ((HMw2.out.new w2.heap.size _ _ rfl).call hb)
  clear hb la ca0 ca1 lb cb0 cb1 HMw2
  have la : w.heap.size < w3.heap.size := HMw3.out.lt 2 rfl
  have ca0 : w3.cell? ⟨w.heap.size, 0, none⟩ = some (.int .i64 a1) := HMw3.out.cell 2 rfl rfl
  have ca1 : w3.cell? ⟨w.heap.size, 1, none⟩ = some (.int .i64 a2) := HMw3.out.cell 2 rfl rfl
  have lb : (w.heap.size + 1) < w3.heap.size := HMw3.out.lt 1 rfl
  have cb0 : w3.cell? ⟨(w.heap.size + 1), 0, none⟩ = some (.int .i64 b1) := HMw3.out.cell 1 rfl rfl
  have cb1 : w3.cell? ⟨(w.heap.size + 1), 1, none⟩ = some (.int .i64 b2) := HMw3.out.cell 1 rfl rfl
  go_wp2_with fail
  refine (C4.out _).mono ?_
  rintro e w4 ⟨rfl, hb⟩
  have HMw4 := Lib.hid ((HMw3.out.new w3.heap.size _ _ rfl).call hb)
  clear hb la ca0 ca1 lb cb0 cb1 HMw3
  go_wp2_with fail
  refine (alive6 _).mono ?_
  rintro e w5 ⟨rfl, hb⟩
  have HMw5 := Lib.hid ((HMw4.out.new w4.heap.size _ _ rfl).call hb)
  clear hb HMw4
  have la : w.heap.size < w5.heap.size := HMw5.out.lt 4 rfl
  have ca0 : w5.cell? ⟨w.heap.size, 0, none⟩ = some (.int .i64 a1) := HMw5.out.cell 4 rfl rfl
  have ca1 : w5.cell? ⟨w.heap.size, 1, none⟩ = some (.int .i64 a2) := HMw5.out.cell 4 rfl rfl
  go_wp2_with fail
  refine (C5.out _).mono ?_
  rintro e w6 ⟨rfl, hb⟩
  have HMw6 := Lib.hid (HMw5.out.call hb)
  clear hb la ca0 ca1 HMw5
  have la : w.heap.size < w6.heap.size := HMw6.out.lt 4 rfl
  have ca0 : w6.cell? ⟨w.heap.size, 0, none⟩ = some (.int .i64 a1) := HMw6.out.cell 4 rfl rfl
  have ca1 : w6.cell? ⟨w.heap.size, 1, none⟩ = some (.int .i64 a2) := HMw6.out.cell 4 rfl rfl
  go_wp2_with fail
  refine (C7.out _).mono ?_
  rintro e w7 ⟨rfl, hb⟩
  have HMw7 := Lib.hid (HMw6.out.call hb)
  clear hb la ca0 ca1 HMw6
  have lx : w4.heap.size < w7.heap.size := HMw7.out.lt 0 rfl
  have cx0 : w7.cell? ⟨w4.heap.size, 0, none⟩ = some (.int .i64 u) := HMw7.out.cell 0 rfl rfl
  have cx1 : w7.cell? ⟨w4.heap.size, 1, none⟩ = some (.int .i64 v) := HMw7.out.cell 0 rfl rfl
  have la : w.heap.size < w7.heap.size := HMw7.out.lt 4 rfl
  have ca0 : w7.cell? ⟨w.heap.size, 0, none⟩ = some (.int .i64 a1) := HMw7.out.cell 4 rfl rfl
  have ca1 : w7.cell? ⟨w.heap.size, 1, none⟩ = some (.int .i64 a2) := HMw7.out.cell 4 rfl rfl
  go_wp2_with fail
  refine (C5.out _).mono ?_
  rintro e w8 ⟨rfl, hb⟩
  have HMw8 := Lib.hid ((HMw7.out.new w7.heap.size _ _ rfl).call hb)
  clear hb lx cx0 cx1 la ca0 ca1 HMw7
  have lb : (w.heap.size + 1) < w8.heap.size := HMw8.out.lt 4 rfl
  have cb0 : w8.cell? ⟨(w.heap.size + 1), 0, none⟩ = some (.int .i64 b1) := HMw8.out.cell 4 rfl rfl
  have cb1 : w8.cell? ⟨(w.heap.size + 1), 1, none⟩ = some (.int .i64 b2) := HMw8.out.cell 4 rfl rfl
  go_wp2_with fail
  refine (C6.out _).mono ?_
  rintro e w9 ⟨rfl, hb⟩
  have HMw9 := Lib.hid (HMw8.out.call hb)
  clear hb lb cb0 cb1 HMw8
  have ls : w2.heap.size < w9.heap.size := HMw9.out.lt 3 rfl
  have cs0 : w9.cell? ⟨w2.heap.size, 0, none⟩ = some (.int .i64 0) := HMw9.out.cell 3 rfl rfl
  have cs1 : w9.cell? ⟨w2.heap.size, 1, none⟩ = some (.int .i64 0) := HMw9.out.cell 3 rfl rfl
  have lm : w3.heap.size < w9.heap.size := HMw9.out.lt 2 rfl
  have cm0 : w9.cell? ⟨w3.heap.size, 0, none⟩ = some (.int .i64 0) := HMw9.out.cell 2 rfl rfl
  have cm1 : w9.cell? ⟨w3.heap.size, 1, none⟩ = some (.int .i64 0) := HMw9.out.cell 2 rfl rfl
  go_wp2_with fail
  go_ret
  exact ⟨rfl, HMw9.out.low⟩
set_option maxHeartbeats 2000000 in
theorem rdoes_101 (a1 a2 b1 b2 s : Int) (o p1 p2 f m1 m2 g : Int) (u v h : Int) (w : World) (hs : ¬ s < 1)
    (c1 : ∀ w, Calls Try.prog 13 #[.agg #[.int .i64 a1, .int .i64 a2], .agg #[.int .i64 b1, .int .i64 b2]] w fun en w' => en = .returned (.tuple #[.int .i64 o, .int .i64 0]) ∧ Below w.heap.size w w')
    (c2 : ∀ w, Calls Try.prog 14 #[.agg #[.int .i64 a1, .int .i64 a2], .agg #[.int .i64 b1, .int .i64 b2]] w fun en w' => en = .returned (.tuple #[.agg #[.int .i64 p1, .int .i64 p2], .int .i64 f]) ∧ Below w.heap.size w w')
    (c3 : ∀ w, Calls Try.prog 15 #[.agg #[.int .i64 a1, .int .i64 a2], .agg #[.int .i64 b1, .int .i64 b2]] w fun en w' => en = .returned (.tuple #[.agg #[.int .i64 m1, .int .i64 m2], .int .i64 g]) ∧ Below w.heap.size w w')
    (c4 : ∀ w, Calls Try.prog 16 #[.agg #[.int .i64 a1, .int .i64 a2], .int .i64 s] w fun en w' => en = .returned (.tuple #[.agg #[.int .i64 u, .int .i64 v], .int .i64 h]) ∧ Below w.heap.size w w')
    (c5 : ∀ w, Calls Try.prog 10 #[.agg #[.int .i64 a1, .int .i64 a2]] w fun en w' => en = .returned (.bool true) ∧ Below w.heap.size w w')
    (c6 : ∀ w, Calls Try.prog 10 #[.agg #[.int .i64 b1, .int .i64 b2]] w fun en w' => en = .returned (.bool true) ∧ Below w.heap.size w w')
    (c7 : ∀ w, Calls Try.prog 17 #[.agg #[.int .i64 a1, .int .i64 a2], .int .i64 s] w fun en w' => en = .returned (.tuple #[.agg #[.int .i64 u, .int .i64 v], .int .i64 h]) ∧ Below w.heap.size w w')
    (c8 : ∀ w, Calls Try.prog 18 #[.agg #[.int .i64 a1, .int .i64 a2], .agg #[.int .i64 b1, .int .i64 b2]] w fun en w' => en = .returned (.tuple #[.agg #[.int .i64 p1, .int .i64 p2], .int .i64 f]) ∧ Below w.heap.size w w')
    (c9 : ∀ w, Calls Try.prog 19 #[.agg #[.int .i64 a1, .int .i64 a2], .agg #[.int .i64 b1, .int .i64 b2]] w fun en w' => en = .returned (.tuple #[.agg #[.int .i64 m1, .int .i64 m2], .int .i64 g]) ∧ Below w.heap.size w w')
    (c0 : ∀ w, Calls Try.prog 20 #[.agg #[.int .i64 a1, .int .i64 a2], .agg #[.int .i64 b1, .int .i64 b2]] w fun en w' => en = .returned (.int .i64 o) ∧ Below w.heap.size w w') :
    Calls Try.prog 4 #[.agg #[.int .i64 a1, .int .i64 a2], .agg #[.int .i64 b1, .int .i64 b2], .int .i64 s] w fun en w' => en = .returned (.bool true) ∧ Below w.heap.size w w' := by
  have C1 := Lib.hid c1; have C2 := Lib.hid c2; have C3 := Lib.hid c3; have C4 := Lib.hid c4; have C5 := Lib.hid c5; have C6 := Lib.hid c6; have C7 := Lib.hid c7; have C8 := Lib.hid c8; have C9 := Lib.hid c9; have C0 := Lib.hid c0
  clear c1 c2 c3 c4 c5 c6 c7 c8 c9 c0
  have hE1 := eqRatio_same p1 p2; have hE2 := eqRatio_same m1 m2
  have hE3 := eqSpan_same u v
  go_enter Try.func4, Try.ntmps4
  go_wp2_with fail
  refine (C1.out _).mono ?_
  rintro e w1 ⟨rfl, hb⟩
  have HMw1 := Lib.hid ((((Mem.start w).new w.heap.size _ _ rfl).new (w.heap.size + 1) _ _ (by simp)).call hb)
  clear hb
  have la : w.heap.size < w1.heap.size := HMw1.out.lt 1 rfl
  have ca0 : w1.cell? ⟨w.heap.size, 0, none⟩ = some (.int .i64 a1) := HMw1.out.cell 1 rfl rfl
  have ca1 : w1.cell? ⟨w.heap.size, 1, none⟩ = some (.int .i64 a2) := HMw1.out.cell 1 rfl rfl
  have lb : (w.heap.size + 1) < w1.heap.size := HMw1.out.lt 0 rfl
  have cb0 : w1.cell? ⟨(w.heap.size + 1), 0, none⟩ = some (.int .i64 b1) := HMw1.out.cell 0 rfl rfl
  have cb1 : w1.cell? ⟨(w.heap.size + 1), 1, none⟩ = some (.int .i64 b2) := HMw1.out.cell 0 rfl rfl
  go_wp2_with fail
  refine (C2.out _).mono ?_
  rintro e w2 ⟨rfl, hb⟩
  have HMw2 := Lib.hid (HMw1.out.call hb)
  clear hb la ca0 ca1 lb cb0 cb1 HMw1
  have la : w.heap.size < w2.heap.size := HMw2.out.lt 1 rfl
  have ca0 : w2.cell? ⟨w.heap.size, 0, none⟩ = some (.int .i64 a1) := HMw2.out.cell 1 rfl rfl
  have ca1 : w2.cell? ⟨w.heap.size, 1, none⟩ = some (.int .i64 a2) := HMw2.out.cell 1 rfl rfl
  have lb : (w.heap.size + 1) < w2.heap.size := HMw2.out.lt 0 rfl
  have cb0 : w2.cell? ⟨(w.heap.size + 1), 0, none⟩ = some (.int .i64 b1) := HMw2.out.cell 0 rfl rfl
  have cb1 : w2.cell? ⟨(w.heap.size + 1), 1, none⟩ = some (.int .i64 b2) := HMw2.out.cell 0 rfl rfl
  go_wp2_with fail
  refine (C3.out _).mono ?_
  rintro e w3 ⟨rfl, hb⟩
  have HMw3 := Lib.hid ((HMw2.out.new w2.heap.size _ _ rfl).call hb)
  clear hb la ca0 ca1 lb cb0 cb1 HMw2
  have la : w.heap.size < w3.heap.size := HMw3.out.lt 2 rfl
  have ca0 : w3.cell? ⟨w.heap.size, 0, none⟩ = some (.int .i64 a1) := HMw3.out.cell 2 rfl rfl
  have ca1 : w3.cell? ⟨w.heap.size, 1, none⟩ = some (.int .i64 a2) := HMw3.out.cell 2 rfl rfl
  have lb : (w.heap.size + 1) < w3.heap.size := HMw3.out.lt 1 rfl
  have cb0 : w3.cell? ⟨(w.heap.size + 1), 0, none⟩ = some (.int .i64 b1) := HMw3.out.cell 1 rfl rfl
  have cb1 : w3.cell? ⟨(w.heap.size + 1), 1, none⟩ = some (.int .i64 b2) := HMw3.out.cell 1 rfl rfl
  go_wp2_with fail
  refine (C4.out _).mono ?_
  rintro e w4 ⟨rfl, hb⟩
  have HMw4 := Lib.hid ((HMw3.out.new w3.heap.size _ _ rfl).call hb)
  clear hb la ca0 ca1 lb cb0 cb1 HMw3
  go_wp2_with fail
  refine (alive6 _).mono ?_
  rintro e w5 ⟨rfl, hb⟩
  have HMw5 := Lib.hid ((HMw4.out.new w4.heap.size _ _ rfl).call hb)
  clear hb HMw4
  have la : w.heap.size < w5.heap.size := HMw5.out.lt 4 rfl
  have ca0 : w5.cell? ⟨w.heap.size, 0, none⟩ = some (.int .i64 a1) := HMw5.out.cell 4 rfl rfl
  have ca1 : w5.cell? ⟨w.heap.size, 1, none⟩ = some (.int .i64 a2) := HMw5.out.cell 4 rfl rfl
  go_wp2_with fail
  refine (C5.out _).mono ?_
  rintro e w6 ⟨rfl, hb⟩
  have HMw6 := Lib.hid (HMw5.out.call hb)
  clear hb la ca0 ca1 HMw5
  have la : w.heap.size < w6.heap.size := HMw6.out.lt 4 rfl
  have ca0 : w6.cell? ⟨w.heap.size, 0, none⟩ = some (.int .i64 a1) := HMw6.out.cell 4 rfl rfl
  have ca1 : w6.cell? ⟨w.heap.size, 1, none⟩ = some (.int .i64 a2) := HMw6.out.cell 4 rfl rfl
  go_wp2_with fail
  refine (C7.out _).mono ?_
  rintro e w7 ⟨rfl, hb⟩
  have HMw7 := Lib.hid (HMw6.out.call hb)
  clear hb la ca0 ca1 HMw6
  have lx : w4.heap.size < w7.heap.size := HMw7.out.lt 0 rfl
  have cx0 : w7.cell? ⟨w4.heap.size, 0, none⟩ = some (.int .i64 u) := HMw7.out.cell 0 rfl rfl
  have cx1 : w7.cell? ⟨w4.heap.size, 1, none⟩ = some (.int .i64 v) := HMw7.out.cell 0 rfl rfl
  have la : w.heap.size < w7.heap.size := HMw7.out.lt 4 rfl
  have ca0 : w7.cell? ⟨w.heap.size, 0, none⟩ = some (.int .i64 a1) := HMw7.out.cell 4 rfl rfl
  have ca1 : w7.cell? ⟨w.heap.size, 1, none⟩ = some (.int .i64 a2) := HMw7.out.cell 4 rfl rfl
  go_wp2_with fail
  refine (C5.out _).mono ?_
  rintro e w8 ⟨rfl, hb⟩
  have HMw8 := Lib.hid ((HMw7.out.new w7.heap.size _ _ rfl).call hb)
  clear hb lx cx0 cx1 la ca0 ca1 HMw7
  have lb : (w.heap.size + 1) < w8.heap.size := HMw8.out.lt 4 rfl
  have cb0 : w8.cell? ⟨(w.heap.size + 1), 0, none⟩ = some (.int .i64 b1) := HMw8.out.cell 4 rfl rfl
  have cb1 : w8.cell? ⟨(w.heap.size + 1), 1, none⟩ = some (.int .i64 b2) := HMw8.out.cell 4 rfl rfl
  go_wp2_with fail
  refine (C6.out _).mono ?_
  rintro e w9 ⟨rfl, hb⟩
  have HMw9 := Lib.hid (HMw8.out.call hb)
  clear hb lb cb0 cb1 HMw8
  have la : w.heap.size < w9.heap.size := HMw9.out.lt 5 rfl
  have ca0 : w9.cell? ⟨w.heap.size, 0, none⟩ = some (.int .i64 a1) := HMw9.out.cell 5 rfl rfl
  have ca1 : w9.cell? ⟨w.heap.size, 1, none⟩ = some (.int .i64 a2) := HMw9.out.cell 5 rfl rfl
  have lb : (w.heap.size + 1) < w9.heap.size := HMw9.out.lt 4 rfl
  have cb0 : w9.cell? ⟨(w.heap.size + 1), 0, none⟩ = some (.int .i64 b1) := HMw9.out.cell 4 rfl rfl
  have cb1 : w9.cell? ⟨(w.heap.size + 1), 1, none⟩ = some (.int .i64 b2) := HMw9.out.cell 4 rfl rfl
  go_wp2_with fail
  refine (C8.out _).mono ?_
  rintro e w10 ⟨rfl, hb⟩
  have HMw10 := Lib.hid (HMw9.out.call hb)
  clear hb la ca0 ca1 lb cb0 cb1 HMw9
  have la : w.heap.size < w10.heap.size := HMw10.out.lt 5 rfl
  have ca0 : w10.cell? ⟨w.heap.size, 0, none⟩ = some (.int .i64 a1) := HMw10.out.cell 5 rfl rfl
  have ca1 : w10.cell? ⟨w.heap.size, 1, none⟩ = some (.int .i64 a2) := HMw10.out.cell 5 rfl rfl
  have lb : (w.heap.size + 1) < w10.heap.size := HMw10.out.lt 4 rfl
  have cb0 : w10.cell? ⟨(w.heap.size + 1), 0, none⟩ = some (.int .i64 b1) := HMw10.out.cell 4 rfl rfl
  have cb1 : w10.cell? ⟨(w.heap.size + 1), 1, none⟩ = some (.int .i64 b2) := HMw10.out.cell 4 rfl rfl
  go_wp2_with fail
  refine (C9.out _).mono ?_
  rintro e w11 ⟨rfl, hb⟩
  have HMw11 := Lib.hid ((HMw10.out.new w10.heap.size _ _ rfl).call hb)
  clear hb la ca0 ca1 lb cb0 cb1 HMw10
  have la : w.heap.size < w11.heap.size := HMw11.out.lt 6 rfl
  have ca0 : w11.cell? ⟨w.heap.size, 0, none⟩ = some (.int .i64 a1) := HMw11.out.cell 6 rfl rfl
  have ca1 : w11.cell? ⟨w.heap.size, 1, none⟩ = some (.int .i64 a2) := HMw11.out.cell 6 rfl rfl
  have lb : (w.heap.size + 1) < w11.heap.size := HMw11.out.lt 5 rfl
  have cb0 : w11.cell? ⟨(w.heap.size + 1), 0, none⟩ = some (.int .i64 b1) := HMw11.out.cell 5 rfl rfl
  have cb1 : w11.cell? ⟨(w.heap.size + 1), 1, none⟩ = some (.int .i64 b2) := HMw11.out.cell 5 rfl rfl
  go_wp2_with fail
  refine (C0.out _).mono ?_
  rintro e w12 ⟨rfl, hb⟩
  have HMw12 := Lib.hid ((HMw11.out.new w11.heap.size _ _ rfl).call hb)
  clear hb la ca0 ca1 lb cb0 cb1 HMw11
  have ls : w2.heap.size < w12.heap.size := HMw12.out.lt 5 rfl
  have cs0 : w12.cell? ⟨w2.heap.size, 0, none⟩ = some (.int .i64 p1) := HMw12.out.cell 5 rfl rfl
  have cs1 : w12.cell? ⟨w2.heap.size, 1, none⟩ = some (.int .i64 p2) := HMw12.out.cell 5 rfl rfl
  have lt : w10.heap.size < w12.heap.size := HMw12.out.lt 1 rfl
  have ct0 : w12.cell? ⟨w10.heap.size, 0, none⟩ = some (.int .i64 p1) := HMw12.out.cell 1 rfl rfl
  have ct1 : w12.cell? ⟨w10.heap.size, 1, none⟩ = some (.int .i64 p2) := HMw12.out.cell 1 rfl rfl
  have lm : w3.heap.size < w12.heap.size := HMw12.out.lt 4 rfl
  have cm0 : w12.cell? ⟨w3.heap.size, 0, none⟩ = some (.int .i64 m1) := HMw12.out.cell 4 rfl rfl
  have cm1 : w12.cell? ⟨w3.heap.size, 1, none⟩ = some (.int .i64 m2) := HMw12.out.cell 4 rfl rfl
  have ln : w11.heap.size < w12.heap.size := HMw12.out.lt 0 rfl
  have cn0 : w12.cell? ⟨w11.heap.size, 0, none⟩ = some (.int .i64 m1) := HMw12.out.cell 0 rfl rfl
  have cn1 : w12.cell? ⟨w11.heap.size, 1, none⟩ = some (.int .i64 m2) := HMw12.out.cell 0 rfl rfl
  go_wp2_with fail
  go_ret
  exact ⟨rfl, HMw12.out.low⟩
theorem rdoes_walk (a1 a2 b1 b2 s : Int) (ha1 : IsInt a1) (ha2 : IsInt a2) (hb1 : IsInt b1) (hb2 : IsInt b2) (hs : IsInt s) (w : World) :
    Calls Try.prog 4 #[.agg #[.int .i64 a1, .int .i64 a2], .agg #[.int .i64 b1, .int .i64 b2], .int .i64 s] w fun en w' => en = .returned (.bool true) ∧ Below w.heap.size w w' := by
  have r1 := rqright_any a1 a2 ha1 ha2
  have r2 := rqright_any b1 b2 hb1 hb2
  by_cases A : Low a1 a2
  · rw [decide_eq_true A] at r1
    have pa : 0 < a2 := by have := A.1; omega
    by_cases B : Low b1 b2
    · rw [decide_eq_true B] at r2
      have pb : 0 < b2 := by have := B.1; omega
      have k1 := qcmp_ok a1 a2 b1 b2 ha1 ha2 hb1 hb2 A B
      have k2 := qadd_ok a1 a2 b1 b2 ha1 ha2 hb1 hb2 A B
      have k3 := qmul_ok a1 a2 b1 b2 ha1 ha2 hb1 hb2 A B
      have k4 := rqadd_any a1 a2 b1 b2 ha1 ha2 hb1 hb2 pa pb
      have k5 := rqmul_any a1 a2 b1 b2 ha1 ha2 hb1 hb2 pa pb
      have k6 := rqcmp_any a1 a2 b1 b2 ha1 ha2 hb1 hb2
      by_cases c : s < 1
      · exact rdoes_111 a1 a2 b1 b2 s _ _ _ _ _ _ _ w c k1 k2 k3 (enclose_range a1 a2 s ha1 ha2 A c) r1 r2 k4 k5 k6
      · exact rdoes_101 a1 a2 b1 b2 s _ _ _ _ _ _ _ _ _ _ w c k1 k2 k3 (enclose_any a1 a2 s ha1 ha2 hs A c) r1 r2 (rqenclose_any a1 a2 s ha1 ha2 hs (by omega)) k4 k5 k6
    · rw [decide_eq_false B] at r2
      have no : ¬ (Low a1 a2 ∧ Low b1 b2) := fun k => B k.2
      have k1 := qcmp_no a1 a2 b1 b2 ha1 ha2 hb1 hb2 no
      have k2 := qadd_no a1 a2 b1 b2 ha1 ha2 hb1 hb2 no
      have k3 := qmul_no a1 a2 b1 b2 ha1 ha2 hb1 hb2 no
      by_cases c : s < 1
      · exact rdoes_110 a1 a2 b1 b2 s w c k1 k2 k3 (enclose_range a1 a2 s ha1 ha2 A c) r1 r2
      · exact rdoes_100 a1 a2 b1 b2 s _ _ _ w c k1 k2 k3 (enclose_any a1 a2 s ha1 ha2 hs A c) r1 r2 (rqenclose_any a1 a2 s ha1 ha2 hs (by omega))
  · rw [decide_eq_false A] at r1
    have no : ¬ (Low a1 a2 ∧ Low b1 b2) := fun k => A k.1
    exact rdoes_000 a1 a2 b1 b2 s w (qcmp_no a1 a2 b1 b2 ha1 ha2 hb1 hb2 no) (qadd_no a1 a2 b1 b2 ha1 ha2 hb1 hb2 no) (qmul_no a1 a2 b1 b2 ha1 ha2 hb1 hb2 no) (enclose_no a1 a2 s ha1 ha2 A) r1
end Go.Proofs.Ytjnebbjjabnipaa
