/- The law RatioEncloses, walked: what encloses a ratio is at most 1 wide; nothing that was in memory before is changed. -/
import Derived.Test.YtjnebbjjabnipaaAlive6
import Derived.Test.YtjnebbjjabnipaaFixMul
import Derived.Test.YtjnebbjjabnipaaRatioLow
namespace Go.Proofs.Ytjnebbjjabnipaa
open Go.RowKit

theorem eqSpan (a b c d : Int) (w : World) : (Op.equalIn 10000 34 (.agg #[.int .i64 a, .int .i64 b]) (.agg #[.int .i64 c, .int .i64 d])).run Try.prog w = .ok (decide (a = c ∧ b = d)) w := by
  by_cases h : a = c ∧ b = d
  · rw [decide_eq_true h]
    obtain ⟨rfl, rfl⟩ := h
    go_simp
  · rw [decide_eq_false h]
    by_cases k : a = c
    · have e1 : (a == c) = true := by simpa using k
      have e2 : (b == d) = false := by simpa using fun e => h ⟨k, e⟩
      go_simp
    · have e1 : (a == c) = false := by simpa using k
      go_simp
theorem eqSpan_same (a b : Int) (w : World) : (Op.equalIn 10000 34 (.agg #[.int .i64 a, .int .i64 b]) (.agg #[.int .i64 a, .int .i64 b])).run Try.prog w = .ok true w := by
  rw [eqSpan, decide_eq_true ⟨rfl, rfl⟩]
theorem renc_zero (n d s : Int) (hd : (d == 0) = true) (w : World) :
    Calls Try.prog 7 #[.int .i64 n, .int .i64 d, .int .i64 s] w fun en w' => en = .returned (.bool true) ∧ Below w.heap.size w w' := by
  go_enter Try.func7, Try.ntmps7
  go_wp2_with fail
  refine (alive6 _).mono ?_
  rintro e w1 ⟨rfl, hb⟩
  have HMw1 := Lib.hid ((Mem.start w).call hb)
  clear hb
  go_wp2_with fail
  go_ret
  exact ⟨rfl, HMw1.out.low⟩
theorem renc_over (n d s : Int) (hd : (d == 0) = false) (w : World)
    (m1 : ∀ w, Calls Try.prog 8 #[.int .i64 n, .int .i64 d] w fun en w' => en = .returned (.tuple #[.agg #[.int .i64 0, .int .i64 0], .int .i64 5]) ∧ Below w.heap.size w w') :
    Calls Try.prog 7 #[.int .i64 n, .int .i64 d, .int .i64 s] w fun en w' => en = .returned (.bool true) ∧ Below w.heap.size w w' := by
  have M1 := Lib.hid m1
  clear m1
  go_enter Try.func7, Try.ntmps7
  go_wp2_with fail
  refine (M1.out _).mono ?_
  rintro e w1 ⟨rfl, hb⟩
  have HMw1 := Lib.hid ((Mem.start w).call hb)
  clear hb
  go_wp2_with fail
  refine (alive6 _).mono ?_
  rintro e w2 ⟨rfl, hb⟩
  have HMw2 := Lib.hid ((HMw1.out.new w1.heap.size _ _ rfl).call hb)
  clear hb HMw1
  have lr : w1.heap.size < w2.heap.size := HMw2.out.lt 0 rfl
  have cr0 : w2.cell? ⟨w1.heap.size, 0, none⟩ = some (.int .i64 0) := HMw2.out.cell 0 rfl rfl
  have cr1 : w2.cell? ⟨w1.heap.size, 1, none⟩ = some (.int .i64 0) := HMw2.out.cell 0 rfl rfl
  go_wp2_with fail
  go_ret
  exact ⟨rfl, HMw2.out.low⟩
set_option maxHeartbeats 2000000 in
theorem renc_none_ok (n d s q1 q2 q3 S x y v : Int) (h1 : s.tmod 1000000000 = q1) (h2 : wrap64 (q1 + 1000000000) = q2) (h3 : q2.tmod 1000000000 = q3) (h4 : wrap64 (1 + q3) = S) (hd : (d == 0) = false) (w : World)
    (m1 : ∀ w, Calls Try.prog 8 #[.int .i64 n, .int .i64 d] w fun en w' => en = .returned (.tuple #[.agg #[.int .i64 x, .int .i64 y], .int .i64 0]) ∧ Below w.heap.size w w')
    (m2 : ∀ w, Calls Try.prog 16 #[.agg #[.int .i64 x, .int .i64 y], .int .i64 S] w fun en w' => en = .returned (.tuple #[.agg #[.int .i64 0, .int .i64 0], .int .i64 5]) ∧ Below w.heap.size w w')
    (m5 : ∀ w, Calls Try.prog 8 #[.int .i64 n, .int .i64 1] w fun en w' => en = .returned (.tuple #[.agg #[.int .i64 n, .int .i64 1], .int .i64 0]) ∧ Below w.heap.size w w')
    (m6 : ∀ w, Calls Try.prog 16 #[.agg #[.int .i64 n, .int .i64 1], .int .i64 S] w fun en w' => en = .returned (.tuple #[.agg #[.int .i64 v, .int .i64 v], .int .i64 0]) ∧ Below w.heap.size w w')
    (m7 : ∀ w, Calls Try.prog 22 #[.int .i64 n, .int .i64 S] w fun en w' => en = .returned (.tuple #[.int .i64 v, .int .i64 0]) ∧ Below w.heap.size w w') :
    Calls Try.prog 7 #[.int .i64 n, .int .i64 d, .int .i64 s] w fun en w' => en = .returned (.bool true) ∧ Below w.heap.size w w' := by
  have M1 := Lib.hid m1; have M2 := Lib.hid m2; have M5 := Lib.hid m5; have M6 := Lib.hid m6; have M7 := Lib.hid m7
  clear m1 m2 m5 m6 m7
  have hE := eqSpan_same v v
  go_enter Try.func7, Try.ntmps7
  go_wp2_with fail
  refine (M1.out _).mono ?_
  rintro e w1 ⟨rfl, hb⟩
  have HMw1 := Lib.hid ((Mem.start w).call hb)
  clear hb
  go_wp2_with fail
  refine (M2.out _).mono ?_
  rintro e w2 ⟨rfl, hb⟩
  have HMw2 := Lib.hid ((HMw1.out.new w1.heap.size _ _ rfl).call hb)
  clear hb HMw1
  clear h1 h2 h3 h4
  have lr : w1.heap.size < w2.heap.size := HMw2.out.lt 0 rfl
  have cr0 : w2.cell? ⟨w1.heap.size, 0, none⟩ = some (.int .i64 x) := HMw2.out.cell 0 rfl rfl
  have cr1 : w2.cell? ⟨w1.heap.size, 1, none⟩ = some (.int .i64 y) := HMw2.out.cell 0 rfl rfl
  go_wp2_with fail
  refine (M5.out _).mono ?_
  rintro e w3 ⟨rfl, hb⟩
  have HMw3 := Lib.hid ((HMw2.out.new w2.heap.size _ _ rfl).call hb)
  clear hb lr cr0 cr1 HMw2
  go_wp2_with fail
  refine (M6.out _).mono ?_
  rintro e w4 ⟨rfl, hb⟩
  have HMw4 := Lib.hid ((HMw3.out.new w3.heap.size _ _ rfl).call hb)
  clear hb HMw3
  go_wp2_with fail
  refine (M7.out _).mono ?_
  rintro e w5 ⟨rfl, hb⟩
  have HMw5 := Lib.hid ((HMw4.out.new w4.heap.size _ _ rfl).call hb)
  clear hb HMw4
  go_wp2_with fail
  refine (alive6 _).mono ?_
  rintro e w6 ⟨rfl, hb⟩
  have HMw6 := Lib.hid (HMw5.out.call hb)
  clear hb HMw5
  have lt : w4.heap.size < w6.heap.size := HMw6.out.lt 0 rfl
  have ct0 : w6.cell? ⟨w4.heap.size, 0, none⟩ = some (.int .i64 v) := HMw6.out.cell 0 rfl rfl
  have ct1 : w6.cell? ⟨w4.heap.size, 1, none⟩ = some (.int .i64 v) := HMw6.out.cell 0 rfl rfl
  go_wp2_with fail
  go_ret
  exact ⟨rfl, HMw6.out.low⟩
set_option maxHeartbeats 2000000 in
theorem renc_none_over (n d s q1 q2 q3 S x y : Int) (h1 : s.tmod 1000000000 = q1) (h2 : wrap64 (q1 + 1000000000) = q2) (h3 : q2.tmod 1000000000 = q3) (h4 : wrap64 (1 + q3) = S) (hd : (d == 0) = false) (w : World)
    (m1 : ∀ w, Calls Try.prog 8 #[.int .i64 n, .int .i64 d] w fun en w' => en = .returned (.tuple #[.agg #[.int .i64 x, .int .i64 y], .int .i64 0]) ∧ Below w.heap.size w w')
    (m2 : ∀ w, Calls Try.prog 16 #[.agg #[.int .i64 x, .int .i64 y], .int .i64 S] w fun en w' => en = .returned (.tuple #[.agg #[.int .i64 0, .int .i64 0], .int .i64 5]) ∧ Below w.heap.size w w')
    (m5 : ∀ w, Calls Try.prog 8 #[.int .i64 n, .int .i64 1] w fun en w' => en = .returned (.tuple #[.agg #[.int .i64 n, .int .i64 1], .int .i64 0]) ∧ Below w.heap.size w w')
    (m6 : ∀ w, Calls Try.prog 16 #[.agg #[.int .i64 n, .int .i64 1], .int .i64 S] w fun en w' => en = .returned (.tuple #[.agg #[.int .i64 0, .int .i64 0], .int .i64 5]) ∧ Below w.heap.size w w')
    (m7 : ∀ w, Calls Try.prog 22 #[.int .i64 n, .int .i64 S] w fun en w' => en = .returned (.tuple #[.int .i64 0, .int .i64 5]) ∧ Below w.heap.size w w') :
    Calls Try.prog 7 #[.int .i64 n, .int .i64 d, .int .i64 s] w fun en w' => en = .returned (.bool true) ∧ Below w.heap.size w w' := by
  have M1 := Lib.hid m1; have M2 := Lib.hid m2; have M5 := Lib.hid m5; have M6 := Lib.hid m6; have M7 := Lib.hid m7
  clear m1 m2 m5 m6 m7
  go_enter Try.func7, Try.ntmps7
  go_wp2_with fail
  refine (M1.out _).mono ?_
  rintro e w1 ⟨rfl, hb⟩
  have HMw1 := Lib.hid ((Mem.start w).call hb)
  clear hb
  go_wp2_with fail
  refine (M2.out _).mono ?_
  rintro e w2 ⟨rfl, hb⟩
  have HMw2 := Lib.hid ((HMw1.out.new w1.heap.size _ _ rfl).call hb)
  clear hb HMw1
  clear h1 h2 h3 h4
  have lr : w1.heap.size < w2.heap.size := HMw2.out.lt 0 rfl
  have cr0 : w2.cell? ⟨w1.heap.size, 0, none⟩ = some (.int .i64 x) := HMw2.out.cell 0 rfl rfl
  have cr1 : w2.cell? ⟨w1.heap.size, 1, none⟩ = some (.int .i64 y) := HMw2.out.cell 0 rfl rfl
  go_wp2_with fail
  refine (M5.out _).mono ?_
  rintro e w3 ⟨rfl, hb⟩
  have HMw3 := Lib.hid ((HMw2.out.new w2.heap.size _ _ rfl).call hb)
  clear hb lr cr0 cr1 HMw2
  go_wp2_with fail
  refine (M6.out _).mono ?_
  rintro e w4 ⟨rfl, hb⟩
  have HMw4 := Lib.hid ((HMw3.out.new w3.heap.size _ _ rfl).call hb)
  clear hb HMw3
  go_wp2_with fail
  refine (M7.out _).mono ?_
  rintro e w5 ⟨rfl, hb⟩
  have HMw5 := Lib.hid ((HMw4.out.new w4.heap.size _ _ rfl).call hb)
  clear hb HMw4
  go_wp2_with fail
  refine (alive6 _).mono ?_
  rintro e w6 ⟨rfl, hb⟩
  have HMw6 := Lib.hid (HMw5.out.call hb)
  clear hb HMw5
  have lt : w4.heap.size < w6.heap.size := HMw6.out.lt 0 rfl
  have ct0 : w6.cell? ⟨w4.heap.size, 0, none⟩ = some (.int .i64 0) := HMw6.out.cell 0 rfl rfl
  have ct1 : w6.cell? ⟨w4.heap.size, 1, none⟩ = some (.int .i64 0) := HMw6.out.cell 0 rfl rfl
  go_wp2_with fail
  go_ret
  exact ⟨rfl, HMw6.out.low⟩
set_option maxHeartbeats 2000000 in
theorem renc_s00_ok (n d s q1 q2 q3 S x y lo p v : Int) (h1 : s.tmod 1000000000 = q1) (h2 : wrap64 (q1 + 1000000000) = q2) (h3 : q2.tmod 1000000000 = q3) (h4 : wrap64 (1 + q3) = S) (hd : (d == 0) = false) (w : World)
    (m1 : ∀ w, Calls Try.prog 8 #[.int .i64 n, .int .i64 d] w fun en w' => en = .returned (.tuple #[.agg #[.int .i64 x, .int .i64 y], .int .i64 0]) ∧ Below w.heap.size w w')
    (m2 : ∀ w, Calls Try.prog 16 #[.agg #[.int .i64 x, .int .i64 y], .int .i64 S] w fun en w' => en = .returned (.tuple #[.agg #[.int .i64 lo, .int .i64 lo], .int .i64 0]) ∧ Below w.heap.size w w')
    (m3 : ∀ w, Calls Try.prog 22 #[.int .i64 lo, .int .i64 y] w fun en w' => en = .returned (.tuple #[.int .i64 p, .int .i64 0]) ∧ Below w.heap.size w w')
    (m4 : ∀ w, Calls Try.prog 22 #[.int .i64 x, .int .i64 S] w fun en w' => en = .returned (.tuple #[.int .i64 p, .int .i64 0]) ∧ Below w.heap.size w w')
    (m5 : ∀ w, Calls Try.prog 8 #[.int .i64 n, .int .i64 1] w fun en w' => en = .returned (.tuple #[.agg #[.int .i64 n, .int .i64 1], .int .i64 0]) ∧ Below w.heap.size w w')
    (m6 : ∀ w, Calls Try.prog 16 #[.agg #[.int .i64 n, .int .i64 1], .int .i64 S] w fun en w' => en = .returned (.tuple #[.agg #[.int .i64 v, .int .i64 v], .int .i64 0]) ∧ Below w.heap.size w w')
    (m7 : ∀ w, Calls Try.prog 22 #[.int .i64 n, .int .i64 S] w fun en w' => en = .returned (.tuple #[.int .i64 v, .int .i64 0]) ∧ Below w.heap.size w w') :
    Calls Try.prog 7 #[.int .i64 n, .int .i64 d, .int .i64 s] w fun en w' => en = .returned (.bool true) ∧ Below w.heap.size w w' := by
  have M1 := Lib.hid m1; have M2 := Lib.hid m2; have M5 := Lib.hid m5; have M6 := Lib.hid m6; have M7 := Lib.hid m7; have M3 := Lib.hid m3; have M4 := Lib.hid m4
  clear m1 m2 m5 m6 m7 m3 m4
  have hE := eqSpan_same v v
  go_enter Try.func7, Try.ntmps7
  go_wp2_with fail
  refine (M1.out _).mono ?_
  rintro e w1 ⟨rfl, hb⟩
  have HMw1 := Lib.hid ((Mem.start w).call hb)
  clear hb
  go_wp2_with fail
  refine (M2.out _).mono ?_
  rintro e w2 ⟨rfl, hb⟩
  have HMw2 := Lib.hid ((HMw1.out.new w1.heap.size _ _ rfl).call hb)
  clear hb HMw1
  clear h1 h2 h3 h4
  have lr : w1.heap.size < w2.heap.size := HMw2.out.lt 0 rfl
  have cr0 : w2.cell? ⟨w1.heap.size, 0, none⟩ = some (.int .i64 x) := HMw2.out.cell 0 rfl rfl
  have cr1 : w2.cell? ⟨w1.heap.size, 1, none⟩ = some (.int .i64 y) := HMw2.out.cell 0 rfl rfl
  go_wp2_with fail
  refine (M3.out _).mono ?_
  rintro e w3 ⟨rfl, hb⟩
  have HMw3 := Lib.hid ((HMw2.out.new w2.heap.size _ _ rfl).call hb)
  clear hb lr cr0 cr1 HMw2
  have lr : w1.heap.size < w3.heap.size := HMw3.out.lt 1 rfl
  have cr0 : w3.cell? ⟨w1.heap.size, 0, none⟩ = some (.int .i64 x) := HMw3.out.cell 1 rfl rfl
  have cr1 : w3.cell? ⟨w1.heap.size, 1, none⟩ = some (.int .i64 y) := HMw3.out.cell 1 rfl rfl
  go_wp2_with fail
  refine (M4.out _).mono ?_
  rintro e w4 ⟨rfl, hb⟩
  have HMw4 := Lib.hid (HMw3.out.call hb)
  clear hb lr cr0 cr1 HMw3
  have le : w2.heap.size < w4.heap.size := HMw4.out.lt 0 rfl
  have ce0 : w4.cell? ⟨w2.heap.size, 0, none⟩ = some (.int .i64 lo) := HMw4.out.cell 0 rfl rfl
  have ce1 : w4.cell? ⟨w2.heap.size, 1, none⟩ = some (.int .i64 lo) := HMw4.out.cell 0 rfl rfl
  go_wp2_with fail
  refine (M5.out _).mono ?_
  rintro e w5 ⟨rfl, hb⟩
  have HMw5 := Lib.hid (HMw4.out.call hb)
  clear hb le ce0 ce1 HMw4
  go_wp2_with fail
  refine (M6.out _).mono ?_
  rintro e w6 ⟨rfl, hb⟩
  have HMw6 := Lib.hid ((HMw5.out.new w5.heap.size _ _ rfl).call hb)
  clear hb HMw5
  go_wp2_with fail
  refine (M7.out _).mono ?_
  rintro e w7 ⟨rfl, hb⟩
  have HMw7 := Lib.hid ((HMw6.out.new w6.heap.size _ _ rfl).call hb)
  clear hb HMw6
  go_wp2_with fail
  refine (alive6 _).mono ?_
  rintro e w8 ⟨rfl, hb⟩
  have HMw8 := Lib.hid (HMw7.out.call hb)
  clear hb HMw7
  have lt : w6.heap.size < w8.heap.size := HMw8.out.lt 0 rfl
  have ct0 : w8.cell? ⟨w6.heap.size, 0, none⟩ = some (.int .i64 v) := HMw8.out.cell 0 rfl rfl
  have ct1 : w8.cell? ⟨w6.heap.size, 1, none⟩ = some (.int .i64 v) := HMw8.out.cell 0 rfl rfl
  go_wp2_with fail
  go_ret
  exact ⟨rfl, HMw8.out.low⟩
set_option maxHeartbeats 2000000 in
theorem renc_s00_over (n d s q1 q2 q3 S x y lo p : Int) (h1 : s.tmod 1000000000 = q1) (h2 : wrap64 (q1 + 1000000000) = q2) (h3 : q2.tmod 1000000000 = q3) (h4 : wrap64 (1 + q3) = S) (hd : (d == 0) = false) (w : World)
    (m1 : ∀ w, Calls Try.prog 8 #[.int .i64 n, .int .i64 d] w fun en w' => en = .returned (.tuple #[.agg #[.int .i64 x, .int .i64 y], .int .i64 0]) ∧ Below w.heap.size w w')
    (m2 : ∀ w, Calls Try.prog 16 #[.agg #[.int .i64 x, .int .i64 y], .int .i64 S] w fun en w' => en = .returned (.tuple #[.agg #[.int .i64 lo, .int .i64 lo], .int .i64 0]) ∧ Below w.heap.size w w')
    (m3 : ∀ w, Calls Try.prog 22 #[.int .i64 lo, .int .i64 y] w fun en w' => en = .returned (.tuple #[.int .i64 p, .int .i64 0]) ∧ Below w.heap.size w w')
    (m4 : ∀ w, Calls Try.prog 22 #[.int .i64 x, .int .i64 S] w fun en w' => en = .returned (.tuple #[.int .i64 p, .int .i64 0]) ∧ Below w.heap.size w w')
    (m5 : ∀ w, Calls Try.prog 8 #[.int .i64 n, .int .i64 1] w fun en w' => en = .returned (.tuple #[.agg #[.int .i64 n, .int .i64 1], .int .i64 0]) ∧ Below w.heap.size w w')
    (m6 : ∀ w, Calls Try.prog 16 #[.agg #[.int .i64 n, .int .i64 1], .int .i64 S] w fun en w' => en = .returned (.tuple #[.agg #[.int .i64 0, .int .i64 0], .int .i64 5]) ∧ Below w.heap.size w w')
    (m7 : ∀ w, Calls Try.prog 22 #[.int .i64 n, .int .i64 S] w fun en w' => en = .returned (.tuple #[.int .i64 0, .int .i64 5]) ∧ Below w.heap.size w w') :
    Calls Try.prog 7 #[.int .i64 n, .int .i64 d, .int .i64 s] w fun en w' => en = .returned (.bool true) ∧ Below w.heap.size w w' := by
  have M1 := Lib.hid m1; have M2 := Lib.hid m2; have M5 := Lib.hid m5; have M6 := Lib.hid m6; have M7 := Lib.hid m7; have M3 := Lib.hid m3; have M4 := Lib.hid m4
  clear m1 m2 m5 m6 m7 m3 m4
  go_enter Try.func7, Try.ntmps7
  go_wp2_with fail
  refine (M1.out _).mono ?_
  rintro e w1 ⟨rfl, hb⟩
  have HMw1 := Lib.hid ((Mem.start w).call hb)
  clear hb
  go_wp2_with fail
  refine (M2.out _).mono ?_
  rintro e w2 ⟨rfl, hb⟩
  have HMw2 := Lib.hid ((HMw1.out.new w1.heap.size _ _ rfl).call hb)
  clear hb HMw1
  clear h1 h2 h3 h4
  have lr : w1.heap.size < w2.heap.size := HMw2.out.lt 0 rfl
  have cr0 : w2.cell? ⟨w1.heap.size, 0, none⟩ = some (.int .i64 x) := HMw2.out.cell 0 rfl rfl
  have cr1 : w2.cell? ⟨w1.heap.size, 1, none⟩ = some (.int .i64 y) := HMw2.out.cell 0 rfl rfl
  go_wp2_with fail
  refine (M3.out _).mono ?_
  rintro e w3 ⟨rfl, hb⟩
  have HMw3 := Lib.hid ((HMw2.out.new w2.heap.size _ _ rfl).call hb)
  clear hb lr cr0 cr1 HMw2
  have lr : w1.heap.size < w3.heap.size := HMw3.out.lt 1 rfl
  have cr0 : w3.cell? ⟨w1.heap.size, 0, none⟩ = some (.int .i64 x) := HMw3.out.cell 1 rfl rfl
  have cr1 : w3.cell? ⟨w1.heap.size, 1, none⟩ = some (.int .i64 y) := HMw3.out.cell 1 rfl rfl
  go_wp2_with fail
  refine (M4.out _).mono ?_
  rintro e w4 ⟨rfl, hb⟩
  have HMw4 := Lib.hid (HMw3.out.call hb)
  clear hb lr cr0 cr1 HMw3
  have le : w2.heap.size < w4.heap.size := HMw4.out.lt 0 rfl
  have ce0 : w4.cell? ⟨w2.heap.size, 0, none⟩ = some (.int .i64 lo) := HMw4.out.cell 0 rfl rfl
  have ce1 : w4.cell? ⟨w2.heap.size, 1, none⟩ = some (.int .i64 lo) := HMw4.out.cell 0 rfl rfl
  go_wp2_with fail
  refine (M5.out _).mono ?_
  rintro e w5 ⟨rfl, hb⟩
  have HMw5 := Lib.hid (HMw4.out.call hb)
  clear hb le ce0 ce1 HMw4
  go_wp2_with fail
  refine (M6.out _).mono ?_
  rintro e w6 ⟨rfl, hb⟩
  have HMw6 := Lib.hid ((HMw5.out.new w5.heap.size _ _ rfl).call hb)
  clear hb HMw5
  go_wp2_with fail
  refine (M7.out _).mono ?_
  rintro e w7 ⟨rfl, hb⟩
  have HMw7 := Lib.hid ((HMw6.out.new w6.heap.size _ _ rfl).call hb)
  clear hb HMw6
  go_wp2_with fail
  refine (alive6 _).mono ?_
  rintro e w8 ⟨rfl, hb⟩
  have HMw8 := Lib.hid (HMw7.out.call hb)
  clear hb HMw7
  have lt : w6.heap.size < w8.heap.size := HMw8.out.lt 0 rfl
  have ct0 : w8.cell? ⟨w6.heap.size, 0, none⟩ = some (.int .i64 0) := HMw8.out.cell 0 rfl rfl
  have ct1 : w8.cell? ⟨w6.heap.size, 1, none⟩ = some (.int .i64 0) := HMw8.out.cell 0 rfl rfl
  go_wp2_with fail
  go_ret
  exact ⟨rfl, HMw8.out.low⟩
set_option maxHeartbeats 2000000 in
theorem renc_s5_ok (n d s q1 q2 q3 S x y lo r k v : Int) (h1 : s.tmod 1000000000 = q1) (h2 : wrap64 (q1 + 1000000000) = q2) (h3 : q2.tmod 1000000000 = q3) (h4 : wrap64 (1 + q3) = S) (hd : (d == 0) = false) (w : World)
    (m1 : ∀ w, Calls Try.prog 8 #[.int .i64 n, .int .i64 d] w fun en w' => en = .returned (.tuple #[.agg #[.int .i64 x, .int .i64 y], .int .i64 0]) ∧ Below w.heap.size w w')
    (m2 : ∀ w, Calls Try.prog 16 #[.agg #[.int .i64 x, .int .i64 y], .int .i64 S] w fun en w' => en = .returned (.tuple #[.agg #[.int .i64 lo, .int .i64 lo], .int .i64 0]) ∧ Below w.heap.size w w')
    (m3 : ∀ w, Calls Try.prog 22 #[.int .i64 lo, .int .i64 y] w fun en w' => en = .returned (.tuple #[.int .i64 0, .int .i64 5]) ∧ Below w.heap.size w w')
    (m4 : ∀ w, Calls Try.prog 22 #[.int .i64 x, .int .i64 S] w fun en w' => en = .returned (.tuple #[.int .i64 r, .int .i64 k]) ∧ Below w.heap.size w w')
    (m5 : ∀ w, Calls Try.prog 8 #[.int .i64 n, .int .i64 1] w fun en w' => en = .returned (.tuple #[.agg #[.int .i64 n, .int .i64 1], .int .i64 0]) ∧ Below w.heap.size w w')
    (m6 : ∀ w, Calls Try.prog 16 #[.agg #[.int .i64 n, .int .i64 1], .int .i64 S] w fun en w' => en = .returned (.tuple #[.agg #[.int .i64 v, .int .i64 v], .int .i64 0]) ∧ Below w.heap.size w w')
    (m7 : ∀ w, Calls Try.prog 22 #[.int .i64 n, .int .i64 S] w fun en w' => en = .returned (.tuple #[.int .i64 v, .int .i64 0]) ∧ Below w.heap.size w w') :
    Calls Try.prog 7 #[.int .i64 n, .int .i64 d, .int .i64 s] w fun en w' => en = .returned (.bool true) ∧ Below w.heap.size w w' := by
  have M1 := Lib.hid m1; have M2 := Lib.hid m2; have M5 := Lib.hid m5; have M6 := Lib.hid m6; have M7 := Lib.hid m7; have M3 := Lib.hid m3; have M4 := Lib.hid m4
  clear m1 m2 m5 m6 m7 m3 m4
  have hE := eqSpan_same v v
  go_enter Try.func7, Try.ntmps7
  go_wp2_with fail
  refine (M1.out _).mono ?_
  rintro e w1 ⟨rfl, hb⟩
  have HMw1 := Lib.hid ((Mem.start w).call hb)
  clear hb
  go_wp2_with fail
  refine (M2.out _).mono ?_
  rintro e w2 ⟨rfl, hb⟩
  have HMw2 := Lib.hid ((HMw1.out.new w1.heap.size _ _ rfl).call hb)
  clear hb HMw1
  clear h1 h2 h3 h4
  have lr : w1.heap.size < w2.heap.size := HMw2.out.lt 0 rfl
  have cr0 : w2.cell? ⟨w1.heap.size, 0, none⟩ = some (.int .i64 x) := HMw2.out.cell 0 rfl rfl
  have cr1 : w2.cell? ⟨w1.heap.size, 1, none⟩ = some (.int .i64 y) := HMw2.out.cell 0 rfl rfl
  go_wp2_with fail
  refine (M3.out _).mono ?_
  rintro e w3 ⟨rfl, hb⟩
  have HMw3 := Lib.hid ((HMw2.out.new w2.heap.size _ _ rfl).call hb)
  clear hb lr cr0 cr1 HMw2
  have lr : w1.heap.size < w3.heap.size := HMw3.out.lt 1 rfl
  have cr0 : w3.cell? ⟨w1.heap.size, 0, none⟩ = some (.int .i64 x) := HMw3.out.cell 1 rfl rfl
  have cr1 : w3.cell? ⟨w1.heap.size, 1, none⟩ = some (.int .i64 y) := HMw3.out.cell 1 rfl rfl
  go_wp2_with fail
  refine (M4.out _).mono ?_
  rintro e w4 ⟨rfl, hb⟩
  have HMw4 := Lib.hid (HMw3.out.call hb)
  clear hb lr cr0 cr1 HMw3
  have le : w2.heap.size < w4.heap.size := HMw4.out.lt 0 rfl
  have ce0 : w4.cell? ⟨w2.heap.size, 0, none⟩ = some (.int .i64 lo) := HMw4.out.cell 0 rfl rfl
  have ce1 : w4.cell? ⟨w2.heap.size, 1, none⟩ = some (.int .i64 lo) := HMw4.out.cell 0 rfl rfl
  go_wp2_with fail
  refine (M5.out _).mono ?_
  rintro e w5 ⟨rfl, hb⟩
  have HMw5 := Lib.hid (HMw4.out.call hb)
  clear hb le ce0 ce1 HMw4
  go_wp2_with fail
  refine (M6.out _).mono ?_
  rintro e w6 ⟨rfl, hb⟩
  have HMw6 := Lib.hid ((HMw5.out.new w5.heap.size _ _ rfl).call hb)
  clear hb HMw5
  go_wp2_with fail
  refine (M7.out _).mono ?_
  rintro e w7 ⟨rfl, hb⟩
  have HMw7 := Lib.hid ((HMw6.out.new w6.heap.size _ _ rfl).call hb)
  clear hb HMw6
  go_wp2_with fail
  refine (alive6 _).mono ?_
  rintro e w8 ⟨rfl, hb⟩
  have HMw8 := Lib.hid (HMw7.out.call hb)
  clear hb HMw7
  have lt : w6.heap.size < w8.heap.size := HMw8.out.lt 0 rfl
  have ct0 : w8.cell? ⟨w6.heap.size, 0, none⟩ = some (.int .i64 v) := HMw8.out.cell 0 rfl rfl
  have ct1 : w8.cell? ⟨w6.heap.size, 1, none⟩ = some (.int .i64 v) := HMw8.out.cell 0 rfl rfl
  go_wp2_with fail
  go_ret
  exact ⟨rfl, HMw8.out.low⟩
set_option maxHeartbeats 2000000 in
theorem renc_s5_over (n d s q1 q2 q3 S x y lo r k : Int) (h1 : s.tmod 1000000000 = q1) (h2 : wrap64 (q1 + 1000000000) = q2) (h3 : q2.tmod 1000000000 = q3) (h4 : wrap64 (1 + q3) = S) (hd : (d == 0) = false) (w : World)
    (m1 : ∀ w, Calls Try.prog 8 #[.int .i64 n, .int .i64 d] w fun en w' => en = .returned (.tuple #[.agg #[.int .i64 x, .int .i64 y], .int .i64 0]) ∧ Below w.heap.size w w')
    (m2 : ∀ w, Calls Try.prog 16 #[.agg #[.int .i64 x, .int .i64 y], .int .i64 S] w fun en w' => en = .returned (.tuple #[.agg #[.int .i64 lo, .int .i64 lo], .int .i64 0]) ∧ Below w.heap.size w w')
    (m3 : ∀ w, Calls Try.prog 22 #[.int .i64 lo, .int .i64 y] w fun en w' => en = .returned (.tuple #[.int .i64 0, .int .i64 5]) ∧ Below w.heap.size w w')
    (m4 : ∀ w, Calls Try.prog 22 #[.int .i64 x, .int .i64 S] w fun en w' => en = .returned (.tuple #[.int .i64 r, .int .i64 k]) ∧ Below w.heap.size w w')
    (m5 : ∀ w, Calls Try.prog 8 #[.int .i64 n, .int .i64 1] w fun en w' => en = .returned (.tuple #[.agg #[.int .i64 n, .int .i64 1], .int .i64 0]) ∧ Below w.heap.size w w')
    (m6 : ∀ w, Calls Try.prog 16 #[.agg #[.int .i64 n, .int .i64 1], .int .i64 S] w fun en w' => en = .returned (.tuple #[.agg #[.int .i64 0, .int .i64 0], .int .i64 5]) ∧ Below w.heap.size w w')
    (m7 : ∀ w, Calls Try.prog 22 #[.int .i64 n, .int .i64 S] w fun en w' => en = .returned (.tuple #[.int .i64 0, .int .i64 5]) ∧ Below w.heap.size w w') :
    Calls Try.prog 7 #[.int .i64 n, .int .i64 d, .int .i64 s] w fun en w' => en = .returned (.bool true) ∧ Below w.heap.size w w' := by
  have M1 := Lib.hid m1; have M2 := Lib.hid m2; have M5 := Lib.hid m5; have M6 := Lib.hid m6; have M7 := Lib.hid m7; have M3 := Lib.hid m3; have M4 := Lib.hid m4
  clear m1 m2 m5 m6 m7 m3 m4
  go_enter Try.func7, Try.ntmps7
  go_wp2_with fail
  refine (M1.out _).mono ?_
  rintro e w1 ⟨rfl, hb⟩
  have HMw1 := Lib.hid ((Mem.start w).call hb)
  clear hb
  go_wp2_with fail
  refine (M2.out _).mono ?_
  rintro e w2 ⟨rfl, hb⟩
  have HMw2 := Lib.hid ((HMw1.out.new w1.heap.size _ _ rfl).call hb)
  clear hb HMw1
  clear h1 h2 h3 h4
  have lr : w1.heap.size < w2.heap.size := HMw2.out.lt 0 rfl
  have cr0 : w2.cell? ⟨w1.heap.size, 0, none⟩ = some (.int .i64 x) := HMw2.out.cell 0 rfl rfl
  have cr1 : w2.cell? ⟨w1.heap.size, 1, none⟩ = some (.int .i64 y) := HMw2.out.cell 0 rfl rfl
  go_wp2_with fail
  refine (M3.out _).mono ?_
  rintro e w3 ⟨rfl, hb⟩
  have HMw3 := Lib.hid ((HMw2.out.new w2.heap.size _ _ rfl).call hb)
  clear hb lr cr0 cr1 HMw2
  have lr : w1.heap.size < w3.heap.size := HMw3.out.lt 1 rfl
  have cr0 : w3.cell? ⟨w1.heap.size, 0, none⟩ = some (.int .i64 x) := HMw3.out.cell 1 rfl rfl
  have cr1 : w3.cell? ⟨w1.heap.size, 1, none⟩ = some (.int .i64 y) := HMw3.out.cell 1 rfl rfl
  go_wp2_with fail
  refine (M4.out _).mono ?_
  rintro e w4 ⟨rfl, hb⟩
  have HMw4 := Lib.hid (HMw3.out.call hb)
  clear hb lr cr0 cr1 HMw3
  have le : w2.heap.size < w4.heap.size := HMw4.out.lt 0 rfl
  have ce0 : w4.cell? ⟨w2.heap.size, 0, none⟩ = some (.int .i64 lo) := HMw4.out.cell 0 rfl rfl
  have ce1 : w4.cell? ⟨w2.heap.size, 1, none⟩ = some (.int .i64 lo) := HMw4.out.cell 0 rfl rfl
  go_wp2_with fail
  refine (M5.out _).mono ?_
  rintro e w5 ⟨rfl, hb⟩
  have HMw5 := Lib.hid (HMw4.out.call hb)
  clear hb le ce0 ce1 HMw4
  go_wp2_with fail
  refine (M6.out _).mono ?_
  rintro e w6 ⟨rfl, hb⟩
  have HMw6 := Lib.hid ((HMw5.out.new w5.heap.size _ _ rfl).call hb)
  clear hb HMw5
  go_wp2_with fail
  refine (M7.out _).mono ?_
  rintro e w7 ⟨rfl, hb⟩
  have HMw7 := Lib.hid ((HMw6.out.new w6.heap.size _ _ rfl).call hb)
  clear hb HMw6
  go_wp2_with fail
  refine (alive6 _).mono ?_
  rintro e w8 ⟨rfl, hb⟩
  have HMw8 := Lib.hid (HMw7.out.call hb)
  clear hb HMw7
  have lt : w6.heap.size < w8.heap.size := HMw8.out.lt 0 rfl
  have ct0 : w8.cell? ⟨w6.heap.size, 0, none⟩ = some (.int .i64 0) := HMw8.out.cell 0 rfl rfl
  have ct1 : w8.cell? ⟨w6.heap.size, 1, none⟩ = some (.int .i64 0) := HMw8.out.cell 0 rfl rfl
  go_wp2_with fail
  go_ret
  exact ⟨rfl, HMw8.out.low⟩
set_option maxHeartbeats 2000000 in
theorem renc_u00_ok (n d s q1 q2 q3 S x y lo z p r v : Int) (h1 : s.tmod 1000000000 = q1) (h2 : wrap64 (q1 + 1000000000) = q2) (h3 : q2.tmod 1000000000 = q3) (h4 : wrap64 (1 + q3) = S) (hd : (d == 0) = false) (k1 : decide (z < lo) = false) (k2 : decide (lo < z) = true) (k3 : wrap64 (z - 1) = lo) (k4 : (lo == z) = false) (k5 : (p == r) = false) (w : World)
    (m1 : ∀ w, Calls Try.prog 8 #[.int .i64 n, .int .i64 d] w fun en w' => en = .returned (.tuple #[.agg #[.int .i64 x, .int .i64 y], .int .i64 0]) ∧ Below w.heap.size w w')
    (m2 : ∀ w, Calls Try.prog 16 #[.agg #[.int .i64 x, .int .i64 y], .int .i64 S] w fun en w' => en = .returned (.tuple #[.agg #[.int .i64 lo, .int .i64 z], .int .i64 0]) ∧ Below w.heap.size w w')
    (m3 : ∀ w, Calls Try.prog 22 #[.int .i64 lo, .int .i64 y] w fun en w' => en = .returned (.tuple #[.int .i64 p, .int .i64 0]) ∧ Below w.heap.size w w')
    (m4 : ∀ w, Calls Try.prog 22 #[.int .i64 x, .int .i64 S] w fun en w' => en = .returned (.tuple #[.int .i64 r, .int .i64 0]) ∧ Below w.heap.size w w')
    (m5 : ∀ w, Calls Try.prog 8 #[.int .i64 n, .int .i64 1] w fun en w' => en = .returned (.tuple #[.agg #[.int .i64 n, .int .i64 1], .int .i64 0]) ∧ Below w.heap.size w w')
    (m6 : ∀ w, Calls Try.prog 16 #[.agg #[.int .i64 n, .int .i64 1], .int .i64 S] w fun en w' => en = .returned (.tuple #[.agg #[.int .i64 v, .int .i64 v], .int .i64 0]) ∧ Below w.heap.size w w')
    (m7 : ∀ w, Calls Try.prog 22 #[.int .i64 n, .int .i64 S] w fun en w' => en = .returned (.tuple #[.int .i64 v, .int .i64 0]) ∧ Below w.heap.size w w') :
    Calls Try.prog 7 #[.int .i64 n, .int .i64 d, .int .i64 s] w fun en w' => en = .returned (.bool true) ∧ Below w.heap.size w w' := by
  have M1 := Lib.hid m1; have M2 := Lib.hid m2; have M5 := Lib.hid m5; have M6 := Lib.hid m6; have M7 := Lib.hid m7; have M3 := Lib.hid m3; have M4 := Lib.hid m4
  clear m1 m2 m5 m6 m7 m3 m4
  have hE := eqSpan_same v v
  go_enter Try.func7, Try.ntmps7
  go_wp2_with fail
  refine (M1.out _).mono ?_
  rintro e w1 ⟨rfl, hb⟩
  have HMw1 := Lib.hid ((Mem.start w).call hb)
  clear hb
  go_wp2_with fail
  refine (M2.out _).mono ?_
  rintro e w2 ⟨rfl, hb⟩
  have HMw2 := Lib.hid ((HMw1.out.new w1.heap.size _ _ rfl).call hb)
  clear hb HMw1
  clear h1 h2 h3 h4
  have lr : w1.heap.size < w2.heap.size := HMw2.out.lt 0 rfl
  have cr0 : w2.cell? ⟨w1.heap.size, 0, none⟩ = some (.int .i64 x) := HMw2.out.cell 0 rfl rfl
  have cr1 : w2.cell? ⟨w1.heap.size, 1, none⟩ = some (.int .i64 y) := HMw2.out.cell 0 rfl rfl
  go_wp2_with fail
  refine (M3.out _).mono ?_
  rintro e w3 ⟨rfl, hb⟩
  have HMw3 := Lib.hid ((HMw2.out.new w2.heap.size _ _ rfl).call hb)
  clear hb lr cr0 cr1 HMw2
  have lr : w1.heap.size < w3.heap.size := HMw3.out.lt 1 rfl
  have cr0 : w3.cell? ⟨w1.heap.size, 0, none⟩ = some (.int .i64 x) := HMw3.out.cell 1 rfl rfl
  have cr1 : w3.cell? ⟨w1.heap.size, 1, none⟩ = some (.int .i64 y) := HMw3.out.cell 1 rfl rfl
  go_wp2_with fail
  refine (M4.out _).mono ?_
  rintro e w4 ⟨rfl, hb⟩
  have HMw4 := Lib.hid (HMw3.out.call hb)
  clear hb lr cr0 cr1 HMw3
  have le : w2.heap.size < w4.heap.size := HMw4.out.lt 0 rfl
  have ce0 : w4.cell? ⟨w2.heap.size, 0, none⟩ = some (.int .i64 lo) := HMw4.out.cell 0 rfl rfl
  have ce1 : w4.cell? ⟨w2.heap.size, 1, none⟩ = some (.int .i64 z) := HMw4.out.cell 0 rfl rfl
  go_wp2_with fail
  refine (M5.out _).mono ?_
  rintro e w5 ⟨rfl, hb⟩
  have HMw5 := Lib.hid (HMw4.out.call hb)
  clear hb le ce0 ce1 HMw4
  go_wp2_with fail
  refine (M6.out _).mono ?_
  rintro e w6 ⟨rfl, hb⟩
  have HMw6 := Lib.hid ((HMw5.out.new w5.heap.size _ _ rfl).call hb)
  clear hb HMw5
  go_wp2_with fail
  refine (M7.out _).mono ?_
  rintro e w7 ⟨rfl, hb⟩
  have HMw7 := Lib.hid ((HMw6.out.new w6.heap.size _ _ rfl).call hb)
  clear hb HMw6
  go_wp2_with fail
  refine (alive6 _).mono ?_
  rintro e w8 ⟨rfl, hb⟩
  have HMw8 := Lib.hid (HMw7.out.call hb)
  clear hb HMw7
  have lt : w6.heap.size < w8.heap.size := HMw8.out.lt 0 rfl
  have ct0 : w8.cell? ⟨w6.heap.size, 0, none⟩ = some (.int .i64 v) := HMw8.out.cell 0 rfl rfl
  have ct1 : w8.cell? ⟨w6.heap.size, 1, none⟩ = some (.int .i64 v) := HMw8.out.cell 0 rfl rfl
  go_wp2_with fail
  go_ret
  exact ⟨rfl, HMw8.out.low⟩
set_option maxHeartbeats 2000000 in
theorem renc_u00_over (n d s q1 q2 q3 S x y lo z p r : Int) (h1 : s.tmod 1000000000 = q1) (h2 : wrap64 (q1 + 1000000000) = q2) (h3 : q2.tmod 1000000000 = q3) (h4 : wrap64 (1 + q3) = S) (hd : (d == 0) = false) (k1 : decide (z < lo) = false) (k2 : decide (lo < z) = true) (k3 : wrap64 (z - 1) = lo) (k4 : (lo == z) = false) (k5 : (p == r) = false) (w : World)
    (m1 : ∀ w, Calls Try.prog 8 #[.int .i64 n, .int .i64 d] w fun en w' => en = .returned (.tuple #[.agg #[.int .i64 x, .int .i64 y], .int .i64 0]) ∧ Below w.heap.size w w')
    (m2 : ∀ w, Calls Try.prog 16 #[.agg #[.int .i64 x, .int .i64 y], .int .i64 S] w fun en w' => en = .returned (.tuple #[.agg #[.int .i64 lo, .int .i64 z], .int .i64 0]) ∧ Below w.heap.size w w')
    (m3 : ∀ w, Calls Try.prog 22 #[.int .i64 lo, .int .i64 y] w fun en w' => en = .returned (.tuple #[.int .i64 p, .int .i64 0]) ∧ Below w.heap.size w w')
    (m4 : ∀ w, Calls Try.prog 22 #[.int .i64 x, .int .i64 S] w fun en w' => en = .returned (.tuple #[.int .i64 r, .int .i64 0]) ∧ Below w.heap.size w w')
    (m5 : ∀ w, Calls Try.prog 8 #[.int .i64 n, .int .i64 1] w fun en w' => en = .returned (.tuple #[.agg #[.int .i64 n, .int .i64 1], .int .i64 0]) ∧ Below w.heap.size w w')
    (m6 : ∀ w, Calls Try.prog 16 #[.agg #[.int .i64 n, .int .i64 1], .int .i64 S] w fun en w' => en = .returned (.tuple #[.agg #[.int .i64 0, .int .i64 0], .int .i64 5]) ∧ Below w.heap.size w w')
    (m7 : ∀ w, Calls Try.prog 22 #[.int .i64 n, .int .i64 S] w fun en w' => en = .returned (.tuple #[.int .i64 0, .int .i64 5]) ∧ Below w.heap.size w w') :
    Calls Try.prog 7 #[.int .i64 n, .int .i64 d, .int .i64 s] w fun en w' => en = .returned (.bool true) ∧ Below w.heap.size w w' := by
  have M1 := Lib.hid m1; have M2 := Lib.hid m2; have M5 := Lib.hid m5; have M6 := Lib.hid m6; have M7 := Lib.hid m7; have M3 := Lib.hid m3; have M4 := Lib.hid m4
  clear m1 m2 m5 m6 m7 m3 m4
  go_enter Try.func7, Try.ntmps7
  go_wp2_with fail
  refine (M1.out _).mono ?_
  rintro e w1 ⟨rfl, hb⟩
  have HMw1 := Lib.hid ((Mem.start w).call hb)
  clear hb
  go_wp2_with fail
  refine (M2.out _).mono ?_
  rintro e w2 ⟨rfl, hb⟩
  have HMw2 := Lib.hid ((HMw1.out.new w1.heap.size _ _ rfl).call hb)
  clear hb HMw1
  clear h1 h2 h3 h4
  have lr : w1.heap.size < w2.heap.size := HMw2.out.lt 0 rfl
  have cr0 : w2.cell? ⟨w1.heap.size, 0, none⟩ = some (.int .i64 x) := HMw2.out.cell 0 rfl rfl
  have cr1 : w2.cell? ⟨w1.heap.size, 1, none⟩ = some (.int .i64 y) := HMw2.out.cell 0 rfl rfl
  go_wp2_with fail
  refine (M3.out _).mono ?_
  rintro e w3 ⟨rfl, hb⟩
  have HMw3 := Lib.hid ((HMw2.out.new w2.heap.size _ _ rfl).call hb)
  clear hb lr cr0 cr1 HMw2
  have lr : w1.heap.size < w3.heap.size := HMw3.out.lt 1 rfl
  have cr0 : w3.cell? ⟨w1.heap.size, 0, none⟩ = some (.int .i64 x) := HMw3.out.cell 1 rfl rfl
  have cr1 : w3.cell? ⟨w1.heap.size, 1, none⟩ = some (.int .i64 y) := HMw3.out.cell 1 rfl rfl
  go_wp2_with fail
  refine (M4.out _).mono ?_
  rintro e w4 ⟨rfl, hb⟩
  have HMw4 := Lib.hid (HMw3.out.call hb)
  clear hb lr cr0 cr1 HMw3
  have le : w2.heap.size < w4.heap.size := HMw4.out.lt 0 rfl
  have ce0 : w4.cell? ⟨w2.heap.size, 0, none⟩ = some (.int .i64 lo) := HMw4.out.cell 0 rfl rfl
  have ce1 : w4.cell? ⟨w2.heap.size, 1, none⟩ = some (.int .i64 z) := HMw4.out.cell 0 rfl rfl
  go_wp2_with fail
  refine (M5.out _).mono ?_
  rintro e w5 ⟨rfl, hb⟩
  have HMw5 := Lib.hid (HMw4.out.call hb)
  clear hb le ce0 ce1 HMw4
  go_wp2_with fail
  refine (M6.out _).mono ?_
  rintro e w6 ⟨rfl, hb⟩
  have HMw6 := Lib.hid ((HMw5.out.new w5.heap.size _ _ rfl).call hb)
  clear hb HMw5
  go_wp2_with fail
  refine (M7.out _).mono ?_
  rintro e w7 ⟨rfl, hb⟩
  have HMw7 := Lib.hid ((HMw6.out.new w6.heap.size _ _ rfl).call hb)
  clear hb HMw6
  go_wp2_with fail
  refine (alive6 _).mono ?_
  rintro e w8 ⟨rfl, hb⟩
  have HMw8 := Lib.hid (HMw7.out.call hb)
  clear hb HMw7
  have lt : w6.heap.size < w8.heap.size := HMw8.out.lt 0 rfl
  have ct0 : w8.cell? ⟨w6.heap.size, 0, none⟩ = some (.int .i64 0) := HMw8.out.cell 0 rfl rfl
  have ct1 : w8.cell? ⟨w6.heap.size, 1, none⟩ = some (.int .i64 0) := HMw8.out.cell 0 rfl rfl
  go_wp2_with fail
  go_ret
  exact ⟨rfl, HMw8.out.low⟩
set_option maxHeartbeats 2000000 in
theorem renc_u5_ok (n d s q1 q2 q3 S x y lo z r k v : Int) (h1 : s.tmod 1000000000 = q1) (h2 : wrap64 (q1 + 1000000000) = q2) (h3 : q2.tmod 1000000000 = q3) (h4 : wrap64 (1 + q3) = S) (hd : (d == 0) = false) (k1 : decide (z < lo) = false) (k2 : decide (lo < z) = true) (k3 : wrap64 (z - 1) = lo) (w : World)
    (m1 : ∀ w, Calls Try.prog 8 #[.int .i64 n, .int .i64 d] w fun en w' => en = .returned (.tuple #[.agg #[.int .i64 x, .int .i64 y], .int .i64 0]) ∧ Below w.heap.size w w')
    (m2 : ∀ w, Calls Try.prog 16 #[.agg #[.int .i64 x, .int .i64 y], .int .i64 S] w fun en w' => en = .returned (.tuple #[.agg #[.int .i64 lo, .int .i64 z], .int .i64 0]) ∧ Below w.heap.size w w')
    (m3 : ∀ w, Calls Try.prog 22 #[.int .i64 lo, .int .i64 y] w fun en w' => en = .returned (.tuple #[.int .i64 0, .int .i64 5]) ∧ Below w.heap.size w w')
    (m4 : ∀ w, Calls Try.prog 22 #[.int .i64 x, .int .i64 S] w fun en w' => en = .returned (.tuple #[.int .i64 r, .int .i64 k]) ∧ Below w.heap.size w w')
    (m5 : ∀ w, Calls Try.prog 8 #[.int .i64 n, .int .i64 1] w fun en w' => en = .returned (.tuple #[.agg #[.int .i64 n, .int .i64 1], .int .i64 0]) ∧ Below w.heap.size w w')
    (m6 : ∀ w, Calls Try.prog 16 #[.agg #[.int .i64 n, .int .i64 1], .int .i64 S] w fun en w' => en = .returned (.tuple #[.agg #[.int .i64 v, .int .i64 v], .int .i64 0]) ∧ Below w.heap.size w w')
    (m7 : ∀ w, Calls Try.prog 22 #[.int .i64 n, .int .i64 S] w fun en w' => en = .returned (.tuple #[.int .i64 v, .int .i64 0]) ∧ Below w.heap.size w w') :
    Calls Try.prog 7 #[.int .i64 n, .int .i64 d, .int .i64 s] w fun en w' => en = .returned (.bool true) ∧ Below w.heap.size w w' := by
  have M1 := Lib.hid m1; have M2 := Lib.hid m2; have M5 := Lib.hid m5; have M6 := Lib.hid m6; have M7 := Lib.hid m7; have M3 := Lib.hid m3; have M4 := Lib.hid m4
  clear m1 m2 m5 m6 m7 m3 m4
  have hE := eqSpan_same v v
  go_enter Try.func7, Try.ntmps7
  go_wp2_with fail
  refine (M1.out _).mono ?_
  rintro e w1 ⟨rfl, hb⟩
  have HMw1 := Lib.hid ((Mem.start w).call hb)
  clear hb
  go_wp2_with fail
  refine (M2.out _).mono ?_
  rintro e w2 ⟨rfl, hb⟩
  have HMw2 := Lib.hid ((HMw1.out.new w1.heap.size _ _ rfl).call hb)
  clear hb HMw1
  clear h1 h2 h3 h4
  have lr : w1.heap.size < w2.heap.size := HMw2.out.lt 0 rfl
  have cr0 : w2.cell? ⟨w1.heap.size, 0, none⟩ = some (.int .i64 x) := HMw2.out.cell 0 rfl rfl
  have cr1 : w2.cell? ⟨w1.heap.size, 1, none⟩ = some (.int .i64 y) := HMw2.out.cell 0 rfl rfl
  go_wp2_with fail
  refine (M3.out _).mono ?_
  rintro e w3 ⟨rfl, hb⟩
  have HMw3 := Lib.hid ((HMw2.out.new w2.heap.size _ _ rfl).call hb)
  clear hb lr cr0 cr1 HMw2
  have lr : w1.heap.size < w3.heap.size := HMw3.out.lt 1 rfl
  have cr0 : w3.cell? ⟨w1.heap.size, 0, none⟩ = some (.int .i64 x) := HMw3.out.cell 1 rfl rfl
  have cr1 : w3.cell? ⟨w1.heap.size, 1, none⟩ = some (.int .i64 y) := HMw3.out.cell 1 rfl rfl
  go_wp2_with fail
  refine (M4.out _).mono ?_
  rintro e w4 ⟨rfl, hb⟩
  have HMw4 := Lib.hid (HMw3.out.call hb)
  clear hb lr cr0 cr1 HMw3
  have le : w2.heap.size < w4.heap.size := HMw4.out.lt 0 rfl
  have ce0 : w4.cell? ⟨w2.heap.size, 0, none⟩ = some (.int .i64 lo) := HMw4.out.cell 0 rfl rfl
  have ce1 : w4.cell? ⟨w2.heap.size, 1, none⟩ = some (.int .i64 z) := HMw4.out.cell 0 rfl rfl
  go_wp2_with fail
  refine (M5.out _).mono ?_
  rintro e w5 ⟨rfl, hb⟩
  have HMw5 := Lib.hid (HMw4.out.call hb)
  clear hb le ce0 ce1 HMw4
  go_wp2_with fail
  refine (M6.out _).mono ?_
  rintro e w6 ⟨rfl, hb⟩
  have HMw6 := Lib.hid ((HMw5.out.new w5.heap.size _ _ rfl).call hb)
  clear hb HMw5
  go_wp2_with fail
  refine (M7.out _).mono ?_
  rintro e w7 ⟨rfl, hb⟩
  have HMw7 := Lib.hid ((HMw6.out.new w6.heap.size _ _ rfl).call hb)
  clear hb HMw6
  go_wp2_with fail
  refine (alive6 _).mono ?_
  rintro e w8 ⟨rfl, hb⟩
  have HMw8 := Lib.hid (HMw7.out.call hb)
  clear hb HMw7
  have lt : w6.heap.size < w8.heap.size := HMw8.out.lt 0 rfl
  have ct0 : w8.cell? ⟨w6.heap.size, 0, none⟩ = some (.int .i64 v) := HMw8.out.cell 0 rfl rfl
  have ct1 : w8.cell? ⟨w6.heap.size, 1, none⟩ = some (.int .i64 v) := HMw8.out.cell 0 rfl rfl
  go_wp2_with fail
  go_ret
  exact ⟨rfl, HMw8.out.low⟩
set_option maxHeartbeats 2000000 in
theorem renc_u5_over (n d s q1 q2 q3 S x y lo z r k : Int) (h1 : s.tmod 1000000000 = q1) (h2 : wrap64 (q1 + 1000000000) = q2) (h3 : q2.tmod 1000000000 = q3) (h4 : wrap64 (1 + q3) = S) (hd : (d == 0) = false) (k1 : decide (z < lo) = false) (k2 : decide (lo < z) = true) (k3 : wrap64 (z - 1) = lo) (w : World)
    (m1 : ∀ w, Calls Try.prog 8 #[.int .i64 n, .int .i64 d] w fun en w' => en = .returned (.tuple #[.agg #[.int .i64 x, .int .i64 y], .int .i64 0]) ∧ Below w.heap.size w w')
    (m2 : ∀ w, Calls Try.prog 16 #[.agg #[.int .i64 x, .int .i64 y], .int .i64 S] w fun en w' => en = .returned (.tuple #[.agg #[.int .i64 lo, .int .i64 z], .int .i64 0]) ∧ Below w.heap.size w w')
    (m3 : ∀ w, Calls Try.prog 22 #[.int .i64 lo, .int .i64 y] w fun en w' => en = .returned (.tuple #[.int .i64 0, .int .i64 5]) ∧ Below w.heap.size w w')
    (m4 : ∀ w, Calls Try.prog 22 #[.int .i64 x, .int .i64 S] w fun en w' => en = .returned (.tuple #[.int .i64 r, .int .i64 k]) ∧ Below w.heap.size w w')
    (m5 : ∀ w, Calls Try.prog 8 #[.int .i64 n, .int .i64 1] w fun en w' => en = .returned (.tuple #[.agg #[.int .i64 n, .int .i64 1], .int .i64 0]) ∧ Below w.heap.size w w')
    (m6 : ∀ w, Calls Try.prog 16 #[.agg #[.int .i64 n, .int .i64 1], .int .i64 S] w fun en w' => en = .returned (.tuple #[.agg #[.int .i64 0, .int .i64 0], .int .i64 5]) ∧ Below w.heap.size w w')
    (m7 : ∀ w, Calls Try.prog 22 #[.int .i64 n, .int .i64 S] w fun en w' => en = .returned (.tuple #[.int .i64 0, .int .i64 5]) ∧ Below w.heap.size w w') :
    Calls Try.prog 7 #[.int .i64 n, .int .i64 d, .int .i64 s] w fun en w' => en = .returned (.bool true) ∧ Below w.heap.size w w' := by
  have M1 := Lib.hid m1; have M2 := Lib.hid m2; have M5 := Lib.hid m5; have M6 := Lib.hid m6; have M7 := Lib.hid m7; have M3 := Lib.hid m3; have M4 := Lib.hid m4
  clear m1 m2 m5 m6 m7 m3 m4
  go_enter Try.func7, Try.ntmps7
  go_wp2_with fail
  refine (M1.out _).mono ?_
  rintro e w1 ⟨rfl, hb⟩
  have HMw1 := Lib.hid ((Mem.start w).call hb)
  clear hb
  go_wp2_with fail
  refine (M2.out _).mono ?_
  rintro e w2 ⟨rfl, hb⟩
  have HMw2 := Lib.hid ((HMw1.out.new w1.heap.size _ _ rfl).call hb)
  clear hb HMw1
  clear h1 h2 h3 h4
  have lr : w1.heap.size < w2.heap.size := HMw2.out.lt 0 rfl
  have cr0 : w2.cell? ⟨w1.heap.size, 0, none⟩ = some (.int .i64 x) := HMw2.out.cell 0 rfl rfl
  have cr1 : w2.cell? ⟨w1.heap.size, 1, none⟩ = some (.int .i64 y) := HMw2.out.cell 0 rfl rfl
  go_wp2_with fail
  refine (M3.out _).mono ?_
  rintro e w3 ⟨rfl, hb⟩
  have HMw3 := Lib.hid ((HMw2.out.new w2.heap.size _ _ rfl).call hb)
  clear hb lr cr0 cr1 HMw2
  have lr : w1.heap.size < w3.heap.size := HMw3.out.lt 1 rfl
  have cr0 : w3.cell? ⟨w1.heap.size, 0, none⟩ = some (.int .i64 x) := HMw3.out.cell 1 rfl rfl
  have cr1 : w3.cell? ⟨w1.heap.size, 1, none⟩ = some (.int .i64 y) := HMw3.out.cell 1 rfl rfl
  go_wp2_with fail
  refine (M4.out _).mono ?_
  rintro e w4 ⟨rfl, hb⟩
  have HMw4 := Lib.hid (HMw3.out.call hb)
  clear hb lr cr0 cr1 HMw3
  have le : w2.heap.size < w4.heap.size := HMw4.out.lt 0 rfl
  have ce0 : w4.cell? ⟨w2.heap.size, 0, none⟩ = some (.int .i64 lo) := HMw4.out.cell 0 rfl rfl
  have ce1 : w4.cell? ⟨w2.heap.size, 1, none⟩ = some (.int .i64 z) := HMw4.out.cell 0 rfl rfl
  go_wp2_with fail
  refine (M5.out _).mono ?_
  rintro e w5 ⟨rfl, hb⟩
  have HMw5 := Lib.hid (HMw4.out.call hb)
  clear hb le ce0 ce1 HMw4
  go_wp2_with fail
  refine (M6.out _).mono ?_
  rintro e w6 ⟨rfl, hb⟩
  have HMw6 := Lib.hid ((HMw5.out.new w5.heap.size _ _ rfl).call hb)
  clear hb HMw5
  go_wp2_with fail
  refine (M7.out _).mono ?_
  rintro e w7 ⟨rfl, hb⟩
  have HMw7 := Lib.hid ((HMw6.out.new w6.heap.size _ _ rfl).call hb)
  clear hb HMw6
  go_wp2_with fail
  refine (alive6 _).mono ?_
  rintro e w8 ⟨rfl, hb⟩
  have HMw8 := Lib.hid (HMw7.out.call hb)
  clear hb HMw7
  have lt : w6.heap.size < w8.heap.size := HMw8.out.lt 0 rfl
  have ct0 : w8.cell? ⟨w6.heap.size, 0, none⟩ = some (.int .i64 0) := HMw8.out.cell 0 rfl rfl
  have ct1 : w8.cell? ⟨w6.heap.size, 1, none⟩ = some (.int .i64 0) := HMw8.out.cell 0 rfl rfl
  go_wp2_with fail
  go_ret
  exact ⟨rfl, HMw8.out.low⟩
set_option maxHeartbeats 2000000 in
theorem renc_u05_ok (n d s q1 q2 q3 S x y lo z p v : Int) (h1 : s.tmod 1000000000 = q1) (h2 : wrap64 (q1 + 1000000000) = q2) (h3 : q2.tmod 1000000000 = q3) (h4 : wrap64 (1 + q3) = S) (hd : (d == 0) = false) (k1 : decide (z < lo) = false) (k2 : decide (lo < z) = true) (k3 : wrap64 (z - 1) = lo) (w : World)
    (m1 : ∀ w, Calls Try.prog 8 #[.int .i64 n, .int .i64 d] w fun en w' => en = .returned (.tuple #[.agg #[.int .i64 x, .int .i64 y], .int .i64 0]) ∧ Below w.heap.size w w')
    (m2 : ∀ w, Calls Try.prog 16 #[.agg #[.int .i64 x, .int .i64 y], .int .i64 S] w fun en w' => en = .returned (.tuple #[.agg #[.int .i64 lo, .int .i64 z], .int .i64 0]) ∧ Below w.heap.size w w')
    (m3 : ∀ w, Calls Try.prog 22 #[.int .i64 lo, .int .i64 y] w fun en w' => en = .returned (.tuple #[.int .i64 p, .int .i64 0]) ∧ Below w.heap.size w w')
    (m4 : ∀ w, Calls Try.prog 22 #[.int .i64 x, .int .i64 S] w fun en w' => en = .returned (.tuple #[.int .i64 0, .int .i64 5]) ∧ Below w.heap.size w w')
    (m5 : ∀ w, Calls Try.prog 8 #[.int .i64 n, .int .i64 1] w fun en w' => en = .returned (.tuple #[.agg #[.int .i64 n, .int .i64 1], .int .i64 0]) ∧ Below w.heap.size w w')
    (m6 : ∀ w, Calls Try.prog 16 #[.agg #[.int .i64 n, .int .i64 1], .int .i64 S] w fun en w' => en = .returned (.tuple #[.agg #[.int .i64 v, .int .i64 v], .int .i64 0]) ∧ Below w.heap.size w w')
    (m7 : ∀ w, Calls Try.prog 22 #[.int .i64 n, .int .i64 S] w fun en w' => en = .returned (.tuple #[.int .i64 v, .int .i64 0]) ∧ Below w.heap.size w w') :
    Calls Try.prog 7 #[.int .i64 n, .int .i64 d, .int .i64 s] w fun en w' => en = .returned (.bool true) ∧ Below w.heap.size w w' := by
  have M1 := Lib.hid m1; have M2 := Lib.hid m2; have M5 := Lib.hid m5; have M6 := Lib.hid m6; have M7 := Lib.hid m7; have M3 := Lib.hid m3; have M4 := Lib.hid m4
  clear m1 m2 m5 m6 m7 m3 m4
  have hE := eqSpan_same v v
  go_enter Try.func7, Try.ntmps7
  go_wp2_with fail
  refine (M1.out _).mono ?_
  rintro e w1 ⟨rfl, hb⟩
  have HMw1 := Lib.hid ((Mem.start w).call hb)
  clear hb
  go_wp2_with fail
  refine (M2.out _).mono ?_
  rintro e w2 ⟨rfl, hb⟩
  have HMw2 := Lib.hid ((HMw1.out.new w1.heap.size _ _ rfl).call hb)
  clear hb HMw1
  clear h1 h2 h3 h4
  have lr : w1.heap.size < w2.heap.size := HMw2.out.lt 0 rfl
  have cr0 : w2.cell? ⟨w1.heap.size, 0, none⟩ = some (.int .i64 x) := HMw2.out.cell 0 rfl rfl
  have cr1 : w2.cell? ⟨w1.heap.size, 1, none⟩ = some (.int .i64 y) := HMw2.out.cell 0 rfl rfl
  go_wp2_with fail
  refine (M3.out _).mono ?_
  rintro e w3 ⟨rfl, hb⟩
  have HMw3 := Lib.hid ((HMw2.out.new w2.heap.size _ _ rfl).call hb)
  clear hb lr cr0 cr1 HMw2
  have lr : w1.heap.size < w3.heap.size := HMw3.out.lt 1 rfl
  have cr0 : w3.cell? ⟨w1.heap.size, 0, none⟩ = some (.int .i64 x) := HMw3.out.cell 1 rfl rfl
  have cr1 : w3.cell? ⟨w1.heap.size, 1, none⟩ = some (.int .i64 y) := HMw3.out.cell 1 rfl rfl
  go_wp2_with fail
  refine (M4.out _).mono ?_
  rintro e w4 ⟨rfl, hb⟩
  have HMw4 := Lib.hid (HMw3.out.call hb)
  clear hb lr cr0 cr1 HMw3
  have le : w2.heap.size < w4.heap.size := HMw4.out.lt 0 rfl
  have ce0 : w4.cell? ⟨w2.heap.size, 0, none⟩ = some (.int .i64 lo) := HMw4.out.cell 0 rfl rfl
  have ce1 : w4.cell? ⟨w2.heap.size, 1, none⟩ = some (.int .i64 z) := HMw4.out.cell 0 rfl rfl
  go_wp2_with fail
  refine (M5.out _).mono ?_
  rintro e w5 ⟨rfl, hb⟩
  have HMw5 := Lib.hid (HMw4.out.call hb)
  clear hb le ce0 ce1 HMw4
  go_wp2_with fail
  refine (M6.out _).mono ?_
  rintro e w6 ⟨rfl, hb⟩
  have HMw6 := Lib.hid ((HMw5.out.new w5.heap.size _ _ rfl).call hb)
  clear hb HMw5
  go_wp2_with fail
  refine (M7.out _).mono ?_
  rintro e w7 ⟨rfl, hb⟩
  have HMw7 := Lib.hid ((HMw6.out.new w6.heap.size _ _ rfl).call hb)
  clear hb HMw6
  go_wp2_with fail
  refine (alive6 _).mono ?_
  rintro e w8 ⟨rfl, hb⟩
  have HMw8 := Lib.hid (HMw7.out.call hb)
  clear hb HMw7
  have lt : w6.heap.size < w8.heap.size := HMw8.out.lt 0 rfl
  have ct0 : w8.cell? ⟨w6.heap.size, 0, none⟩ = some (.int .i64 v) := HMw8.out.cell 0 rfl rfl
  have ct1 : w8.cell? ⟨w6.heap.size, 1, none⟩ = some (.int .i64 v) := HMw8.out.cell 0 rfl rfl
  go_wp2_with fail
  go_ret
  exact ⟨rfl, HMw8.out.low⟩
set_option maxHeartbeats 2000000 in
theorem renc_u05_over (n d s q1 q2 q3 S x y lo z p : Int) (h1 : s.tmod 1000000000 = q1) (h2 : wrap64 (q1 + 1000000000) = q2) (h3 : q2.tmod 1000000000 = q3) (h4 : wrap64 (1 + q3) = S) (hd : (d == 0) = false) (k1 : decide (z < lo) = false) (k2 : decide (lo < z) = true) (k3 : wrap64 (z - 1) = lo) (w : World)
    (m1 : ∀ w, Calls Try.prog 8 #[.int .i64 n, .int .i64 d] w fun en w' => en = .returned (.tuple #[.agg #[.int .i64 x, .int .i64 y], .int .i64 0]) ∧ Below w.heap.size w w')
    (m2 : ∀ w, Calls Try.prog 16 #[.agg #[.int .i64 x, .int .i64 y], .int .i64 S] w fun en w' => en = .returned (.tuple #[.agg #[.int .i64 lo, .int .i64 z], .int .i64 0]) ∧ Below w.heap.size w w')
    (m3 : ∀ w, Calls Try.prog 22 #[.int .i64 lo, .int .i64 y] w fun en w' => en = .returned (.tuple #[.int .i64 p, .int .i64 0]) ∧ Below w.heap.size w w')
    (m4 : ∀ w, Calls Try.prog 22 #[.int .i64 x, .int .i64 S] w fun en w' => en = .returned (.tuple #[.int .i64 0, .int .i64 5]) ∧ Below w.heap.size w w')
    (m5 : ∀ w, Calls Try.prog 8 #[.int .i64 n, .int .i64 1] w fun en w' => en = .returned (.tuple #[.agg #[.int .i64 n, .int .i64 1], .int .i64 0]) ∧ Below w.heap.size w w')
    (m6 : ∀ w, Calls Try.prog 16 #[.agg #[.int .i64 n, .int .i64 1], .int .i64 S] w fun en w' => en = .returned (.tuple #[.agg #[.int .i64 0, .int .i64 0], .int .i64 5]) ∧ Below w.heap.size w w')
    (m7 : ∀ w, Calls Try.prog 22 #[.int .i64 n, .int .i64 S] w fun en w' => en = .returned (.tuple #[.int .i64 0, .int .i64 5]) ∧ Below w.heap.size w w') :
    Calls Try.prog 7 #[.int .i64 n, .int .i64 d, .int .i64 s] w fun en w' => en = .returned (.bool true) ∧ Below w.heap.size w w' := by
  have M1 := Lib.hid m1; have M2 := Lib.hid m2; have M5 := Lib.hid m5; have M6 := Lib.hid m6; have M7 := Lib.hid m7; have M3 := Lib.hid m3; have M4 := Lib.hid m4
  clear m1 m2 m5 m6 m7 m3 m4
  go_enter Try.func7, Try.ntmps7
  go_wp2_with fail
  refine (M1.out _).mono ?_
  rintro e w1 ⟨rfl, hb⟩
  have HMw1 := Lib.hid ((Mem.start w).call hb)
  clear hb
  go_wp2_with fail
  refine (M2.out _).mono ?_
  rintro e w2 ⟨rfl, hb⟩
  have HMw2 := Lib.hid ((HMw1.out.new w1.heap.size _ _ rfl).call hb)
  clear hb HMw1
  clear h1 h2 h3 h4
  have lr : w1.heap.size < w2.heap.size := HMw2.out.lt 0 rfl
  have cr0 : w2.cell? ⟨w1.heap.size, 0, none⟩ = some (.int .i64 x) := HMw2.out.cell 0 rfl rfl
  have cr1 : w2.cell? ⟨w1.heap.size, 1, none⟩ = some (.int .i64 y) := HMw2.out.cell 0 rfl rfl
  go_wp2_with fail
  refine (M3.out _).mono ?_
  rintro e w3 ⟨rfl, hb⟩
  have HMw3 := Lib.hid ((HMw2.out.new w2.heap.size _ _ rfl).call hb)
  clear hb lr cr0 cr1 HMw2
  have lr : w1.heap.size < w3.heap.size := HMw3.out.lt 1 rfl
  have cr0 : w3.cell? ⟨w1.heap.size, 0, none⟩ = some (.int .i64 x) := HMw3.out.cell 1 rfl rfl
  have cr1 : w3.cell? ⟨w1.heap.size, 1, none⟩ = some (.int .i64 y) := HMw3.out.cell 1 rfl rfl
  go_wp2_with fail
  refine (M4.out _).mono ?_
  rintro e w4 ⟨rfl, hb⟩
  have HMw4 := Lib.hid (HMw3.out.call hb)
  clear hb lr cr0 cr1 HMw3
  have le : w2.heap.size < w4.heap.size := HMw4.out.lt 0 rfl
  have ce0 : w4.cell? ⟨w2.heap.size, 0, none⟩ = some (.int .i64 lo) := HMw4.out.cell 0 rfl rfl
  have ce1 : w4.cell? ⟨w2.heap.size, 1, none⟩ = some (.int .i64 z) := HMw4.out.cell 0 rfl rfl
  go_wp2_with fail
  refine (M5.out _).mono ?_
  rintro e w5 ⟨rfl, hb⟩
  have HMw5 := Lib.hid (HMw4.out.call hb)
  clear hb le ce0 ce1 HMw4
  go_wp2_with fail
  refine (M6.out _).mono ?_
  rintro e w6 ⟨rfl, hb⟩
  have HMw6 := Lib.hid ((HMw5.out.new w5.heap.size _ _ rfl).call hb)
  clear hb HMw5
  go_wp2_with fail
  refine (M7.out _).mono ?_
  rintro e w7 ⟨rfl, hb⟩
  have HMw7 := Lib.hid ((HMw6.out.new w6.heap.size _ _ rfl).call hb)
  clear hb HMw6
  go_wp2_with fail
  refine (alive6 _).mono ?_
  rintro e w8 ⟨rfl, hb⟩
  have HMw8 := Lib.hid (HMw7.out.call hb)
  clear hb HMw7
  have lt : w6.heap.size < w8.heap.size := HMw8.out.lt 0 rfl
  have ct0 : w8.cell? ⟨w6.heap.size, 0, none⟩ = some (.int .i64 0) := HMw8.out.cell 0 rfl rfl
  have ct1 : w8.cell? ⟨w6.heap.size, 1, none⟩ = some (.int .i64 0) := HMw8.out.cell 0 rfl rfl
  go_wp2_with fail
  go_ret
  exact ⟨rfl, HMw8.out.low⟩
theorem low_one (n : Int) : lowN n 1 = n ∧ lowD n 1 = 1 := by
  unfold lowN lowD
  rw [show Nat.gcd n.natAbs (Int.natAbs 1) = 1 from Nat.gcd_one_right _, Nat.div_one, show decide ((1 : Int) < 0) = false from rfl]
  refine ⟨?_, rfl⟩
  have := sgn_abs n
  rw [show (decide (n < 0) != false) = decide (n < 0) by simp]
  exact this
theorem fits_one {n : Int} (hn : IsInt n) : Fits n 1 := by
  have h := low_one n
  exact ⟨by decide, by rw [h.1]; exact hn, by rw [h.2]; decide⟩
theorem low_by_one (n : Int) : Low n 1 := ⟨by decide, Nat.gcd_one_right _⟩
theorem md_one (n S : Int) : md n S 1 0 = n * S ∧ md n S 1 1 = n * S := by
  have h0 : mdR n S 1 = 0 := by unfold mdR; exact Nat.mod_one _
  have h1 := (md_exact n S 1).1 h0
  have h2 := md_down_up n S 1
  rw [if_pos h0] at h2
  rw [h2]
  omega
/-- The scale, brought to 1 and above. -/
theorem scale_nums (s : Int) : ∃ q1 q2 q3 S : Int, s.tmod 1000000000 = q1 ∧ wrap64 (q1 + 1000000000) = q2 ∧ q2.tmod 1000000000 = q3 ∧ wrap64 (1 + q3) = S ∧ IsInt S ∧ ¬ S < 1 := by
  have a1 : s.tmod 1000000000 < 1000000000 := by have := Int.tmod_lt_of_pos s (by decide : (0 : Int) < 1000000000); omega
  have a2 : -1000000000 < s.tmod 1000000000 := by have := Int.lt_tmod_of_pos s (by decide : (0 : Int) < 1000000000); omega
  refine ⟨_, _, _, 1 + (s.tmod 1000000000 + 1000000000).tmod 1000000000, rfl, IntWalk.wrap64_in _ ⟨by omega, by omega⟩, rfl, ?_⟩
  have b1 := Int.tmod_lt_of_pos (s.tmod 1000000000 + 1000000000) (by decide : (0 : Int) < 1000000000)
  have b2 : 0 ≤ (s.tmod 1000000000 + 1000000000).tmod 1000000000 := Int.tmod_nonneg _ (by omega)
  refine ⟨IntWalk.wrap64_in _ ⟨by omega, by omega⟩, ?_, by omega⟩
  unfold IsInt
  omega
theorem rencloses_walk (n d s : Int) (hn : IsInt n) (hd : IsInt d) (_hs : IsInt s) (w : World) :
    Calls Try.prog 7 #[.int .i64 n, .int .i64 d, .int .i64 s] w fun en w' => en = .returned (.bool true) ∧ Below w.heap.size w w' := by
  by_cases h0 : d = 0
  · exact renc_zero n d s (by simpa using h0) w
  have hd0 : (d == 0) = false := by simpa using h0
  have m1 := new_any n d hn hd
  by_cases f : Fits n d
  · rw [raN_ok f, raD_ok f, raE_ok f] at m1
    obtain ⟨q1, q2, q3, S, h1, h2, h3, h4, iS, hS⟩ := scale_nums s
    have L := lowND_low n d h0
    have m2 := enclose_any (lowN n d) (lowD n d) S f.2.1 f.2.2 iS L hS
    have m5 := new_any n 1 hn (by decide)
    have f1 := fits_one hn
    rw [raN_ok f1, raD_ok f1, raE_ok f1, (low_one n).1, (low_one n).2] at m5
    have m6 := enclose_any n 1 S hn (by decide) iS (low_by_one n) hS
    rw [(md_one n S).1, (md_one n S).2] at m6
    have m7 := fmul_any n S hn iS
    by_cases g : IsInt (n * S)
    · have gg : IsInt (n * S) ∧ IsInt (n * S) := ⟨g, g⟩
      rw [rLo_ok gg, rHi_ok gg, rErr_ok gg] at m6
      rw [ans_ok g, err_ok g] at m7
      by_cases i : IsInt (md (lowN n d) S (lowD n d) 0) ∧ IsInt (md (lowN n d) S (lowD n d) 1)
      · rw [rLo_ok i, rHi_ok i, rErr_ok i] at m2
        have m3 := fmul_any (md (lowN n d) S (lowD n d) 0) (lowD n d) i.1 f.2.2
        have m4 := fmul_any (lowN n d) S f.2.1 iS
        have du := md_down_up (lowN n d) S (lowD n d)
        have ex := md_exact (lowN n d) S (lowD n d)
        by_cases z : mdR (lowN n d) S (lowD n d) = 0
        · rw [if_pos z] at du
          have ex := ex.1 z
          rw [du] at m2
          by_cases j : IsInt (md (lowN n d) S (lowD n d) 0 * lowD n d)
          · rw [ans_ok j, err_ok j] at m3
            rw [ex, ans_ok j, err_ok j] at m4
            exact renc_s00_ok n d s _ _ _ S _ _ _ _ _ h1 h2 h3 h4 hd0 w m1 m2 m3 m4 m5 m6 m7
          · rw [ans_no j, err_no j] at m3
            exact renc_s5_ok n d s _ _ _ S _ _ _ _ _ _ h1 h2 h3 h4 hd0 w m1 m2 m3 m4 m5 m6 m7
        · rw [if_neg z] at du
          have ne : ¬ (lowN n d * S = md (lowN n d) S (lowD n d) 0 * lowD n d) := fun k => z (ex.2 k)
          rw [du] at m2 i
          have k1 : decide (md (lowN n d) S (lowD n d) 0 + 1 < md (lowN n d) S (lowD n d) 0) = false := decide_eq_false (by omega)
          have k2 : decide (md (lowN n d) S (lowD n d) 0 < md (lowN n d) S (lowD n d) 0 + 1) = true := decide_eq_true (by omega)
          have k3 : wrap64 (md (lowN n d) S (lowD n d) 0 + 1 - 1) = md (lowN n d) S (lowD n d) 0 := by
            rw [IntWalk.wrap64_in _ (by have := i.1; unfold IsInt at this; omega)]; omega
          have k4 : (md (lowN n d) S (lowD n d) 0 == md (lowN n d) S (lowD n d) 0 + 1) = false := by
            have : md (lowN n d) S (lowD n d) 0 ≠ md (lowN n d) S (lowD n d) 0 + 1 := by omega
            simpa using this
          by_cases j : IsInt (md (lowN n d) S (lowD n d) 0 * lowD n d)
          · rw [ans_ok j, err_ok j] at m3
            by_cases l : IsInt (lowN n d * S)
            · rw [ans_ok l, err_ok l] at m4
              have k5 : (md (lowN n d) S (lowD n d) 0 * lowD n d == lowN n d * S) = false := by simpa using fun k => ne (Eq.symm k)
              exact renc_u00_ok n d s _ _ _ S _ _ _ _ _ _ _ h1 h2 h3 h4 hd0 k1 k2 k3 k4 k5 w m1 m2 m3 m4 m5 m6 m7
            · rw [ans_no l, err_no l] at m4
              exact renc_u05_ok n d s _ _ _ S _ _ _ _ _ _ h1 h2 h3 h4 hd0 k1 k2 k3 w m1 m2 m3 m4 m5 m6 m7
          · rw [ans_no j, err_no j] at m3
            exact renc_u5_ok n d s _ _ _ S _ _ _ _ _ _ _ h1 h2 h3 h4 hd0 k1 k2 k3 w m1 m2 m3 m4 m5 m6 m7
      · rw [rLo_no i, rHi_no i, rErr_no i] at m2
        exact renc_none_ok n d s _ _ _ S _ _ _ h1 h2 h3 h4 hd0 w m1 m2 m5 m6 m7
    · have gg : ¬ (IsInt (n * S) ∧ IsInt (n * S)) := fun k => g k.1
      rw [rLo_no gg, rHi_no gg, rErr_no gg] at m6
      rw [ans_no g, err_no g] at m7
      by_cases i : IsInt (md (lowN n d) S (lowD n d) 0) ∧ IsInt (md (lowN n d) S (lowD n d) 1)
      · rw [rLo_ok i, rHi_ok i, rErr_ok i] at m2
        have m3 := fmul_any (md (lowN n d) S (lowD n d) 0) (lowD n d) i.1 f.2.2
        have m4 := fmul_any (lowN n d) S f.2.1 iS
        have du := md_down_up (lowN n d) S (lowD n d)
        have ex := md_exact (lowN n d) S (lowD n d)
        by_cases z : mdR (lowN n d) S (lowD n d) = 0
        · rw [if_pos z] at du
          have ex := ex.1 z
          rw [du] at m2
          by_cases j : IsInt (md (lowN n d) S (lowD n d) 0 * lowD n d)
          · rw [ans_ok j, err_ok j] at m3
            rw [ex, ans_ok j, err_ok j] at m4
            exact renc_s00_over n d s _ _ _ S _ _ _ _ h1 h2 h3 h4 hd0 w m1 m2 m3 m4 m5 m6 m7
          · rw [ans_no j, err_no j] at m3
            exact renc_s5_over n d s _ _ _ S _ _ _ _ _ h1 h2 h3 h4 hd0 w m1 m2 m3 m4 m5 m6 m7
        · rw [if_neg z] at du
          have ne : ¬ (lowN n d * S = md (lowN n d) S (lowD n d) 0 * lowD n d) := fun k => z (ex.2 k)
          rw [du] at m2 i
          have k1 : decide (md (lowN n d) S (lowD n d) 0 + 1 < md (lowN n d) S (lowD n d) 0) = false := decide_eq_false (by omega)
          have k2 : decide (md (lowN n d) S (lowD n d) 0 < md (lowN n d) S (lowD n d) 0 + 1) = true := decide_eq_true (by omega)
          have k3 : wrap64 (md (lowN n d) S (lowD n d) 0 + 1 - 1) = md (lowN n d) S (lowD n d) 0 := by
            rw [IntWalk.wrap64_in _ (by have := i.1; unfold IsInt at this; omega)]; omega
          have k4 : (md (lowN n d) S (lowD n d) 0 == md (lowN n d) S (lowD n d) 0 + 1) = false := by
            have : md (lowN n d) S (lowD n d) 0 ≠ md (lowN n d) S (lowD n d) 0 + 1 := by omega
            simpa using this
          by_cases j : IsInt (md (lowN n d) S (lowD n d) 0 * lowD n d)
          · rw [ans_ok j, err_ok j] at m3
            by_cases l : IsInt (lowN n d * S)
            · rw [ans_ok l, err_ok l] at m4
              have k5 : (md (lowN n d) S (lowD n d) 0 * lowD n d == lowN n d * S) = false := by simpa using fun k => ne (Eq.symm k)
              exact renc_u00_over n d s _ _ _ S _ _ _ _ _ _ h1 h2 h3 h4 hd0 k1 k2 k3 k4 k5 w m1 m2 m3 m4 m5 m6 m7
            · rw [ans_no l, err_no l] at m4
              exact renc_u05_over n d s _ _ _ S _ _ _ _ _ h1 h2 h3 h4 hd0 k1 k2 k3 w m1 m2 m3 m4 m5 m6 m7
          · rw [ans_no j, err_no j] at m3
            exact renc_u5_over n d s _ _ _ S _ _ _ _ _ _ h1 h2 h3 h4 hd0 k1 k2 k3 w m1 m2 m3 m4 m5 m6 m7
      · rw [rLo_no i, rHi_no i, rErr_no i] at m2
        exact renc_none_over n d s _ _ _ S _ _ h1 h2 h3 h4 hd0 w m1 m2 m5 m6 m7
  · rw [raN_no f, raD_no f, raE_no h0 f] at m1
    exact renc_over n d s hd0 w m1
end Go.Proofs.Ytjnebbjjabnipaa
