/- The law RatioOrder, walked: Cmp is an order, kept by what is added to both; nothing that was in memory before is changed. -/
import Derived.Test.YtjnebbjjabnipaaRatioMade
import Derived.Test.YtjnebbjjabnipaaRatioLow
namespace Go.Proofs.Ytjnebbjjabnipaa
open Go.RowKit

theorem dd_int {d : Int} (h : IsInt d) : IsInt (ddOf d) := by unfold ddOf; split; decide; exact h
theorem rorder_no (l0 l1 l2 l3 l4 l5 : Int) (w : World)
    (m0 : ∀ w, Calls Try.prog 21 #[.agg #[.int .i64 l0, .int .i64 l1, .int .i64 l2, .int .i64 l3, .int .i64 l4, .int .i64 l5]] w fun en w' => (∃ a0 a1 a2 a3 a4 a5 : Int, en = .returned (.tuple #[.agg #[.int .i64 a0, .int .i64 a1, .int .i64 a2, .int .i64 a3, .int .i64 a4, .int .i64 a5], .bool false])) ∧ Below w.heap.size w w') :
    Calls Try.prog 5 #[.agg #[.int .i64 l0, .int .i64 l1, .int .i64 l2, .int .i64 l3, .int .i64 l4, .int .i64 l5]] w fun en w' => en = .returned (.bool true) ∧ Below w.heap.size w w' := by
  have M0 := Lib.hid m0
  clear m0
  go_enter Try.func5, Try.ntmps5
  go_wp2_with fail
  refine (M0.out _).mono ?_
  rintro e w1 ⟨⟨a0, a1, a2, a3, a4, a5, rfl⟩, hb⟩
  have HMw1 := Lib.hid (((Mem.start w).new w.heap.size _ _ rfl).call hb)
  clear hb
  go_wp2_with fail
  refine (alive6 _).mono ?_
  rintro e w2 ⟨rfl, hb⟩
  have HMw2 := Lib.hid ((HMw1.out.new w1.heap.size _ _ rfl).call hb)
  clear hb HMw1
  go_wp2_with fail
  go_ret
  exact ⟨rfl, HMw2.out.low⟩
set_option maxRecDepth 100000 in
set_option maxHeartbeats 4000000 in
theorem rorder_over1 (l0 l1 l2 l3 l4 l5 x0 y0 x1 y1 x2 y2 : Int) (p q r s u1 u2 f1 v1 v2 f2 : Int) (D : Bool) (w : World) (hneg : wrap64 (-q) = p) (hD : (p == 0) = D) (hE : ∀ w, (Op.equalIn 10000 23 (.agg #[.int .i64 x0, .int .i64 y0]) (.agg #[.int .i64 x1, .int .i64 y1])).run Try.prog w = .ok D w)
    (hT : (p = -1 ∨ p = 0 ∨ p = 1) ∧ (r = -1 ∨ r = 0 ∨ r = 1) ∧ (p = r → s = p) ∧ (p = 0 → s = r) ∧ (r = 0 → s = p)) (hf1 : f1 ≠ 0)
    (m0 : ∀ w, Calls Try.prog 21 #[.agg #[.int .i64 l0, .int .i64 l1, .int .i64 l2, .int .i64 l3, .int .i64 l4, .int .i64 l5]] w fun en w' => en = .returned (.tuple #[.agg #[.int .i64 x0, .int .i64 y0, .int .i64 x1, .int .i64 y1, .int .i64 x2, .int .i64 y2], .bool true]) ∧ Below w.heap.size w w')
    (m1 : ∀ w, Calls Try.prog 13 #[.agg #[.int .i64 x0, .int .i64 y0], .agg #[.int .i64 x1, .int .i64 y1]] w fun en w' => en = .returned (.tuple #[.int .i64 p, .int .i64 0]) ∧ Below w.heap.size w w')
    (m2 : ∀ w, Calls Try.prog 13 #[.agg #[.int .i64 x1, .int .i64 y1], .agg #[.int .i64 x0, .int .i64 y0]] w fun en w' => en = .returned (.tuple #[.int .i64 q, .int .i64 0]) ∧ Below w.heap.size w w')
    (m3 : ∀ w, Calls Try.prog 13 #[.agg #[.int .i64 x1, .int .i64 y1], .agg #[.int .i64 x2, .int .i64 y2]] w fun en w' => en = .returned (.tuple #[.int .i64 r, .int .i64 0]) ∧ Below w.heap.size w w')
    (m4 : ∀ w, Calls Try.prog 13 #[.agg #[.int .i64 x0, .int .i64 y0], .agg #[.int .i64 x2, .int .i64 y2]] w fun en w' => en = .returned (.tuple #[.int .i64 s, .int .i64 0]) ∧ Below w.heap.size w w')
    (m5 : ∀ w, Calls Try.prog 14 #[.agg #[.int .i64 x0, .int .i64 y0], .agg #[.int .i64 x2, .int .i64 y2]] w fun en w' => en = .returned (.tuple #[.agg #[.int .i64 u1, .int .i64 u2], .int .i64 f1]) ∧ Below w.heap.size w w')
    (m6 : ∀ w, Calls Try.prog 14 #[.agg #[.int .i64 x1, .int .i64 y1], .agg #[.int .i64 x2, .int .i64 y2]] w fun en w' => en = .returned (.tuple #[.agg #[.int .i64 v1, .int .i64 v2], .int .i64 f2]) ∧ Below w.heap.size w w') :
    Calls Try.prog 5 #[.agg #[.int .i64 l0, .int .i64 l1, .int .i64 l2, .int .i64 l3, .int .i64 l4, .int .i64 l5]] w fun en w' => en = .returned (.bool true) ∧ Below w.heap.size w w' := by
  have M0 := Lib.hid m0; have M1 := Lib.hid m1; have M2 := Lib.hid m2; have M3 := Lib.hid m3; have M4 := Lib.hid m4; have M5 := Lib.hid m5; have M6 := Lib.hid m6
  clear m0 m1 m2 m3 m4 m5 m6
  have hqf1 : (f1 == 0) = false := by simpa using hf1
  have hpf1 : (f1 != 0) = true := by simpa using hf1
  have HT := Lib.hid hT; clear hT
  go_enter Try.func5, Try.ntmps5
  go_wp2_with fail
  refine (M0.out _).mono ?_
  rintro e w1 ⟨rfl, hb⟩
  have HMw1 := Lib.hid (((Mem.start w).new w.heap.size _ _ rfl).call hb)
  clear hb
  go_wp2_with fail
  refine (M1.out _).mono ?_
  rintro e w2 ⟨rfl, hb⟩
  have HMw2 := Lib.hid ((HMw1.out.new w1.heap.size _ _ rfl).call hb)
  clear hb HMw1
  have lr : w1.heap.size < w2.heap.size := HMw2.out.lt 0 rfl
  have cr0 : w2.cell? ⟨w1.heap.size, 0, none⟩ = some (.int .i64 x0) := HMw2.out.cell 0 rfl rfl
  have cr1 : w2.cell? ⟨w1.heap.size, 1, none⟩ = some (.int .i64 y0) := HMw2.out.cell 0 rfl rfl
  have cr2 : w2.cell? ⟨w1.heap.size, 2, none⟩ = some (.int .i64 x1) := HMw2.out.cell 0 rfl rfl
  have cr3 : w2.cell? ⟨w1.heap.size, 3, none⟩ = some (.int .i64 y1) := HMw2.out.cell 0 rfl rfl
  have cr4 : w2.cell? ⟨w1.heap.size, 4, none⟩ = some (.int .i64 x2) := HMw2.out.cell 0 rfl rfl
  have cr5 : w2.cell? ⟨w1.heap.size, 5, none⟩ = some (.int .i64 y2) := HMw2.out.cell 0 rfl rfl
  go_wp2_with fail
  refine (M2.out _).mono ?_
  rintro e w3 ⟨rfl, hb⟩
  have HMw3 := Lib.hid (HMw2.out.call hb)
  clear hb lr cr0 cr1 cr2 cr3 cr4 cr5 HMw2
  have lr : w1.heap.size < w3.heap.size := HMw3.out.lt 0 rfl
  have cr0 : w3.cell? ⟨w1.heap.size, 0, none⟩ = some (.int .i64 x0) := HMw3.out.cell 0 rfl rfl
  have cr1 : w3.cell? ⟨w1.heap.size, 1, none⟩ = some (.int .i64 y0) := HMw3.out.cell 0 rfl rfl
  have cr2 : w3.cell? ⟨w1.heap.size, 2, none⟩ = some (.int .i64 x1) := HMw3.out.cell 0 rfl rfl
  have cr3 : w3.cell? ⟨w1.heap.size, 3, none⟩ = some (.int .i64 y1) := HMw3.out.cell 0 rfl rfl
  have cr4 : w3.cell? ⟨w1.heap.size, 4, none⟩ = some (.int .i64 x2) := HMw3.out.cell 0 rfl rfl
  have cr5 : w3.cell? ⟨w1.heap.size, 5, none⟩ = some (.int .i64 y2) := HMw3.out.cell 0 rfl rfl
  go_wp2_with fail
  refine (M3.out _).mono ?_
  rintro e w4 ⟨rfl, hb⟩
  have HMw4 := Lib.hid (HMw3.out.call hb)
  clear hb lr cr0 cr1 cr2 cr3 cr4 cr5 HMw3
  have lr : w1.heap.size < w4.heap.size := HMw4.out.lt 0 rfl
  have cr0 : w4.cell? ⟨w1.heap.size, 0, none⟩ = some (.int .i64 x0) := HMw4.out.cell 0 rfl rfl
  have cr1 : w4.cell? ⟨w1.heap.size, 1, none⟩ = some (.int .i64 y0) := HMw4.out.cell 0 rfl rfl
  have cr2 : w4.cell? ⟨w1.heap.size, 2, none⟩ = some (.int .i64 x1) := HMw4.out.cell 0 rfl rfl
  have cr3 : w4.cell? ⟨w1.heap.size, 3, none⟩ = some (.int .i64 y1) := HMw4.out.cell 0 rfl rfl
  have cr4 : w4.cell? ⟨w1.heap.size, 4, none⟩ = some (.int .i64 x2) := HMw4.out.cell 0 rfl rfl
  have cr5 : w4.cell? ⟨w1.heap.size, 5, none⟩ = some (.int .i64 y2) := HMw4.out.cell 0 rfl rfl
  go_wp2_with fail
  refine (M4.out _).mono ?_
  rintro e w5 ⟨rfl, hb⟩
  have HMw5 := Lib.hid (HMw4.out.call hb)
  clear hb lr cr0 cr1 cr2 cr3 cr4 cr5 HMw4
  have lr : w1.heap.size < w5.heap.size := HMw5.out.lt 0 rfl
  have cr0 : w5.cell? ⟨w1.heap.size, 0, none⟩ = some (.int .i64 x0) := HMw5.out.cell 0 rfl rfl
  have cr1 : w5.cell? ⟨w1.heap.size, 1, none⟩ = some (.int .i64 y0) := HMw5.out.cell 0 rfl rfl
  have cr2 : w5.cell? ⟨w1.heap.size, 2, none⟩ = some (.int .i64 x1) := HMw5.out.cell 0 rfl rfl
  have cr3 : w5.cell? ⟨w1.heap.size, 3, none⟩ = some (.int .i64 y1) := HMw5.out.cell 0 rfl rfl
  have cr4 : w5.cell? ⟨w1.heap.size, 4, none⟩ = some (.int .i64 x2) := HMw5.out.cell 0 rfl rfl
  have cr5 : w5.cell? ⟨w1.heap.size, 5, none⟩ = some (.int .i64 y2) := HMw5.out.cell 0 rfl rfl
  go_wp2_with fail
  refine (alive6 _).mono ?_
  rintro e w6 ⟨rfl, hb⟩
  have HMw6 := Lib.hid (HMw5.out.call hb)
  clear hb lr cr0 cr1 cr2 cr3 cr4 cr5 HMw5
  clear hneg hD hE
  go_upto_region 10 with fail
  go_cut [126] (fun v wx => v = .bool false ∧ Hid (Mem w wx [(w1.heap.size, #[.int .i64 x0, .int .i64 y0, .int .i64 x1, .int .i64 y1, .int .i64 x2, .int .i64 y2]), (w.heap.size, #[.int .i64 l0, .int .i64 l1, .int .i64 l2, .int .i64 l3, .int .i64 l4, .int .i64 l5])]))
  case first =>
    obtain ⟨hp, hr, ht1, ht2, ht3⟩ := HT.out
    clear HT
    rcases hp with rfl | rfl | rfl <;> rcases hr with rfl | rfl | rfl
    · obtain rfl := ht1 rfl
      clear ht1 ht2 ht3
      go_wp2_with fail
      go_meet
      exact ⟨rfl, Lib.hid HMw6.out⟩
    · obtain rfl := ht3 rfl
      clear ht1 ht2 ht3
      go_wp2_with fail
      go_meet
      exact ⟨rfl, Lib.hid HMw6.out⟩
    · clear ht1 ht2 ht3
      go_wp2_with fail
      go_meet
      exact ⟨rfl, Lib.hid HMw6.out⟩
    · obtain rfl := ht2 rfl
      clear ht1 ht2 ht3
      go_wp2_with fail
      go_meet
      exact ⟨rfl, Lib.hid HMw6.out⟩
    · obtain rfl := ht1 rfl
      clear ht1 ht2 ht3
      go_wp2_with fail
      go_meet
      exact ⟨rfl, Lib.hid HMw6.out⟩
    · obtain rfl := ht2 rfl
      clear ht1 ht2 ht3
      go_wp2_with fail
      go_meet
      exact ⟨rfl, Lib.hid HMw6.out⟩
    · clear ht1 ht2 ht3
      go_wp2_with fail
      go_meet
      exact ⟨rfl, Lib.hid HMw6.out⟩
    · obtain rfl := ht3 rfl
      clear ht1 ht2 ht3
      go_wp2_with fail
      go_meet
      exact ⟨rfl, Lib.hid HMw6.out⟩
    · obtain rfl := ht1 rfl
      clear ht1 ht2 ht3
      go_wp2_with fail
      go_meet
      exact ⟨rfl, Lib.hid HMw6.out⟩
  case rest =>
    rename World => wr
    clear HMw6
    obtain ⟨rfl, HMwr⟩ := hcut
    clear HT
    have lr : w1.heap.size < wr.heap.size := HMwr.out.lt 0 rfl
    have cr0 : wr.cell? ⟨w1.heap.size, 0, none⟩ = some (.int .i64 x0) := HMwr.out.cell 0 rfl rfl
    have cr1 : wr.cell? ⟨w1.heap.size, 1, none⟩ = some (.int .i64 y0) := HMwr.out.cell 0 rfl rfl
    have cr2 : wr.cell? ⟨w1.heap.size, 2, none⟩ = some (.int .i64 x1) := HMwr.out.cell 0 rfl rfl
    have cr3 : wr.cell? ⟨w1.heap.size, 3, none⟩ = some (.int .i64 y1) := HMwr.out.cell 0 rfl rfl
    have cr4 : wr.cell? ⟨w1.heap.size, 4, none⟩ = some (.int .i64 x2) := HMwr.out.cell 0 rfl rfl
    have cr5 : wr.cell? ⟨w1.heap.size, 5, none⟩ = some (.int .i64 y2) := HMwr.out.cell 0 rfl rfl
    go_wp2_with fail
    refine (M5.out _).mono ?_
    rintro e wa ⟨rfl, hb⟩
    have HMwa := Lib.hid (HMwr.out.call hb)
    clear hb lr cr0 cr1 cr2 cr3 cr4 cr5 HMwr
    have lr : w1.heap.size < wa.heap.size := HMwa.out.lt 0 rfl
    have cr0 : wa.cell? ⟨w1.heap.size, 0, none⟩ = some (.int .i64 x0) := HMwa.out.cell 0 rfl rfl
    have cr1 : wa.cell? ⟨w1.heap.size, 1, none⟩ = some (.int .i64 y0) := HMwa.out.cell 0 rfl rfl
    have cr2 : wa.cell? ⟨w1.heap.size, 2, none⟩ = some (.int .i64 x1) := HMwa.out.cell 0 rfl rfl
    have cr3 : wa.cell? ⟨w1.heap.size, 3, none⟩ = some (.int .i64 y1) := HMwa.out.cell 0 rfl rfl
    have cr4 : wa.cell? ⟨w1.heap.size, 4, none⟩ = some (.int .i64 x2) := HMwa.out.cell 0 rfl rfl
    have cr5 : wa.cell? ⟨w1.heap.size, 5, none⟩ = some (.int .i64 y2) := HMwa.out.cell 0 rfl rfl
    go_wp2_with fail
    refine (M6.out _).mono ?_
    rintro e wb ⟨rfl, hb⟩
    have HMwb := Lib.hid ((HMwa.out.new wa.heap.size _ _ rfl).call hb)
    clear hb lr cr0 cr1 cr2 cr3 cr4 cr5 HMwa
    go_wp2_with fail
    go_ret
    exact ⟨rfl, (HMwb.out.new wb.heap.size _ _ rfl).low⟩
set_option maxRecDepth 100000 in
set_option maxHeartbeats 4000000 in
theorem rorder_over2 (l0 l1 l2 l3 l4 l5 x0 y0 x1 y1 x2 y2 : Int) (p q r s u1 u2 v1 v2 f2 : Int) (D : Bool) (w : World) (hneg : wrap64 (-q) = p) (hD : (p == 0) = D) (hE : ∀ w, (Op.equalIn 10000 23 (.agg #[.int .i64 x0, .int .i64 y0]) (.agg #[.int .i64 x1, .int .i64 y1])).run Try.prog w = .ok D w)
    (hT : (p = -1 ∨ p = 0 ∨ p = 1) ∧ (r = -1 ∨ r = 0 ∨ r = 1) ∧ (p = r → s = p) ∧ (p = 0 → s = r) ∧ (r = 0 → s = p)) (hf2 : f2 ≠ 0)
    (m0 : ∀ w, Calls Try.prog 21 #[.agg #[.int .i64 l0, .int .i64 l1, .int .i64 l2, .int .i64 l3, .int .i64 l4, .int .i64 l5]] w fun en w' => en = .returned (.tuple #[.agg #[.int .i64 x0, .int .i64 y0, .int .i64 x1, .int .i64 y1, .int .i64 x2, .int .i64 y2], .bool true]) ∧ Below w.heap.size w w')
    (m1 : ∀ w, Calls Try.prog 13 #[.agg #[.int .i64 x0, .int .i64 y0], .agg #[.int .i64 x1, .int .i64 y1]] w fun en w' => en = .returned (.tuple #[.int .i64 p, .int .i64 0]) ∧ Below w.heap.size w w')
    (m2 : ∀ w, Calls Try.prog 13 #[.agg #[.int .i64 x1, .int .i64 y1], .agg #[.int .i64 x0, .int .i64 y0]] w fun en w' => en = .returned (.tuple #[.int .i64 q, .int .i64 0]) ∧ Below w.heap.size w w')
    (m3 : ∀ w, Calls Try.prog 13 #[.agg #[.int .i64 x1, .int .i64 y1], .agg #[.int .i64 x2, .int .i64 y2]] w fun en w' => en = .returned (.tuple #[.int .i64 r, .int .i64 0]) ∧ Below w.heap.size w w')
    (m4 : ∀ w, Calls Try.prog 13 #[.agg #[.int .i64 x0, .int .i64 y0], .agg #[.int .i64 x2, .int .i64 y2]] w fun en w' => en = .returned (.tuple #[.int .i64 s, .int .i64 0]) ∧ Below w.heap.size w w')
    (m5 : ∀ w, Calls Try.prog 14 #[.agg #[.int .i64 x0, .int .i64 y0], .agg #[.int .i64 x2, .int .i64 y2]] w fun en w' => en = .returned (.tuple #[.agg #[.int .i64 u1, .int .i64 u2], .int .i64 0]) ∧ Below w.heap.size w w')
    (m6 : ∀ w, Calls Try.prog 14 #[.agg #[.int .i64 x1, .int .i64 y1], .agg #[.int .i64 x2, .int .i64 y2]] w fun en w' => en = .returned (.tuple #[.agg #[.int .i64 v1, .int .i64 v2], .int .i64 f2]) ∧ Below w.heap.size w w') :
    Calls Try.prog 5 #[.agg #[.int .i64 l0, .int .i64 l1, .int .i64 l2, .int .i64 l3, .int .i64 l4, .int .i64 l5]] w fun en w' => en = .returned (.bool true) ∧ Below w.heap.size w w' := by
  have M0 := Lib.hid m0; have M1 := Lib.hid m1; have M2 := Lib.hid m2; have M3 := Lib.hid m3; have M4 := Lib.hid m4; have M5 := Lib.hid m5; have M6 := Lib.hid m6
  clear m0 m1 m2 m3 m4 m5 m6
  have hqf2 : (f2 == 0) = false := by simpa using hf2
  have hpf2 : (f2 != 0) = true := by simpa using hf2
  have HT := Lib.hid hT; clear hT
  go_enter Try.func5, Try.ntmps5
  go_wp2_with fail
  refine (M0.out _).mono ?_
  rintro e w1 ⟨rfl, hb⟩
  have HMw1 := Lib.hid (((Mem.start w).new w.heap.size _ _ rfl).call hb)
  clear hb
  go_wp2_with fail
  refine (M1.out _).mono ?_
  rintro e w2 ⟨rfl, hb⟩
  have HMw2 := Lib.hid ((HMw1.out.new w1.heap.size _ _ rfl).call hb)
  clear hb HMw1
  have lr : w1.heap.size < w2.heap.size := HMw2.out.lt 0 rfl
  have cr0 : w2.cell? ⟨w1.heap.size, 0, none⟩ = some (.int .i64 x0) := HMw2.out.cell 0 rfl rfl
  have cr1 : w2.cell? ⟨w1.heap.size, 1, none⟩ = some (.int .i64 y0) := HMw2.out.cell 0 rfl rfl
  have cr2 : w2.cell? ⟨w1.heap.size, 2, none⟩ = some (.int .i64 x1) := HMw2.out.cell 0 rfl rfl
  have cr3 : w2.cell? ⟨w1.heap.size, 3, none⟩ = some (.int .i64 y1) := HMw2.out.cell 0 rfl rfl
  have cr4 : w2.cell? ⟨w1.heap.size, 4, none⟩ = some (.int .i64 x2) := HMw2.out.cell 0 rfl rfl
  have cr5 : w2.cell? ⟨w1.heap.size, 5, none⟩ = some (.int .i64 y2) := HMw2.out.cell 0 rfl rfl
  go_wp2_with fail
  refine (M2.out _).mono ?_
  rintro e w3 ⟨rfl, hb⟩
  have HMw3 := Lib.hid (HMw2.out.call hb)
  clear hb lr cr0 cr1 cr2 cr3 cr4 cr5 HMw2
  have lr : w1.heap.size < w3.heap.size := HMw3.out.lt 0 rfl
  have cr0 : w3.cell? ⟨w1.heap.size, 0, none⟩ = some (.int .i64 x0) := HMw3.out.cell 0 rfl rfl
  have cr1 : w3.cell? ⟨w1.heap.size, 1, none⟩ = some (.int .i64 y0) := HMw3.out.cell 0 rfl rfl
  have cr2 : w3.cell? ⟨w1.heap.size, 2, none⟩ = some (.int .i64 x1) := HMw3.out.cell 0 rfl rfl
  have cr3 : w3.cell? ⟨w1.heap.size, 3, none⟩ = some (.int .i64 y1) := HMw3.out.cell 0 rfl rfl
  have cr4 : w3.cell? ⟨w1.heap.size, 4, none⟩ = some (.int .i64 x2) := HMw3.out.cell 0 rfl rfl
  have cr5 : w3.cell? ⟨w1.heap.size, 5, none⟩ = some (.int .i64 y2) := HMw3.out.cell 0 rfl rfl
  go_wp2_with fail
  refine (M3.out _).mono ?_
  rintro e w4 ⟨rfl, hb⟩
  have HMw4 := Lib.hid (HMw3.out.call hb)
  clear hb lr cr0 cr1 cr2 cr3 cr4 cr5 HMw3
  have lr : w1.heap.size < w4.heap.size := HMw4.out.lt 0 rfl
  have cr0 : w4.cell? ⟨w1.heap.size, 0, none⟩ = some (.int .i64 x0) := HMw4.out.cell 0 rfl rfl
  have cr1 : w4.cell? ⟨w1.heap.size, 1, none⟩ = some (.int .i64 y0) := HMw4.out.cell 0 rfl rfl
  have cr2 : w4.cell? ⟨w1.heap.size, 2, none⟩ = some (.int .i64 x1) := HMw4.out.cell 0 rfl rfl
  have cr3 : w4.cell? ⟨w1.heap.size, 3, none⟩ = some (.int .i64 y1) := HMw4.out.cell 0 rfl rfl
  have cr4 : w4.cell? ⟨w1.heap.size, 4, none⟩ = some (.int .i64 x2) := HMw4.out.cell 0 rfl rfl
  have cr5 : w4.cell? ⟨w1.heap.size, 5, none⟩ = some (.int .i64 y2) := HMw4.out.cell 0 rfl rfl
  go_wp2_with fail
  refine (M4.out _).mono ?_
  rintro e w5 ⟨rfl, hb⟩
  have HMw5 := Lib.hid (HMw4.out.call hb)
  clear hb lr cr0 cr1 cr2 cr3 cr4 cr5 HMw4
  have lr : w1.heap.size < w5.heap.size := HMw5.out.lt 0 rfl
  have cr0 : w5.cell? ⟨w1.heap.size, 0, none⟩ = some (.int .i64 x0) := HMw5.out.cell 0 rfl rfl
  have cr1 : w5.cell? ⟨w1.heap.size, 1, none⟩ = some (.int .i64 y0) := HMw5.out.cell 0 rfl rfl
  have cr2 : w5.cell? ⟨w1.heap.size, 2, none⟩ = some (.int .i64 x1) := HMw5.out.cell 0 rfl rfl
  have cr3 : w5.cell? ⟨w1.heap.size, 3, none⟩ = some (.int .i64 y1) := HMw5.out.cell 0 rfl rfl
  have cr4 : w5.cell? ⟨w1.heap.size, 4, none⟩ = some (.int .i64 x2) := HMw5.out.cell 0 rfl rfl
  have cr5 : w5.cell? ⟨w1.heap.size, 5, none⟩ = some (.int .i64 y2) := HMw5.out.cell 0 rfl rfl
  go_wp2_with fail
  refine (alive6 _).mono ?_
  rintro e w6 ⟨rfl, hb⟩
  have HMw6 := Lib.hid (HMw5.out.call hb)
  clear hb lr cr0 cr1 cr2 cr3 cr4 cr5 HMw5
  clear hneg hD hE
  go_upto_region 10 with fail
  go_cut [126] (fun v wx => v = .bool false ∧ Hid (Mem w wx [(w1.heap.size, #[.int .i64 x0, .int .i64 y0, .int .i64 x1, .int .i64 y1, .int .i64 x2, .int .i64 y2]), (w.heap.size, #[.int .i64 l0, .int .i64 l1, .int .i64 l2, .int .i64 l3, .int .i64 l4, .int .i64 l5])]))
  case first =>
    obtain ⟨hp, hr, ht1, ht2, ht3⟩ := HT.out
    clear HT
    rcases hp with rfl | rfl | rfl <;> rcases hr with rfl | rfl | rfl
    · obtain rfl := ht1 rfl
      clear ht1 ht2 ht3
      go_wp2_with fail
      go_meet
      exact ⟨rfl, Lib.hid HMw6.out⟩
    · obtain rfl := ht3 rfl
      clear ht1 ht2 ht3
      go_wp2_with fail
      go_meet
      exact ⟨rfl, Lib.hid HMw6.out⟩
    · clear ht1 ht2 ht3
      go_wp2_with fail
      go_meet
      exact ⟨rfl, Lib.hid HMw6.out⟩
    · obtain rfl := ht2 rfl
      clear ht1 ht2 ht3
      go_wp2_with fail
      go_meet
      exact ⟨rfl, Lib.hid HMw6.out⟩
    · obtain rfl := ht1 rfl
      clear ht1 ht2 ht3
      go_wp2_with fail
      go_meet
      exact ⟨rfl, Lib.hid HMw6.out⟩
    · obtain rfl := ht2 rfl
      clear ht1 ht2 ht3
      go_wp2_with fail
      go_meet
      exact ⟨rfl, Lib.hid HMw6.out⟩
    · clear ht1 ht2 ht3
      go_wp2_with fail
      go_meet
      exact ⟨rfl, Lib.hid HMw6.out⟩
    · obtain rfl := ht3 rfl
      clear ht1 ht2 ht3
      go_wp2_with fail
      go_meet
      exact ⟨rfl, Lib.hid HMw6.out⟩
    · obtain rfl := ht1 rfl
      clear ht1 ht2 ht3
      go_wp2_with fail
      go_meet
      exact ⟨rfl, Lib.hid HMw6.out⟩
  case rest =>
    rename World => wr
    clear HMw6
    obtain ⟨rfl, HMwr⟩ := hcut
    clear HT
    have lr : w1.heap.size < wr.heap.size := HMwr.out.lt 0 rfl
    have cr0 : wr.cell? ⟨w1.heap.size, 0, none⟩ = some (.int .i64 x0) := HMwr.out.cell 0 rfl rfl
    have cr1 : wr.cell? ⟨w1.heap.size, 1, none⟩ = some (.int .i64 y0) := HMwr.out.cell 0 rfl rfl
    have cr2 : wr.cell? ⟨w1.heap.size, 2, none⟩ = some (.int .i64 x1) := HMwr.out.cell 0 rfl rfl
    have cr3 : wr.cell? ⟨w1.heap.size, 3, none⟩ = some (.int .i64 y1) := HMwr.out.cell 0 rfl rfl
    have cr4 : wr.cell? ⟨w1.heap.size, 4, none⟩ = some (.int .i64 x2) := HMwr.out.cell 0 rfl rfl
    have cr5 : wr.cell? ⟨w1.heap.size, 5, none⟩ = some (.int .i64 y2) := HMwr.out.cell 0 rfl rfl
    go_wp2_with fail
    refine (M5.out _).mono ?_
    rintro e wa ⟨rfl, hb⟩
    have HMwa := Lib.hid (HMwr.out.call hb)
    clear hb lr cr0 cr1 cr2 cr3 cr4 cr5 HMwr
    have lr : w1.heap.size < wa.heap.size := HMwa.out.lt 0 rfl
    have cr0 : wa.cell? ⟨w1.heap.size, 0, none⟩ = some (.int .i64 x0) := HMwa.out.cell 0 rfl rfl
    have cr1 : wa.cell? ⟨w1.heap.size, 1, none⟩ = some (.int .i64 y0) := HMwa.out.cell 0 rfl rfl
    have cr2 : wa.cell? ⟨w1.heap.size, 2, none⟩ = some (.int .i64 x1) := HMwa.out.cell 0 rfl rfl
    have cr3 : wa.cell? ⟨w1.heap.size, 3, none⟩ = some (.int .i64 y1) := HMwa.out.cell 0 rfl rfl
    have cr4 : wa.cell? ⟨w1.heap.size, 4, none⟩ = some (.int .i64 x2) := HMwa.out.cell 0 rfl rfl
    have cr5 : wa.cell? ⟨w1.heap.size, 5, none⟩ = some (.int .i64 y2) := HMwa.out.cell 0 rfl rfl
    go_wp2_with fail
    refine (M6.out _).mono ?_
    rintro e wb ⟨rfl, hb⟩
    have HMwb := Lib.hid ((HMwa.out.new wa.heap.size _ _ rfl).call hb)
    clear hb lr cr0 cr1 cr2 cr3 cr4 cr5 HMwa
    go_wp2_with fail
    go_ret
    exact ⟨rfl, (HMwb.out.new wb.heap.size _ _ rfl).low⟩
set_option maxRecDepth 100000 in
set_option maxHeartbeats 4000000 in
theorem rorder_ok (l0 l1 l2 l3 l4 l5 x0 y0 x1 y1 x2 y2 : Int) (p q r s u1 u2 v1 v2 : Int) (D : Bool) (w : World) (hneg : wrap64 (-q) = p) (hD : (p == 0) = D) (hE : ∀ w, (Op.equalIn 10000 23 (.agg #[.int .i64 x0, .int .i64 y0]) (.agg #[.int .i64 x1, .int .i64 y1])).run Try.prog w = .ok D w)
    (hT : (p = -1 ∨ p = 0 ∨ p = 1) ∧ (r = -1 ∨ r = 0 ∨ r = 1) ∧ (p = r → s = p) ∧ (p = 0 → s = r) ∧ (r = 0 → s = p)) 
    (m0 : ∀ w, Calls Try.prog 21 #[.agg #[.int .i64 l0, .int .i64 l1, .int .i64 l2, .int .i64 l3, .int .i64 l4, .int .i64 l5]] w fun en w' => en = .returned (.tuple #[.agg #[.int .i64 x0, .int .i64 y0, .int .i64 x1, .int .i64 y1, .int .i64 x2, .int .i64 y2], .bool true]) ∧ Below w.heap.size w w')
    (m1 : ∀ w, Calls Try.prog 13 #[.agg #[.int .i64 x0, .int .i64 y0], .agg #[.int .i64 x1, .int .i64 y1]] w fun en w' => en = .returned (.tuple #[.int .i64 p, .int .i64 0]) ∧ Below w.heap.size w w')
    (m2 : ∀ w, Calls Try.prog 13 #[.agg #[.int .i64 x1, .int .i64 y1], .agg #[.int .i64 x0, .int .i64 y0]] w fun en w' => en = .returned (.tuple #[.int .i64 q, .int .i64 0]) ∧ Below w.heap.size w w')
    (m3 : ∀ w, Calls Try.prog 13 #[.agg #[.int .i64 x1, .int .i64 y1], .agg #[.int .i64 x2, .int .i64 y2]] w fun en w' => en = .returned (.tuple #[.int .i64 r, .int .i64 0]) ∧ Below w.heap.size w w')
    (m4 : ∀ w, Calls Try.prog 13 #[.agg #[.int .i64 x0, .int .i64 y0], .agg #[.int .i64 x2, .int .i64 y2]] w fun en w' => en = .returned (.tuple #[.int .i64 s, .int .i64 0]) ∧ Below w.heap.size w w')
    (m5 : ∀ w, Calls Try.prog 14 #[.agg #[.int .i64 x0, .int .i64 y0], .agg #[.int .i64 x2, .int .i64 y2]] w fun en w' => en = .returned (.tuple #[.agg #[.int .i64 u1, .int .i64 u2], .int .i64 0]) ∧ Below w.heap.size w w')
    (m6 : ∀ w, Calls Try.prog 14 #[.agg #[.int .i64 x1, .int .i64 y1], .agg #[.int .i64 x2, .int .i64 y2]] w fun en w' => en = .returned (.tuple #[.agg #[.int .i64 v1, .int .i64 v2], .int .i64 0]) ∧ Below w.heap.size w w')
    (m7 : ∀ w, Calls Try.prog 13 #[.agg #[.int .i64 u1, .int .i64 u2], .agg #[.int .i64 v1, .int .i64 v2]] w fun en w' => en = .returned (.tuple #[.int .i64 p, .int .i64 0]) ∧ Below w.heap.size w w') :
    Calls Try.prog 5 #[.agg #[.int .i64 l0, .int .i64 l1, .int .i64 l2, .int .i64 l3, .int .i64 l4, .int .i64 l5]] w fun en w' => en = .returned (.bool true) ∧ Below w.heap.size w w' := by
  have M0 := Lib.hid m0; have M1 := Lib.hid m1; have M2 := Lib.hid m2; have M3 := Lib.hid m3; have M4 := Lib.hid m4; have M5 := Lib.hid m5; have M6 := Lib.hid m6; have M7 := Lib.hid m7
  clear m0 m1 m2 m3 m4 m5 m6 m7
  have HT := Lib.hid hT; clear hT
  go_enter Try.func5, Try.ntmps5
  go_wp2_with fail
  refine (M0.out _).mono ?_
  rintro e w1 ⟨rfl, hb⟩
  have HMw1 := Lib.hid (((Mem.start w).new w.heap.size _ _ rfl).call hb)
  clear hb
  go_wp2_with fail
  refine (M1.out _).mono ?_
  rintro e w2 ⟨rfl, hb⟩
  have HMw2 := Lib.hid ((HMw1.out.new w1.heap.size _ _ rfl).call hb)
  clear hb HMw1
  have lr : w1.heap.size < w2.heap.size := HMw2.out.lt 0 rfl
  have cr0 : w2.cell? ⟨w1.heap.size, 0, none⟩ = some (.int .i64 x0) := HMw2.out.cell 0 rfl rfl
  have cr1 : w2.cell? ⟨w1.heap.size, 1, none⟩ = some (.int .i64 y0) := HMw2.out.cell 0 rfl rfl
  have cr2 : w2.cell? ⟨w1.heap.size, 2, none⟩ = some (.int .i64 x1) := HMw2.out.cell 0 rfl rfl
  have cr3 : w2.cell? ⟨w1.heap.size, 3, none⟩ = some (.int .i64 y1) := HMw2.out.cell 0 rfl rfl
  have cr4 : w2.cell? ⟨w1.heap.size, 4, none⟩ = some (.int .i64 x2) := HMw2.out.cell 0 rfl rfl
  have cr5 : w2.cell? ⟨w1.heap.size, 5, none⟩ = some (.int .i64 y2) := HMw2.out.cell 0 rfl rfl
  go_wp2_with fail
  refine (M2.out _).mono ?_
  rintro e w3 ⟨rfl, hb⟩
  have HMw3 := Lib.hid (HMw2.out.call hb)
  clear hb lr cr0 cr1 cr2 cr3 cr4 cr5 HMw2
  have lr : w1.heap.size < w3.heap.size := HMw3.out.lt 0 rfl
  have cr0 : w3.cell? ⟨w1.heap.size, 0, none⟩ = some (.int .i64 x0) := HMw3.out.cell 0 rfl rfl
  have cr1 : w3.cell? ⟨w1.heap.size, 1, none⟩ = some (.int .i64 y0) := HMw3.out.cell 0 rfl rfl
  have cr2 : w3.cell? ⟨w1.heap.size, 2, none⟩ = some (.int .i64 x1) := HMw3.out.cell 0 rfl rfl
  have cr3 : w3.cell? ⟨w1.heap.size, 3, none⟩ = some (.int .i64 y1) := HMw3.out.cell 0 rfl rfl
  have cr4 : w3.cell? ⟨w1.heap.size, 4, none⟩ = some (.int .i64 x2) := HMw3.out.cell 0 rfl rfl
  have cr5 : w3.cell? ⟨w1.heap.size, 5, none⟩ = some (.int .i64 y2) := HMw3.out.cell 0 rfl rfl
  go_wp2_with fail
  refine (M3.out _).mono ?_
  rintro e w4 ⟨rfl, hb⟩
  have HMw4 := Lib.hid (HMw3.out.call hb)
  clear hb lr cr0 cr1 cr2 cr3 cr4 cr5 HMw3
  have lr : w1.heap.size < w4.heap.size := HMw4.out.lt 0 rfl
  have cr0 : w4.cell? ⟨w1.heap.size, 0, none⟩ = some (.int .i64 x0) := HMw4.out.cell 0 rfl rfl
  have cr1 : w4.cell? ⟨w1.heap.size, 1, none⟩ = some (.int .i64 y0) := HMw4.out.cell 0 rfl rfl
  have cr2 : w4.cell? ⟨w1.heap.size, 2, none⟩ = some (.int .i64 x1) := HMw4.out.cell 0 rfl rfl
  have cr3 : w4.cell? ⟨w1.heap.size, 3, none⟩ = some (.int .i64 y1) := HMw4.out.cell 0 rfl rfl
  have cr4 : w4.cell? ⟨w1.heap.size, 4, none⟩ = some (.int .i64 x2) := HMw4.out.cell 0 rfl rfl
  have cr5 : w4.cell? ⟨w1.heap.size, 5, none⟩ = some (.int .i64 y2) := HMw4.out.cell 0 rfl rfl
  go_wp2_with fail
  refine (M4.out _).mono ?_
  rintro e w5 ⟨rfl, hb⟩
  have HMw5 := Lib.hid (HMw4.out.call hb)
  clear hb lr cr0 cr1 cr2 cr3 cr4 cr5 HMw4
  have lr : w1.heap.size < w5.heap.size := HMw5.out.lt 0 rfl
  have cr0 : w5.cell? ⟨w1.heap.size, 0, none⟩ = some (.int .i64 x0) := HMw5.out.cell 0 rfl rfl
  have cr1 : w5.cell? ⟨w1.heap.size, 1, none⟩ = some (.int .i64 y0) := HMw5.out.cell 0 rfl rfl
  have cr2 : w5.cell? ⟨w1.heap.size, 2, none⟩ = some (.int .i64 x1) := HMw5.out.cell 0 rfl rfl
  have cr3 : w5.cell? ⟨w1.heap.size, 3, none⟩ = some (.int .i64 y1) := HMw5.out.cell 0 rfl rfl
  have cr4 : w5.cell? ⟨w1.heap.size, 4, none⟩ = some (.int .i64 x2) := HMw5.out.cell 0 rfl rfl
  have cr5 : w5.cell? ⟨w1.heap.size, 5, none⟩ = some (.int .i64 y2) := HMw5.out.cell 0 rfl rfl
  go_wp2_with fail
  refine (alive6 _).mono ?_
  rintro e w6 ⟨rfl, hb⟩
  have HMw6 := Lib.hid (HMw5.out.call hb)
  clear hb lr cr0 cr1 cr2 cr3 cr4 cr5 HMw5
  clear hneg hD hE
  go_upto_region 10 with fail
  go_cut [126] (fun v wx => v = .bool false ∧ Hid (Mem w wx [(w1.heap.size, #[.int .i64 x0, .int .i64 y0, .int .i64 x1, .int .i64 y1, .int .i64 x2, .int .i64 y2]), (w.heap.size, #[.int .i64 l0, .int .i64 l1, .int .i64 l2, .int .i64 l3, .int .i64 l4, .int .i64 l5])]))
  case first =>
    obtain ⟨hp, hr, ht1, ht2, ht3⟩ := HT.out
    clear HT
    rcases hp with rfl | rfl | rfl <;> rcases hr with rfl | rfl | rfl
    · obtain rfl := ht1 rfl
      clear ht1 ht2 ht3
      go_wp2_with fail
      go_meet
      exact ⟨rfl, Lib.hid HMw6.out⟩
    · obtain rfl := ht3 rfl
      clear ht1 ht2 ht3
      go_wp2_with fail
      go_meet
      exact ⟨rfl, Lib.hid HMw6.out⟩
    · clear ht1 ht2 ht3
      go_wp2_with fail
      go_meet
      exact ⟨rfl, Lib.hid HMw6.out⟩
    · obtain rfl := ht2 rfl
      clear ht1 ht2 ht3
      go_wp2_with fail
      go_meet
      exact ⟨rfl, Lib.hid HMw6.out⟩
    · obtain rfl := ht1 rfl
      clear ht1 ht2 ht3
      go_wp2_with fail
      go_meet
      exact ⟨rfl, Lib.hid HMw6.out⟩
    · obtain rfl := ht2 rfl
      clear ht1 ht2 ht3
      go_wp2_with fail
      go_meet
      exact ⟨rfl, Lib.hid HMw6.out⟩
    · clear ht1 ht2 ht3
      go_wp2_with fail
      go_meet
      exact ⟨rfl, Lib.hid HMw6.out⟩
    · obtain rfl := ht3 rfl
      clear ht1 ht2 ht3
      go_wp2_with fail
      go_meet
      exact ⟨rfl, Lib.hid HMw6.out⟩
    · obtain rfl := ht1 rfl
      clear ht1 ht2 ht3
      go_wp2_with fail
      go_meet
      exact ⟨rfl, Lib.hid HMw6.out⟩
  case rest =>
    rename World => wr
    clear HMw6
    obtain ⟨rfl, HMwr⟩ := hcut
    clear HT
    have lr : w1.heap.size < wr.heap.size := HMwr.out.lt 0 rfl
    have cr0 : wr.cell? ⟨w1.heap.size, 0, none⟩ = some (.int .i64 x0) := HMwr.out.cell 0 rfl rfl
    have cr1 : wr.cell? ⟨w1.heap.size, 1, none⟩ = some (.int .i64 y0) := HMwr.out.cell 0 rfl rfl
    have cr2 : wr.cell? ⟨w1.heap.size, 2, none⟩ = some (.int .i64 x1) := HMwr.out.cell 0 rfl rfl
    have cr3 : wr.cell? ⟨w1.heap.size, 3, none⟩ = some (.int .i64 y1) := HMwr.out.cell 0 rfl rfl
    have cr4 : wr.cell? ⟨w1.heap.size, 4, none⟩ = some (.int .i64 x2) := HMwr.out.cell 0 rfl rfl
    have cr5 : wr.cell? ⟨w1.heap.size, 5, none⟩ = some (.int .i64 y2) := HMwr.out.cell 0 rfl rfl
    go_wp2_with fail
    refine (M5.out _).mono ?_
    rintro e wa ⟨rfl, hb⟩
    have HMwa := Lib.hid (HMwr.out.call hb)
    clear hb lr cr0 cr1 cr2 cr3 cr4 cr5 HMwr
    have lr : w1.heap.size < wa.heap.size := HMwa.out.lt 0 rfl
    have cr0 : wa.cell? ⟨w1.heap.size, 0, none⟩ = some (.int .i64 x0) := HMwa.out.cell 0 rfl rfl
    have cr1 : wa.cell? ⟨w1.heap.size, 1, none⟩ = some (.int .i64 y0) := HMwa.out.cell 0 rfl rfl
    have cr2 : wa.cell? ⟨w1.heap.size, 2, none⟩ = some (.int .i64 x1) := HMwa.out.cell 0 rfl rfl
    have cr3 : wa.cell? ⟨w1.heap.size, 3, none⟩ = some (.int .i64 y1) := HMwa.out.cell 0 rfl rfl
    have cr4 : wa.cell? ⟨w1.heap.size, 4, none⟩ = some (.int .i64 x2) := HMwa.out.cell 0 rfl rfl
    have cr5 : wa.cell? ⟨w1.heap.size, 5, none⟩ = some (.int .i64 y2) := HMwa.out.cell 0 rfl rfl
    go_wp2_with fail
    refine (M6.out _).mono ?_
    rintro e wb ⟨rfl, hb⟩
    have HMwb := Lib.hid ((HMwa.out.new wa.heap.size _ _ rfl).call hb)
    clear hb lr cr0 cr1 cr2 cr3 cr4 cr5 HMwa
    have lu : wa.heap.size < wb.heap.size := HMwb.out.lt 0 rfl
    have cu0 : wb.cell? ⟨wa.heap.size, 0, none⟩ = some (.int .i64 u1) := HMwb.out.cell 0 rfl rfl
    have cu1 : wb.cell? ⟨wa.heap.size, 1, none⟩ = some (.int .i64 u2) := HMwb.out.cell 0 rfl rfl
    go_wp2_with fail
    refine (M7.out _).mono ?_
    rintro e wc ⟨rfl, hb⟩
    have HMwc := Lib.hid ((HMwb.out.new wb.heap.size _ _ rfl).call hb)
    clear hb lu cu0 cu1 HMwb
    go_wp2_with fail
    go_ret
    exact ⟨rfl, HMwc.out.low⟩
theorem ordI_cases (z : Int) : ordI z = -1 ∨ ordI z = 0 ∨ ordI z = 1 := by unfold ordI; split; exact .inl rfl; split; exact .inr (.inl rfl); exact .inr (.inr rfl)
theorem ordI_lt {z : Int} : ordI z = -1 ↔ z < 0 := by unfold ordI; split; omega; split <;> omega
theorem ordI_eq {z : Int} : ordI z = 0 ↔ z = 0 := by unfold ordI; split; omega; split <;> omega
theorem ordI_gt {z : Int} : ordI z = 1 ↔ 0 < z := by unfold ordI; split; omega; split <;> omega
theorem ordI_congr {a b c d : Int} (h : a < b ↔ c < d) (k : a = b ↔ c = d) : ordI (a - b) = ordI (c - d) := by
  unfold ordI
  have e1 : (a - b < 0) ↔ (c - d < 0) := by omega
  have e2 : (a - b = 0) ↔ (c - d = 0) := by omega
  simp only [e1, e2]
theorem low_same {n d m e : Int} (h : Low n d) (k : Low m e) : n * e - m * d = 0 ↔ n = m ∧ d = e := by
  refine ⟨fun x => low_unique h k (by omega), fun x => ?_⟩
  obtain ⟨rfl, rfl⟩ := x
  omega
theorem ord_trans (x0 y0 x1 y1 x2 y2 : Int) (L0 : Low x0 y0) (L1 : Low x1 y1) (L2 : Low x2 y2) :
    (ordI (x0 * y1 - x1 * y0) = ordI (x1 * y2 - x2 * y1) → ordI (x0 * y2 - x2 * y0) = ordI (x0 * y1 - x1 * y0)) ∧ (ordI (x0 * y1 - x1 * y0) = 0 → ordI (x0 * y2 - x2 * y0) = ordI (x1 * y2 - x2 * y1)) ∧ (ordI (x1 * y2 - x2 * y1) = 0 → ordI (x0 * y2 - x2 * y0) = ordI (x0 * y1 - x1 * y0)) := by
  have p0 : 0 < y0 := by have := L0.1; omega
  have p1 : 0 < y1 := by have := L1.1; omega
  have p2 : 0 < y2 := by have := L2.1; omega
  have z1 : ordI (x0 * y1 - x1 * y0) = 0 → ordI (x0 * y2 - x2 * y0) = ordI (x1 * y2 - x2 * y1) := fun h => by
    obtain ⟨rfl, rfl⟩ := (low_same L0 L1).1 (ordI_eq.1 h)
    rfl
  have z2 : ordI (x1 * y2 - x2 * y1) = 0 → ordI (x0 * y2 - x2 * y0) = ordI (x0 * y1 - x1 * y0) := fun h => by
    obtain ⟨rfl, rfl⟩ := (low_same L1 L2).1 (ordI_eq.1 h)
    rfl
  refine ⟨fun h => ?_, z1, z2⟩
  rcases ordI_cases (x0 * y1 - x1 * y0) with k | k | k
  · rw [k] at h ⊢
    have a := ordI_lt.1 k
    have b := ordI_lt.1 h.symm
    have := cross_trans p0 p1 p2 (show x0 * y1 < x1 * y0 by omega) (show x1 * y2 < x2 * y1 by omega)
    exact ordI_lt.2 (by omega)
  · exact (z1 k).trans h.symm
  · rw [k] at h ⊢
    have a := ordI_gt.1 k
    have b := ordI_gt.1 h.symm
    have := cross_trans p2 p1 p0 (show x2 * y1 < x1 * y2 by omega) (show x1 * y0 < x0 * y1 by omega)
    exact ordI_gt.2 (by omega)
/-- What is added to both keeps the order of the lowest terms. -/
theorem ord_add (x0 y0 x1 y1 x2 y2 : Int) (L0 : Low x0 y0) (L1 : Low x1 y1) (L2 : Low x2 y2) :
    ordI (lowN (x0 * y2 + x2 * y0) (y0 * y2) * lowD (x1 * y2 + x2 * y1) (y1 * y2) - lowN (x1 * y2 + x2 * y1) (y1 * y2) * lowD (x0 * y2 + x2 * y0) (y0 * y2)) = ordI (x0 * y1 - x1 * y0) := by
  have p0 : 0 < y0 := by have := L0.1; omega
  have p1 : 0 < y1 := by have := L1.1; omega
  have p2 : 0 < y2 := by have := L2.1; omega
  have q0 := Int.mul_pos p0 p2
  have q1 := Int.mul_pos p1 p2
  have k0 := (lowND_low (x0 * y2 + x2 * y0) (y0 * y2) (by omega)).1
  have k1 := (lowND_low (x1 * y2 + x2 * y1) (y1 * y2) (by omega)).1
  have c := cross_same (by omega) q0 (by omega) q1 (low_cross (x0 * y2 + x2 * y0) (y0 * y2)) (low_cross (x1 * y2 + x2 * y1) (y1 * y2))
  have d := cross_add (n1 := x0) (d1 := y0) (n2 := x1) (d2 := y1) (n3 := x2) p2
  exact ordI_congr (c.1.trans d.1) (c.2.trans d.2)
theorem rorder_yes (l0 l1 l2 l3 l4 l5 x0 y0 x1 y1 x2 y2 : Int) (i0 : IsInt x0) (j0 : IsInt y0) (i1 : IsInt x1) (j1 : IsInt y1) (i2 : IsInt x2) (j2 : IsInt y2) (L0 : Low x0 y0) (L1 : Low x1 y1) (L2 : Low x2 y2) (w : World)
    (m0 : ∀ w, Calls Try.prog 21 #[.agg #[.int .i64 l0, .int .i64 l1, .int .i64 l2, .int .i64 l3, .int .i64 l4, .int .i64 l5]] w fun en w' => en = .returned (.tuple #[.agg #[.int .i64 x0, .int .i64 y0, .int .i64 x1, .int .i64 y1, .int .i64 x2, .int .i64 y2], .bool true]) ∧ Below w.heap.size w w') :
    Calls Try.prog 5 #[.agg #[.int .i64 l0, .int .i64 l1, .int .i64 l2, .int .i64 l3, .int .i64 l4, .int .i64 l5]] w fun en w' => en = .returned (.bool true) ∧ Below w.heap.size w w' := by
  have c1 := qcmp_ok x0 y0 x1 y1 i0 j0 i1 j1 L0 L1
  have c2 := qcmp_ok x1 y1 x0 y0 i1 j1 i0 j0 L1 L0
  have c3 := qcmp_ok x1 y1 x2 y2 i1 j1 i2 j2 L1 L2
  have c4 := qcmp_ok x0 y0 x2 y2 i0 j0 i2 j2 L0 L2
  have c5 := qadd_ok x0 y0 x2 y2 i0 j0 i2 j2 L0 L2
  have c6 := qadd_ok x1 y1 x2 y2 i1 j1 i2 j2 L1 L2
  have p0 : 0 < y0 := by have := L0.1; omega
  have p1 : 0 < y1 := by have := L1.1; omega
  have p2 : 0 < y2 := by have := L2.1; omega
  have q0 := Int.mul_pos p0 p2
  have q1 := Int.mul_pos p1 p2
  rw [show x1 * y0 - x0 * y1 = -(x0 * y1 - x1 * y0) by omega, ordI_neg] at c2
  have hneg : wrap64 (- - ordI (x0 * y1 - x1 * y0)) = ordI (x0 * y1 - x1 * y0) := by
    rw [Int.neg_neg]
    exact IntWalk.wrap64_in _ (by rcases ordI_cases (x0 * y1 - x1 * y0) with k | k | k <;> rw [k] <;> exact ⟨by omega, by omega⟩)
  have hD : (ordI (x0 * y1 - x1 * y0) == 0) = decide (x0 = x1 ∧ y0 = y1) := by
    have : (ordI (x0 * y1 - x1 * y0) == 0) = decide (ordI (x0 * y1 - x1 * y0) = 0) := rfl
    rw [this]
    exact decide_eq_decide.2 (ordI_eq.trans (low_same L0 L1))
  have hE := eqRatio x0 y0 x1 y1
  have hT := ord_trans x0 y0 x1 y1 x2 y2 L0 L1 L2
  have hT := And.intro (ordI_cases (x0 * y1 - x1 * y0)) (And.intro (ordI_cases (x1 * y2 - x2 * y1)) hT)
  by_cases f : Fits (x0 * y2 + x2 * y0) (y0 * y2)
  · rw [raE_ok f] at c5
    by_cases g : Fits (x1 * y2 + x2 * y1) (y1 * y2)
    · rw [raE_ok g, raN_ok g, raD_ok g] at c6
      rw [raN_ok f, raD_ok f] at c5
      have c7 := qcmp_ok _ _ _ _ f.2.1 f.2.2 g.2.1 g.2.2 (lowND_low _ _ f.1) (lowND_low _ _ g.1)
      rw [ord_add x0 y0 x1 y1 x2 y2 L0 L1 L2] at c7
      exact rorder_ok l0 l1 l2 l3 l4 l5 x0 y0 x1 y1 x2 y2 _ _ _ _ _ _ _ _ _ w hneg hD hE hT m0 c1 c2 c3 c4 c5 c6 c7
    · rw [raE_no (by omega) g] at c6
      exact rorder_over2 l0 l1 l2 l3 l4 l5 x0 y0 x1 y1 x2 y2 _ _ _ _ _ _ _ _ _ _ w hneg hD hE hT (by decide) m0 c1 c2 c3 c4 c5 c6
  · rw [raE_no (by omega) f] at c5
    exact rorder_over1 l0 l1 l2 l3 l4 l5 x0 y0 x1 y1 x2 y2 _ _ _ _ _ _ _ _ _ _ _ w hneg hD hE hT (by decide) m0 c1 c2 c3 c4 c5 c6
theorem rorder_walk (l0 l1 l2 l3 l4 l5 : Int) (h0 : IsInt l0) (h1 : IsInt l1) (h2 : IsInt l2) (h3 : IsInt l3) (h4 : IsInt l4) (h5 : IsInt l5) (w : World) :
    Calls Try.prog 5 #[.agg #[.int .i64 l0, .int .i64 l1, .int .i64 l2, .int .i64 l3, .int .i64 l4, .int .i64 l5]] w fun en w' => en = .returned (.bool true) ∧ Below w.heap.size w w' := by
  have n0 := new_any l0 (ddOf l1) h0 (dd_int h1)
  have n1 := new_any l2 (ddOf l3) h2 (dd_int h3)
  have n2 := new_any l4 (ddOf l5) h4 (dd_int h5)
  have mk := fun w => made_core l0 l1 l2 l3 l4 l5 _ _ _ _ _ _ _ _ _ w n0 n1 n2
  by_cases E : raE l0 (ddOf l1) = 0 ∧ raE l2 (ddOf l3) = 0 ∧ raE l4 (ddOf l5) = 0
  · have m0 : ∀ w, Calls Try.prog 21 #[.agg #[.int .i64 l0, .int .i64 l1, .int .i64 l2, .int .i64 l3, .int .i64 l4, .int .i64 l5]] w fun en w' => en = .returned (.tuple #[.agg #[.int .i64 (raN l0 (ddOf l1)), .int .i64 (raD l0 (ddOf l1)), .int .i64 (raN l2 (ddOf l3)), .int .i64 (raD l2 (ddOf l3)), .int .i64 (raN l4 (ddOf l5)), .int .i64 (raD l4 (ddOf l5))], .bool true]) ∧ Below w.heap.size w w' := fun w => (mk w).mono fun en w' h => ⟨by
      rcases h.1 with k | k
      · exact k.2.2.2
      · exact absurd E k.1, h.2⟩
    obtain ⟨E0, E1, E2⟩ := E
    have f0 := raE_zero.1 E0
    have f1 := raE_zero.1 E1
    have f2 := raE_zero.1 E2
    rw [raN_ok f0, raD_ok f0, raN_ok f1, raD_ok f1, raN_ok f2, raD_ok f2] at m0
    have L0 := lowND_low l0 (ddOf l1) f0.1
    have L1 := lowND_low l2 (ddOf l3) f1.1
    have L2 := lowND_low l4 (ddOf l5) f2.1
    exact rorder_yes l0 l1 l2 l3 l4 l5 _ _ _ _ _ _ f0.2.1 f0.2.2 f1.2.1 f1.2.2 f2.2.1 f2.2.2 L0 L1 L2 w m0
  · exact rorder_no l0 l1 l2 l3 l4 l5 w fun w => (mk w).mono fun en w' h => ⟨by
      rcases h.1 with k | k
      · exact absurd ⟨k.1, k.2.1, k.2.2.1⟩ E
      · exact k.2, h.2⟩
end Go.Proofs.Ytjnebbjjabnipaa
