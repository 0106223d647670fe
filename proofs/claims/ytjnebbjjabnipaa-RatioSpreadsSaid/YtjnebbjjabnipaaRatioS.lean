/- ratio's numbers by sign and size: signedOf, side, fractionOf, times, plus, order, whole; nothing that was in memory before is changed. -/
import Derived.Test.YtjnebbjjabnipaaFixRef
import Derived.Test.YtjnebbjjabnipaaBoxes
import Derived.Test.YtjnebbjjabnipaaGen
namespace Go.Proofs.Ytjnebbjjabnipaa
open Go.RowKit

theorem sof_true (a : Int) (n : Nat) (h : a < 0) (h1 : IntKind.u64.wrap (-(IntKind.u64.wrap a)) = (n : Nat)) (w : World) :
    Calls Try.prog 44 #[.int .i64 a] w fun en w' => en = .returned (.agg #[.bool true, .int .u64 0, .int .u64 (n : Nat)]) ∧ Below w.heap.size w w' := by
  go_enter Try.func44, Try.ntmps44
  go_wp2_with fail
  exact bodyPost_ret (v := .agg #[.bool true, .int .u64 0, .int .u64 (n : Nat)]) (by simp [results, Try.results44, go_sem]) rfl ⟨rfl, ((Mem.start w).new w.heap.size _ _ rfl).low⟩
theorem sof_false (a : Int) (n : Nat) (h : ¬ a < 0) (h1 : IntKind.u64.wrap a = (n : Nat)) (w : World) :
    Calls Try.prog 44 #[.int .i64 a] w fun en w' => en = .returned (.agg #[.bool false, .int .u64 0, .int .u64 (n : Nat)]) ∧ Below w.heap.size w w' := by
  go_enter Try.func44, Try.ntmps44
  go_wp2_with fail
  exact bodyPost_ret (v := .agg #[.bool false, .int .u64 0, .int .u64 (n : Nat)]) (by simp [results, Try.results44, go_sem]) rfl ⟨rfl, ((Mem.start w).new w.heap.size _ _ rfl).low⟩
theorem sof_any (a : Int) (ha : IsInt a) (w : World) :
    Calls Try.prog 44 #[.int .i64 a] w fun en w' => en = .returned (zS a) ∧ Below w.heap.size w w' := by
  unfold zS
  rw [hi_low _ (natAbs_B ha), lo_low _ (natAbs_B ha)]
  have k := size_nums a ha
  by_cases h : a < 0
  · rw [decide_eq_true h]; exact sof_true a _ h (k.1 h) w
  · rw [decide_eq_false h]; exact sof_false a _ h (k.2 h) w
theorem side_true (n : Nat) (D : Bool) (hE : ∀ w, (Op.equalIn 10000 48 (.agg #[.int .u64 (hi n : Nat), .int .u64 (lo n : Nat)]) (.agg #[.int .u64 0, .int .u64 0])).run Try.prog w = .ok D w) (w : World) :
    Calls Try.prog 46 #[.bool true, .agg #[.int .u64 (hi n : Nat), .int .u64 (lo n : Nat)]] w fun en w' => en = .returned (.agg #[.bool (!D), .int .u64 (hi n : Nat), .int .u64 (lo n : Nat)]) ∧ Below w.heap.size w w' := by
  go_enter Try.func46, Try.ntmps46
  go_upto_region 1 with fail
  go_region
  all_goals go_wp2_with fail
  all_goals exact bodyPost_ret (v := .agg #[.bool (!D), .int .u64 (hi n : Nat), .int .u64 (lo n : Nat)]) (by simp [results, Try.results46, go_sem]) rfl ⟨rfl, (((Mem.start w).new w.heap.size _ _ rfl).new (w.heap.size + 1) _ _ (by simp)).low.drew⟩
theorem side_false (n : Nat) (w : World) :
    Calls Try.prog 46 #[.bool false, .agg #[.int .u64 (hi n : Nat), .int .u64 (lo n : Nat)]] w fun en w' => en = .returned (.agg #[.bool false, .int .u64 (hi n : Nat), .int .u64 (lo n : Nat)]) ∧ Below w.heap.size w w' := by
  go_enter Try.func46, Try.ntmps46
  go_upto_region 1 with fail
  go_region
  all_goals go_wp2_with fail
  all_goals exact bodyPost_ret (v := .agg #[.bool false, .int .u64 (hi n : Nat), .int .u64 (lo n : Nat)]) (by simp [results, Try.results46, go_sem]) rfl ⟨rfl, (((Mem.start w).new w.heap.size _ _ rfl).new (w.heap.size + 1) _ _ (by simp)).low.drew⟩
theorem side_any (B : Bool) (n : Nat) (w : World) :
    Calls Try.prog 46 #[.bool B, .agg #[.int .u64 (hi n : Nat), .int .u64 (lo n : Nat)]] w fun en w' => en = .returned (zS (sgn B n)) ∧ Below w.heap.size w w' := by
  have e : zS (sgn B n) = .agg #[.bool (B && !decide (n = 0)), .int .u64 (hi n : Nat), .int .u64 (lo n : Nat)] := by
    unfold zS sgn
    cases B
    · simp
    · have e1 : decide (-(n : Int) < 0) = (true && !decide (n = 0)) := by rw [Bool.true_and, ne_zero_D]; exact decide_eq_decide.2 (by omega)
      rw [if_pos rfl, Int.natAbs_neg, Int.natAbs_natCast, e1]
  rw [e]
  cases B
  · exact side_false n w
  · exact side_true n _ (eqZero n) w
theorem fof_core (a b : Int) (n m : Nat) (A B : Bool) (w : World)
    (m1 : ∀ w, Calls Try.prog 44 #[.int .i64 a] w fun en w' => en = .returned (.agg #[.bool A, .int .u64 (hi n : Nat), .int .u64 (lo n : Nat)]) ∧ Below w.heap.size w w')
    (m2 : ∀ w, Calls Try.prog 44 #[.int .i64 b] w fun en w' => en = .returned (.agg #[.bool B, .int .u64 (hi m : Nat), .int .u64 (lo m : Nat)]) ∧ Below w.heap.size w w') :
    Calls Try.prog 23 #[.int .i64 a, .int .i64 b] w fun en w' => en = .returned (.agg #[.bool A, .int .u64 (hi n : Nat), .int .u64 (lo n : Nat), .bool B, .int .u64 (hi m : Nat), .int .u64 (lo m : Nat)]) ∧ Below w.heap.size w w' := by
  have M1 := Lib.hid m1; have M2 := Lib.hid m2
  clear m1 m2
  go_enter Try.func23, Try.ntmps23
  go_wp2_with fail
  refine (M1.out _).mono ?_
  rintro e w1 ⟨rfl, hb⟩
  have HMw1 := Lib.hid (((Mem.start w).new w.heap.size _ _ rfl).call hb)
  clear hb
  go_wp2_with fail
  refine (M2.out _).mono ?_
  rintro e w2 ⟨rfl, hb⟩
  have HMw2 := Lib.hid (HMw1.out.call hb)
  clear hb HMw1
  have lr : w.heap.size < w2.heap.size := HMw2.out.lt 0 rfl
  have cr0 : w2.cell? ⟨w.heap.size, 0, none⟩ = some (.bool false) := HMw2.out.cell 0 rfl rfl
  have fr0 : w2.frozen? ⟨w.heap.size, 0, none⟩ = false := HMw2.out.free 0 rfl 0
  have cr1 : w2.cell? ⟨w.heap.size, 1, none⟩ = some (.int .u64 0) := HMw2.out.cell 0 rfl rfl
  have fr1 : w2.frozen? ⟨w.heap.size, 1, none⟩ = false := HMw2.out.free 0 rfl 1
  have cr2 : w2.cell? ⟨w.heap.size, 2, none⟩ = some (.int .u64 0) := HMw2.out.cell 0 rfl rfl
  have fr2 : w2.frozen? ⟨w.heap.size, 2, none⟩ = false := HMw2.out.free 0 rfl 2
  have cr3 : w2.cell? ⟨w.heap.size, 3, none⟩ = some (.bool false) := HMw2.out.cell 0 rfl rfl
  have fr3 : w2.frozen? ⟨w.heap.size, 3, none⟩ = false := HMw2.out.free 0 rfl 3
  have cr4 : w2.cell? ⟨w.heap.size, 4, none⟩ = some (.int .u64 0) := HMw2.out.cell 0 rfl rfl
  have fr4 : w2.frozen? ⟨w.heap.size, 4, none⟩ = false := HMw2.out.free 0 rfl 4
  have cr5 : w2.cell? ⟨w.heap.size, 5, none⟩ = some (.int .u64 0) := HMw2.out.cell 0 rfl rfl
  have fr5 : w2.frozen? ⟨w.heap.size, 5, none⟩ = false := HMw2.out.free 0 rfl 5
  go_wp2_with fail
  exact bodyPost_ret (v := .agg #[.bool A, .int .u64 (hi n : Nat), .int .u64 (lo n : Nat), .bool B, .int .u64 (hi m : Nat), .int .u64 (lo m : Nat)]) (by simp [results, Try.results23, go_sem, cr0, cr1, cr2, cr3, cr4, cr5]) rfl ⟨rfl, (((((((HMw2.out.set 0 0 (.bool A) rfl).set 0 1 (.int .u64 (hi n : Nat)) rfl).set 0 2 (.int .u64 (lo n : Nat)) rfl).set 0 3 (.bool B) rfl).set 0 4 (.int .u64 (hi m : Nat)) rfl).set 0 5 (.int .u64 (lo m : Nat)) rfl).to (l' := [(w.heap.size, #[.bool A, .int .u64 (hi n : Nat), .int .u64 (lo n : Nat), .bool B, .int .u64 (hi m : Nat), .int .u64 (lo m : Nat)])]) rfl).low⟩
/-- A fraction's cells. -/
def frC (n d : Int) : Array Value := #[.bool (decide (n < 0)), .int .u64 (hi (n).natAbs : Nat), .int .u64 (lo (n).natAbs : Nat), .bool (decide (d < 0)), .int .u64 (hi (d).natAbs : Nat), .int .u64 (lo (d).natAbs : Nat)]
theorem fof_any (a b : Int) (ha : IsInt a) (hb : IsInt b) (w : World) :
    Calls Try.prog 23 #[.int .i64 a, .int .i64 b] w fun en w' => en = .returned (.agg (frC a b)) ∧ Below w.heap.size w w' := by
  exact fof_core a b _ _ _ _ w (sof_any a ha) (sof_any b hb)
theorem ztimes_core (x y n : Nat) (A B : Bool) (c : Bool) (k l : Int) (w : World)
    (m1 : ∀ w, Calls Try.prog 53 #[.agg #[.int .u64 (hi x : Nat), .int .u64 (lo x : Nat)], .agg #[.int .u64 (hi y : Nat), .int .u64 (lo y : Nat)]] w fun en w' => en = .returned (.tuple #[.agg #[.int .u64 (hi n : Nat), .int .u64 (lo n : Nat)], .bool false]) ∧ Below w.heap.size w w')
    (m2 : ∀ w, Calls Try.prog 46 #[.bool (A != B), .agg #[.int .u64 (hi n : Nat), .int .u64 (lo n : Nat)]] w fun en w' => en = .returned (.agg #[.bool c, .int .u64 k, .int .u64 l]) ∧ Below w.heap.size w w') :
    Calls Try.prog 31 #[.agg #[.bool A, .int .u64 (hi x : Nat), .int .u64 (lo x : Nat)], .agg #[.bool B, .int .u64 (hi y : Nat), .int .u64 (lo y : Nat)]] w fun en w' => en = .returned (.agg #[.bool c, .int .u64 k, .int .u64 l]) ∧ Below w.heap.size w w' := by
  have M1 := Lib.hid m1; have M2 := Lib.hid m2
  clear m1 m2
  go_enter Try.func31, Try.ntmps31
  go_wp2_with fail
  refine (M1.out _).mono ?_
  rintro e w1 ⟨rfl, hb⟩
  have HMw1 := Lib.hid (((((Mem.start w).new w.heap.size _ _ rfl).new (w.heap.size + 1) _ _ (by simp)).new (w.heap.size + 1 + 1) _ _ (by simp)).call hb)
  clear hb
  have la : w.heap.size < w1.heap.size := HMw1.out.lt 2 rfl
  have ca0 : w1.cell? ⟨w.heap.size, 0, none⟩ = some (.bool A) := HMw1.out.cell 2 rfl rfl
  have lb : (w.heap.size + 1) < w1.heap.size := HMw1.out.lt 1 rfl
  have cb0 : w1.cell? ⟨(w.heap.size + 1), 0, none⟩ = some (.bool B) := HMw1.out.cell 1 rfl rfl
  go_wp2_with fail
  refine (M2.out _).mono ?_
  rintro e w2 ⟨rfl, hb⟩
  have HMw2 := Lib.hid ((HMw1.out.new w1.heap.size _ _ rfl).call hb)
  clear hb la ca0 lb cb0 HMw1
  have lr : (w.heap.size + 1 + 1) < w2.heap.size := HMw2.out.lt 1 rfl
  have cr0 : w2.cell? ⟨(w.heap.size + 1 + 1), 0, none⟩ = some (.bool false) := HMw2.out.cell 1 rfl rfl
  have fr0 : w2.frozen? ⟨(w.heap.size + 1 + 1), 0, none⟩ = false := HMw2.out.free 1 rfl 0
  have cr1 : w2.cell? ⟨(w.heap.size + 1 + 1), 1, none⟩ = some (.int .u64 0) := HMw2.out.cell 1 rfl rfl
  have fr1 : w2.frozen? ⟨(w.heap.size + 1 + 1), 1, none⟩ = false := HMw2.out.free 1 rfl 1
  have cr2 : w2.cell? ⟨(w.heap.size + 1 + 1), 2, none⟩ = some (.int .u64 0) := HMw2.out.cell 1 rfl rfl
  have fr2 : w2.frozen? ⟨(w.heap.size + 1 + 1), 2, none⟩ = false := HMw2.out.free 1 rfl 2
  go_wp2_with fail
  exact bodyPost_ret (v := .agg #[.bool c, .int .u64 k, .int .u64 l]) (by simp [results, Try.results31, go_sem, cr0, cr1, cr2]) rfl ⟨rfl, ((((HMw2.out.set 1 0 (.bool c) rfl).set 1 1 (.int .u64 k) rfl).set 1 2 (.int .u64 l) rfl).to (l' := [(w1.heap.size, #[.int .u64 (hi n : Nat), .int .u64 (lo n : Nat)]), ((w.heap.size + 1 + 1), #[.bool c, .int .u64 k, .int .u64 l]), ((w.heap.size + 1), #[.bool B, .int .u64 (hi y : Nat), .int .u64 (lo y : Nat)]), (w.heap.size, #[.bool A, .int .u64 (hi x : Nat), .int .u64 (lo x : Nat)])]) rfl).low⟩
theorem neg_mul_D (x y : Int) : sgn (decide (x < 0) != decide (y < 0)) (x.natAbs * y.natAbs) = x * y := by rw [← sgn_mul, sgn_abs, sgn_abs]
theorem ztimes_any (x y : Int) (h1 : x.natAbs < M128) (h2 : y.natAbs < M128) (h : x.natAbs * y.natAbs < M128) (w : World) :
    Calls Try.prog 31 #[zS x, zS y] w fun en w' => en = .returned (zS (x * y)) ∧ Below w.heap.size w w' := by
  have m2 := fun w => side_any (decide (x < 0) != decide (y < 0)) (x.natAbs * y.natAbs) w
  rw [neg_mul_D] at m2
  exact ztimes_core _ _ _ _ _ _ _ _ w (times_fit _ _ h1 h2 h) m2
theorem zplus_same_true (x y n : Nat) (c : Bool) (k l : Int) (w : World)
    (m1 : ∀ w, Calls Try.prog 54 #[.agg #[.int .u64 (hi x : Nat), .int .u64 (lo x : Nat)], .agg #[.int .u64 (hi y : Nat), .int .u64 (lo y : Nat)]] w fun en w' => en = .returned (.tuple #[.agg #[.int .u64 (hi n : Nat), .int .u64 (lo n : Nat)], .bool false]) ∧ Below w.heap.size w w')
    (m2 : ∀ w, Calls Try.prog 46 #[.bool true, .agg #[.int .u64 (hi n : Nat), .int .u64 (lo n : Nat)]] w fun en w' => en = .returned (.agg #[.bool c, .int .u64 k, .int .u64 l]) ∧ Below w.heap.size w w') :
    Calls Try.prog 33 #[.agg #[.bool true, .int .u64 (hi x : Nat), .int .u64 (lo x : Nat)], .agg #[.bool true, .int .u64 (hi y : Nat), .int .u64 (lo y : Nat)]] w fun en w' => en = .returned (.agg #[.bool c, .int .u64 k, .int .u64 l]) ∧ Below w.heap.size w w' := by
  have M1 := Lib.hid m1; have M2 := Lib.hid m2
  clear m1 m2
  go_enter Try.func33, Try.ntmps33
  go_wp2_with fail
  refine (M1.out _).mono ?_
  rintro e w1 ⟨rfl, hb⟩
  have HMw1 := Lib.hid (((((Mem.start w).new w.heap.size _ _ rfl).new (w.heap.size + 1) _ _ (by simp)).new (w.heap.size + 1 + 1) _ _ (by simp)).call hb)
  clear hb
  have la : w.heap.size < w1.heap.size := HMw1.out.lt 2 rfl
  have ca0 : w1.cell? ⟨w.heap.size, 0, none⟩ = some (.bool true) := HMw1.out.cell 2 rfl rfl
  go_wp2_with fail
  refine (M2.out _).mono ?_
  rintro e w2 ⟨rfl, hb⟩
  have HMw2 := Lib.hid ((HMw1.out.new w1.heap.size _ _ rfl).call hb)
  clear hb la ca0 HMw1
  have lr : (w.heap.size + 1 + 1) < w2.heap.size := HMw2.out.lt 1 rfl
  have cr0 : w2.cell? ⟨(w.heap.size + 1 + 1), 0, none⟩ = some (.bool false) := HMw2.out.cell 1 rfl rfl
  have fr0 : w2.frozen? ⟨(w.heap.size + 1 + 1), 0, none⟩ = false := HMw2.out.free 1 rfl 0
  have cr1 : w2.cell? ⟨(w.heap.size + 1 + 1), 1, none⟩ = some (.int .u64 0) := HMw2.out.cell 1 rfl rfl
  have fr1 : w2.frozen? ⟨(w.heap.size + 1 + 1), 1, none⟩ = false := HMw2.out.free 1 rfl 1
  have cr2 : w2.cell? ⟨(w.heap.size + 1 + 1), 2, none⟩ = some (.int .u64 0) := HMw2.out.cell 1 rfl rfl
  have fr2 : w2.frozen? ⟨(w.heap.size + 1 + 1), 2, none⟩ = false := HMw2.out.free 1 rfl 2
  go_wp2_with fail
  exact bodyPost_ret (v := .agg #[.bool c, .int .u64 k, .int .u64 l]) (by simp [results, Try.results33, go_sem, cr0, cr1, cr2]) rfl ⟨rfl, ((((HMw2.out.set 1 0 (.bool c) rfl).set 1 1 (.int .u64 k) rfl).set 1 2 (.int .u64 l) rfl).to (l' := [(w1.heap.size, #[.int .u64 (hi n : Nat), .int .u64 (lo n : Nat)]), ((w.heap.size + 1 + 1), #[.bool c, .int .u64 k, .int .u64 l]), ((w.heap.size + 1), #[.bool true, .int .u64 (hi y : Nat), .int .u64 (lo y : Nat)]), (w.heap.size, #[.bool true, .int .u64 (hi x : Nat), .int .u64 (lo x : Nat)])]) rfl).low⟩
theorem zplus_same_false (x y n : Nat) (c : Bool) (k l : Int) (w : World)
    (m1 : ∀ w, Calls Try.prog 54 #[.agg #[.int .u64 (hi x : Nat), .int .u64 (lo x : Nat)], .agg #[.int .u64 (hi y : Nat), .int .u64 (lo y : Nat)]] w fun en w' => en = .returned (.tuple #[.agg #[.int .u64 (hi n : Nat), .int .u64 (lo n : Nat)], .bool false]) ∧ Below w.heap.size w w')
    (m2 : ∀ w, Calls Try.prog 46 #[.bool false, .agg #[.int .u64 (hi n : Nat), .int .u64 (lo n : Nat)]] w fun en w' => en = .returned (.agg #[.bool c, .int .u64 k, .int .u64 l]) ∧ Below w.heap.size w w') :
    Calls Try.prog 33 #[.agg #[.bool false, .int .u64 (hi x : Nat), .int .u64 (lo x : Nat)], .agg #[.bool false, .int .u64 (hi y : Nat), .int .u64 (lo y : Nat)]] w fun en w' => en = .returned (.agg #[.bool c, .int .u64 k, .int .u64 l]) ∧ Below w.heap.size w w' := by
  have M1 := Lib.hid m1; have M2 := Lib.hid m2
  clear m1 m2
  go_enter Try.func33, Try.ntmps33
  go_wp2_with fail
  refine (M1.out _).mono ?_
  rintro e w1 ⟨rfl, hb⟩
  have HMw1 := Lib.hid (((((Mem.start w).new w.heap.size _ _ rfl).new (w.heap.size + 1) _ _ (by simp)).new (w.heap.size + 1 + 1) _ _ (by simp)).call hb)
  clear hb
  have la : w.heap.size < w1.heap.size := HMw1.out.lt 2 rfl
  have ca0 : w1.cell? ⟨w.heap.size, 0, none⟩ = some (.bool false) := HMw1.out.cell 2 rfl rfl
  go_wp2_with fail
  refine (M2.out _).mono ?_
  rintro e w2 ⟨rfl, hb⟩
  have HMw2 := Lib.hid ((HMw1.out.new w1.heap.size _ _ rfl).call hb)
  clear hb la ca0 HMw1
  have lr : (w.heap.size + 1 + 1) < w2.heap.size := HMw2.out.lt 1 rfl
  have cr0 : w2.cell? ⟨(w.heap.size + 1 + 1), 0, none⟩ = some (.bool false) := HMw2.out.cell 1 rfl rfl
  have fr0 : w2.frozen? ⟨(w.heap.size + 1 + 1), 0, none⟩ = false := HMw2.out.free 1 rfl 0
  have cr1 : w2.cell? ⟨(w.heap.size + 1 + 1), 1, none⟩ = some (.int .u64 0) := HMw2.out.cell 1 rfl rfl
  have fr1 : w2.frozen? ⟨(w.heap.size + 1 + 1), 1, none⟩ = false := HMw2.out.free 1 rfl 1
  have cr2 : w2.cell? ⟨(w.heap.size + 1 + 1), 2, none⟩ = some (.int .u64 0) := HMw2.out.cell 1 rfl rfl
  have fr2 : w2.frozen? ⟨(w.heap.size + 1 + 1), 2, none⟩ = false := HMw2.out.free 1 rfl 2
  go_wp2_with fail
  exact bodyPost_ret (v := .agg #[.bool c, .int .u64 k, .int .u64 l]) (by simp [results, Try.results33, go_sem, cr0, cr1, cr2]) rfl ⟨rfl, ((((HMw2.out.set 1 0 (.bool c) rfl).set 1 1 (.int .u64 k) rfl).set 1 2 (.int .u64 l) rfl).to (l' := [(w1.heap.size, #[.int .u64 (hi n : Nat), .int .u64 (lo n : Nat)]), ((w.heap.size + 1 + 1), #[.bool c, .int .u64 k, .int .u64 l]), ((w.heap.size + 1), #[.bool false, .int .u64 (hi y : Nat), .int .u64 (lo y : Nat)]), (w.heap.size, #[.bool false, .int .u64 (hi x : Nat), .int .u64 (lo x : Nat)])]) rfl).low⟩
theorem zplus_true_true (x y n : Nat) (c : Bool) (k l : Int) (w : World)
    (m0 : ∀ w, Calls Try.prog 55 #[.agg #[.int .u64 (hi x : Nat), .int .u64 (lo x : Nat)], .agg #[.int .u64 (hi y : Nat), .int .u64 (lo y : Nat)]] w fun en w' => en = .returned (.bool true) ∧ Below w.heap.size w w')
    (m1 : ∀ w, Calls Try.prog 56 #[.agg #[.int .u64 (hi y : Nat), .int .u64 (lo y : Nat)], .agg #[.int .u64 (hi x : Nat), .int .u64 (lo x : Nat)]] w fun en w' => en = .returned (.tuple #[.agg #[.int .u64 (hi n : Nat), .int .u64 (lo n : Nat)], .bool false]) ∧ Below w.heap.size w w')
    (m2 : ∀ w, Calls Try.prog 46 #[.bool false, .agg #[.int .u64 (hi n : Nat), .int .u64 (lo n : Nat)]] w fun en w' => en = .returned (.agg #[.bool c, .int .u64 k, .int .u64 l]) ∧ Below w.heap.size w w') :
    Calls Try.prog 33 #[.agg #[.bool true, .int .u64 (hi x : Nat), .int .u64 (lo x : Nat)], .agg #[.bool false, .int .u64 (hi y : Nat), .int .u64 (lo y : Nat)]] w fun en w' => en = .returned (.agg #[.bool c, .int .u64 k, .int .u64 l]) ∧ Below w.heap.size w w' := by
  have M0 := Lib.hid m0; have M1 := Lib.hid m1; have M2 := Lib.hid m2
  clear m0 m1 m2
  go_enter Try.func33, Try.ntmps33
  go_wp2_with fail
  refine (M0.out _).mono ?_
  rintro e w1 ⟨rfl, hb⟩
  have HMw1 := Lib.hid (((((Mem.start w).new w.heap.size _ _ rfl).new (w.heap.size + 1) _ _ (by simp)).new (w.heap.size + 1 + 1) _ _ (by simp)).call hb)
  clear hb
  have la : w.heap.size < w1.heap.size := HMw1.out.lt 2 rfl
  have ca0 : w1.cell? ⟨w.heap.size, 0, none⟩ = some (.bool true) := HMw1.out.cell 2 rfl rfl
  have fa0 : w1.frozen? ⟨w.heap.size, 0, none⟩ = false := HMw1.out.free 2 rfl 0
  have ca1 : w1.cell? ⟨w.heap.size, 1, none⟩ = some (.int .u64 (hi x : Nat)) := HMw1.out.cell 2 rfl rfl
  have fa1 : w1.frozen? ⟨w.heap.size, 1, none⟩ = false := HMw1.out.free 2 rfl 1
  have ca2 : w1.cell? ⟨w.heap.size, 2, none⟩ = some (.int .u64 (lo x : Nat)) := HMw1.out.cell 2 rfl rfl
  have fa2 : w1.frozen? ⟨w.heap.size, 2, none⟩ = false := HMw1.out.free 2 rfl 2
  have lb : (w.heap.size + 1) < w1.heap.size := HMw1.out.lt 1 rfl
  have cb0 : w1.cell? ⟨(w.heap.size + 1), 0, none⟩ = some (.bool false) := HMw1.out.cell 1 rfl rfl
  have fb0 : w1.frozen? ⟨(w.heap.size + 1), 0, none⟩ = false := HMw1.out.free 1 rfl 0
  have cb1 : w1.cell? ⟨(w.heap.size + 1), 1, none⟩ = some (.int .u64 (hi y : Nat)) := HMw1.out.cell 1 rfl rfl
  have fb1 : w1.frozen? ⟨(w.heap.size + 1), 1, none⟩ = false := HMw1.out.free 1 rfl 1
  have cb2 : w1.cell? ⟨(w.heap.size + 1), 2, none⟩ = some (.int .u64 (lo y : Nat)) := HMw1.out.cell 1 rfl rfl
  have fb2 : w1.frozen? ⟨(w.heap.size + 1), 2, none⟩ = false := HMw1.out.free 1 rfl 2
  have nab : w.heap.size ≠ (w.heap.size + 1) := HMw1.out.apart 2 1 rfl rfl (by decide)
  go_wp2_with fail
  refine (M1.out _).mono ?_
  rintro e w2 ⟨rfl, hb⟩
  have HMw2 := Lib.hid ((((((((HMw1.out.set 2 0 (.bool false) rfl).set 2 1 (.int .u64 (hi y : Nat)) rfl).set 2 2 (.int .u64 (lo y : Nat)) rfl).set 1 0 (.bool true) rfl).set 1 1 (.int .u64 (hi x : Nat)) rfl).set 1 2 (.int .u64 (lo x : Nat)) rfl).to (l' := [((w.heap.size + 1 + 1), #[.bool false, .int .u64 0, .int .u64 0]), ((w.heap.size + 1), #[.bool true, .int .u64 (hi x : Nat), .int .u64 (lo x : Nat)]), (w.heap.size, #[.bool false, .int .u64 (hi y : Nat), .int .u64 (lo y : Nat)])]) rfl).call hb)
  clear hb la ca0 fa0 ca1 fa1 ca2 fa2 lb cb0 fb0 cb1 fb1 cb2 fb2 nab HMw1
  have la : w.heap.size < w2.heap.size := HMw2.out.lt 2 rfl
  have ca0 : w2.cell? ⟨w.heap.size, 0, none⟩ = some (.bool false) := HMw2.out.cell 2 rfl rfl
  go_wp2_with fail
  refine (M2.out _).mono ?_
  rintro e w3 ⟨rfl, hb⟩
  have HMw3 := Lib.hid ((HMw2.out.new w2.heap.size _ _ rfl).call hb)
  clear hb la ca0 HMw2
  have lr : (w.heap.size + 1 + 1) < w3.heap.size := HMw3.out.lt 1 rfl
  have cr0 : w3.cell? ⟨(w.heap.size + 1 + 1), 0, none⟩ = some (.bool false) := HMw3.out.cell 1 rfl rfl
  have fr0 : w3.frozen? ⟨(w.heap.size + 1 + 1), 0, none⟩ = false := HMw3.out.free 1 rfl 0
  have cr1 : w3.cell? ⟨(w.heap.size + 1 + 1), 1, none⟩ = some (.int .u64 0) := HMw3.out.cell 1 rfl rfl
  have fr1 : w3.frozen? ⟨(w.heap.size + 1 + 1), 1, none⟩ = false := HMw3.out.free 1 rfl 1
  have cr2 : w3.cell? ⟨(w.heap.size + 1 + 1), 2, none⟩ = some (.int .u64 0) := HMw3.out.cell 1 rfl rfl
  have fr2 : w3.frozen? ⟨(w.heap.size + 1 + 1), 2, none⟩ = false := HMw3.out.free 1 rfl 2
  go_wp2_with fail
  exact bodyPost_ret (v := .agg #[.bool c, .int .u64 k, .int .u64 l]) (by simp [results, Try.results33, go_sem, cr0, cr1, cr2]) rfl ⟨rfl, ((((HMw3.out.set 1 0 (.bool c) rfl).set 1 1 (.int .u64 k) rfl).set 1 2 (.int .u64 l) rfl).to (l' := [(w2.heap.size, #[.int .u64 (hi n : Nat), .int .u64 (lo n : Nat)]), ((w.heap.size + 1 + 1), #[.bool c, .int .u64 k, .int .u64 l]), ((w.heap.size + 1), #[.bool true, .int .u64 (hi x : Nat), .int .u64 (lo x : Nat)]), (w.heap.size, #[.bool false, .int .u64 (hi y : Nat), .int .u64 (lo y : Nat)])]) rfl).low⟩
theorem zplus_true_false (x y n : Nat) (c : Bool) (k l : Int) (w : World)
    (m0 : ∀ w, Calls Try.prog 55 #[.agg #[.int .u64 (hi x : Nat), .int .u64 (lo x : Nat)], .agg #[.int .u64 (hi y : Nat), .int .u64 (lo y : Nat)]] w fun en w' => en = .returned (.bool false) ∧ Below w.heap.size w w')
    (m1 : ∀ w, Calls Try.prog 56 #[.agg #[.int .u64 (hi x : Nat), .int .u64 (lo x : Nat)], .agg #[.int .u64 (hi y : Nat), .int .u64 (lo y : Nat)]] w fun en w' => en = .returned (.tuple #[.agg #[.int .u64 (hi n : Nat), .int .u64 (lo n : Nat)], .bool false]) ∧ Below w.heap.size w w')
    (m2 : ∀ w, Calls Try.prog 46 #[.bool true, .agg #[.int .u64 (hi n : Nat), .int .u64 (lo n : Nat)]] w fun en w' => en = .returned (.agg #[.bool c, .int .u64 k, .int .u64 l]) ∧ Below w.heap.size w w') :
    Calls Try.prog 33 #[.agg #[.bool true, .int .u64 (hi x : Nat), .int .u64 (lo x : Nat)], .agg #[.bool false, .int .u64 (hi y : Nat), .int .u64 (lo y : Nat)]] w fun en w' => en = .returned (.agg #[.bool c, .int .u64 k, .int .u64 l]) ∧ Below w.heap.size w w' := by
  have M0 := Lib.hid m0; have M1 := Lib.hid m1; have M2 := Lib.hid m2
  clear m0 m1 m2
  go_enter Try.func33, Try.ntmps33
  go_wp2_with fail
  refine (M0.out _).mono ?_
  rintro e w1 ⟨rfl, hb⟩
  have HMw1 := Lib.hid (((((Mem.start w).new w.heap.size _ _ rfl).new (w.heap.size + 1) _ _ (by simp)).new (w.heap.size + 1 + 1) _ _ (by simp)).call hb)
  clear hb
  have la : w.heap.size < w1.heap.size := HMw1.out.lt 2 rfl
  have ca0 : w1.cell? ⟨w.heap.size, 0, none⟩ = some (.bool true) := HMw1.out.cell 2 rfl rfl
  have ca1 : w1.cell? ⟨w.heap.size, 1, none⟩ = some (.int .u64 (hi x : Nat)) := HMw1.out.cell 2 rfl rfl
  have ca2 : w1.cell? ⟨w.heap.size, 2, none⟩ = some (.int .u64 (lo x : Nat)) := HMw1.out.cell 2 rfl rfl
  have lb : (w.heap.size + 1) < w1.heap.size := HMw1.out.lt 1 rfl
  have cb0 : w1.cell? ⟨(w.heap.size + 1), 0, none⟩ = some (.bool false) := HMw1.out.cell 1 rfl rfl
  have cb1 : w1.cell? ⟨(w.heap.size + 1), 1, none⟩ = some (.int .u64 (hi y : Nat)) := HMw1.out.cell 1 rfl rfl
  have cb2 : w1.cell? ⟨(w.heap.size + 1), 2, none⟩ = some (.int .u64 (lo y : Nat)) := HMw1.out.cell 1 rfl rfl
  go_wp2_with fail
  refine (M1.out _).mono ?_
  rintro e w2 ⟨rfl, hb⟩
  have HMw2 := Lib.hid (HMw1.out.call hb)
  clear hb la ca0 ca1 ca2 lb cb0 cb1 cb2 HMw1
  have la : w.heap.size < w2.heap.size := HMw2.out.lt 2 rfl
  have ca0 : w2.cell? ⟨w.heap.size, 0, none⟩ = some (.bool true) := HMw2.out.cell 2 rfl rfl
  go_wp2_with fail
  refine (M2.out _).mono ?_
  rintro e w3 ⟨rfl, hb⟩
  have HMw3 := Lib.hid ((HMw2.out.new w2.heap.size _ _ rfl).call hb)
  clear hb la ca0 HMw2
  have lr : (w.heap.size + 1 + 1) < w3.heap.size := HMw3.out.lt 1 rfl
  have cr0 : w3.cell? ⟨(w.heap.size + 1 + 1), 0, none⟩ = some (.bool false) := HMw3.out.cell 1 rfl rfl
  have fr0 : w3.frozen? ⟨(w.heap.size + 1 + 1), 0, none⟩ = false := HMw3.out.free 1 rfl 0
  have cr1 : w3.cell? ⟨(w.heap.size + 1 + 1), 1, none⟩ = some (.int .u64 0) := HMw3.out.cell 1 rfl rfl
  have fr1 : w3.frozen? ⟨(w.heap.size + 1 + 1), 1, none⟩ = false := HMw3.out.free 1 rfl 1
  have cr2 : w3.cell? ⟨(w.heap.size + 1 + 1), 2, none⟩ = some (.int .u64 0) := HMw3.out.cell 1 rfl rfl
  have fr2 : w3.frozen? ⟨(w.heap.size + 1 + 1), 2, none⟩ = false := HMw3.out.free 1 rfl 2
  go_wp2_with fail
  exact bodyPost_ret (v := .agg #[.bool c, .int .u64 k, .int .u64 l]) (by simp [results, Try.results33, go_sem, cr0, cr1, cr2]) rfl ⟨rfl, ((((HMw3.out.set 1 0 (.bool c) rfl).set 1 1 (.int .u64 k) rfl).set 1 2 (.int .u64 l) rfl).to (l' := [(w2.heap.size, #[.int .u64 (hi n : Nat), .int .u64 (lo n : Nat)]), ((w.heap.size + 1 + 1), #[.bool c, .int .u64 k, .int .u64 l]), ((w.heap.size + 1), #[.bool false, .int .u64 (hi y : Nat), .int .u64 (lo y : Nat)]), (w.heap.size, #[.bool true, .int .u64 (hi x : Nat), .int .u64 (lo x : Nat)])]) rfl).low⟩
theorem zplus_false_true (x y n : Nat) (c : Bool) (k l : Int) (w : World)
    (m0 : ∀ w, Calls Try.prog 55 #[.agg #[.int .u64 (hi x : Nat), .int .u64 (lo x : Nat)], .agg #[.int .u64 (hi y : Nat), .int .u64 (lo y : Nat)]] w fun en w' => en = .returned (.bool true) ∧ Below w.heap.size w w')
    (m1 : ∀ w, Calls Try.prog 56 #[.agg #[.int .u64 (hi y : Nat), .int .u64 (lo y : Nat)], .agg #[.int .u64 (hi x : Nat), .int .u64 (lo x : Nat)]] w fun en w' => en = .returned (.tuple #[.agg #[.int .u64 (hi n : Nat), .int .u64 (lo n : Nat)], .bool false]) ∧ Below w.heap.size w w')
    (m2 : ∀ w, Calls Try.prog 46 #[.bool true, .agg #[.int .u64 (hi n : Nat), .int .u64 (lo n : Nat)]] w fun en w' => en = .returned (.agg #[.bool c, .int .u64 k, .int .u64 l]) ∧ Below w.heap.size w w') :
    Calls Try.prog 33 #[.agg #[.bool false, .int .u64 (hi x : Nat), .int .u64 (lo x : Nat)], .agg #[.bool true, .int .u64 (hi y : Nat), .int .u64 (lo y : Nat)]] w fun en w' => en = .returned (.agg #[.bool c, .int .u64 k, .int .u64 l]) ∧ Below w.heap.size w w' := by
  have M0 := Lib.hid m0; have M1 := Lib.hid m1; have M2 := Lib.hid m2
  clear m0 m1 m2
  go_enter Try.func33, Try.ntmps33
  go_wp2_with fail
  refine (M0.out _).mono ?_
  rintro e w1 ⟨rfl, hb⟩
  have HMw1 := Lib.hid (((((Mem.start w).new w.heap.size _ _ rfl).new (w.heap.size + 1) _ _ (by simp)).new (w.heap.size + 1 + 1) _ _ (by simp)).call hb)
  clear hb
  have la : w.heap.size < w1.heap.size := HMw1.out.lt 2 rfl
  have ca0 : w1.cell? ⟨w.heap.size, 0, none⟩ = some (.bool false) := HMw1.out.cell 2 rfl rfl
  have fa0 : w1.frozen? ⟨w.heap.size, 0, none⟩ = false := HMw1.out.free 2 rfl 0
  have ca1 : w1.cell? ⟨w.heap.size, 1, none⟩ = some (.int .u64 (hi x : Nat)) := HMw1.out.cell 2 rfl rfl
  have fa1 : w1.frozen? ⟨w.heap.size, 1, none⟩ = false := HMw1.out.free 2 rfl 1
  have ca2 : w1.cell? ⟨w.heap.size, 2, none⟩ = some (.int .u64 (lo x : Nat)) := HMw1.out.cell 2 rfl rfl
  have fa2 : w1.frozen? ⟨w.heap.size, 2, none⟩ = false := HMw1.out.free 2 rfl 2
  have lb : (w.heap.size + 1) < w1.heap.size := HMw1.out.lt 1 rfl
  have cb0 : w1.cell? ⟨(w.heap.size + 1), 0, none⟩ = some (.bool true) := HMw1.out.cell 1 rfl rfl
  have fb0 : w1.frozen? ⟨(w.heap.size + 1), 0, none⟩ = false := HMw1.out.free 1 rfl 0
  have cb1 : w1.cell? ⟨(w.heap.size + 1), 1, none⟩ = some (.int .u64 (hi y : Nat)) := HMw1.out.cell 1 rfl rfl
  have fb1 : w1.frozen? ⟨(w.heap.size + 1), 1, none⟩ = false := HMw1.out.free 1 rfl 1
  have cb2 : w1.cell? ⟨(w.heap.size + 1), 2, none⟩ = some (.int .u64 (lo y : Nat)) := HMw1.out.cell 1 rfl rfl
  have fb2 : w1.frozen? ⟨(w.heap.size + 1), 2, none⟩ = false := HMw1.out.free 1 rfl 2
  have nab : w.heap.size ≠ (w.heap.size + 1) := HMw1.out.apart 2 1 rfl rfl (by decide)
  go_wp2_with fail
  refine (M1.out _).mono ?_
  rintro e w2 ⟨rfl, hb⟩
  have HMw2 := Lib.hid ((((((((HMw1.out.set 2 0 (.bool true) rfl).set 2 1 (.int .u64 (hi y : Nat)) rfl).set 2 2 (.int .u64 (lo y : Nat)) rfl).set 1 0 (.bool false) rfl).set 1 1 (.int .u64 (hi x : Nat)) rfl).set 1 2 (.int .u64 (lo x : Nat)) rfl).to (l' := [((w.heap.size + 1 + 1), #[.bool false, .int .u64 0, .int .u64 0]), ((w.heap.size + 1), #[.bool false, .int .u64 (hi x : Nat), .int .u64 (lo x : Nat)]), (w.heap.size, #[.bool true, .int .u64 (hi y : Nat), .int .u64 (lo y : Nat)])]) rfl).call hb)
  clear hb la ca0 fa0 ca1 fa1 ca2 fa2 lb cb0 fb0 cb1 fb1 cb2 fb2 nab HMw1
  have la : w.heap.size < w2.heap.size := HMw2.out.lt 2 rfl
  have ca0 : w2.cell? ⟨w.heap.size, 0, none⟩ = some (.bool true) := HMw2.out.cell 2 rfl rfl
  go_wp2_with fail
  refine (M2.out _).mono ?_
  rintro e w3 ⟨rfl, hb⟩
  have HMw3 := Lib.hid ((HMw2.out.new w2.heap.size _ _ rfl).call hb)
  clear hb la ca0 HMw2
  have lr : (w.heap.size + 1 + 1) < w3.heap.size := HMw3.out.lt 1 rfl
  have cr0 : w3.cell? ⟨(w.heap.size + 1 + 1), 0, none⟩ = some (.bool false) := HMw3.out.cell 1 rfl rfl
  have fr0 : w3.frozen? ⟨(w.heap.size + 1 + 1), 0, none⟩ = false := HMw3.out.free 1 rfl 0
  have cr1 : w3.cell? ⟨(w.heap.size + 1 + 1), 1, none⟩ = some (.int .u64 0) := HMw3.out.cell 1 rfl rfl
  have fr1 : w3.frozen? ⟨(w.heap.size + 1 + 1), 1, none⟩ = false := HMw3.out.free 1 rfl 1
  have cr2 : w3.cell? ⟨(w.heap.size + 1 + 1), 2, none⟩ = some (.int .u64 0) := HMw3.out.cell 1 rfl rfl
  have fr2 : w3.frozen? ⟨(w.heap.size + 1 + 1), 2, none⟩ = false := HMw3.out.free 1 rfl 2
  go_wp2_with fail
  exact bodyPost_ret (v := .agg #[.bool c, .int .u64 k, .int .u64 l]) (by simp [results, Try.results33, go_sem, cr0, cr1, cr2]) rfl ⟨rfl, ((((HMw3.out.set 1 0 (.bool c) rfl).set 1 1 (.int .u64 k) rfl).set 1 2 (.int .u64 l) rfl).to (l' := [(w2.heap.size, #[.int .u64 (hi n : Nat), .int .u64 (lo n : Nat)]), ((w.heap.size + 1 + 1), #[.bool c, .int .u64 k, .int .u64 l]), ((w.heap.size + 1), #[.bool false, .int .u64 (hi x : Nat), .int .u64 (lo x : Nat)]), (w.heap.size, #[.bool true, .int .u64 (hi y : Nat), .int .u64 (lo y : Nat)])]) rfl).low⟩
theorem zplus_false_false (x y n : Nat) (c : Bool) (k l : Int) (w : World)
    (m0 : ∀ w, Calls Try.prog 55 #[.agg #[.int .u64 (hi x : Nat), .int .u64 (lo x : Nat)], .agg #[.int .u64 (hi y : Nat), .int .u64 (lo y : Nat)]] w fun en w' => en = .returned (.bool false) ∧ Below w.heap.size w w')
    (m1 : ∀ w, Calls Try.prog 56 #[.agg #[.int .u64 (hi x : Nat), .int .u64 (lo x : Nat)], .agg #[.int .u64 (hi y : Nat), .int .u64 (lo y : Nat)]] w fun en w' => en = .returned (.tuple #[.agg #[.int .u64 (hi n : Nat), .int .u64 (lo n : Nat)], .bool false]) ∧ Below w.heap.size w w')
    (m2 : ∀ w, Calls Try.prog 46 #[.bool false, .agg #[.int .u64 (hi n : Nat), .int .u64 (lo n : Nat)]] w fun en w' => en = .returned (.agg #[.bool c, .int .u64 k, .int .u64 l]) ∧ Below w.heap.size w w') :
    Calls Try.prog 33 #[.agg #[.bool false, .int .u64 (hi x : Nat), .int .u64 (lo x : Nat)], .agg #[.bool true, .int .u64 (hi y : Nat), .int .u64 (lo y : Nat)]] w fun en w' => en = .returned (.agg #[.bool c, .int .u64 k, .int .u64 l]) ∧ Below w.heap.size w w' := by
  have M0 := Lib.hid m0; have M1 := Lib.hid m1; have M2 := Lib.hid m2
  clear m0 m1 m2
  go_enter Try.func33, Try.ntmps33
  go_wp2_with fail
  refine (M0.out _).mono ?_
  rintro e w1 ⟨rfl, hb⟩
  have HMw1 := Lib.hid (((((Mem.start w).new w.heap.size _ _ rfl).new (w.heap.size + 1) _ _ (by simp)).new (w.heap.size + 1 + 1) _ _ (by simp)).call hb)
  clear hb
  have la : w.heap.size < w1.heap.size := HMw1.out.lt 2 rfl
  have ca0 : w1.cell? ⟨w.heap.size, 0, none⟩ = some (.bool false) := HMw1.out.cell 2 rfl rfl
  have ca1 : w1.cell? ⟨w.heap.size, 1, none⟩ = some (.int .u64 (hi x : Nat)) := HMw1.out.cell 2 rfl rfl
  have ca2 : w1.cell? ⟨w.heap.size, 2, none⟩ = some (.int .u64 (lo x : Nat)) := HMw1.out.cell 2 rfl rfl
  have lb : (w.heap.size + 1) < w1.heap.size := HMw1.out.lt 1 rfl
  have cb0 : w1.cell? ⟨(w.heap.size + 1), 0, none⟩ = some (.bool true) := HMw1.out.cell 1 rfl rfl
  have cb1 : w1.cell? ⟨(w.heap.size + 1), 1, none⟩ = some (.int .u64 (hi y : Nat)) := HMw1.out.cell 1 rfl rfl
  have cb2 : w1.cell? ⟨(w.heap.size + 1), 2, none⟩ = some (.int .u64 (lo y : Nat)) := HMw1.out.cell 1 rfl rfl
  go_wp2_with fail
  refine (M1.out _).mono ?_
  rintro e w2 ⟨rfl, hb⟩
  have HMw2 := Lib.hid (HMw1.out.call hb)
  clear hb la ca0 ca1 ca2 lb cb0 cb1 cb2 HMw1
  have la : w.heap.size < w2.heap.size := HMw2.out.lt 2 rfl
  have ca0 : w2.cell? ⟨w.heap.size, 0, none⟩ = some (.bool false) := HMw2.out.cell 2 rfl rfl
  go_wp2_with fail
  refine (M2.out _).mono ?_
  rintro e w3 ⟨rfl, hb⟩
  have HMw3 := Lib.hid ((HMw2.out.new w2.heap.size _ _ rfl).call hb)
  clear hb la ca0 HMw2
  have lr : (w.heap.size + 1 + 1) < w3.heap.size := HMw3.out.lt 1 rfl
  have cr0 : w3.cell? ⟨(w.heap.size + 1 + 1), 0, none⟩ = some (.bool false) := HMw3.out.cell 1 rfl rfl
  have fr0 : w3.frozen? ⟨(w.heap.size + 1 + 1), 0, none⟩ = false := HMw3.out.free 1 rfl 0
  have cr1 : w3.cell? ⟨(w.heap.size + 1 + 1), 1, none⟩ = some (.int .u64 0) := HMw3.out.cell 1 rfl rfl
  have fr1 : w3.frozen? ⟨(w.heap.size + 1 + 1), 1, none⟩ = false := HMw3.out.free 1 rfl 1
  have cr2 : w3.cell? ⟨(w.heap.size + 1 + 1), 2, none⟩ = some (.int .u64 0) := HMw3.out.cell 1 rfl rfl
  have fr2 : w3.frozen? ⟨(w.heap.size + 1 + 1), 2, none⟩ = false := HMw3.out.free 1 rfl 2
  go_wp2_with fail
  exact bodyPost_ret (v := .agg #[.bool c, .int .u64 k, .int .u64 l]) (by simp [results, Try.results33, go_sem, cr0, cr1, cr2]) rfl ⟨rfl, ((((HMw3.out.set 1 0 (.bool c) rfl).set 1 1 (.int .u64 k) rfl).set 1 2 (.int .u64 l) rfl).to (l' := [(w2.heap.size, #[.int .u64 (hi n : Nat), .int .u64 (lo n : Nat)]), ((w.heap.size + 1 + 1), #[.bool c, .int .u64 k, .int .u64 l]), ((w.heap.size + 1), #[.bool true, .int .u64 (hi y : Nat), .int .u64 (lo y : Nat)]), (w.heap.size, #[.bool false, .int .u64 (hi x : Nat), .int .u64 (lo x : Nat)])]) rfl).low⟩
theorem sub_told (x y : Nat) (hx : x < M128) (hy : y < M128) (h : y ≤ x) (w : World) :
    Calls Try.prog 56 #[.agg #[.int .u64 (hi x : Nat), .int .u64 (lo x : Nat)], .agg #[.int .u64 (hi y : Nat), .int .u64 (lo y : Nat)]] w fun en w' => en = .returned (.tuple #[.agg #[.int .u64 (hi (x - y) : Nat), .int .u64 (lo (x - y) : Nat)], .bool false]) ∧ Below w.heap.size w w' := by
  have := sub_num x y hx hy w
  rwa [subW_fit _ _ h hx, show ltW x y = false from decide_eq_false (by omega)] at this
theorem zplus_any (x y : Int) (hx : x.natAbs + y.natAbs < M128) (w : World) :
    Calls Try.prog 33 #[zS x, zS y] w fun en w' => en = .returned (zS (x + y)) ∧ Below w.heap.size w w' := by
  have h1 : x.natAbs < M128 := by omega
  have h2 : y.natAbs < M128 := by omega
  have hL := fun w => less_num x.natAbs y.natAbs h1 h2 w
  by_cases a : x < 0 <;> by_cases b : y < 0
  · have m2 := fun w => side_any true (x.natAbs + y.natAbs) w
    rw [show sgn true (x.natAbs + y.natAbs) = x + y by unfold sgn; rw [if_pos rfl]; omega] at m2
    unfold zS at m2 ⊢
    rw [decide_eq_true a, decide_eq_true b]
    exact zplus_same_true _ _ _ _ _ _ w (add_fit _ _ hx) m2
  · by_cases c : x.natAbs < y.natAbs
    · have m2 := fun w => side_any false (y.natAbs - x.natAbs) w
      rw [show sgn false (y.natAbs - x.natAbs) = x + y by unfold sgn; rw [if_neg (by decide)]; omega] at m2
      unfold zS at m2 ⊢
      rw [show ltW x.natAbs y.natAbs = true from decide_eq_true c] at hL
      rw [decide_eq_true a, decide_eq_false b]
      exact zplus_true_true _ _ _ _ _ _ w hL (sub_told _ _ h2 h1 (by omega)) m2
    · have m2 := fun w => side_any true (x.natAbs - y.natAbs) w
      rw [show sgn true (x.natAbs - y.natAbs) = x + y by unfold sgn; rw [if_pos rfl]; omega] at m2
      unfold zS at m2 ⊢
      rw [show ltW x.natAbs y.natAbs = false from decide_eq_false c] at hL
      rw [decide_eq_true a, decide_eq_false b]
      exact zplus_true_false _ _ _ _ _ _ w hL (sub_told _ _ h1 h2 (by omega)) m2
  · by_cases c : x.natAbs < y.natAbs
    · have m2 := fun w => side_any true (y.natAbs - x.natAbs) w
      rw [show sgn true (y.natAbs - x.natAbs) = x + y by unfold sgn; rw [if_pos rfl]; omega] at m2
      unfold zS at m2 ⊢
      rw [show ltW x.natAbs y.natAbs = true from decide_eq_true c] at hL
      rw [decide_eq_false a, decide_eq_true b]
      exact zplus_false_true _ _ _ _ _ _ w hL (sub_told _ _ h2 h1 (by omega)) m2
    · have m2 := fun w => side_any false (x.natAbs - y.natAbs) w
      rw [show sgn false (x.natAbs - y.natAbs) = x + y by unfold sgn; rw [if_neg (by decide)]; omega] at m2
      unfold zS at m2 ⊢
      rw [show ltW x.natAbs y.natAbs = false from decide_eq_false c] at hL
      rw [decide_eq_false a, decide_eq_true b]
      exact zplus_false_false _ _ _ _ _ _ w hL (sub_told _ _ h1 h2 (by omega)) m2
  · have m2 := fun w => side_any false (x.natAbs + y.natAbs) w
    rw [show sgn false (x.natAbs + y.natAbs) = x + y by unfold sgn; rw [if_neg (by decide)]; omega] at m2
    unfold zS at m2 ⊢
    rw [decide_eq_false a, decide_eq_false b]
    exact zplus_same_false _ _ _ _ _ _ w (add_fit _ _ hx) m2
theorem order_less (x y r : Nat) (A B E : Bool) (k l : Int) (w : World)
    (m1 : ∀ w, Calls Try.prog 46 #[.bool (!B), .agg #[.int .u64 (hi y : Nat), .int .u64 (lo y : Nat)]] w fun en w' => en = .returned (.agg #[.bool E, .int .u64 k, .int .u64 l]) ∧ Below w.heap.size w w')
    (m2 : ∀ w, Calls Try.prog 33 #[.agg #[.bool A, .int .u64 (hi x : Nat), .int .u64 (lo x : Nat)], .agg #[.bool E, .int .u64 k, .int .u64 l]] w fun en w' => en = .returned (.agg #[.bool true, .int .u64 (hi r : Nat), .int .u64 (lo r : Nat)]) ∧ Below w.heap.size w w') :
    Calls Try.prog 32 #[.agg #[.bool A, .int .u64 (hi x : Nat), .int .u64 (lo x : Nat)], .agg #[.bool B, .int .u64 (hi y : Nat), .int .u64 (lo y : Nat)]] w fun en w' => en = .returned (.int .i64 (-1)) ∧ Below w.heap.size w w' := by
  have M1 := Lib.hid m1; have M2 := Lib.hid m2
  clear m1 m2
  go_enter Try.func32, Try.ntmps32
  go_upto_region 1 with fail
  obtain ⟨W1x, hW1x⟩ : ∃ W1x, ((w.alloc (.cells #[.bool A, .int .u64 (hi x : Nat), .int .u64 (lo x : Nat)] 50)).alloc (.cells #[.bool B, .int .u64 (hi y : Nat), .int .u64 (lo y : Nat)] 50)) = W1x := ⟨_, rfl⟩
  have hm : Mem w W1x [((w.heap.size + 1), #[.bool B, .int .u64 (hi y : Nat), .int .u64 (lo y : Nat)]), (w.heap.size, #[.bool A, .int .u64 (hi x : Nat), .int .u64 (lo x : Nat)])] := by rw [← hW1x]; exact (((Mem.start w).new w.heap.size _ _ rfl).new (w.heap.size + 1) _ _ (by simp))
  rw [hW1x]
  clear hW1x
  have mk : ∀ w', Mem w w' [((w.heap.size + 1), #[.bool B, .int .u64 (hi y : Nat), .int .u64 (lo y : Nat)]), (w.heap.size, #[.bool A, .int .u64 (hi x : Nat), .int .u64 (lo x : Nat)])] → (fun w' => w'.cell? ⟨w.heap.size, 0, none⟩ = some (.bool A) ∧ w'.cell? ⟨w.heap.size, 1, none⟩ = some (.int .u64 (hi x : Nat)) ∧ w'.cell? ⟨w.heap.size, 2, none⟩ = some (.int .u64 (lo x : Nat)) ∧ w'.cell? ⟨(w.heap.size + 1), 0, none⟩ = some (.bool B) ∧ w'.cell? ⟨(w.heap.size + 1), 1, none⟩ = some (.int .u64 (hi y : Nat)) ∧ w'.cell? ⟨(w.heap.size + 1), 2, none⟩ = some (.int .u64 (lo y : Nat)) ∧ Hid (Mem w w' [((w.heap.size + 1), #[.bool B, .int .u64 (hi y : Nat), .int .u64 (lo y : Nat)]), (w.heap.size, #[.bool A, .int .u64 (hi x : Nat), .int .u64 (lo x : Nat)])])) w' := fun w' h => ⟨h.cell 1 rfl rfl, h.cell 1 rfl rfl, h.cell 1 rfl rfl, h.cell 0 rfl rfl, h.cell 0 rfl rfl, h.cell 0 rfl rfl, Lib.hid h⟩
  have hok : OwnOk (fun w' => w'.cell? ⟨w.heap.size, 0, none⟩ = some (.bool A) ∧ w'.cell? ⟨w.heap.size, 1, none⟩ = some (.int .u64 (hi x : Nat)) ∧ w'.cell? ⟨w.heap.size, 2, none⟩ = some (.int .u64 (lo x : Nat)) ∧ w'.cell? ⟨(w.heap.size + 1), 0, none⟩ = some (.bool B) ∧ w'.cell? ⟨(w.heap.size + 1), 1, none⟩ = some (.int .u64 (hi y : Nat)) ∧ w'.cell? ⟨(w.heap.size + 1), 2, none⟩ = some (.int .u64 (lo y : Nat)) ∧ Hid (Mem w w' [((w.heap.size + 1), #[.bool B, .int .u64 (hi y : Nat), .int .u64 (lo y : Nat)]), (w.heap.size, #[.bool A, .int .u64 (hi x : Nat), .int .u64 (lo x : Nat)])])) W1x.heap.size [⟨8, 9, fun w b => Blk w b #[.bool false, .int .u64 0, .int .u64 0], fun w b => Blk w b #[.bool true, .int .u64 (hi r : Nat), .int .u64 (lo r : Nat)]⟩] := own1_ok (fun v1 v2 h hb => mk _ (h.2.2.2.2.2.2.out.step hb hm.lts hm.low.size)) ⟨Blk.local _, Blk.local _⟩ (by simp)
  have hfit : ∀ i, (∀ e ∈ ([⟨8, 9, fun w b => Blk w b #[.bool false, .int .u64 0, .int .u64 0], fun w b => Blk w b #[.bool true, .int .u64 (hi r : Nat), .int .u64 (lo r : Nat)]⟩] : List Ent), e.x ≠ i ∧ e.s ≠ i) → Fit (fun w' => w'.cell? ⟨w.heap.size, 0, none⟩ = some (.bool A) ∧ w'.cell? ⟨w.heap.size, 1, none⟩ = some (.int .u64 (hi x : Nat)) ∧ w'.cell? ⟨w.heap.size, 2, none⟩ = some (.int .u64 (lo x : Nat)) ∧ w'.cell? ⟨(w.heap.size + 1), 0, none⟩ = some (.bool B) ∧ w'.cell? ⟨(w.heap.size + 1), 1, none⟩ = some (.int .u64 (hi y : Nat)) ∧ w'.cell? ⟨(w.heap.size + 1), 2, none⟩ = some (.int .u64 (lo y : Nat)) ∧ Hid (Mem w w' [((w.heap.size + 1), #[.bool B, .int .u64 (hi y : Nat), .int .u64 (lo y : Nat)]), (w.heap.size, #[.bool A, .int .u64 (hi x : Nat), .int .u64 (lo x : Nat)])])) (Sof (fun w' => w'.cell? ⟨w.heap.size, 0, none⟩ = some (.bool A) ∧ w'.cell? ⟨w.heap.size, 1, none⟩ = some (.int .u64 (hi x : Nat)) ∧ w'.cell? ⟨w.heap.size, 2, none⟩ = some (.int .u64 (lo x : Nat)) ∧ w'.cell? ⟨(w.heap.size + 1), 0, none⟩ = some (.bool B) ∧ w'.cell? ⟨(w.heap.size + 1), 1, none⟩ = some (.int .u64 (hi y : Nat)) ∧ w'.cell? ⟨(w.heap.size + 1), 2, none⟩ = some (.int .u64 (lo y : Nat)) ∧ Hid (Mem w w' [((w.heap.size + 1), #[.bool B, .int .u64 (hi y : Nat), .int .u64 (lo y : Nat)]), (w.heap.size, #[.bool A, .int .u64 (hi x : Nat), .int .u64 (lo x : Nat)])])) W1x.heap.size [⟨8, 9, fun w b => Blk w b #[.bool false, .int .u64 0, .int .u64 0], fun w b => Blk w b #[.bool true, .int .u64 (hi r : Nat), .int .u64 (lo r : Nat)]⟩]) i := fun i hi => sof_fit hok.st hok.loc hi
  have HOK := Lib.hid hok; have HF := Lib.hid hfit; clear hok hfit
  refine wp_region_ab (S0 := (fun w' => w'.cell? ⟨w.heap.size, 0, none⟩ = some (.bool A) ∧ w'.cell? ⟨w.heap.size, 1, none⟩ = some (.int .u64 (hi x : Nat)) ∧ w'.cell? ⟨w.heap.size, 2, none⟩ = some (.int .u64 (lo x : Nat)) ∧ w'.cell? ⟨(w.heap.size + 1), 0, none⟩ = some (.bool B) ∧ w'.cell? ⟨(w.heap.size + 1), 1, none⟩ = some (.int .u64 (hi y : Nat)) ∧ w'.cell? ⟨(w.heap.size + 1), 2, none⟩ = some (.int .u64 (lo y : Nat)) ∧ Hid (Mem w w' [((w.heap.size + 1), #[.bool B, .int .u64 (hi y : Nat), .int .u64 (lo y : Nat)]), (w.heap.size, #[.bool A, .int .u64 (hi x : Nat), .int .u64 (lo x : Nat)])]))) W1x.heap.size [⟨8, 9, fun w b => Blk w b #[.bool false, .int .u64 0, .int .u64 0], fun w b => Blk w b #[.bool true, .int .u64 (hi r : Nat), .int .u64 (lo r : Nat)]⟩] (by kernel_rfl) (mk _ hm.drew) (Nat.le_refl _) (by simp) ?_
  have hlts := hm.lts; have hlow := hm.low.size
  have ltb : (w.heap.size + 1) < W1x.heap.size := hm.lt 0 rfl
  have lta : w.heap.size < W1x.heap.size := hm.lt 1 rfl
  have HMK := Lib.hid mk
  clear hm mk
  refine abTake 0 (some 6) (v := ?_) rfl rfl (by kernel_rfl) (by kernel_rfl) (by kernel_rfl) (fun _ _ _ h => h) (HF.out _ (by simp)) (by rfl) ?_ ?_
  rotate_left 1
  · (intro w hSw; (try dsimp only at hSw); go_simp; try with_reducible rfl)
  simp only [Act.put, List.setIfInBounds_toArray, List.set_cons_zero, List.set_cons_succ]
  refine abTake 1 (some 7) (v := ?_) rfl rfl (by kernel_rfl) (by kernel_rfl) (by kernel_rfl) (fun _ _ _ h => h) (HF.out _ (by simp)) (by rfl) ?_ ?_
  rotate_left 1
  · (intro w hSw; (try dsimp only at hSw); go_simp; try with_reducible rfl)
  simp only [Act.put, List.setIfInBounds_toArray, List.set_cons_zero, List.set_cons_succ]
  refine abTake 2 (some 8) (v := ?_) rfl rfl (by kernel_rfl) (by kernel_rfl) (by kernel_rfl) (fun _ _ _ h => h) (HF.out _ (by simp)) (by rfl) ?_ ?_
  rotate_left 1
  · (intro w hSw; (try dsimp only at hSw); go_simp; try with_reducible rfl)
  simp only [Act.put, List.setIfInBounds_toArray, List.set_cons_zero, List.set_cons_succ]
  refine abTake 3 (some 9) (v := ?_) rfl rfl (by kernel_rfl) (by kernel_rfl) (by kernel_rfl) (fun _ _ _ h => h) (HF.out _ (by simp)) (by rfl) ?_ ?_
  rotate_left 1
  · (intro w hSw; (try dsimp only at hSw); go_simp; try with_reducible rfl)
  simp only [Act.put, List.setIfInBounds_toArray, List.set_cons_zero, List.set_cons_succ]
  refine abTake 4 (some 10) (v := ?_) rfl rfl (by kernel_rfl) (by kernel_rfl) (by kernel_rfl) (fun _ _ _ h => h) (HF.out _ (by simp)) (by rfl) ?_ ?_
  rotate_left 1
  · (intro w hSw; (try dsimp only at hSw); go_simp; try with_reducible rfl)
  simp only [Act.put, List.setIfInBounds_toArray, List.set_cons_zero, List.set_cons_succ]
  refine abTake 5 (some 11) (v := ?_) rfl rfl (by kernel_rfl) (by kernel_rfl) (by kernel_rfl) (fun _ _ _ h => h) (HF.out _ (by simp)) (by rfl) ?_ ?_
  rotate_left 1
  · (intro w hSw; (try dsimp only at hSw); go_simp; try with_reducible rfl)
  simp only [Act.put, List.setIfInBounds_toArray, List.set_cons_zero, List.set_cons_succ]
  refine abCall 6 (some 12) rfl rfl (by kernel_rfl) (by kernel_rfl) (by kernel_rfl) (fun _ _ _ h => h) (HF.out _ (by simp)) (by rfl) ?_ (fun w hSw => M1.out _) ?_
  · (intro w hSw; (try dsimp only at hSw); go_simp; try with_reducible rfl)
  simp only [Act.put, List.setIfInBounds_toArray, List.set_cons_zero, List.set_cons_succ]
  refine abCall 7 (some 13) rfl rfl (by kernel_rfl) (by kernel_rfl) (by kernel_rfl) (fun _ _ _ h => h) (HF.out _ (by simp)) (by rfl) ?_ (fun w hSw => M2.out _) ?_
  · (intro w hSw; (try dsimp only at hSw); go_simp; try with_reducible rfl)
  simp only [Act.put, List.setIfInBounds_toArray, List.set_cons_zero, List.set_cons_succ]
  refine abMake1 8 5 HOK.out _ (List.mem_cons_self) rfl rfl rfl (by kernel_rfl) (by kernel_rfl) (by kernel_rfl) ⟨by rfl, .cells #[.bool false, .int .u64 0, .int .u64 0] 50, fun w hSw => ⟨(by (try dsimp only at hSw); go_simp; try with_reducible rfl), Blk.newAt rfl⟩⟩ (fun p5 hp5 np5 => ?_)
  simp only [Act.put, List.setIfInBounds_toArray, List.set_cons_zero, List.set_cons_succ]
  refine abStore 9 HOK.out _ (List.mem_cons_self) rfl rfl rfl (by kernel_rfl) (by kernel_rfl) (by kernel_rfl) (by kernel_rfl) (by rfl) ?_ ?_
  · rintro w b hSw hg hB hp
    obtain rfl : b = p5 := hg
    replace hp : Blk w b #[.bool false, .int .u64 0, .int .u64 0] := hp
    have x0 : w.cell? ⟨b, 0, none⟩ = some (.bool false) := hp.cell rfl
    have x1 : w.cell? ⟨b, 1, none⟩ = some (.int .u64 0) := hp.cell rfl
    have x2 : w.cell? ⟨b, 2, none⟩ = some (.int .u64 0) := hp.cell rfl
    have y0 := hp.free 0
    have y1 := hp.free 1
    have y2 := hp.free 2
    refine ⟨(((w.setCell ⟨b, 0, none⟩ (.bool true)).setCell ⟨b, 1, none⟩ (.int .u64 (hi r : Nat))).setCell ⟨b, 2, none⟩ (.int .u64 (lo r : Nat))), ?_, (((hp.set 0 (.bool true)).set 1 (.int .u64 (hi r : Nat))).set 2 (.int .u64 (lo r : Nat))), ((((Below.refl _ _).setCell (p := ⟨b, 0, none⟩) hB _).setCell (p := ⟨b, 1, none⟩) hB _).setCell (p := ⟨b, 2, none⟩) hB _), fun k hk => ?_⟩
    · (try dsimp only at hSw); go_simp; try with_reducible rfl
    · exact (Below.heap_setCell _ _ _ _ hk).trans ((Below.heap_setCell _ _ _ _ hk).trans ((Below.heap_setCell _ _ _ _ hk)))
  refine abDone (by kernel_rfl) ?_ _
  rintro w1 hS
  have krest := sof_post hS _ (List.mem_cons_self) (by kernel_rfl) (by kernel_rfl) (b := p5) rfl
  have HMw1 := Lib.hid ((hS.1.2.2.2.2.2.2.out).join krest.2.2 krest.1 hlts hlow)
  clear hS HOK HF HMK hlts hlow ltb lta krest hp5
  have lrest : p5 < w1.heap.size := HMw1.out.lt 0 rfl
  have crest0 : w1.cell? ⟨p5, 0, none⟩ = some (.bool true) := HMw1.out.cell 0 rfl rfl
  have crest1 : w1.cell? ⟨p5, 1, none⟩ = some (.int .u64 (hi r : Nat)) := HMw1.out.cell 0 rfl rfl
  have crest2 : w1.cell? ⟨p5, 2, none⟩ = some (.int .u64 (lo r : Nat)) := HMw1.out.cell 0 rfl rfl
  go_wp2_with fail
  go_ret
  exact ⟨rfl, HMw1.out.low⟩
theorem order_same (x y r : Nat) (A B E : Bool) (k l : Int) (w : World) (hE : ∀ w, (Op.equalIn 10000 48 (.agg #[.int .u64 (hi r : Nat), .int .u64 (lo r : Nat)]) (.agg #[.int .u64 0, .int .u64 0])).run Try.prog w = .ok true w)
    (m1 : ∀ w, Calls Try.prog 46 #[.bool (!B), .agg #[.int .u64 (hi y : Nat), .int .u64 (lo y : Nat)]] w fun en w' => en = .returned (.agg #[.bool E, .int .u64 k, .int .u64 l]) ∧ Below w.heap.size w w')
    (m2 : ∀ w, Calls Try.prog 33 #[.agg #[.bool A, .int .u64 (hi x : Nat), .int .u64 (lo x : Nat)], .agg #[.bool E, .int .u64 k, .int .u64 l]] w fun en w' => en = .returned (.agg #[.bool false, .int .u64 (hi r : Nat), .int .u64 (lo r : Nat)]) ∧ Below w.heap.size w w') :
    Calls Try.prog 32 #[.agg #[.bool A, .int .u64 (hi x : Nat), .int .u64 (lo x : Nat)], .agg #[.bool B, .int .u64 (hi y : Nat), .int .u64 (lo y : Nat)]] w fun en w' => en = .returned (.int .i64 0) ∧ Below w.heap.size w w' := by
  have M1 := Lib.hid m1; have M2 := Lib.hid m2
  clear m1 m2
  go_enter Try.func32, Try.ntmps32
  go_upto_region 1 with fail
  obtain ⟨W1x, hW1x⟩ : ∃ W1x, ((w.alloc (.cells #[.bool A, .int .u64 (hi x : Nat), .int .u64 (lo x : Nat)] 50)).alloc (.cells #[.bool B, .int .u64 (hi y : Nat), .int .u64 (lo y : Nat)] 50)) = W1x := ⟨_, rfl⟩
  have hm : Mem w W1x [((w.heap.size + 1), #[.bool B, .int .u64 (hi y : Nat), .int .u64 (lo y : Nat)]), (w.heap.size, #[.bool A, .int .u64 (hi x : Nat), .int .u64 (lo x : Nat)])] := by rw [← hW1x]; exact (((Mem.start w).new w.heap.size _ _ rfl).new (w.heap.size + 1) _ _ (by simp))
  rw [hW1x]
  clear hW1x
  have mk : ∀ w', Mem w w' [((w.heap.size + 1), #[.bool B, .int .u64 (hi y : Nat), .int .u64 (lo y : Nat)]), (w.heap.size, #[.bool A, .int .u64 (hi x : Nat), .int .u64 (lo x : Nat)])] → (fun w' => w'.cell? ⟨w.heap.size, 0, none⟩ = some (.bool A) ∧ w'.cell? ⟨w.heap.size, 1, none⟩ = some (.int .u64 (hi x : Nat)) ∧ w'.cell? ⟨w.heap.size, 2, none⟩ = some (.int .u64 (lo x : Nat)) ∧ w'.cell? ⟨(w.heap.size + 1), 0, none⟩ = some (.bool B) ∧ w'.cell? ⟨(w.heap.size + 1), 1, none⟩ = some (.int .u64 (hi y : Nat)) ∧ w'.cell? ⟨(w.heap.size + 1), 2, none⟩ = some (.int .u64 (lo y : Nat)) ∧ Hid (Mem w w' [((w.heap.size + 1), #[.bool B, .int .u64 (hi y : Nat), .int .u64 (lo y : Nat)]), (w.heap.size, #[.bool A, .int .u64 (hi x : Nat), .int .u64 (lo x : Nat)])])) w' := fun w' h => ⟨h.cell 1 rfl rfl, h.cell 1 rfl rfl, h.cell 1 rfl rfl, h.cell 0 rfl rfl, h.cell 0 rfl rfl, h.cell 0 rfl rfl, Lib.hid h⟩
  have hok : OwnOk (fun w' => w'.cell? ⟨w.heap.size, 0, none⟩ = some (.bool A) ∧ w'.cell? ⟨w.heap.size, 1, none⟩ = some (.int .u64 (hi x : Nat)) ∧ w'.cell? ⟨w.heap.size, 2, none⟩ = some (.int .u64 (lo x : Nat)) ∧ w'.cell? ⟨(w.heap.size + 1), 0, none⟩ = some (.bool B) ∧ w'.cell? ⟨(w.heap.size + 1), 1, none⟩ = some (.int .u64 (hi y : Nat)) ∧ w'.cell? ⟨(w.heap.size + 1), 2, none⟩ = some (.int .u64 (lo y : Nat)) ∧ Hid (Mem w w' [((w.heap.size + 1), #[.bool B, .int .u64 (hi y : Nat), .int .u64 (lo y : Nat)]), (w.heap.size, #[.bool A, .int .u64 (hi x : Nat), .int .u64 (lo x : Nat)])])) W1x.heap.size [⟨8, 9, fun w b => Blk w b #[.bool false, .int .u64 0, .int .u64 0], fun w b => Blk w b #[.bool false, .int .u64 (hi r : Nat), .int .u64 (lo r : Nat)]⟩] := own1_ok (fun v1 v2 h hb => mk _ (h.2.2.2.2.2.2.out.step hb hm.lts hm.low.size)) ⟨Blk.local _, Blk.local _⟩ (by simp)
  have hfit : ∀ i, (∀ e ∈ ([⟨8, 9, fun w b => Blk w b #[.bool false, .int .u64 0, .int .u64 0], fun w b => Blk w b #[.bool false, .int .u64 (hi r : Nat), .int .u64 (lo r : Nat)]⟩] : List Ent), e.x ≠ i ∧ e.s ≠ i) → Fit (fun w' => w'.cell? ⟨w.heap.size, 0, none⟩ = some (.bool A) ∧ w'.cell? ⟨w.heap.size, 1, none⟩ = some (.int .u64 (hi x : Nat)) ∧ w'.cell? ⟨w.heap.size, 2, none⟩ = some (.int .u64 (lo x : Nat)) ∧ w'.cell? ⟨(w.heap.size + 1), 0, none⟩ = some (.bool B) ∧ w'.cell? ⟨(w.heap.size + 1), 1, none⟩ = some (.int .u64 (hi y : Nat)) ∧ w'.cell? ⟨(w.heap.size + 1), 2, none⟩ = some (.int .u64 (lo y : Nat)) ∧ Hid (Mem w w' [((w.heap.size + 1), #[.bool B, .int .u64 (hi y : Nat), .int .u64 (lo y : Nat)]), (w.heap.size, #[.bool A, .int .u64 (hi x : Nat), .int .u64 (lo x : Nat)])])) (Sof (fun w' => w'.cell? ⟨w.heap.size, 0, none⟩ = some (.bool A) ∧ w'.cell? ⟨w.heap.size, 1, none⟩ = some (.int .u64 (hi x : Nat)) ∧ w'.cell? ⟨w.heap.size, 2, none⟩ = some (.int .u64 (lo x : Nat)) ∧ w'.cell? ⟨(w.heap.size + 1), 0, none⟩ = some (.bool B) ∧ w'.cell? ⟨(w.heap.size + 1), 1, none⟩ = some (.int .u64 (hi y : Nat)) ∧ w'.cell? ⟨(w.heap.size + 1), 2, none⟩ = some (.int .u64 (lo y : Nat)) ∧ Hid (Mem w w' [((w.heap.size + 1), #[.bool B, .int .u64 (hi y : Nat), .int .u64 (lo y : Nat)]), (w.heap.size, #[.bool A, .int .u64 (hi x : Nat), .int .u64 (lo x : Nat)])])) W1x.heap.size [⟨8, 9, fun w b => Blk w b #[.bool false, .int .u64 0, .int .u64 0], fun w b => Blk w b #[.bool false, .int .u64 (hi r : Nat), .int .u64 (lo r : Nat)]⟩]) i := fun i hi => sof_fit hok.st hok.loc hi
  have HOK := Lib.hid hok; have HF := Lib.hid hfit; clear hok hfit
  refine wp_region_ab (S0 := (fun w' => w'.cell? ⟨w.heap.size, 0, none⟩ = some (.bool A) ∧ w'.cell? ⟨w.heap.size, 1, none⟩ = some (.int .u64 (hi x : Nat)) ∧ w'.cell? ⟨w.heap.size, 2, none⟩ = some (.int .u64 (lo x : Nat)) ∧ w'.cell? ⟨(w.heap.size + 1), 0, none⟩ = some (.bool B) ∧ w'.cell? ⟨(w.heap.size + 1), 1, none⟩ = some (.int .u64 (hi y : Nat)) ∧ w'.cell? ⟨(w.heap.size + 1), 2, none⟩ = some (.int .u64 (lo y : Nat)) ∧ Hid (Mem w w' [((w.heap.size + 1), #[.bool B, .int .u64 (hi y : Nat), .int .u64 (lo y : Nat)]), (w.heap.size, #[.bool A, .int .u64 (hi x : Nat), .int .u64 (lo x : Nat)])]))) W1x.heap.size [⟨8, 9, fun w b => Blk w b #[.bool false, .int .u64 0, .int .u64 0], fun w b => Blk w b #[.bool false, .int .u64 (hi r : Nat), .int .u64 (lo r : Nat)]⟩] (by kernel_rfl) (mk _ hm.drew) (Nat.le_refl _) (by simp) ?_
  have hlts := hm.lts; have hlow := hm.low.size
  have ltb : (w.heap.size + 1) < W1x.heap.size := hm.lt 0 rfl
  have lta : w.heap.size < W1x.heap.size := hm.lt 1 rfl
  have HMK := Lib.hid mk
  clear hm mk
  refine abTake 0 (some 6) (v := ?_) rfl rfl (by kernel_rfl) (by kernel_rfl) (by kernel_rfl) (fun _ _ _ h => h) (HF.out _ (by simp)) (by rfl) ?_ ?_
  rotate_left 1
  · (intro w hSw; (try dsimp only at hSw); go_simp; try with_reducible rfl)
  simp only [Act.put, List.setIfInBounds_toArray, List.set_cons_zero, List.set_cons_succ]
  refine abTake 1 (some 7) (v := ?_) rfl rfl (by kernel_rfl) (by kernel_rfl) (by kernel_rfl) (fun _ _ _ h => h) (HF.out _ (by simp)) (by rfl) ?_ ?_
  rotate_left 1
  · (intro w hSw; (try dsimp only at hSw); go_simp; try with_reducible rfl)
  simp only [Act.put, List.setIfInBounds_toArray, List.set_cons_zero, List.set_cons_succ]
  refine abTake 2 (some 8) (v := ?_) rfl rfl (by kernel_rfl) (by kernel_rfl) (by kernel_rfl) (fun _ _ _ h => h) (HF.out _ (by simp)) (by rfl) ?_ ?_
  rotate_left 1
  · (intro w hSw; (try dsimp only at hSw); go_simp; try with_reducible rfl)
  simp only [Act.put, List.setIfInBounds_toArray, List.set_cons_zero, List.set_cons_succ]
  refine abTake 3 (some 9) (v := ?_) rfl rfl (by kernel_rfl) (by kernel_rfl) (by kernel_rfl) (fun _ _ _ h => h) (HF.out _ (by simp)) (by rfl) ?_ ?_
  rotate_left 1
  · (intro w hSw; (try dsimp only at hSw); go_simp; try with_reducible rfl)
  simp only [Act.put, List.setIfInBounds_toArray, List.set_cons_zero, List.set_cons_succ]
  refine abTake 4 (some 10) (v := ?_) rfl rfl (by kernel_rfl) (by kernel_rfl) (by kernel_rfl) (fun _ _ _ h => h) (HF.out _ (by simp)) (by rfl) ?_ ?_
  rotate_left 1
  · (intro w hSw; (try dsimp only at hSw); go_simp; try with_reducible rfl)
  simp only [Act.put, List.setIfInBounds_toArray, List.set_cons_zero, List.set_cons_succ]
  refine abTake 5 (some 11) (v := ?_) rfl rfl (by kernel_rfl) (by kernel_rfl) (by kernel_rfl) (fun _ _ _ h => h) (HF.out _ (by simp)) (by rfl) ?_ ?_
  rotate_left 1
  · (intro w hSw; (try dsimp only at hSw); go_simp; try with_reducible rfl)
  simp only [Act.put, List.setIfInBounds_toArray, List.set_cons_zero, List.set_cons_succ]
  refine abCall 6 (some 12) rfl rfl (by kernel_rfl) (by kernel_rfl) (by kernel_rfl) (fun _ _ _ h => h) (HF.out _ (by simp)) (by rfl) ?_ (fun w hSw => M1.out _) ?_
  · (intro w hSw; (try dsimp only at hSw); go_simp; try with_reducible rfl)
  simp only [Act.put, List.setIfInBounds_toArray, List.set_cons_zero, List.set_cons_succ]
  refine abCall 7 (some 13) rfl rfl (by kernel_rfl) (by kernel_rfl) (by kernel_rfl) (fun _ _ _ h => h) (HF.out _ (by simp)) (by rfl) ?_ (fun w hSw => M2.out _) ?_
  · (intro w hSw; (try dsimp only at hSw); go_simp; try with_reducible rfl)
  simp only [Act.put, List.setIfInBounds_toArray, List.set_cons_zero, List.set_cons_succ]
  refine abMake1 8 5 HOK.out _ (List.mem_cons_self) rfl rfl rfl (by kernel_rfl) (by kernel_rfl) (by kernel_rfl) ⟨by rfl, .cells #[.bool false, .int .u64 0, .int .u64 0] 50, fun w hSw => ⟨(by (try dsimp only at hSw); go_simp; try with_reducible rfl), Blk.newAt rfl⟩⟩ (fun p5 hp5 np5 => ?_)
  simp only [Act.put, List.setIfInBounds_toArray, List.set_cons_zero, List.set_cons_succ]
  refine abStore 9 HOK.out _ (List.mem_cons_self) rfl rfl rfl (by kernel_rfl) (by kernel_rfl) (by kernel_rfl) (by kernel_rfl) (by rfl) ?_ ?_
  · rintro w b hSw hg hB hp
    obtain rfl : b = p5 := hg
    replace hp : Blk w b #[.bool false, .int .u64 0, .int .u64 0] := hp
    have x0 : w.cell? ⟨b, 0, none⟩ = some (.bool false) := hp.cell rfl
    have x1 : w.cell? ⟨b, 1, none⟩ = some (.int .u64 0) := hp.cell rfl
    have x2 : w.cell? ⟨b, 2, none⟩ = some (.int .u64 0) := hp.cell rfl
    have y0 := hp.free 0
    have y1 := hp.free 1
    have y2 := hp.free 2
    refine ⟨(((w.setCell ⟨b, 0, none⟩ (.bool false)).setCell ⟨b, 1, none⟩ (.int .u64 (hi r : Nat))).setCell ⟨b, 2, none⟩ (.int .u64 (lo r : Nat))), ?_, (((hp.set 0 (.bool false)).set 1 (.int .u64 (hi r : Nat))).set 2 (.int .u64 (lo r : Nat))), ((((Below.refl _ _).setCell (p := ⟨b, 0, none⟩) hB _).setCell (p := ⟨b, 1, none⟩) hB _).setCell (p := ⟨b, 2, none⟩) hB _), fun k hk => ?_⟩
    · (try dsimp only at hSw); go_simp; try with_reducible rfl
    · exact (Below.heap_setCell _ _ _ _ hk).trans ((Below.heap_setCell _ _ _ _ hk).trans ((Below.heap_setCell _ _ _ _ hk)))
  refine abDone (by kernel_rfl) ?_ _
  rintro w1 hS
  have krest := sof_post hS _ (List.mem_cons_self) (by kernel_rfl) (by kernel_rfl) (b := p5) rfl
  have HMw1 := Lib.hid ((hS.1.2.2.2.2.2.2.out).join krest.2.2 krest.1 hlts hlow)
  clear hS HOK HF HMK hlts hlow ltb lta krest hp5
  have lrest : p5 < w1.heap.size := HMw1.out.lt 0 rfl
  have crest0 : w1.cell? ⟨p5, 0, none⟩ = some (.bool false) := HMw1.out.cell 0 rfl rfl
  have crest1 : w1.cell? ⟨p5, 1, none⟩ = some (.int .u64 (hi r : Nat)) := HMw1.out.cell 0 rfl rfl
  have crest2 : w1.cell? ⟨p5, 2, none⟩ = some (.int .u64 (lo r : Nat)) := HMw1.out.cell 0 rfl rfl
  go_wp2_with fail
  go_ret
  exact ⟨rfl, HMw1.out.low⟩
theorem order_more (x y r : Nat) (A B E : Bool) (k l : Int) (w : World) (hE : ∀ w, (Op.equalIn 10000 48 (.agg #[.int .u64 (hi r : Nat), .int .u64 (lo r : Nat)]) (.agg #[.int .u64 0, .int .u64 0])).run Try.prog w = .ok false w)
    (m1 : ∀ w, Calls Try.prog 46 #[.bool (!B), .agg #[.int .u64 (hi y : Nat), .int .u64 (lo y : Nat)]] w fun en w' => en = .returned (.agg #[.bool E, .int .u64 k, .int .u64 l]) ∧ Below w.heap.size w w')
    (m2 : ∀ w, Calls Try.prog 33 #[.agg #[.bool A, .int .u64 (hi x : Nat), .int .u64 (lo x : Nat)], .agg #[.bool E, .int .u64 k, .int .u64 l]] w fun en w' => en = .returned (.agg #[.bool false, .int .u64 (hi r : Nat), .int .u64 (lo r : Nat)]) ∧ Below w.heap.size w w') :
    Calls Try.prog 32 #[.agg #[.bool A, .int .u64 (hi x : Nat), .int .u64 (lo x : Nat)], .agg #[.bool B, .int .u64 (hi y : Nat), .int .u64 (lo y : Nat)]] w fun en w' => en = .returned (.int .i64 1) ∧ Below w.heap.size w w' := by
  have M1 := Lib.hid m1; have M2 := Lib.hid m2
  clear m1 m2
  go_enter Try.func32, Try.ntmps32
  go_upto_region 1 with fail
  obtain ⟨W1x, hW1x⟩ : ∃ W1x, ((w.alloc (.cells #[.bool A, .int .u64 (hi x : Nat), .int .u64 (lo x : Nat)] 50)).alloc (.cells #[.bool B, .int .u64 (hi y : Nat), .int .u64 (lo y : Nat)] 50)) = W1x := ⟨_, rfl⟩
  have hm : Mem w W1x [((w.heap.size + 1), #[.bool B, .int .u64 (hi y : Nat), .int .u64 (lo y : Nat)]), (w.heap.size, #[.bool A, .int .u64 (hi x : Nat), .int .u64 (lo x : Nat)])] := by rw [← hW1x]; exact (((Mem.start w).new w.heap.size _ _ rfl).new (w.heap.size + 1) _ _ (by simp))
  rw [hW1x]
  clear hW1x
  have mk : ∀ w', Mem w w' [((w.heap.size + 1), #[.bool B, .int .u64 (hi y : Nat), .int .u64 (lo y : Nat)]), (w.heap.size, #[.bool A, .int .u64 (hi x : Nat), .int .u64 (lo x : Nat)])] → (fun w' => w'.cell? ⟨w.heap.size, 0, none⟩ = some (.bool A) ∧ w'.cell? ⟨w.heap.size, 1, none⟩ = some (.int .u64 (hi x : Nat)) ∧ w'.cell? ⟨w.heap.size, 2, none⟩ = some (.int .u64 (lo x : Nat)) ∧ w'.cell? ⟨(w.heap.size + 1), 0, none⟩ = some (.bool B) ∧ w'.cell? ⟨(w.heap.size + 1), 1, none⟩ = some (.int .u64 (hi y : Nat)) ∧ w'.cell? ⟨(w.heap.size + 1), 2, none⟩ = some (.int .u64 (lo y : Nat)) ∧ Hid (Mem w w' [((w.heap.size + 1), #[.bool B, .int .u64 (hi y : Nat), .int .u64 (lo y : Nat)]), (w.heap.size, #[.bool A, .int .u64 (hi x : Nat), .int .u64 (lo x : Nat)])])) w' := fun w' h => ⟨h.cell 1 rfl rfl, h.cell 1 rfl rfl, h.cell 1 rfl rfl, h.cell 0 rfl rfl, h.cell 0 rfl rfl, h.cell 0 rfl rfl, Lib.hid h⟩
  have hok : OwnOk (fun w' => w'.cell? ⟨w.heap.size, 0, none⟩ = some (.bool A) ∧ w'.cell? ⟨w.heap.size, 1, none⟩ = some (.int .u64 (hi x : Nat)) ∧ w'.cell? ⟨w.heap.size, 2, none⟩ = some (.int .u64 (lo x : Nat)) ∧ w'.cell? ⟨(w.heap.size + 1), 0, none⟩ = some (.bool B) ∧ w'.cell? ⟨(w.heap.size + 1), 1, none⟩ = some (.int .u64 (hi y : Nat)) ∧ w'.cell? ⟨(w.heap.size + 1), 2, none⟩ = some (.int .u64 (lo y : Nat)) ∧ Hid (Mem w w' [((w.heap.size + 1), #[.bool B, .int .u64 (hi y : Nat), .int .u64 (lo y : Nat)]), (w.heap.size, #[.bool A, .int .u64 (hi x : Nat), .int .u64 (lo x : Nat)])])) W1x.heap.size [⟨8, 9, fun w b => Blk w b #[.bool false, .int .u64 0, .int .u64 0], fun w b => Blk w b #[.bool false, .int .u64 (hi r : Nat), .int .u64 (lo r : Nat)]⟩] := own1_ok (fun v1 v2 h hb => mk _ (h.2.2.2.2.2.2.out.step hb hm.lts hm.low.size)) ⟨Blk.local _, Blk.local _⟩ (by simp)
  have hfit : ∀ i, (∀ e ∈ ([⟨8, 9, fun w b => Blk w b #[.bool false, .int .u64 0, .int .u64 0], fun w b => Blk w b #[.bool false, .int .u64 (hi r : Nat), .int .u64 (lo r : Nat)]⟩] : List Ent), e.x ≠ i ∧ e.s ≠ i) → Fit (fun w' => w'.cell? ⟨w.heap.size, 0, none⟩ = some (.bool A) ∧ w'.cell? ⟨w.heap.size, 1, none⟩ = some (.int .u64 (hi x : Nat)) ∧ w'.cell? ⟨w.heap.size, 2, none⟩ = some (.int .u64 (lo x : Nat)) ∧ w'.cell? ⟨(w.heap.size + 1), 0, none⟩ = some (.bool B) ∧ w'.cell? ⟨(w.heap.size + 1), 1, none⟩ = some (.int .u64 (hi y : Nat)) ∧ w'.cell? ⟨(w.heap.size + 1), 2, none⟩ = some (.int .u64 (lo y : Nat)) ∧ Hid (Mem w w' [((w.heap.size + 1), #[.bool B, .int .u64 (hi y : Nat), .int .u64 (lo y : Nat)]), (w.heap.size, #[.bool A, .int .u64 (hi x : Nat), .int .u64 (lo x : Nat)])])) (Sof (fun w' => w'.cell? ⟨w.heap.size, 0, none⟩ = some (.bool A) ∧ w'.cell? ⟨w.heap.size, 1, none⟩ = some (.int .u64 (hi x : Nat)) ∧ w'.cell? ⟨w.heap.size, 2, none⟩ = some (.int .u64 (lo x : Nat)) ∧ w'.cell? ⟨(w.heap.size + 1), 0, none⟩ = some (.bool B) ∧ w'.cell? ⟨(w.heap.size + 1), 1, none⟩ = some (.int .u64 (hi y : Nat)) ∧ w'.cell? ⟨(w.heap.size + 1), 2, none⟩ = some (.int .u64 (lo y : Nat)) ∧ Hid (Mem w w' [((w.heap.size + 1), #[.bool B, .int .u64 (hi y : Nat), .int .u64 (lo y : Nat)]), (w.heap.size, #[.bool A, .int .u64 (hi x : Nat), .int .u64 (lo x : Nat)])])) W1x.heap.size [⟨8, 9, fun w b => Blk w b #[.bool false, .int .u64 0, .int .u64 0], fun w b => Blk w b #[.bool false, .int .u64 (hi r : Nat), .int .u64 (lo r : Nat)]⟩]) i := fun i hi => sof_fit hok.st hok.loc hi
  have HOK := Lib.hid hok; have HF := Lib.hid hfit; clear hok hfit
  refine wp_region_ab (S0 := (fun w' => w'.cell? ⟨w.heap.size, 0, none⟩ = some (.bool A) ∧ w'.cell? ⟨w.heap.size, 1, none⟩ = some (.int .u64 (hi x : Nat)) ∧ w'.cell? ⟨w.heap.size, 2, none⟩ = some (.int .u64 (lo x : Nat)) ∧ w'.cell? ⟨(w.heap.size + 1), 0, none⟩ = some (.bool B) ∧ w'.cell? ⟨(w.heap.size + 1), 1, none⟩ = some (.int .u64 (hi y : Nat)) ∧ w'.cell? ⟨(w.heap.size + 1), 2, none⟩ = some (.int .u64 (lo y : Nat)) ∧ Hid (Mem w w' [((w.heap.size + 1), #[.bool B, .int .u64 (hi y : Nat), .int .u64 (lo y : Nat)]), (w.heap.size, #[.bool A, .int .u64 (hi x : Nat), .int .u64 (lo x : Nat)])]))) W1x.heap.size [⟨8, 9, fun w b => Blk w b #[.bool false, .int .u64 0, .int .u64 0], fun w b => Blk w b #[.bool false, .int .u64 (hi r : Nat), .int .u64 (lo r : Nat)]⟩] (by kernel_rfl) (mk _ hm.drew) (Nat.le_refl _) (by simp) ?_
  have hlts := hm.lts; have hlow := hm.low.size
  have ltb : (w.heap.size + 1) < W1x.heap.size := hm.lt 0 rfl
  have lta : w.heap.size < W1x.heap.size := hm.lt 1 rfl
  have HMK := Lib.hid mk
  clear hm mk
  refine abTake 0 (some 6) (v := ?_) rfl rfl (by kernel_rfl) (by kernel_rfl) (by kernel_rfl) (fun _ _ _ h => h) (HF.out _ (by simp)) (by rfl) ?_ ?_
  rotate_left 1
  · (intro w hSw; (try dsimp only at hSw); go_simp; try with_reducible rfl)
  simp only [Act.put, List.setIfInBounds_toArray, List.set_cons_zero, List.set_cons_succ]
  refine abTake 1 (some 7) (v := ?_) rfl rfl (by kernel_rfl) (by kernel_rfl) (by kernel_rfl) (fun _ _ _ h => h) (HF.out _ (by simp)) (by rfl) ?_ ?_
  rotate_left 1
  · (intro w hSw; (try dsimp only at hSw); go_simp; try with_reducible rfl)
  simp only [Act.put, List.setIfInBounds_toArray, List.set_cons_zero, List.set_cons_succ]
  refine abTake 2 (some 8) (v := ?_) rfl rfl (by kernel_rfl) (by kernel_rfl) (by kernel_rfl) (fun _ _ _ h => h) (HF.out _ (by simp)) (by rfl) ?_ ?_
  rotate_left 1
  · (intro w hSw; (try dsimp only at hSw); go_simp; try with_reducible rfl)
  simp only [Act.put, List.setIfInBounds_toArray, List.set_cons_zero, List.set_cons_succ]
  refine abTake 3 (some 9) (v := ?_) rfl rfl (by kernel_rfl) (by kernel_rfl) (by kernel_rfl) (fun _ _ _ h => h) (HF.out _ (by simp)) (by rfl) ?_ ?_
  rotate_left 1
  · (intro w hSw; (try dsimp only at hSw); go_simp; try with_reducible rfl)
  simp only [Act.put, List.setIfInBounds_toArray, List.set_cons_zero, List.set_cons_succ]
  refine abTake 4 (some 10) (v := ?_) rfl rfl (by kernel_rfl) (by kernel_rfl) (by kernel_rfl) (fun _ _ _ h => h) (HF.out _ (by simp)) (by rfl) ?_ ?_
  rotate_left 1
  · (intro w hSw; (try dsimp only at hSw); go_simp; try with_reducible rfl)
  simp only [Act.put, List.setIfInBounds_toArray, List.set_cons_zero, List.set_cons_succ]
  refine abTake 5 (some 11) (v := ?_) rfl rfl (by kernel_rfl) (by kernel_rfl) (by kernel_rfl) (fun _ _ _ h => h) (HF.out _ (by simp)) (by rfl) ?_ ?_
  rotate_left 1
  · (intro w hSw; (try dsimp only at hSw); go_simp; try with_reducible rfl)
  simp only [Act.put, List.setIfInBounds_toArray, List.set_cons_zero, List.set_cons_succ]
  refine abCall 6 (some 12) rfl rfl (by kernel_rfl) (by kernel_rfl) (by kernel_rfl) (fun _ _ _ h => h) (HF.out _ (by simp)) (by rfl) ?_ (fun w hSw => M1.out _) ?_
  · (intro w hSw; (try dsimp only at hSw); go_simp; try with_reducible rfl)
  simp only [Act.put, List.setIfInBounds_toArray, List.set_cons_zero, List.set_cons_succ]
  refine abCall 7 (some 13) rfl rfl (by kernel_rfl) (by kernel_rfl) (by kernel_rfl) (fun _ _ _ h => h) (HF.out _ (by simp)) (by rfl) ?_ (fun w hSw => M2.out _) ?_
  · (intro w hSw; (try dsimp only at hSw); go_simp; try with_reducible rfl)
  simp only [Act.put, List.setIfInBounds_toArray, List.set_cons_zero, List.set_cons_succ]
  refine abMake1 8 5 HOK.out _ (List.mem_cons_self) rfl rfl rfl (by kernel_rfl) (by kernel_rfl) (by kernel_rfl) ⟨by rfl, .cells #[.bool false, .int .u64 0, .int .u64 0] 50, fun w hSw => ⟨(by (try dsimp only at hSw); go_simp; try with_reducible rfl), Blk.newAt rfl⟩⟩ (fun p5 hp5 np5 => ?_)
  simp only [Act.put, List.setIfInBounds_toArray, List.set_cons_zero, List.set_cons_succ]
  refine abStore 9 HOK.out _ (List.mem_cons_self) rfl rfl rfl (by kernel_rfl) (by kernel_rfl) (by kernel_rfl) (by kernel_rfl) (by rfl) ?_ ?_
  · rintro w b hSw hg hB hp
    obtain rfl : b = p5 := hg
    replace hp : Blk w b #[.bool false, .int .u64 0, .int .u64 0] := hp
    have x0 : w.cell? ⟨b, 0, none⟩ = some (.bool false) := hp.cell rfl
    have x1 : w.cell? ⟨b, 1, none⟩ = some (.int .u64 0) := hp.cell rfl
    have x2 : w.cell? ⟨b, 2, none⟩ = some (.int .u64 0) := hp.cell rfl
    have y0 := hp.free 0
    have y1 := hp.free 1
    have y2 := hp.free 2
    refine ⟨(((w.setCell ⟨b, 0, none⟩ (.bool false)).setCell ⟨b, 1, none⟩ (.int .u64 (hi r : Nat))).setCell ⟨b, 2, none⟩ (.int .u64 (lo r : Nat))), ?_, (((hp.set 0 (.bool false)).set 1 (.int .u64 (hi r : Nat))).set 2 (.int .u64 (lo r : Nat))), ((((Below.refl _ _).setCell (p := ⟨b, 0, none⟩) hB _).setCell (p := ⟨b, 1, none⟩) hB _).setCell (p := ⟨b, 2, none⟩) hB _), fun k hk => ?_⟩
    · (try dsimp only at hSw); go_simp; try with_reducible rfl
    · exact (Below.heap_setCell _ _ _ _ hk).trans ((Below.heap_setCell _ _ _ _ hk).trans ((Below.heap_setCell _ _ _ _ hk)))
  refine abDone (by kernel_rfl) ?_ _
  rintro w1 hS
  have krest := sof_post hS _ (List.mem_cons_self) (by kernel_rfl) (by kernel_rfl) (b := p5) rfl
  have HMw1 := Lib.hid ((hS.1.2.2.2.2.2.2.out).join krest.2.2 krest.1 hlts hlow)
  clear hS HOK HF HMK hlts hlow ltb lta krest hp5
  have lrest : p5 < w1.heap.size := HMw1.out.lt 0 rfl
  have crest0 : w1.cell? ⟨p5, 0, none⟩ = some (.bool false) := HMw1.out.cell 0 rfl rfl
  have crest1 : w1.cell? ⟨p5, 1, none⟩ = some (.int .u64 (hi r : Nat)) := HMw1.out.cell 0 rfl rfl
  have crest2 : w1.cell? ⟨p5, 2, none⟩ = some (.int .u64 (lo r : Nat)) := HMw1.out.cell 0 rfl rfl
  go_wp2_with fail
  go_ret
  exact ⟨rfl, HMw1.out.low⟩
def ordI (z : Int) : Int := if z < 0 then -1 else if z = 0 then 0 else 1
theorem zorder_any (x y : Int) (h : x.natAbs + y.natAbs < M128) (w : World) :
    Calls Try.prog 32 #[zS x, zS y] w fun en w' => en = .returned (.int .i64 (ordI (x - y))) ∧ Below w.heap.size w w' := by
  have m1 := fun w => side_any (!decide (y < 0)) y.natAbs w
  rw [sgn_not, sgn_abs] at m1
  have m2 := zplus_any x (-y) (by rw [Int.natAbs_neg]; exact h)
  rw [show x + -y = x - y from rfl] at m2
  unfold zS at m1 m2 ⊢
  unfold ordI
  by_cases a : x - y < 0
  · rw [if_pos a]
    rw [decide_eq_true a] at m2
    exact order_less _ _ _ _ _ _ _ _ w m1 m2
  · rw [if_neg a]
    rw [decide_eq_false a] at m2
    by_cases b : x - y = 0
    · rw [if_pos b]
      have e := eqZero (x - y).natAbs
      rw [decide_eq_true (by omega)] at e
      exact order_same _ _ _ _ _ _ _ _ w e m1 m2
    · rw [if_neg b]
      have e := eqZero (x - y).natAbs
      rw [decide_eq_false (by omega)] at e
      exact order_more _ _ _ _ _ _ _ _ w e m1 m2
theorem zwhole_over_true (n : Nat) (w : World)
    (m1 : ∀ w, Calls Try.prog 55 #[.agg #[.int .u64 0, .int .u64 9223372036854775808], .agg #[.int .u64 (hi n : Nat), .int .u64 (lo n : Nat)]] w fun en w' => en = .returned (.bool true) ∧ Below w.heap.size w w') :
    Calls Try.prog 47 #[.agg #[.bool true, .int .u64 (hi n : Nat), .int .u64 (lo n : Nat)]] w fun en w' => en = .returned (.tuple #[.int .i64 0, .int .i64 5]) ∧ Below w.heap.size w w' := by
  have M1 := Lib.hid m1
  clear m1
  go_enter Try.func47, Try.ntmps47
  go_wp2_with fail
  refine (M1.out _).mono ?_
  rintro e w1 ⟨rfl, hb⟩
  have HMw1 := Lib.hid (((Mem.start w).new w.heap.size _ _ rfl).call hb)
  clear hb
  go_wp2_with fail
  go_ret2
  exact ⟨rfl, HMw1.out.low⟩
theorem zwhole_true (n : Nat) (z : Int) (h : IntKind.i64.wrap (IntKind.u64.wrap (-((lo n : Nat) : Int))) = z) (w : World)
    (m1 : ∀ w, Calls Try.prog 55 #[.agg #[.int .u64 0, .int .u64 9223372036854775808], .agg #[.int .u64 (hi n : Nat), .int .u64 (lo n : Nat)]] w fun en w' => en = .returned (.bool false) ∧ Below w.heap.size w w') :
    Calls Try.prog 47 #[.agg #[.bool true, .int .u64 (hi n : Nat), .int .u64 (lo n : Nat)]] w fun en w' => en = .returned (.tuple #[.int .i64 z, .int .i64 0]) ∧ Below w.heap.size w w' := by
  have M1 := Lib.hid m1
  clear m1
  go_enter Try.func47, Try.ntmps47
  go_wp2_with fail
  refine (M1.out _).mono ?_
  rintro e w1 ⟨rfl, hb⟩
  have HMw1 := Lib.hid (((Mem.start w).new w.heap.size _ _ rfl).call hb)
  clear hb
  have ls : w.heap.size < w1.heap.size := HMw1.out.lt 0 rfl
  have cs0 : w1.cell? ⟨w.heap.size, 0, none⟩ = some (.bool true) := HMw1.out.cell 0 rfl rfl
  have cs1 : w1.cell? ⟨w.heap.size, 1, none⟩ = some (.int .u64 (hi n : Nat)) := HMw1.out.cell 0 rfl rfl
  have cs2 : w1.cell? ⟨w.heap.size, 2, none⟩ = some (.int .u64 (lo n : Nat)) := HMw1.out.cell 0 rfl rfl
  go_wp2_with fail
  go_ret2
  exact ⟨rfl, HMw1.out.low⟩
theorem zwhole_over_false (n : Nat) (w : World)
    (m1 : ∀ w, Calls Try.prog 55 #[.agg #[.int .u64 0, .int .u64 9223372036854775807], .agg #[.int .u64 (hi n : Nat), .int .u64 (lo n : Nat)]] w fun en w' => en = .returned (.bool true) ∧ Below w.heap.size w w') :
    Calls Try.prog 47 #[.agg #[.bool false, .int .u64 (hi n : Nat), .int .u64 (lo n : Nat)]] w fun en w' => en = .returned (.tuple #[.int .i64 0, .int .i64 5]) ∧ Below w.heap.size w w' := by
  have M1 := Lib.hid m1
  clear m1
  go_enter Try.func47, Try.ntmps47
  go_wp2_with fail
  refine (M1.out _).mono ?_
  rintro e w1 ⟨rfl, hb⟩
  have HMw1 := Lib.hid (((Mem.start w).new w.heap.size _ _ rfl).call hb)
  clear hb
  go_wp2_with fail
  go_ret2
  exact ⟨rfl, HMw1.out.low⟩
theorem zwhole_false (n : Nat) (z : Int) (h : IntKind.i64.wrap ((lo n : Nat) : Int) = z) (w : World)
    (m1 : ∀ w, Calls Try.prog 55 #[.agg #[.int .u64 0, .int .u64 9223372036854775807], .agg #[.int .u64 (hi n : Nat), .int .u64 (lo n : Nat)]] w fun en w' => en = .returned (.bool false) ∧ Below w.heap.size w w') :
    Calls Try.prog 47 #[.agg #[.bool false, .int .u64 (hi n : Nat), .int .u64 (lo n : Nat)]] w fun en w' => en = .returned (.tuple #[.int .i64 z, .int .i64 0]) ∧ Below w.heap.size w w' := by
  have M1 := Lib.hid m1
  clear m1
  go_enter Try.func47, Try.ntmps47
  go_wp2_with fail
  refine (M1.out _).mono ?_
  rintro e w1 ⟨rfl, hb⟩
  have HMw1 := Lib.hid (((Mem.start w).new w.heap.size _ _ rfl).call hb)
  clear hb
  have ls : w.heap.size < w1.heap.size := HMw1.out.lt 0 rfl
  have cs0 : w1.cell? ⟨w.heap.size, 0, none⟩ = some (.bool false) := HMw1.out.cell 0 rfl rfl
  have cs1 : w1.cell? ⟨w.heap.size, 1, none⟩ = some (.int .u64 (hi n : Nat)) := HMw1.out.cell 0 rfl rfl
  have cs2 : w1.cell? ⟨w.heap.size, 2, none⟩ = some (.int .u64 (lo n : Nat)) := HMw1.out.cell 0 rfl rfl
  go_wp2_with fail
  go_ret2
  exact ⟨rfl, HMw1.out.low⟩
theorem less_top (c n : Nat) (hc : c < B64) (hn : n < M128) (w : World) :
    Calls Try.prog 55 #[.agg #[.int .u64 0, .int .u64 (c : Nat)], .agg #[.int .u64 (hi n : Nat), .int .u64 (lo n : Nat)]] w fun en w' => en = .returned (.bool (decide (c < n))) ∧ Below w.heap.size w w' := by
  have := less_num c n (by unfold B64 at hc; unfold M128; omega) hn w
  rwa [hi_low c hc, lo_low c hc] at this
theorem zwhole_any (x : Int) (h : x.natAbs < M128) (w : World) :
    Calls Try.prog 47 #[zS x] w fun en w' => en = .returned (.tuple #[.int .i64 (ans x), .int .i64 (err x)]) ∧ Below w.heap.size w w' := by
  unfold zS
  by_cases a : x < 0
  · rw [decide_eq_true a]
    have m := fun w => less_top 9223372036854775808 x.natAbs (by decide) h w
    by_cases i : IsInt x
    · rw [ans_ok i, err_ok i]
      rw [decide_eq_false (by unfold IsInt at i; omega)] at m
      refine zwhole_true _ _ ?_ w m
      have hl : lo x.natAbs = x.natAbs := lo_low _ (natAbs_B i)
      unfold IsInt at i
      rw [hl, u64_neg _ (by omega) (by omega), i64_high _ (by omega) (by omega)]
      omega
    · rw [ans_no i, err_no i]
      rw [decide_eq_true (by unfold IsInt at i; omega)] at m
      exact zwhole_over_true _ w m
  · rw [decide_eq_false a]
    have m := fun w => less_top 9223372036854775807 x.natAbs (by decide) h w
    by_cases i : IsInt x
    · rw [ans_ok i, err_ok i]
      rw [decide_eq_false (by unfold IsInt at i; omega)] at m
      refine zwhole_false _ _ ?_ w m
      have hl : lo x.natAbs = x.natAbs := lo_low _ (natAbs_B i)
      rw [hl, show ((x.natAbs : Nat) : Int) = x by omega]
      exact wrap_int i
    · rw [ans_no i, err_no i]
      rw [decide_eq_true (by unfold IsInt at i; omega)] at m
      exact zwhole_over_false _ w m
end Go.Proofs.Ytjnebbjjabnipaa
