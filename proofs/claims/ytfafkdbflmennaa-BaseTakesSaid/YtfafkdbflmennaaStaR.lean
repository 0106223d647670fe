/- Of the references of stages 1 and 4: an int's size, products of ints, sums and products that fit. -/
import Derived.Test.YtfafkdbflmennaaU64
import Derived.Test.YtfafkdbflmennaaRAdd
import Derived.Test.YtfafkdbflmennaaRTimes
import Derived.Test.YtfafkdbflmennaaGen
import Derived.Test.YtfafkdbflmennaaBase
import Derived.Test.YtfafkdbflmennaaOf
import Derived.IntWalk
namespace Go.Proofs.Ytfafkdbflmennaa
open Go.RowKit

theorem ref_add (x y : Nat) (h : x + y < M128) (w : World) :
    Calls Try.prog 34 #[.agg #[.int .u64 (hi x : Nat), .int .u64 (lo x : Nat)], .agg #[.int .u64 (hi y : Nat), .int .u64 (lo y : Nat)]] w fun en w' => en = .returned (.tuple #[.agg #[.int .u64 (hi (x + y) : Nat), .int .u64 (lo (x + y) : Nat)], .bool false]) ∧ Below w.heap.size w w' := by
  have := radd_any x y (by omega) (by omega) w
  rw [addW_fit _ _ h, addO_fit _ _ h] at this
  exact this
theorem ref_times (x y : Nat) (hx : x < M128) (hy : y < M128) (h : x * y < M128) (w : World) :
    Calls Try.prog 38 #[.agg #[.int .u64 (hi x : Nat), .int .u64 (lo x : Nat)], .agg #[.int .u64 (hi y : Nat), .int .u64 (lo y : Nat)]] w fun en w' => en = .returned (.tuple #[.agg #[.int .u64 (hi (x * y) : Nat), .int .u64 (lo (x * y) : Nat)], .bool false]) ∧ Below w.heap.size w w' := by
  have := rtimes_any x y hx hy w
  rw [mulW_fit _ _ h, mulO_fit _ _ h] at this
  exact this
theorem ref_of (x : Nat) (hx : x < B64) (w : World) :
    Calls Try.prog 47 #[.int .u64 (x : Nat)] w fun en w' => en = .returned (.agg #[.int .u64 (hi x : Nat), .int .u64 (lo x : Nat)]) ∧ Below w.heap.size w w' := by
  have := of_any x w
  rw [hi_low x hx, lo_low x hx]
  exact this
theorem rsize_neg (a b : Int) (x y n : Nat) (w : World)
    (h : a < 0) (h1 : IntKind.i64.wrap (a + 1) = b) (h2 : IntKind.u64.wrap (wrap64 (-b)) = (x : Nat))
    (m1 : ∀ w, Calls Try.prog 47 #[.int .u64 (x : Nat)] w fun en w' => en = .returned (.agg #[.int .u64 (hi x : Nat), .int .u64 (lo x : Nat)]) ∧ Below w.heap.size w w')
    (m2 : ∀ w, Calls Try.prog 47 #[.int .u64 1] w fun en w' => en = .returned (.agg #[.int .u64 (hi y : Nat), .int .u64 (lo y : Nat)]) ∧ Below w.heap.size w w')
    (m3 : ∀ w, Calls Try.prog 34 #[.agg #[.int .u64 (hi x : Nat), .int .u64 (lo x : Nat)], .agg #[.int .u64 (hi y : Nat), .int .u64 (lo y : Nat)]] w fun en w' => en = .returned (.tuple #[.agg #[.int .u64 (hi n : Nat), .int .u64 (lo n : Nat)], .bool false]) ∧ Below w.heap.size w w') :
    Calls Try.prog 39 #[.int .i64 a] w fun en w' => en = .returned (.agg #[.int .u64 (hi n : Nat), .int .u64 (lo n : Nat)]) ∧ Below w.heap.size w w' := by
  have M1 := Lib.hid m1; have M2 := Lib.hid m2; have M3 := Lib.hid m3
  clear m1 m2 m3
  go_enter Try.func39, Try.ntmps39
  go_wp2_with fail
  refine (M1.out _).mono ?_
  rintro e w1 ⟨rfl, hb⟩
  have kr : Blk w1 w.heap.size #[.int .u64 0, .int .u64 0] := (Blk.new _ _ _).call hb
  have kw : Below w.heap.size w w1 := ((Below.refl w.heap.size w).alloc (Nat.le_refl _) _).trans (hb.mono (by simp))
  have Br := Lib.hid kr
  have HW1 := Lib.hid kw
  clear hb kw kr
  clear h h1 h2
  go_wp2_with fail
  refine (M2.out _).mono ?_
  rintro e w2 ⟨rfl, hb⟩
  have kr : Blk w2 w.heap.size #[.int .u64 0, .int .u64 0] := Br.out.call hb
  have kw : Below w.heap.size w w2 := HW1.out.trans (hb.mono HW1.out.size)
  clear Br HW1
  have Br := Lib.hid kr
  have HW2 := Lib.hid kw
  clear hb kw kr
  go_wp2_with fail
  refine (M3.out _).mono ?_
  rintro e w3 ⟨rfl, hb⟩
  have kr : Blk w3 w.heap.size #[.int .u64 0, .int .u64 0] := Br.out.call hb
  have kw : Below w.heap.size w w3 := HW2.out.trans (hb.mono HW2.out.size)
  clear Br HW2
  have Br := Lib.hid kr
  have HW3 := Lib.hid kw
  clear hb kw kr
  have lr := Br.out.lt
  have cr0 : w3.cell? ⟨w.heap.size, 0, none⟩ = some (.int .u64 0) := Br.out.cell rfl
  have fr0 := Br.out.free 0
  have cr1 : w3.cell? ⟨w.heap.size, 1, none⟩ = some (.int .u64 0) := Br.out.cell rfl
  have fr1 := Br.out.free 1
  go_wp2_with fail
  exact bodyPost_ret (v := .agg #[.int .u64 (hi n : Nat), .int .u64 (lo n : Nat)]) (by simp [results, Try.results39, go_sem, cr0, cr1, lr]) rfl ⟨rfl, (((HW3.out.setCell (p := ⟨w.heap.size, 0, none⟩) (by have := Br.out.lt; have := HW3.out.size; (first | (simp; done) | (simp; omega) | omega)) _).setCell (p := ⟨w.heap.size, 1, none⟩) (by have := Br.out.lt; have := HW3.out.size; (first | (simp; done) | (simp; omega) | omega)) _).alloc (by have := HW3.out.size; simpa [World.setCell] using this) _)⟩
theorem rsize_pos (a : Int) (n : Nat) (w : World)
    (h : ¬ a < 0) (h1 : IntKind.u64.wrap a = (n : Nat))
    (m1 : ∀ w, Calls Try.prog 47 #[.int .u64 (n : Nat)] w fun en w' => en = .returned (.agg #[.int .u64 (hi n : Nat), .int .u64 (lo n : Nat)]) ∧ Below w.heap.size w w') :
    Calls Try.prog 39 #[.int .i64 a] w fun en w' => en = .returned (.agg #[.int .u64 (hi n : Nat), .int .u64 (lo n : Nat)]) ∧ Below w.heap.size w w' := by
  have M1 := Lib.hid m1
  clear m1
  go_enter Try.func39, Try.ntmps39
  go_wp2_with fail
  refine (M1.out _).mono ?_
  rintro e w1 ⟨rfl, hb⟩
  have kr : Blk w1 w.heap.size #[.int .u64 0, .int .u64 0] := (Blk.new _ _ _).call hb
  have kw : Below w.heap.size w w1 := ((Below.refl w.heap.size w).alloc (Nat.le_refl _) _).trans (hb.mono (by simp))
  have Br := Lib.hid kr
  have HW1 := Lib.hid kw
  clear hb kw kr
  clear h h1
  have lr := Br.out.lt
  have cr0 : w1.cell? ⟨w.heap.size, 0, none⟩ = some (.int .u64 0) := Br.out.cell rfl
  have fr0 := Br.out.free 0
  have cr1 : w1.cell? ⟨w.heap.size, 1, none⟩ = some (.int .u64 0) := Br.out.cell rfl
  have fr1 := Br.out.free 1
  go_wp2_with fail
  exact bodyPost_ret (v := .agg #[.int .u64 (hi n : Nat), .int .u64 (lo n : Nat)]) (by simp [results, Try.results39, go_sem, cr0, cr1]) rfl ⟨rfl, ((HW1.out.setCell (p := ⟨w.heap.size, 0, none⟩) (by have := Br.out.lt; have := HW1.out.size; (first | (simp; done) | (simp; omega) | omega)) _).setCell (p := ⟨w.heap.size, 1, none⟩) (by have := Br.out.lt; have := HW1.out.size; (first | (simp; done) | (simp; omega) | omega)) _)⟩
theorem rsize_any (a : Int) (ha : IsInt a) (w : World) :
    Calls Try.prog 39 #[.int .i64 a] w fun en w' => en = .returned (.agg #[.int .u64 (hi a.natAbs : Nat), .int .u64 (lo a.natAbs : Nat)]) ∧ Below w.heap.size w w' := by
  unfold IsInt at ha
  by_cases h : a < 0
  · have e : a.natAbs = (a.natAbs - 1) + 1 := by omega
    rw [e]
    refine rsize_neg a (a + 1) (a.natAbs - 1) 1 _ w h (wrap_int (by unfold IsInt; omega)) ?_ (ref_of _ (by unfold B64; omega)) (ref_of 1 (by decide)) (ref_add _ _ (by unfold M128; omega))
    rw [IntWalk.wrap64_in _ ⟨by omega, by omega⟩, u64_low _ (by omega) (by omega)]
    omega
  · refine rsize_pos a _ w h ?_ (ref_of _ (by unfold B64; omega))
    rw [u64_low _ (by omega) (by omega)]
    omega
theorem ne_zero_D (n : Nat) : (!decide (n = 0)) = decide (n ≠ 0) := by simp
/-- A number by sign and size as the reference holds it: 0 is not below. -/
def zS (z : Int) : Value := .agg #[.bool (decide (z < 0)), .int .u64 (hi z.natAbs : Nat), .int .u64 (lo z.natAbs : Nat)]
theorem prod_true_true (a b : Int) (x y n : Nat) (w : World)
    (hX : decide (a < 0) = true) (hY : decide (b < 0) = true)
    (m1 : ∀ w, Calls Try.prog 39 #[.int .i64 a] w fun en w' => en = .returned (.agg #[.int .u64 (hi x : Nat), .int .u64 (lo x : Nat)]) ∧ Below w.heap.size w w')
    (m2 : ∀ w, Calls Try.prog 39 #[.int .i64 b] w fun en w' => en = .returned (.agg #[.int .u64 (hi y : Nat), .int .u64 (lo y : Nat)]) ∧ Below w.heap.size w w')
    (m3 : ∀ w, Calls Try.prog 38 #[.agg #[.int .u64 (hi x : Nat), .int .u64 (lo x : Nat)], .agg #[.int .u64 (hi y : Nat), .int .u64 (lo y : Nat)]] w fun en w' => en = .returned (.tuple #[.agg #[.int .u64 (hi n : Nat), .int .u64 (lo n : Nat)], .bool false]) ∧ Below w.heap.size w w') :
    Calls Try.prog 31 #[.int .i64 a, .int .i64 b] w fun en w' => en = .returned (.agg #[.bool (false), .int .u64 (hi n : Nat), .int .u64 (lo n : Nat)]) ∧ Below w.heap.size w w' := by
  have M1 := Lib.hid m1; have M2 := Lib.hid m2; have M3 := Lib.hid m3
  clear m1 m2 m3
  go_enter Try.func31, Try.ntmps31
  go_wp2_with fail
  refine (M1.out _).mono ?_
  rintro e w1 ⟨rfl, hb⟩
  have kr : Blk w1 w.heap.size #[.bool false, .int .u64 0, .int .u64 0] := (Blk.new _ _ _).call hb
  have kw : Below w.heap.size w w1 := ((Below.refl w.heap.size w).alloc (Nat.le_refl _) _).trans (hb.mono (by simp))
  have Br := Lib.hid kr
  have HW1 := Lib.hid kw
  clear hb kw kr
  go_wp2_with fail
  refine (M2.out _).mono ?_
  rintro e w2 ⟨rfl, hb⟩
  have kr : Blk w2 w.heap.size #[.bool false, .int .u64 0, .int .u64 0] := Br.out.call hb
  have kw : Below w.heap.size w w2 := HW1.out.trans (hb.mono HW1.out.size)
  clear Br HW1
  have Br := Lib.hid kr
  have HW2 := Lib.hid kw
  clear hb kw kr
  go_wp2_with fail
  refine (M3.out _).mono ?_
  rintro e w3 ⟨rfl, hb⟩
  have kr : Blk w3 w.heap.size #[.bool false, .int .u64 0, .int .u64 0] := Br.out.call hb
  have kw : Below w.heap.size w w3 := HW2.out.trans (hb.mono HW2.out.size)
  clear Br HW2
  have Br := Lib.hid kr
  have HW3 := Lib.hid kw
  clear hb kw kr
  have lr := Br.out.lt
  have cr0 : w3.cell? ⟨w.heap.size, 0, none⟩ = some (.bool false) := Br.out.cell rfl
  have fr0 := Br.out.free 0
  have cr1 : w3.cell? ⟨w.heap.size, 1, none⟩ = some (.int .u64 0) := Br.out.cell rfl
  have fr1 := Br.out.free 1
  have cr2 : w3.cell? ⟨w.heap.size, 2, none⟩ = some (.int .u64 0) := Br.out.cell rfl
  have fr2 := Br.out.free 2
  go_upto_region 2 with fail
  go_region
  all_goals go_wp2_with fail
  all_goals exact bodyPost_ret (v := .agg #[.bool (false), .int .u64 (hi n : Nat), .int .u64 (lo n : Nat)]) (by simp [results, Try.results31, go_sem, cr0, cr1, cr2, lr]) rfl ⟨rfl, ((((HW3.out.setCell (p := ⟨w.heap.size, 0, none⟩) (by have := Br.out.lt; have := HW3.out.size; (first | (simp; done) | (simp; omega) | omega)) _).setCell (p := ⟨w.heap.size, 1, none⟩) (by have := Br.out.lt; have := HW3.out.size; (first | (simp; done) | (simp; omega) | omega)) _).setCell (p := ⟨w.heap.size, 2, none⟩) (by have := Br.out.lt; have := HW3.out.size; (first | (simp; done) | (simp; omega) | omega)) _).alloc (by have := HW3.out.size; simpa [World.setCell] using this) _).drew⟩
theorem prod_false_false (a b : Int) (x y n : Nat) (w : World)
    (hX : decide (a < 0) = false) (hY : decide (b < 0) = false)
    (m1 : ∀ w, Calls Try.prog 39 #[.int .i64 a] w fun en w' => en = .returned (.agg #[.int .u64 (hi x : Nat), .int .u64 (lo x : Nat)]) ∧ Below w.heap.size w w')
    (m2 : ∀ w, Calls Try.prog 39 #[.int .i64 b] w fun en w' => en = .returned (.agg #[.int .u64 (hi y : Nat), .int .u64 (lo y : Nat)]) ∧ Below w.heap.size w w')
    (m3 : ∀ w, Calls Try.prog 38 #[.agg #[.int .u64 (hi x : Nat), .int .u64 (lo x : Nat)], .agg #[.int .u64 (hi y : Nat), .int .u64 (lo y : Nat)]] w fun en w' => en = .returned (.tuple #[.agg #[.int .u64 (hi n : Nat), .int .u64 (lo n : Nat)], .bool false]) ∧ Below w.heap.size w w') :
    Calls Try.prog 31 #[.int .i64 a, .int .i64 b] w fun en w' => en = .returned (.agg #[.bool (false), .int .u64 (hi n : Nat), .int .u64 (lo n : Nat)]) ∧ Below w.heap.size w w' := by
  have M1 := Lib.hid m1; have M2 := Lib.hid m2; have M3 := Lib.hid m3
  clear m1 m2 m3
  go_enter Try.func31, Try.ntmps31
  go_wp2_with fail
  refine (M1.out _).mono ?_
  rintro e w1 ⟨rfl, hb⟩
  have kr : Blk w1 w.heap.size #[.bool false, .int .u64 0, .int .u64 0] := (Blk.new _ _ _).call hb
  have kw : Below w.heap.size w w1 := ((Below.refl w.heap.size w).alloc (Nat.le_refl _) _).trans (hb.mono (by simp))
  have Br := Lib.hid kr
  have HW1 := Lib.hid kw
  clear hb kw kr
  go_wp2_with fail
  refine (M2.out _).mono ?_
  rintro e w2 ⟨rfl, hb⟩
  have kr : Blk w2 w.heap.size #[.bool false, .int .u64 0, .int .u64 0] := Br.out.call hb
  have kw : Below w.heap.size w w2 := HW1.out.trans (hb.mono HW1.out.size)
  clear Br HW1
  have Br := Lib.hid kr
  have HW2 := Lib.hid kw
  clear hb kw kr
  go_wp2_with fail
  refine (M3.out _).mono ?_
  rintro e w3 ⟨rfl, hb⟩
  have kr : Blk w3 w.heap.size #[.bool false, .int .u64 0, .int .u64 0] := Br.out.call hb
  have kw : Below w.heap.size w w3 := HW2.out.trans (hb.mono HW2.out.size)
  clear Br HW2
  have Br := Lib.hid kr
  have HW3 := Lib.hid kw
  clear hb kw kr
  have lr := Br.out.lt
  have cr0 : w3.cell? ⟨w.heap.size, 0, none⟩ = some (.bool false) := Br.out.cell rfl
  have fr0 := Br.out.free 0
  have cr1 : w3.cell? ⟨w.heap.size, 1, none⟩ = some (.int .u64 0) := Br.out.cell rfl
  have fr1 := Br.out.free 1
  have cr2 : w3.cell? ⟨w.heap.size, 2, none⟩ = some (.int .u64 0) := Br.out.cell rfl
  have fr2 := Br.out.free 2
  go_upto_region 2 with fail
  go_region
  all_goals go_wp2_with fail
  all_goals exact bodyPost_ret (v := .agg #[.bool (false), .int .u64 (hi n : Nat), .int .u64 (lo n : Nat)]) (by simp [results, Try.results31, go_sem, cr0, cr1, cr2, lr]) rfl ⟨rfl, ((((HW3.out.setCell (p := ⟨w.heap.size, 0, none⟩) (by have := Br.out.lt; have := HW3.out.size; (first | (simp; done) | (simp; omega) | omega)) _).setCell (p := ⟨w.heap.size, 1, none⟩) (by have := Br.out.lt; have := HW3.out.size; (first | (simp; done) | (simp; omega) | omega)) _).setCell (p := ⟨w.heap.size, 2, none⟩) (by have := Br.out.lt; have := HW3.out.size; (first | (simp; done) | (simp; omega) | omega)) _).alloc (by have := HW3.out.size; simpa [World.setCell] using this) _).drew⟩
theorem prod_true_false (a b : Int) (x y n : Nat) (D : Bool) (w : World)
    (hX : decide (a < 0) = true) (hY : decide (b < 0) = false)
    (hE : ∀ w, (Op.equalIn 10000 36 (.agg #[.int .u64 (hi n : Nat), .int .u64 (lo n : Nat)]) (.agg #[.int .u64 0, .int .u64 0])).run Try.prog w = .ok D w)
    (m1 : ∀ w, Calls Try.prog 39 #[.int .i64 a] w fun en w' => en = .returned (.agg #[.int .u64 (hi x : Nat), .int .u64 (lo x : Nat)]) ∧ Below w.heap.size w w')
    (m2 : ∀ w, Calls Try.prog 39 #[.int .i64 b] w fun en w' => en = .returned (.agg #[.int .u64 (hi y : Nat), .int .u64 (lo y : Nat)]) ∧ Below w.heap.size w w')
    (m3 : ∀ w, Calls Try.prog 38 #[.agg #[.int .u64 (hi x : Nat), .int .u64 (lo x : Nat)], .agg #[.int .u64 (hi y : Nat), .int .u64 (lo y : Nat)]] w fun en w' => en = .returned (.tuple #[.agg #[.int .u64 (hi n : Nat), .int .u64 (lo n : Nat)], .bool false]) ∧ Below w.heap.size w w') :
    Calls Try.prog 31 #[.int .i64 a, .int .i64 b] w fun en w' => en = .returned (.agg #[.bool (!D), .int .u64 (hi n : Nat), .int .u64 (lo n : Nat)]) ∧ Below w.heap.size w w' := by
  have M1 := Lib.hid m1; have M2 := Lib.hid m2; have M3 := Lib.hid m3
  clear m1 m2 m3
  go_enter Try.func31, Try.ntmps31
  go_wp2_with fail
  refine (M1.out _).mono ?_
  rintro e w1 ⟨rfl, hb⟩
  have kr : Blk w1 w.heap.size #[.bool false, .int .u64 0, .int .u64 0] := (Blk.new _ _ _).call hb
  have kw : Below w.heap.size w w1 := ((Below.refl w.heap.size w).alloc (Nat.le_refl _) _).trans (hb.mono (by simp))
  have Br := Lib.hid kr
  have HW1 := Lib.hid kw
  clear hb kw kr
  go_wp2_with fail
  refine (M2.out _).mono ?_
  rintro e w2 ⟨rfl, hb⟩
  have kr : Blk w2 w.heap.size #[.bool false, .int .u64 0, .int .u64 0] := Br.out.call hb
  have kw : Below w.heap.size w w2 := HW1.out.trans (hb.mono HW1.out.size)
  clear Br HW1
  have Br := Lib.hid kr
  have HW2 := Lib.hid kw
  clear hb kw kr
  go_wp2_with fail
  refine (M3.out _).mono ?_
  rintro e w3 ⟨rfl, hb⟩
  have kr : Blk w3 w.heap.size #[.bool false, .int .u64 0, .int .u64 0] := Br.out.call hb
  have kw : Below w.heap.size w w3 := HW2.out.trans (hb.mono HW2.out.size)
  clear Br HW2
  have Br := Lib.hid kr
  have HW3 := Lib.hid kw
  clear hb kw kr
  have lr := Br.out.lt
  have cr0 : w3.cell? ⟨w.heap.size, 0, none⟩ = some (.bool false) := Br.out.cell rfl
  have fr0 := Br.out.free 0
  have cr1 : w3.cell? ⟨w.heap.size, 1, none⟩ = some (.int .u64 0) := Br.out.cell rfl
  have fr1 := Br.out.free 1
  have cr2 : w3.cell? ⟨w.heap.size, 2, none⟩ = some (.int .u64 0) := Br.out.cell rfl
  have fr2 := Br.out.free 2
  go_upto_region 2 with fail
  go_region
  all_goals go_wp2_with fail
  all_goals exact bodyPost_ret (v := .agg #[.bool (!D), .int .u64 (hi n : Nat), .int .u64 (lo n : Nat)]) (by simp [results, Try.results31, go_sem, cr0, cr1, cr2, lr]) rfl ⟨rfl, ((((HW3.out.setCell (p := ⟨w.heap.size, 0, none⟩) (by have := Br.out.lt; have := HW3.out.size; (first | (simp; done) | (simp; omega) | omega)) _).setCell (p := ⟨w.heap.size, 1, none⟩) (by have := Br.out.lt; have := HW3.out.size; (first | (simp; done) | (simp; omega) | omega)) _).setCell (p := ⟨w.heap.size, 2, none⟩) (by have := Br.out.lt; have := HW3.out.size; (first | (simp; done) | (simp; omega) | omega)) _).alloc (by have := HW3.out.size; simpa [World.setCell] using this) _).drew⟩
theorem prod_false_true (a b : Int) (x y n : Nat) (D : Bool) (w : World)
    (hX : decide (a < 0) = false) (hY : decide (b < 0) = true)
    (hE : ∀ w, (Op.equalIn 10000 36 (.agg #[.int .u64 (hi n : Nat), .int .u64 (lo n : Nat)]) (.agg #[.int .u64 0, .int .u64 0])).run Try.prog w = .ok D w)
    (m1 : ∀ w, Calls Try.prog 39 #[.int .i64 a] w fun en w' => en = .returned (.agg #[.int .u64 (hi x : Nat), .int .u64 (lo x : Nat)]) ∧ Below w.heap.size w w')
    (m2 : ∀ w, Calls Try.prog 39 #[.int .i64 b] w fun en w' => en = .returned (.agg #[.int .u64 (hi y : Nat), .int .u64 (lo y : Nat)]) ∧ Below w.heap.size w w')
    (m3 : ∀ w, Calls Try.prog 38 #[.agg #[.int .u64 (hi x : Nat), .int .u64 (lo x : Nat)], .agg #[.int .u64 (hi y : Nat), .int .u64 (lo y : Nat)]] w fun en w' => en = .returned (.tuple #[.agg #[.int .u64 (hi n : Nat), .int .u64 (lo n : Nat)], .bool false]) ∧ Below w.heap.size w w') :
    Calls Try.prog 31 #[.int .i64 a, .int .i64 b] w fun en w' => en = .returned (.agg #[.bool (!D), .int .u64 (hi n : Nat), .int .u64 (lo n : Nat)]) ∧ Below w.heap.size w w' := by
  have M1 := Lib.hid m1; have M2 := Lib.hid m2; have M3 := Lib.hid m3
  clear m1 m2 m3
  go_enter Try.func31, Try.ntmps31
  go_wp2_with fail
  refine (M1.out _).mono ?_
  rintro e w1 ⟨rfl, hb⟩
  have kr : Blk w1 w.heap.size #[.bool false, .int .u64 0, .int .u64 0] := (Blk.new _ _ _).call hb
  have kw : Below w.heap.size w w1 := ((Below.refl w.heap.size w).alloc (Nat.le_refl _) _).trans (hb.mono (by simp))
  have Br := Lib.hid kr
  have HW1 := Lib.hid kw
  clear hb kw kr
  go_wp2_with fail
  refine (M2.out _).mono ?_
  rintro e w2 ⟨rfl, hb⟩
  have kr : Blk w2 w.heap.size #[.bool false, .int .u64 0, .int .u64 0] := Br.out.call hb
  have kw : Below w.heap.size w w2 := HW1.out.trans (hb.mono HW1.out.size)
  clear Br HW1
  have Br := Lib.hid kr
  have HW2 := Lib.hid kw
  clear hb kw kr
  go_wp2_with fail
  refine (M3.out _).mono ?_
  rintro e w3 ⟨rfl, hb⟩
  have kr : Blk w3 w.heap.size #[.bool false, .int .u64 0, .int .u64 0] := Br.out.call hb
  have kw : Below w.heap.size w w3 := HW2.out.trans (hb.mono HW2.out.size)
  clear Br HW2
  have Br := Lib.hid kr
  have HW3 := Lib.hid kw
  clear hb kw kr
  have lr := Br.out.lt
  have cr0 : w3.cell? ⟨w.heap.size, 0, none⟩ = some (.bool false) := Br.out.cell rfl
  have fr0 := Br.out.free 0
  have cr1 : w3.cell? ⟨w.heap.size, 1, none⟩ = some (.int .u64 0) := Br.out.cell rfl
  have fr1 := Br.out.free 1
  have cr2 : w3.cell? ⟨w.heap.size, 2, none⟩ = some (.int .u64 0) := Br.out.cell rfl
  have fr2 := Br.out.free 2
  go_upto_region 2 with fail
  go_region
  all_goals go_wp2_with fail
  all_goals exact bodyPost_ret (v := .agg #[.bool (!D), .int .u64 (hi n : Nat), .int .u64 (lo n : Nat)]) (by simp [results, Try.results31, go_sem, cr0, cr1, cr2, lr]) rfl ⟨rfl, ((((HW3.out.setCell (p := ⟨w.heap.size, 0, none⟩) (by have := Br.out.lt; have := HW3.out.size; (first | (simp; done) | (simp; omega) | omega)) _).setCell (p := ⟨w.heap.size, 1, none⟩) (by have := Br.out.lt; have := HW3.out.size; (first | (simp; done) | (simp; omega) | omega)) _).setCell (p := ⟨w.heap.size, 2, none⟩) (by have := Br.out.lt; have := HW3.out.size; (first | (simp; done) | (simp; omega) | omega)) _).alloc (by have := HW3.out.size; simpa [World.setCell] using this) _).drew⟩
theorem product_any (a b : Int) (ha : IsInt a) (hb : IsInt b) (w : World) :
    Calls Try.prog 31 #[.int .i64 a, .int .i64 b] w fun en w' => en = .returned (zS (a * b)) ∧ Below w.heap.size w w' := by
  have hf := prod_fit ha hb
  have m1 := rsize_any a ha
  have m2 := rsize_any b hb
  have m3 := ref_times a.natAbs b.natAbs (by have := natAbs_lt ha; unfold M128; omega) (by have := natAbs_lt hb; unfold M128; omega) hf
  unfold zS
  rw [Int.natAbs_mul]
  by_cases h1 : a < 0 <;> by_cases h2 : b < 0
  · rw [decide_eq_false (by have := Int.mul_pos_of_neg_of_neg h1 h2; omega : ¬ a * b < 0)]
    exact prod_true_true a b _ _ _ w (decide_eq_true h1) (decide_eq_true h2) m1 m2 m3
  · have e : decide (a * b < 0) = !decide (a.natAbs * b.natAbs = 0) := by
      rw [ne_zero_D, ← Int.natAbs_mul]
      refine decide_eq_decide.2 ⟨fun h => by omega, fun h => ?_⟩
      have := Int.mul_nonpos_of_nonpos_of_nonneg (Int.le_of_lt h1) (by omega : 0 ≤ b)
      omega
    rw [e]
    exact prod_true_false a b _ _ _ _ w (decide_eq_true h1) (decide_eq_false h2) (eqZero _) m1 m2 m3
  · have e : decide (a * b < 0) = !decide (a.natAbs * b.natAbs = 0) := by
      rw [ne_zero_D, ← Int.natAbs_mul]
      refine decide_eq_decide.2 ⟨fun h => by omega, fun h => ?_⟩
      have := Int.mul_nonpos_of_nonneg_of_nonpos (by omega : 0 ≤ a) (Int.le_of_lt h2)
      omega
    rw [e]
    exact prod_false_true a b _ _ _ _ w (decide_eq_false h1) (decide_eq_true h2) (eqZero _) m1 m2 m3
  · rw [decide_eq_false (by have := Int.mul_nonneg (by omega : 0 ≤ a) (by omega : 0 ≤ b); omega : ¬ a * b < 0)]
    exact prod_false_false a b _ _ _ w (decide_eq_false h1) (decide_eq_false h2) m1 m2 m3
end Go.Proofs.Ytfafkdbflmennaa
