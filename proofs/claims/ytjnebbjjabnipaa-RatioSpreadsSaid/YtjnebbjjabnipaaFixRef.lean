/- The reference of stage 4: ints by sign and size: Size, Of, Int, told, Plus, Product. -/
import Derived.Test.YtjnebbjjabnipaaFixS
import Derived.Test.YtjnebbjjabnipaaRAdd
import Derived.Test.YtjnebbjjabnipaaRSub
import Derived.Test.YtjnebbjjabnipaaRLess
import Derived.Test.YtjnebbjjabnipaaRTimes
import Derived.Test.YtjnebbjjabnipaaGen
import Derived.Test.YtjnebbjjabnipaaBase
import Derived.Test.YtjnebbjjabnipaaOf
import Derived.IntWalk
namespace Go.Proofs.Ytjnebbjjabnipaa
open Go.RowKit

theorem ref_add (x y : Nat) (h : x + y < M128) (w : World) :
    Calls Try.prog 50 #[.agg #[.int .u64 (hi x : Nat), .int .u64 (lo x : Nat)], .agg #[.int .u64 (hi y : Nat), .int .u64 (lo y : Nat)]] w fun en w' => en = .returned (.tuple #[.agg #[.int .u64 (hi (x + y) : Nat), .int .u64 (lo (x + y) : Nat)], .bool false]) ∧ Below w.heap.size w w' := by
  have := radd_any x y (by omega) (by omega) w
  rw [addW_fit _ _ h, addO_fit _ _ h] at this
  exact this
theorem ref_times (x y : Nat) (hx : x < M128) (hy : y < M128) (h : x * y < M128) (w : World) :
    Calls Try.prog 63 #[.agg #[.int .u64 (hi x : Nat), .int .u64 (lo x : Nat)], .agg #[.int .u64 (hi y : Nat), .int .u64 (lo y : Nat)]] w fun en w' => en = .returned (.tuple #[.agg #[.int .u64 (hi (x * y) : Nat), .int .u64 (lo (x * y) : Nat)], .bool false]) ∧ Below w.heap.size w w' := by
  have := rtimes_any x y hx hy w
  rw [mulW_fit _ _ h, mulO_fit _ _ h] at this
  exact this
theorem ref_of (x : Nat) (hx : x < B64) (w : World) :
    Calls Try.prog 28 #[.int .u64 (x : Nat)] w fun en w' => en = .returned (.agg #[.int .u64 (hi x : Nat), .int .u64 (lo x : Nat)]) ∧ Below w.heap.size w w' := by
  have := of_any x w
  rw [hi_low x hx, lo_low x hx]
  exact this
theorem rsize_neg (a b : Int) (x y n : Nat) (w : World)
    (h : a < 0) (h1 : IntKind.i64.wrap (a + 1) = b) (h2 : IntKind.u64.wrap (wrap64 (-b)) = (x : Nat))
    (m1 : ∀ w, Calls Try.prog 28 #[.int .u64 (x : Nat)] w fun en w' => en = .returned (.agg #[.int .u64 (hi x : Nat), .int .u64 (lo x : Nat)]) ∧ Below w.heap.size w w')
    (m2 : ∀ w, Calls Try.prog 28 #[.int .u64 1] w fun en w' => en = .returned (.agg #[.int .u64 (hi y : Nat), .int .u64 (lo y : Nat)]) ∧ Below w.heap.size w w')
    (m3 : ∀ w, Calls Try.prog 50 #[.agg #[.int .u64 (hi x : Nat), .int .u64 (lo x : Nat)], .agg #[.int .u64 (hi y : Nat), .int .u64 (lo y : Nat)]] w fun en w' => en = .returned (.tuple #[.agg #[.int .u64 (hi n : Nat), .int .u64 (lo n : Nat)], .bool false]) ∧ Below w.heap.size w w') :
    Calls Try.prog 27 #[.int .i64 a] w fun en w' => en = .returned (.agg #[.int .u64 (hi n : Nat), .int .u64 (lo n : Nat)]) ∧ Below w.heap.size w w' := by
  have M1 := Lib.hid m1; have M2 := Lib.hid m2; have M3 := Lib.hid m3
  clear m1 m2 m3
  go_enter Try.func27, Try.ntmps27
  go_wp2_with fail
  refine (M1.out _).mono ?_
  rintro e w1 ⟨rfl, hb⟩
  have kr : Blk w1 w.heap.size #[.int .u64 0, .int .u64 0] := (Blk.new _ _ _).call hb
  have kw : Below w.heap.size w w1 := ((Below.refl w.heap.size w).alloc (Nat.le_refl _) _).trans (hb.mono (by simp))
  have Br := Lib.hid kr
  have HW1 := Lib.hid kw
  clear hb kw kr
  clear h h1 h2
  go_wp2_with fail
  refine (M2.out _).mono ?_
  rintro e w2 ⟨rfl, hb⟩
  have kr : Blk w2 w.heap.size #[.int .u64 0, .int .u64 0] := Br.out.call hb
  have kw : Below w.heap.size w w2 := HW1.out.trans (hb.mono HW1.out.size)
  clear Br HW1
  have Br := Lib.hid kr
  have HW2 := Lib.hid kw
  clear hb kw kr
  go_wp2_with fail
  refine (M3.out _).mono ?_
  rintro e w3 ⟨rfl, hb⟩
  have kr : Blk w3 w.heap.size #[.int .u64 0, .int .u64 0] := Br.out.call hb
  have kw : Below w.heap.size w w3 := HW2.out.trans (hb.mono HW2.out.size)
  clear Br HW2
  have Br := Lib.hid kr
  have HW3 := Lib.hid kw
  clear hb kw kr
  have lr := Br.out.lt
  have cr0 : w3.cell? ⟨w.heap.size, 0, none⟩ = some (.int .u64 0) := Br.out.cell rfl
  have fr0 := Br.out.free 0
  have cr1 : w3.cell? ⟨w.heap.size, 1, none⟩ = some (.int .u64 0) := Br.out.cell rfl
  have fr1 := Br.out.free 1
  go_wp2_with fail
  exact bodyPost_ret (v := .agg #[.int .u64 (hi n : Nat), .int .u64 (lo n : Nat)]) (by simp [results, Try.results27, go_sem, cr0, cr1, lr]) rfl ⟨rfl, (((HW3.out.setCell (p := ⟨w.heap.size, 0, none⟩) (by have := Br.out.lt; have := HW3.out.size; (first | (simp; done) | (simp; omega) | omega)) _).setCell (p := ⟨w.heap.size, 1, none⟩) (by have := Br.out.lt; have := HW3.out.size; (first | (simp; done) | (simp; omega) | omega)) _).alloc (by have := HW3.out.size; simpa [World.setCell] using this) _)⟩
theorem rsize_pos (a : Int) (n : Nat) (w : World)
    (h : ¬ a < 0) (h1 : IntKind.u64.wrap a = (n : Nat))
    (m1 : ∀ w, Calls Try.prog 28 #[.int .u64 (n : Nat)] w fun en w' => en = .returned (.agg #[.int .u64 (hi n : Nat), .int .u64 (lo n : Nat)]) ∧ Below w.heap.size w w') :
    Calls Try.prog 27 #[.int .i64 a] w fun en w' => en = .returned (.agg #[.int .u64 (hi n : Nat), .int .u64 (lo n : Nat)]) ∧ Below w.heap.size w w' := by
  have M1 := Lib.hid m1
  clear m1
  go_enter Try.func27, Try.ntmps27
  go_wp2_with fail
  refine (M1.out _).mono ?_
  rintro e w1 ⟨rfl, hb⟩
  have kr : Blk w1 w.heap.size #[.int .u64 0, .int .u64 0] := (Blk.new _ _ _).call hb
  have kw : Below w.heap.size w w1 := ((Below.refl w.heap.size w).alloc (Nat.le_refl _) _).trans (hb.mono (by simp))
  have Br := Lib.hid kr
  have HW1 := Lib.hid kw
  clear hb kw kr
  clear h h1
  have lr := Br.out.lt
  have cr0 : w1.cell? ⟨w.heap.size, 0, none⟩ = some (.int .u64 0) := Br.out.cell rfl
  have fr0 := Br.out.free 0
  have cr1 : w1.cell? ⟨w.heap.size, 1, none⟩ = some (.int .u64 0) := Br.out.cell rfl
  have fr1 := Br.out.free 1
  go_wp2_with fail
  exact bodyPost_ret (v := .agg #[.int .u64 (hi n : Nat), .int .u64 (lo n : Nat)]) (by simp [results, Try.results27, go_sem, cr0, cr1]) rfl ⟨rfl, ((HW1.out.setCell (p := ⟨w.heap.size, 0, none⟩) (by have := Br.out.lt; have := HW1.out.size; (first | (simp; done) | (simp; omega) | omega)) _).setCell (p := ⟨w.heap.size, 1, none⟩) (by have := Br.out.lt; have := HW1.out.size; (first | (simp; done) | (simp; omega) | omega)) _)⟩
theorem rsize_any (a : Int) (ha : IsInt a) (w : World) :
    Calls Try.prog 27 #[.int .i64 a] w fun en w' => en = .returned (.agg #[.int .u64 (hi a.natAbs : Nat), .int .u64 (lo a.natAbs : Nat)]) ∧ Below w.heap.size w w' := by
  unfold IsInt at ha
  by_cases h : a < 0
  · have e : a.natAbs = (a.natAbs - 1) + 1 := by omega
    rw [e]
    refine rsize_neg a (a + 1) (a.natAbs - 1) 1 _ w h (wrap_int (by unfold IsInt; omega)) ?_ (ref_of _ (by unfold B64; omega)) (ref_of 1 (by decide)) (ref_add _ _ (by unfold M128; omega))
    rw [IntWalk.wrap64_in _ ⟨by omega, by omega⟩, u64_low _ (by omega) (by omega)]
    omega
  · refine rsize_pos a _ w h ?_ (ref_of _ (by unfold B64; omega))
    rw [u64_low _ (by omega) (by omega)]
    omega
theorem rof_core (a : Int) (n : Nat) (X : Bool) (w : World)
    (h : decide (a < 0) = X)
    (m1 : ∀ w, Calls Try.prog 27 #[.int .i64 a] w fun en w' => en = .returned (.agg #[.int .u64 (hi n : Nat), .int .u64 (lo n : Nat)]) ∧ Below w.heap.size w w') :
    Calls Try.prog 29 #[.int .i64 a] w fun en w' => en = .returned (.agg #[.bool X, .int .u64 (hi n : Nat), .int .u64 (lo n : Nat)]) ∧ Below w.heap.size w w' := by
  have M1 := Lib.hid m1
  clear m1
  go_enter Try.func29, Try.ntmps29
  go_wp2_with fail
  refine (M1.out _).mono ?_
  rintro e w1 ⟨rfl, hb⟩
  have kr : Blk w1 w.heap.size #[.bool false, .int .u64 0, .int .u64 0] := (Blk.new _ _ _).call hb
  have kw : Below w.heap.size w w1 := ((Below.refl w.heap.size w).alloc (Nat.le_refl _) _).trans (hb.mono (by simp))
  have Br := Lib.hid kr
  have HW1 := Lib.hid kw
  clear hb kw kr
  have lr := Br.out.lt
  have cr0 : w1.cell? ⟨w.heap.size, 0, none⟩ = some (.bool false) := Br.out.cell rfl
  have fr0 := Br.out.free 0
  have cr1 : w1.cell? ⟨w.heap.size, 1, none⟩ = some (.int .u64 0) := Br.out.cell rfl
  have fr1 := Br.out.free 1
  have cr2 : w1.cell? ⟨w.heap.size, 2, none⟩ = some (.int .u64 0) := Br.out.cell rfl
  have fr2 := Br.out.free 2
  go_wp2_with fail
  exact bodyPost_ret (v := .agg #[.bool X, .int .u64 (hi n : Nat), .int .u64 (lo n : Nat)]) (by simp [results, Try.results29, go_sem, cr0, cr1, cr2]) rfl ⟨rfl, (((HW1.out.setCell (p := ⟨w.heap.size, 0, none⟩) (by have := Br.out.lt; have := HW1.out.size; (first | (simp; done) | (simp; omega) | omega)) _).setCell (p := ⟨w.heap.size, 1, none⟩) (by have := Br.out.lt; have := HW1.out.size; (first | (simp; done) | (simp; omega) | omega)) _).setCell (p := ⟨w.heap.size, 2, none⟩) (by have := Br.out.lt; have := HW1.out.size; (first | (simp; done) | (simp; omega) | omega)) _)⟩
theorem rof_any (a : Int) (ha : IsInt a) (w : World) :
    Calls Try.prog 29 #[.int .i64 a] w fun en w' => en = .returned (.agg #[.bool (decide (a < 0)), .int .u64 (hi a.natAbs : Nat), .int .u64 (lo a.natAbs : Nat)]) ∧ Below w.heap.size w w' := by
  exact rof_core a _ _ w rfl (rsize_any a ha)
set_option maxRecDepth 100000 in
theorem rint_hi (B : Bool) (h l : Nat) (w : World) (hh : 0 < h) :
    Calls Try.prog 52 #[.agg #[.bool B, .int .u64 (h : Nat), .int .u64 (l : Nat)]] w fun en w' => en = .returned (.tuple #[.int .i64 0, .bool false]) ∧ Below w.heap.size w w' := by
  go_enter Try.func52, Try.ntmps52
  go_wp2_with fail
  go_ret2
  exact ⟨rfl, ((Below.refl w.heap.size w).alloc (Nat.le_refl _) _)⟩
set_option maxRecDepth 100000 in
theorem rint_big (B : Bool) (l : Nat) (w : World) (hl : 9223372036854775808 < l) :
    Calls Try.prog 52 #[.agg #[.bool B, .int .u64 0, .int .u64 (l : Nat)]] w fun en w' => en = .returned (.tuple #[.int .i64 0, .bool false]) ∧ Below w.heap.size w w' := by
  go_enter Try.func52, Try.ntmps52
  go_wp2_with fail
  go_ret2
  exact ⟨rfl, ((Below.refl w.heap.size w).alloc (Nat.le_refl _) _)⟩
set_option maxRecDepth 100000 in
theorem rint_top (l : Nat) (w : World) (hl : (l : Int) ≤ 9223372036854775808) (he : ((l : Int) == 9223372036854775808) = true) :
    Calls Try.prog 52 #[.agg #[.bool false, .int .u64 0, .int .u64 (l : Nat)]] w fun en w' => en = .returned (.tuple #[.int .i64 0, .bool false]) ∧ Below w.heap.size w w' := by
  go_enter Try.func52, Try.ntmps52
  go_wp2_with fail
  go_ret2
  exact ⟨rfl, ((Below.refl w.heap.size w).alloc (Nat.le_refl _) _)⟩
set_option maxRecDepth 100000 in
theorem rint_least (l : Nat) (w : World) (hl : (l : Int) ≤ 9223372036854775808) (he : ((l : Int) == 9223372036854775808) = true) :
    Calls Try.prog 52 #[.agg #[.bool true, .int .u64 0, .int .u64 (l : Nat)]] w fun en w' => en = .returned (.tuple #[.int .i64 (-9223372036854775808), .bool true]) ∧ Below w.heap.size w w' := by
  go_enter Try.func52, Try.ntmps52
  go_wp2_with fail
  go_ret2
  exact ⟨rfl, ((Below.refl w.heap.size w).alloc (Nat.le_refl _) _)⟩
set_option maxRecDepth 100000 in
theorem rint_pos (l : Nat) (z : Int) (w : World) (hl : (l : Int) ≤ 9223372036854775808) (he : ((l : Int) == 9223372036854775808) = false) (hz : IntKind.i64.wrap (l : Nat) = z) :
    Calls Try.prog 52 #[.agg #[.bool false, .int .u64 0, .int .u64 (l : Nat)]] w fun en w' => en = .returned (.tuple #[.int .i64 z, .bool true]) ∧ Below w.heap.size w w' := by
  go_enter Try.func52, Try.ntmps52
  go_wp2_with fail
  go_ret2
  exact ⟨rfl, ((Below.refl w.heap.size w).alloc (Nat.le_refl _) _)⟩
set_option maxRecDepth 100000 in
theorem rint_neg (l : Nat) (y z : Int) (w : World) (hl : (l : Int) ≤ 9223372036854775808) (he : ((l : Int) == 9223372036854775808) = false) (hy : IntKind.i64.wrap (l : Nat) = y) (hz : wrap64 (-y) = z) :
    Calls Try.prog 52 #[.agg #[.bool true, .int .u64 0, .int .u64 (l : Nat)]] w fun en w' => en = .returned (.tuple #[.int .i64 z, .bool true]) ∧ Below w.heap.size w w' := by
  go_enter Try.func52, Try.ntmps52
  go_wp2_with fail
  go_ret2
  exact ⟨by rw [← hz]; rfl, ((Below.refl w.heap.size w).alloc (Nat.le_refl _) _)⟩
theorem rint_any (B : Bool) (n : Nat) (hn : n < M128) (w : World) :
    Calls Try.prog 52 #[.agg #[.bool B, .int .u64 (hi n : Nat), .int .u64 (lo n : Nat)]] w fun en w' => en = .returned (.tuple #[.int .i64 (ans (sgn B n)), .bool (decide (IsInt (sgn B n)))]) ∧ Below w.heap.size w w' := by
  by_cases h : hi n = 0
  · have hl : lo n = n := by have := vw_hi_lo n; unfold vw at this; omega
    rw [h, hl]
    by_cases h1 : 9223372036854775808 < n
    · have no : ¬ IsInt (sgn B n) := by unfold IsInt sgn; split <;> omega
      rw [ans_no no, decide_eq_false no]
      exact rint_big B n w h1
    by_cases h2 : n = 9223372036854775808
    · subst h2
      cases B
      · exact rint_top _ w (by decide) (by decide)
      · exact rint_least _ w (by decide) (by decide)
    have yes : IsInt (sgn B n) := by unfold IsInt sgn; split <;> omega
    rw [ans_ok yes, decide_eq_true yes]
    cases B
    · exact rint_pos n n w (by omega) (by simp; omega) (wrap_int yes)
    · exact rint_neg n n (-(n : Int)) w (by omega) (by simp; omega) (wrap_int (by unfold IsInt; omega)) (IntWalk.wrap64_in _ ⟨by omega, by omega⟩)
  · have hb : 18446744073709551616 ≤ n := by have := vw_hi_lo n; unfold vw at this; omega
    have no : ¬ IsInt (sgn B n) := by unfold IsInt sgn; split <;> omega
    rw [ans_no no, decide_eq_false no]
    exact rint_hi B _ _ w (Nat.pos_of_ne_zero h)
theorem rtold_true (B : Bool) (n : Nat) (x : Int) (w : World)
    (m1 : ∀ w, Calls Try.prog 52 #[.agg #[.bool B, .int .u64 (hi n : Nat), .int .u64 (lo n : Nat)]] w fun en w' => en = .returned (.tuple #[.int .i64 x, .bool true]) ∧ Below w.heap.size w w') :
    Calls Try.prog 81 #[.agg #[.bool B, .int .u64 (hi n : Nat), .int .u64 (lo n : Nat)]] w fun en w' => en = .returned (.tuple #[.int .i64 x, .int .i64 0]) ∧ Below w.heap.size w w' := by
  have M1 := Lib.hid m1
  clear m1
  go_enter Try.func81, Try.ntmps81
  go_wp2_with fail
  refine (M1.out _).mono ?_
  rintro e w1 ⟨rfl, hb⟩
  have ks : Blk w1 w.heap.size #[.bool B, .int .u64 (hi n : Nat), .int .u64 (lo n : Nat)] := (Blk.new _ _ _).call hb
  have kw : Below w.heap.size w w1 := ((Below.refl w.heap.size w).alloc (Nat.le_refl _) _).trans (hb.mono (by simp))
  have Bs := Lib.hid ks
  have HW1 := Lib.hid kw
  clear hb kw ks
  go_wp2_with fail
  go_ret2
  exact ⟨rfl, HW1.out⟩
theorem rtold_false (B : Bool) (n : Nat) (x : Int) (w : World)
    (m1 : ∀ w, Calls Try.prog 52 #[.agg #[.bool B, .int .u64 (hi n : Nat), .int .u64 (lo n : Nat)]] w fun en w' => en = .returned (.tuple #[.int .i64 x, .bool false]) ∧ Below w.heap.size w w') :
    Calls Try.prog 81 #[.agg #[.bool B, .int .u64 (hi n : Nat), .int .u64 (lo n : Nat)]] w fun en w' => en = .returned (.tuple #[.int .i64 0, .int .i64 5]) ∧ Below w.heap.size w w' := by
  have M1 := Lib.hid m1
  clear m1
  go_enter Try.func81, Try.ntmps81
  go_wp2_with fail
  refine (M1.out _).mono ?_
  rintro e w1 ⟨rfl, hb⟩
  have ks : Blk w1 w.heap.size #[.bool B, .int .u64 (hi n : Nat), .int .u64 (lo n : Nat)] := (Blk.new _ _ _).call hb
  have kw : Below w.heap.size w w1 := ((Below.refl w.heap.size w).alloc (Nat.le_refl _) _).trans (hb.mono (by simp))
  have Bs := Lib.hid ks
  have HW1 := Lib.hid kw
  clear hb kw ks
  go_wp2_with fail
  go_ret2
  exact ⟨rfl, HW1.out⟩
theorem rtold_any (B : Bool) (n : Nat) (hn : n < M128) (w : World) :
    Calls Try.prog 81 #[.agg #[.bool B, .int .u64 (hi n : Nat), .int .u64 (lo n : Nat)]] w fun en w' => en = .returned (.tuple #[.int .i64 (ans (sgn B n)), .int .i64 (err (sgn B n))]) ∧ Below w.heap.size w w' := by
  have h := fun w => rint_any B n hn w
  by_cases k : IsInt (sgn B n)
  · rw [decide_eq_true k] at h
    rw [err_ok k]
    exact rtold_true B n _ w h
  · rw [decide_eq_false k] at h
    rw [err_no k, ans_no k]
    exact rtold_false B n _ w h
theorem plus_same_true (x y n : Nat) (w : World)
    (m1 : ∀ w, Calls Try.prog 50 #[.agg #[.int .u64 (hi x : Nat), .int .u64 (lo x : Nat)], .agg #[.int .u64 (hi y : Nat), .int .u64 (lo y : Nat)]] w fun en w' => en = .returned (.tuple #[.agg #[.int .u64 (hi n : Nat), .int .u64 (lo n : Nat)], .bool false]) ∧ Below w.heap.size w w') :
    Calls Try.prog 36 #[.agg #[.bool true, .int .u64 (hi x : Nat), .int .u64 (lo x : Nat)], .agg #[.bool true, .int .u64 (hi y : Nat), .int .u64 (lo y : Nat)]] w fun en w' => en = .returned (.agg #[.bool true, .int .u64 (hi n : Nat), .int .u64 (lo n : Nat)]) ∧ Below w.heap.size w w' := by
  have M1 := Lib.hid m1
  clear m1
  go_enter Try.func36, Try.ntmps36
  go_wp2_with fail
  refine (M1.out _).mono ?_
  rintro e w1 ⟨rfl, hb⟩
  have ka : Blk w1 w.heap.size #[.bool true, .int .u64 (hi x : Nat), .int .u64 (lo x : Nat)] := (((Blk.new _ _ _).alloc _).alloc _).call hb
  have kb : Blk w1 (w.heap.size + 1) #[.bool true, .int .u64 (hi y : Nat), .int .u64 (lo y : Nat)] := ((Blk.newAt (by simp)).alloc _).call hb
  have kr : Blk w1 (w.heap.size + 1 + 1) #[.bool false, .int .u64 0, .int .u64 0] := (Blk.newAt (by simp)).call hb
  have kw : Below w.heap.size w w1 := ((((Below.refl w.heap.size w).alloc (Nat.le_refl _) _).alloc (by simp) _).alloc (by simp; omega) _).trans (hb.mono (by simp; omega))
  have Ba := Lib.hid ka
  have Bb := Lib.hid kb
  have Br := Lib.hid kr
  have HW1 := Lib.hid kw
  clear hb kw ka kb kr
  have la := Ba.out.lt
  have ca0 : w1.cell? ⟨w.heap.size, 0, none⟩ = some (.bool true) := Ba.out.cell rfl
  have ca1 : w1.cell? ⟨w.heap.size, 1, none⟩ = some (.int .u64 (hi x : Nat)) := Ba.out.cell rfl
  have ca2 : w1.cell? ⟨w.heap.size, 2, none⟩ = some (.int .u64 (lo x : Nat)) := Ba.out.cell rfl
  have lr := Br.out.lt
  have cr0 : w1.cell? ⟨(w.heap.size + 1 + 1), 0, none⟩ = some (.bool false) := Br.out.cell rfl
  have fr0 := Br.out.free 0
  have cr1 : w1.cell? ⟨(w.heap.size + 1 + 1), 1, none⟩ = some (.int .u64 0) := Br.out.cell rfl
  have fr1 := Br.out.free 1
  have cr2 : w1.cell? ⟨(w.heap.size + 1 + 1), 2, none⟩ = some (.int .u64 0) := Br.out.cell rfl
  have fr2 := Br.out.free 2
  go_wp2_with fail
  exact bodyPost_ret (v := .agg #[.bool true, .int .u64 (hi n : Nat), .int .u64 (lo n : Nat)]) (by simp [results, Try.results36, go_sem, cr0, cr1, cr2, lr]) rfl ⟨rfl, ((((HW1.out.setCell (p := ⟨(w.heap.size + 1 + 1), 0, none⟩) (by have := Ba.out.lt; have := Bb.out.lt; have := Br.out.lt; have := HW1.out.size; (first | (simp; done) | (simp; omega) | omega)) _).setCell (p := ⟨(w.heap.size + 1 + 1), 1, none⟩) (by have := Ba.out.lt; have := Bb.out.lt; have := Br.out.lt; have := HW1.out.size; (first | (simp; done) | (simp; omega) | omega)) _).setCell (p := ⟨(w.heap.size + 1 + 1), 2, none⟩) (by have := Ba.out.lt; have := Bb.out.lt; have := Br.out.lt; have := HW1.out.size; (first | (simp; done) | (simp; omega) | omega)) _).alloc (by have := HW1.out.size; simpa [World.setCell] using this) _)⟩
theorem plus_same_false (x y n : Nat) (w : World)
    (m1 : ∀ w, Calls Try.prog 50 #[.agg #[.int .u64 (hi x : Nat), .int .u64 (lo x : Nat)], .agg #[.int .u64 (hi y : Nat), .int .u64 (lo y : Nat)]] w fun en w' => en = .returned (.tuple #[.agg #[.int .u64 (hi n : Nat), .int .u64 (lo n : Nat)], .bool false]) ∧ Below w.heap.size w w') :
    Calls Try.prog 36 #[.agg #[.bool false, .int .u64 (hi x : Nat), .int .u64 (lo x : Nat)], .agg #[.bool false, .int .u64 (hi y : Nat), .int .u64 (lo y : Nat)]] w fun en w' => en = .returned (.agg #[.bool false, .int .u64 (hi n : Nat), .int .u64 (lo n : Nat)]) ∧ Below w.heap.size w w' := by
  have M1 := Lib.hid m1
  clear m1
  go_enter Try.func36, Try.ntmps36
  go_wp2_with fail
  refine (M1.out _).mono ?_
  rintro e w1 ⟨rfl, hb⟩
  have ka : Blk w1 w.heap.size #[.bool false, .int .u64 (hi x : Nat), .int .u64 (lo x : Nat)] := (((Blk.new _ _ _).alloc _).alloc _).call hb
  have kb : Blk w1 (w.heap.size + 1) #[.bool false, .int .u64 (hi y : Nat), .int .u64 (lo y : Nat)] := ((Blk.newAt (by simp)).alloc _).call hb
  have kr : Blk w1 (w.heap.size + 1 + 1) #[.bool false, .int .u64 0, .int .u64 0] := (Blk.newAt (by simp)).call hb
  have kw : Below w.heap.size w w1 := ((((Below.refl w.heap.size w).alloc (Nat.le_refl _) _).alloc (by simp) _).alloc (by simp; omega) _).trans (hb.mono (by simp; omega))
  have Ba := Lib.hid ka
  have Bb := Lib.hid kb
  have Br := Lib.hid kr
  have HW1 := Lib.hid kw
  clear hb kw ka kb kr
  have la := Ba.out.lt
  have ca0 : w1.cell? ⟨w.heap.size, 0, none⟩ = some (.bool false) := Ba.out.cell rfl
  have ca1 : w1.cell? ⟨w.heap.size, 1, none⟩ = some (.int .u64 (hi x : Nat)) := Ba.out.cell rfl
  have ca2 : w1.cell? ⟨w.heap.size, 2, none⟩ = some (.int .u64 (lo x : Nat)) := Ba.out.cell rfl
  have lr := Br.out.lt
  have cr0 : w1.cell? ⟨(w.heap.size + 1 + 1), 0, none⟩ = some (.bool false) := Br.out.cell rfl
  have fr0 := Br.out.free 0
  have cr1 : w1.cell? ⟨(w.heap.size + 1 + 1), 1, none⟩ = some (.int .u64 0) := Br.out.cell rfl
  have fr1 := Br.out.free 1
  have cr2 : w1.cell? ⟨(w.heap.size + 1 + 1), 2, none⟩ = some (.int .u64 0) := Br.out.cell rfl
  have fr2 := Br.out.free 2
  go_wp2_with fail
  exact bodyPost_ret (v := .agg #[.bool false, .int .u64 (hi n : Nat), .int .u64 (lo n : Nat)]) (by simp [results, Try.results36, go_sem, cr0, cr1, cr2, lr]) rfl ⟨rfl, ((((HW1.out.setCell (p := ⟨(w.heap.size + 1 + 1), 0, none⟩) (by have := Ba.out.lt; have := Bb.out.lt; have := Br.out.lt; have := HW1.out.size; (first | (simp; done) | (simp; omega) | omega)) _).setCell (p := ⟨(w.heap.size + 1 + 1), 1, none⟩) (by have := Ba.out.lt; have := Bb.out.lt; have := Br.out.lt; have := HW1.out.size; (first | (simp; done) | (simp; omega) | omega)) _).setCell (p := ⟨(w.heap.size + 1 + 1), 2, none⟩) (by have := Ba.out.lt; have := Bb.out.lt; have := Br.out.lt; have := HW1.out.size; (first | (simp; done) | (simp; omega) | omega)) _).alloc (by have := HW1.out.size; simpa [World.setCell] using this) _)⟩
theorem plus_less_true (x y n : Nat) (w : World)
    (m1 : ∀ w, Calls Try.prog 61 #[.agg #[.int .u64 (hi x : Nat), .int .u64 (lo x : Nat)], .agg #[.int .u64 (hi y : Nat), .int .u64 (lo y : Nat)]] w fun en w' => en = .returned (.bool true) ∧ Below w.heap.size w w')
    (m2 : ∀ w, Calls Try.prog 62 #[.agg #[.int .u64 (hi y : Nat), .int .u64 (lo y : Nat)], .agg #[.int .u64 (hi x : Nat), .int .u64 (lo x : Nat)]] w fun en w' => en = .returned (.tuple #[.agg #[.int .u64 (hi n : Nat), .int .u64 (lo n : Nat)], .bool false]) ∧ Below w.heap.size w w') :
    Calls Try.prog 36 #[.agg #[.bool true, .int .u64 (hi x : Nat), .int .u64 (lo x : Nat)], .agg #[.bool false, .int .u64 (hi y : Nat), .int .u64 (lo y : Nat)]] w fun en w' => en = .returned (.agg #[.bool false, .int .u64 (hi n : Nat), .int .u64 (lo n : Nat)]) ∧ Below w.heap.size w w' := by
  have M1 := Lib.hid m1; have M2 := Lib.hid m2
  clear m1 m2
  go_enter Try.func36, Try.ntmps36
  go_wp2_with fail
  refine (M1.out _).mono ?_
  rintro e w1 ⟨rfl, hb⟩
  have ka : Blk w1 w.heap.size #[.bool true, .int .u64 (hi x : Nat), .int .u64 (lo x : Nat)] := (((Blk.new _ _ _).alloc _).alloc _).call hb
  have kb : Blk w1 (w.heap.size + 1) #[.bool false, .int .u64 (hi y : Nat), .int .u64 (lo y : Nat)] := ((Blk.newAt (by simp)).alloc _).call hb
  have kr : Blk w1 (w.heap.size + 1 + 1) #[.bool false, .int .u64 0, .int .u64 0] := (Blk.newAt (by simp)).call hb
  have kw : Below w.heap.size w w1 := ((((Below.refl w.heap.size w).alloc (Nat.le_refl _) _).alloc (by simp) _).alloc (by simp; omega) _).trans (hb.mono (by simp; omega))
  have Ba := Lib.hid ka
  have Bb := Lib.hid kb
  have Br := Lib.hid kr
  have HW1 := Lib.hid kw
  clear hb kw ka kb kr
  have la := Ba.out.lt
  have ca0 : w1.cell? ⟨w.heap.size, 0, none⟩ = some (.bool true) := Ba.out.cell rfl
  have ca1 : w1.cell? ⟨w.heap.size, 1, none⟩ = some (.int .u64 (hi x : Nat)) := Ba.out.cell rfl
  have ca2 : w1.cell? ⟨w.heap.size, 2, none⟩ = some (.int .u64 (lo x : Nat)) := Ba.out.cell rfl
  have lb := Bb.out.lt
  have cb0 : w1.cell? ⟨(w.heap.size + 1), 0, none⟩ = some (.bool false) := Bb.out.cell rfl
  have cb1 : w1.cell? ⟨(w.heap.size + 1), 1, none⟩ = some (.int .u64 (hi y : Nat)) := Bb.out.cell rfl
  have cb2 : w1.cell? ⟨(w.heap.size + 1), 2, none⟩ = some (.int .u64 (lo y : Nat)) := Bb.out.cell rfl
  go_wp2_with fail
  refine (M2.out _).mono ?_
  rintro e w2 ⟨rfl, hb⟩
  have ka : Blk w2 w.heap.size #[.bool true, .int .u64 (hi x : Nat), .int .u64 (lo x : Nat)] := Ba.out.call hb
  have kb : Blk w2 (w.heap.size + 1) #[.bool false, .int .u64 (hi y : Nat), .int .u64 (lo y : Nat)] := Bb.out.call hb
  have kr : Blk w2 (w.heap.size + 1 + 1) #[.bool false, .int .u64 0, .int .u64 0] := Br.out.call hb
  have kw : Below w.heap.size w w2 := HW1.out.trans (hb.mono HW1.out.size)
  clear la ca0 ca1 ca2 lb cb0 cb1 cb2 Ba Bb Br HW1
  have Ba := Lib.hid ka
  have Bb := Lib.hid kb
  have Br := Lib.hid kr
  have HW2 := Lib.hid kw
  clear hb kw ka kb kr
  have lb := Bb.out.lt
  have cb0 : w2.cell? ⟨(w.heap.size + 1), 0, none⟩ = some (.bool false) := Bb.out.cell rfl
  have cb1 : w2.cell? ⟨(w.heap.size + 1), 1, none⟩ = some (.int .u64 (hi y : Nat)) := Bb.out.cell rfl
  have cb2 : w2.cell? ⟨(w.heap.size + 1), 2, none⟩ = some (.int .u64 (lo y : Nat)) := Bb.out.cell rfl
  have lr := Br.out.lt
  have cr0 : w2.cell? ⟨(w.heap.size + 1 + 1), 0, none⟩ = some (.bool false) := Br.out.cell rfl
  have fr0 := Br.out.free 0
  have cr1 : w2.cell? ⟨(w.heap.size + 1 + 1), 1, none⟩ = some (.int .u64 0) := Br.out.cell rfl
  have fr1 := Br.out.free 1
  have cr2 : w2.cell? ⟨(w.heap.size + 1 + 1), 2, none⟩ = some (.int .u64 0) := Br.out.cell rfl
  have fr2 := Br.out.free 2
  go_wp2_with fail
  exact bodyPost_ret (v := .agg #[.bool false, .int .u64 (hi n : Nat), .int .u64 (lo n : Nat)]) (by simp [results, Try.results36, go_sem, cr0, cr1, cr2, lr]) rfl ⟨rfl, ((((HW2.out.setCell (p := ⟨(w.heap.size + 1 + 1), 0, none⟩) (by have := Ba.out.lt; have := Bb.out.lt; have := Br.out.lt; have := HW2.out.size; (first | (simp; done) | (simp; omega) | omega)) _).setCell (p := ⟨(w.heap.size + 1 + 1), 1, none⟩) (by have := Ba.out.lt; have := Bb.out.lt; have := Br.out.lt; have := HW2.out.size; (first | (simp; done) | (simp; omega) | omega)) _).setCell (p := ⟨(w.heap.size + 1 + 1), 2, none⟩) (by have := Ba.out.lt; have := Bb.out.lt; have := Br.out.lt; have := HW2.out.size; (first | (simp; done) | (simp; omega) | omega)) _).alloc (by have := HW2.out.size; simpa [World.setCell] using this) _)⟩
theorem plus_more_true (x y n : Nat) (D : Bool) (w : World)
    (m1 : ∀ w, Calls Try.prog 61 #[.agg #[.int .u64 (hi x : Nat), .int .u64 (lo x : Nat)], .agg #[.int .u64 (hi y : Nat), .int .u64 (lo y : Nat)]] w fun en w' => en = .returned (.bool false) ∧ Below w.heap.size w w')
    (m2 : ∀ w, Calls Try.prog 62 #[.agg #[.int .u64 (hi x : Nat), .int .u64 (lo x : Nat)], .agg #[.int .u64 (hi y : Nat), .int .u64 (lo y : Nat)]] w fun en w' => en = .returned (.tuple #[.agg #[.int .u64 (hi n : Nat), .int .u64 (lo n : Nat)], .bool false]) ∧ Below w.heap.size w w')
    (hE : ∀ w, (Op.equalIn 10000 48 (.agg #[.int .u64 (hi n : Nat), .int .u64 (lo n : Nat)]) (.agg #[.int .u64 0, .int .u64 0])).run Try.prog w = .ok D w) :
    Calls Try.prog 36 #[.agg #[.bool true, .int .u64 (hi x : Nat), .int .u64 (lo x : Nat)], .agg #[.bool false, .int .u64 (hi y : Nat), .int .u64 (lo y : Nat)]] w fun en w' => en = .returned (.agg #[.bool (!D), .int .u64 (hi n : Nat), .int .u64 (lo n : Nat)]) ∧ Below w.heap.size w w' := by
  have M1 := Lib.hid m1; have M2 := Lib.hid m2
  clear m1 m2
  go_enter Try.func36, Try.ntmps36
  go_wp2_with fail
  refine (M1.out _).mono ?_
  rintro e w1 ⟨rfl, hb⟩
  have ka : Blk w1 w.heap.size #[.bool true, .int .u64 (hi x : Nat), .int .u64 (lo x : Nat)] := (((Blk.new _ _ _).alloc _).alloc _).call hb
  have kb : Blk w1 (w.heap.size + 1) #[.bool false, .int .u64 (hi y : Nat), .int .u64 (lo y : Nat)] := ((Blk.newAt (by simp)).alloc _).call hb
  have kr : Blk w1 (w.heap.size + 1 + 1) #[.bool false, .int .u64 0, .int .u64 0] := (Blk.newAt (by simp)).call hb
  have kw : Below w.heap.size w w1 := ((((Below.refl w.heap.size w).alloc (Nat.le_refl _) _).alloc (by simp) _).alloc (by simp; omega) _).trans (hb.mono (by simp; omega))
  have Ba := Lib.hid ka
  have Bb := Lib.hid kb
  have Br := Lib.hid kr
  have HW1 := Lib.hid kw
  clear hb kw ka kb kr
  have la := Ba.out.lt
  have ca0 : w1.cell? ⟨w.heap.size, 0, none⟩ = some (.bool true) := Ba.out.cell rfl
  have ca1 : w1.cell? ⟨w.heap.size, 1, none⟩ = some (.int .u64 (hi x : Nat)) := Ba.out.cell rfl
  have ca2 : w1.cell? ⟨w.heap.size, 2, none⟩ = some (.int .u64 (lo x : Nat)) := Ba.out.cell rfl
  have lb := Bb.out.lt
  have cb0 : w1.cell? ⟨(w.heap.size + 1), 0, none⟩ = some (.bool false) := Bb.out.cell rfl
  have cb1 : w1.cell? ⟨(w.heap.size + 1), 1, none⟩ = some (.int .u64 (hi y : Nat)) := Bb.out.cell rfl
  have cb2 : w1.cell? ⟨(w.heap.size + 1), 2, none⟩ = some (.int .u64 (lo y : Nat)) := Bb.out.cell rfl
  go_wp2_with fail
  refine (M2.out _).mono ?_
  rintro e w2 ⟨rfl, hb⟩
  have ka : Blk w2 w.heap.size #[.bool true, .int .u64 (hi x : Nat), .int .u64 (lo x : Nat)] := Ba.out.call hb
  have kb : Blk w2 (w.heap.size + 1) #[.bool false, .int .u64 (hi y : Nat), .int .u64 (lo y : Nat)] := Bb.out.call hb
  have kr : Blk w2 (w.heap.size + 1 + 1) #[.bool false, .int .u64 0, .int .u64 0] := Br.out.call hb
  have kw : Below w.heap.size w w2 := HW1.out.trans (hb.mono HW1.out.size)
  clear la ca0 ca1 ca2 lb cb0 cb1 cb2 Ba Bb Br HW1
  have Ba := Lib.hid ka
  have Bb := Lib.hid kb
  have Br := Lib.hid kr
  have HW2 := Lib.hid kw
  clear hb kw ka kb kr
  have la := Ba.out.lt
  have ca0 : w2.cell? ⟨w.heap.size, 0, none⟩ = some (.bool true) := Ba.out.cell rfl
  have ca1 : w2.cell? ⟨w.heap.size, 1, none⟩ = some (.int .u64 (hi x : Nat)) := Ba.out.cell rfl
  have ca2 : w2.cell? ⟨w.heap.size, 2, none⟩ = some (.int .u64 (lo x : Nat)) := Ba.out.cell rfl
  have lr := Br.out.lt
  have cr0 : w2.cell? ⟨(w.heap.size + 1 + 1), 0, none⟩ = some (.bool false) := Br.out.cell rfl
  have fr0 := Br.out.free 0
  have cr1 : w2.cell? ⟨(w.heap.size + 1 + 1), 1, none⟩ = some (.int .u64 0) := Br.out.cell rfl
  have fr1 := Br.out.free 1
  have cr2 : w2.cell? ⟨(w.heap.size + 1 + 1), 2, none⟩ = some (.int .u64 0) := Br.out.cell rfl
  have fr2 := Br.out.free 2
  go_upto_region 8 with fail
  go_region
  all_goals go_wp2_with fail
  all_goals exact bodyPost_ret (v := .agg #[.bool (!D), .int .u64 (hi n : Nat), .int .u64 (lo n : Nat)]) (by simp [results, Try.results36, go_sem, cr0, cr1, cr2, lr]) rfl ⟨rfl, ((((HW2.out.setCell (p := ⟨(w.heap.size + 1 + 1), 0, none⟩) (by have := Ba.out.lt; have := Bb.out.lt; have := Br.out.lt; have := HW2.out.size; (first | (simp; done) | (simp; omega) | omega)) _).setCell (p := ⟨(w.heap.size + 1 + 1), 1, none⟩) (by have := Ba.out.lt; have := Bb.out.lt; have := Br.out.lt; have := HW2.out.size; (first | (simp; done) | (simp; omega) | omega)) _).setCell (p := ⟨(w.heap.size + 1 + 1), 2, none⟩) (by have := Ba.out.lt; have := Bb.out.lt; have := Br.out.lt; have := HW2.out.size; (first | (simp; done) | (simp; omega) | omega)) _).alloc (by have := HW2.out.size; simpa [World.setCell] using this) _).drew⟩
theorem plus_less_false (x y n : Nat) (w : World)
    (m1 : ∀ w, Calls Try.prog 61 #[.agg #[.int .u64 (hi x : Nat), .int .u64 (lo x : Nat)], .agg #[.int .u64 (hi y : Nat), .int .u64 (lo y : Nat)]] w fun en w' => en = .returned (.bool true) ∧ Below w.heap.size w w')
    (m2 : ∀ w, Calls Try.prog 62 #[.agg #[.int .u64 (hi y : Nat), .int .u64 (lo y : Nat)], .agg #[.int .u64 (hi x : Nat), .int .u64 (lo x : Nat)]] w fun en w' => en = .returned (.tuple #[.agg #[.int .u64 (hi n : Nat), .int .u64 (lo n : Nat)], .bool false]) ∧ Below w.heap.size w w') :
    Calls Try.prog 36 #[.agg #[.bool false, .int .u64 (hi x : Nat), .int .u64 (lo x : Nat)], .agg #[.bool true, .int .u64 (hi y : Nat), .int .u64 (lo y : Nat)]] w fun en w' => en = .returned (.agg #[.bool true, .int .u64 (hi n : Nat), .int .u64 (lo n : Nat)]) ∧ Below w.heap.size w w' := by
  have M1 := Lib.hid m1; have M2 := Lib.hid m2
  clear m1 m2
  go_enter Try.func36, Try.ntmps36
  go_wp2_with fail
  refine (M1.out _).mono ?_
  rintro e w1 ⟨rfl, hb⟩
  have ka : Blk w1 w.heap.size #[.bool false, .int .u64 (hi x : Nat), .int .u64 (lo x : Nat)] := (((Blk.new _ _ _).alloc _).alloc _).call hb
  have kb : Blk w1 (w.heap.size + 1) #[.bool true, .int .u64 (hi y : Nat), .int .u64 (lo y : Nat)] := ((Blk.newAt (by simp)).alloc _).call hb
  have kr : Blk w1 (w.heap.size + 1 + 1) #[.bool false, .int .u64 0, .int .u64 0] := (Blk.newAt (by simp)).call hb
  have kw : Below w.heap.size w w1 := ((((Below.refl w.heap.size w).alloc (Nat.le_refl _) _).alloc (by simp) _).alloc (by simp; omega) _).trans (hb.mono (by simp; omega))
  have Ba := Lib.hid ka
  have Bb := Lib.hid kb
  have Br := Lib.hid kr
  have HW1 := Lib.hid kw
  clear hb kw ka kb kr
  have la := Ba.out.lt
  have ca0 : w1.cell? ⟨w.heap.size, 0, none⟩ = some (.bool false) := Ba.out.cell rfl
  have ca1 : w1.cell? ⟨w.heap.size, 1, none⟩ = some (.int .u64 (hi x : Nat)) := Ba.out.cell rfl
  have ca2 : w1.cell? ⟨w.heap.size, 2, none⟩ = some (.int .u64 (lo x : Nat)) := Ba.out.cell rfl
  have lb := Bb.out.lt
  have cb0 : w1.cell? ⟨(w.heap.size + 1), 0, none⟩ = some (.bool true) := Bb.out.cell rfl
  have cb1 : w1.cell? ⟨(w.heap.size + 1), 1, none⟩ = some (.int .u64 (hi y : Nat)) := Bb.out.cell rfl
  have cb2 : w1.cell? ⟨(w.heap.size + 1), 2, none⟩ = some (.int .u64 (lo y : Nat)) := Bb.out.cell rfl
  go_wp2_with fail
  refine (M2.out _).mono ?_
  rintro e w2 ⟨rfl, hb⟩
  have ka : Blk w2 w.heap.size #[.bool false, .int .u64 (hi x : Nat), .int .u64 (lo x : Nat)] := Ba.out.call hb
  have kb : Blk w2 (w.heap.size + 1) #[.bool true, .int .u64 (hi y : Nat), .int .u64 (lo y : Nat)] := Bb.out.call hb
  have kr : Blk w2 (w.heap.size + 1 + 1) #[.bool false, .int .u64 0, .int .u64 0] := Br.out.call hb
  have kw : Below w.heap.size w w2 := HW1.out.trans (hb.mono HW1.out.size)
  clear la ca0 ca1 ca2 lb cb0 cb1 cb2 Ba Bb Br HW1
  have Ba := Lib.hid ka
  have Bb := Lib.hid kb
  have Br := Lib.hid kr
  have HW2 := Lib.hid kw
  clear hb kw ka kb kr
  have lb := Bb.out.lt
  have cb0 : w2.cell? ⟨(w.heap.size + 1), 0, none⟩ = some (.bool true) := Bb.out.cell rfl
  have cb1 : w2.cell? ⟨(w.heap.size + 1), 1, none⟩ = some (.int .u64 (hi y : Nat)) := Bb.out.cell rfl
  have cb2 : w2.cell? ⟨(w.heap.size + 1), 2, none⟩ = some (.int .u64 (lo y : Nat)) := Bb.out.cell rfl
  have lr := Br.out.lt
  have cr0 : w2.cell? ⟨(w.heap.size + 1 + 1), 0, none⟩ = some (.bool false) := Br.out.cell rfl
  have fr0 := Br.out.free 0
  have cr1 : w2.cell? ⟨(w.heap.size + 1 + 1), 1, none⟩ = some (.int .u64 0) := Br.out.cell rfl
  have fr1 := Br.out.free 1
  have cr2 : w2.cell? ⟨(w.heap.size + 1 + 1), 2, none⟩ = some (.int .u64 0) := Br.out.cell rfl
  have fr2 := Br.out.free 2
  go_wp2_with fail
  exact bodyPost_ret (v := .agg #[.bool true, .int .u64 (hi n : Nat), .int .u64 (lo n : Nat)]) (by simp [results, Try.results36, go_sem, cr0, cr1, cr2, lr]) rfl ⟨rfl, ((((HW2.out.setCell (p := ⟨(w.heap.size + 1 + 1), 0, none⟩) (by have := Ba.out.lt; have := Bb.out.lt; have := Br.out.lt; have := HW2.out.size; (first | (simp; done) | (simp; omega) | omega)) _).setCell (p := ⟨(w.heap.size + 1 + 1), 1, none⟩) (by have := Ba.out.lt; have := Bb.out.lt; have := Br.out.lt; have := HW2.out.size; (first | (simp; done) | (simp; omega) | omega)) _).setCell (p := ⟨(w.heap.size + 1 + 1), 2, none⟩) (by have := Ba.out.lt; have := Bb.out.lt; have := Br.out.lt; have := HW2.out.size; (first | (simp; done) | (simp; omega) | omega)) _).alloc (by have := HW2.out.size; simpa [World.setCell] using this) _)⟩
theorem plus_more_false (x y n : Nat) (w : World)
    (m1 : ∀ w, Calls Try.prog 61 #[.agg #[.int .u64 (hi x : Nat), .int .u64 (lo x : Nat)], .agg #[.int .u64 (hi y : Nat), .int .u64 (lo y : Nat)]] w fun en w' => en = .returned (.bool false) ∧ Below w.heap.size w w')
    (m2 : ∀ w, Calls Try.prog 62 #[.agg #[.int .u64 (hi x : Nat), .int .u64 (lo x : Nat)], .agg #[.int .u64 (hi y : Nat), .int .u64 (lo y : Nat)]] w fun en w' => en = .returned (.tuple #[.agg #[.int .u64 (hi n : Nat), .int .u64 (lo n : Nat)], .bool false]) ∧ Below w.heap.size w w') :
    Calls Try.prog 36 #[.agg #[.bool false, .int .u64 (hi x : Nat), .int .u64 (lo x : Nat)], .agg #[.bool true, .int .u64 (hi y : Nat), .int .u64 (lo y : Nat)]] w fun en w' => en = .returned (.agg #[.bool (false), .int .u64 (hi n : Nat), .int .u64 (lo n : Nat)]) ∧ Below w.heap.size w w' := by
  have M1 := Lib.hid m1; have M2 := Lib.hid m2
  clear m1 m2
  go_enter Try.func36, Try.ntmps36
  go_wp2_with fail
  refine (M1.out _).mono ?_
  rintro e w1 ⟨rfl, hb⟩
  have ka : Blk w1 w.heap.size #[.bool false, .int .u64 (hi x : Nat), .int .u64 (lo x : Nat)] := (((Blk.new _ _ _).alloc _).alloc _).call hb
  have kb : Blk w1 (w.heap.size + 1) #[.bool true, .int .u64 (hi y : Nat), .int .u64 (lo y : Nat)] := ((Blk.newAt (by simp)).alloc _).call hb
  have kr : Blk w1 (w.heap.size + 1 + 1) #[.bool false, .int .u64 0, .int .u64 0] := (Blk.newAt (by simp)).call hb
  have kw : Below w.heap.size w w1 := ((((Below.refl w.heap.size w).alloc (Nat.le_refl _) _).alloc (by simp) _).alloc (by simp; omega) _).trans (hb.mono (by simp; omega))
  have Ba := Lib.hid ka
  have Bb := Lib.hid kb
  have Br := Lib.hid kr
  have HW1 := Lib.hid kw
  clear hb kw ka kb kr
  have la := Ba.out.lt
  have ca0 : w1.cell? ⟨w.heap.size, 0, none⟩ = some (.bool false) := Ba.out.cell rfl
  have ca1 : w1.cell? ⟨w.heap.size, 1, none⟩ = some (.int .u64 (hi x : Nat)) := Ba.out.cell rfl
  have ca2 : w1.cell? ⟨w.heap.size, 2, none⟩ = some (.int .u64 (lo x : Nat)) := Ba.out.cell rfl
  have lb := Bb.out.lt
  have cb0 : w1.cell? ⟨(w.heap.size + 1), 0, none⟩ = some (.bool true) := Bb.out.cell rfl
  have cb1 : w1.cell? ⟨(w.heap.size + 1), 1, none⟩ = some (.int .u64 (hi y : Nat)) := Bb.out.cell rfl
  have cb2 : w1.cell? ⟨(w.heap.size + 1), 2, none⟩ = some (.int .u64 (lo y : Nat)) := Bb.out.cell rfl
  go_wp2_with fail
  refine (M2.out _).mono ?_
  rintro e w2 ⟨rfl, hb⟩
  have ka : Blk w2 w.heap.size #[.bool false, .int .u64 (hi x : Nat), .int .u64 (lo x : Nat)] := Ba.out.call hb
  have kb : Blk w2 (w.heap.size + 1) #[.bool true, .int .u64 (hi y : Nat), .int .u64 (lo y : Nat)] := Bb.out.call hb
  have kr : Blk w2 (w.heap.size + 1 + 1) #[.bool false, .int .u64 0, .int .u64 0] := Br.out.call hb
  have kw : Below w.heap.size w w2 := HW1.out.trans (hb.mono HW1.out.size)
  clear la ca0 ca1 ca2 lb cb0 cb1 cb2 Ba Bb Br HW1
  have Ba := Lib.hid ka
  have Bb := Lib.hid kb
  have Br := Lib.hid kr
  have HW2 := Lib.hid kw
  clear hb kw ka kb kr
  have la := Ba.out.lt
  have ca0 : w2.cell? ⟨w.heap.size, 0, none⟩ = some (.bool false) := Ba.out.cell rfl
  have ca1 : w2.cell? ⟨w.heap.size, 1, none⟩ = some (.int .u64 (hi x : Nat)) := Ba.out.cell rfl
  have ca2 : w2.cell? ⟨w.heap.size, 2, none⟩ = some (.int .u64 (lo x : Nat)) := Ba.out.cell rfl
  have lr := Br.out.lt
  have cr0 : w2.cell? ⟨(w.heap.size + 1 + 1), 0, none⟩ = some (.bool false) := Br.out.cell rfl
  have fr0 := Br.out.free 0
  have cr1 : w2.cell? ⟨(w.heap.size + 1 + 1), 1, none⟩ = some (.int .u64 0) := Br.out.cell rfl
  have fr1 := Br.out.free 1
  have cr2 : w2.cell? ⟨(w.heap.size + 1 + 1), 2, none⟩ = some (.int .u64 0) := Br.out.cell rfl
  have fr2 := Br.out.free 2
  go_upto_region 8 with fail
  go_region
  all_goals go_wp2_with fail
  all_goals exact bodyPost_ret (v := .agg #[.bool (false), .int .u64 (hi n : Nat), .int .u64 (lo n : Nat)]) (by simp [results, Try.results36, go_sem, cr0, cr1, cr2, lr]) rfl ⟨rfl, ((((HW2.out.setCell (p := ⟨(w.heap.size + 1 + 1), 0, none⟩) (by have := Ba.out.lt; have := Bb.out.lt; have := Br.out.lt; have := HW2.out.size; (first | (simp; done) | (simp; omega) | omega)) _).setCell (p := ⟨(w.heap.size + 1 + 1), 1, none⟩) (by have := Ba.out.lt; have := Bb.out.lt; have := Br.out.lt; have := HW2.out.size; (first | (simp; done) | (simp; omega) | omega)) _).setCell (p := ⟨(w.heap.size + 1 + 1), 2, none⟩) (by have := Ba.out.lt; have := Bb.out.lt; have := Br.out.lt; have := HW2.out.size; (first | (simp; done) | (simp; omega) | omega)) _).alloc (by have := HW2.out.size; simpa [World.setCell] using this) _).drew⟩
theorem ne_zero_D (n : Nat) : (!decide (n = 0)) = decide (n ≠ 0) := by simp
/-- A number by sign and size as the reference holds it: 0 is not below. -/
def zS (z : Int) : Value := .agg #[.bool (decide (z < 0)), .int .u64 (hi z.natAbs : Nat), .int .u64 (lo z.natAbs : Nat)]
theorem plus_any (x y : Int) (hx : x.natAbs + y.natAbs < M128) (w : World) :
    Calls Try.prog 36 #[zS x, zS y] w fun en w' => en = .returned (zS (x + y)) ∧ Below w.heap.size w w' := by
  unfold zS
  have hL := fun w => rless_any x.natAbs y.natAbs w
  by_cases h1 : x < 0 <;> by_cases h2 : y < 0
  · have e : (x + y).natAbs = x.natAbs + y.natAbs := by omega
    rw [decide_eq_true h1, decide_eq_true h2, decide_eq_true (by omega : x + y < 0), e]
    exact plus_same_true _ _ _ w (ref_add _ _ hx)
  · by_cases h3 : x.natAbs < y.natAbs
    · have e : (x + y).natAbs = subW y.natAbs x.natAbs := by rw [subW_fit _ _ (by omega) (by omega)]; omega
      rw [decide_eq_true h1, decide_eq_false h2, decide_eq_false (by omega : ¬ x + y < 0), e]
      rw [show ltW x.natAbs y.natAbs = true from decide_eq_true h3] at hL
      refine plus_less_true _ _ _ w hL fun w => ?_
      have := rsub_any y.natAbs x.natAbs (by omega) (by omega) w
      rwa [show ltW y.natAbs x.natAbs = false from decide_eq_false (by omega)] at this
    · have e : (x + y).natAbs = subW x.natAbs y.natAbs := by rw [subW_fit _ _ (by omega) (by omega)]; omega
      have e2 : decide (x + y < 0) = !decide (subW x.natAbs y.natAbs = 0) := by
        rw [← e, ne_zero_D]; exact decide_eq_decide.2 (by omega)
      rw [decide_eq_true h1, decide_eq_false h2, e2, e]
      rw [show ltW x.natAbs y.natAbs = false from decide_eq_false h3] at hL
      refine plus_more_true _ _ _ _ w hL (fun w => ?_) (eqZero _)
      have := rsub_any x.natAbs y.natAbs (by omega) (by omega) w
      rwa [show ltW x.natAbs y.natAbs = false from decide_eq_false (by omega)] at this
  · by_cases h3 : x.natAbs < y.natAbs
    · have e : (x + y).natAbs = subW y.natAbs x.natAbs := by rw [subW_fit _ _ (by omega) (by omega)]; omega
      rw [decide_eq_false h1, decide_eq_true h2, decide_eq_true (by omega : x + y < 0), e]
      rw [show ltW x.natAbs y.natAbs = true from decide_eq_true h3] at hL
      refine plus_less_false _ _ _ w hL fun w => ?_
      have := rsub_any y.natAbs x.natAbs (by omega) (by omega) w
      rwa [show ltW y.natAbs x.natAbs = false from decide_eq_false (by omega)] at this
    · have e : (x + y).natAbs = subW x.natAbs y.natAbs := by rw [subW_fit _ _ (by omega) (by omega)]; omega
      rw [decide_eq_false h1, decide_eq_true h2, decide_eq_false (by omega : ¬ x + y < 0), e]
      rw [show ltW x.natAbs y.natAbs = false from decide_eq_false h3] at hL
      refine plus_more_false _ _ _ w hL (fun w => ?_)
      have := rsub_any x.natAbs y.natAbs (by omega) (by omega) w
      rwa [show ltW x.natAbs y.natAbs = false from decide_eq_false (by omega)] at this
  · have e : (x + y).natAbs = x.natAbs + y.natAbs := by omega
    rw [decide_eq_false h1, decide_eq_false h2, decide_eq_false (by omega : ¬ x + y < 0), e]
    exact plus_same_false _ _ _ w (ref_add _ _ hx)
theorem of_z (a : Int) (ha : IsInt a) (w : World) : Calls Try.prog 29 #[.int .i64 a] w fun en w' => en = .returned (zS a) ∧ Below w.heap.size w w' := rof_any a ha w
theorem told_z (z : Int) (hz : z.natAbs < M128) (w : World) : Calls Try.prog 81 #[zS z] w fun en w' => en = .returned (.tuple #[.int .i64 (ans z), .int .i64 (err z)]) ∧ Below w.heap.size w w' := by
  have := rtold_any (decide (z < 0)) z.natAbs hz w
  rw [sgn_abs] at this
  exact this
theorem prod_true_true (a b : Int) (x y n : Nat) (w : World)
    (hX : decide (a < 0) = true) (hY : decide (b < 0) = true)
    (m1 : ∀ w, Calls Try.prog 27 #[.int .i64 a] w fun en w' => en = .returned (.agg #[.int .u64 (hi x : Nat), .int .u64 (lo x : Nat)]) ∧ Below w.heap.size w w')
    (m2 : ∀ w, Calls Try.prog 27 #[.int .i64 b] w fun en w' => en = .returned (.agg #[.int .u64 (hi y : Nat), .int .u64 (lo y : Nat)]) ∧ Below w.heap.size w w')
    (m3 : ∀ w, Calls Try.prog 63 #[.agg #[.int .u64 (hi x : Nat), .int .u64 (lo x : Nat)], .agg #[.int .u64 (hi y : Nat), .int .u64 (lo y : Nat)]] w fun en w' => en = .returned (.tuple #[.agg #[.int .u64 (hi n : Nat), .int .u64 (lo n : Nat)], .bool false]) ∧ Below w.heap.size w w') :
    Calls Try.prog 37 #[.int .i64 a, .int .i64 b] w fun en w' => en = .returned (.agg #[.bool (false), .int .u64 (hi n : Nat), .int .u64 (lo n : Nat)]) ∧ Below w.heap.size w w' := by
  have M1 := Lib.hid m1; have M2 := Lib.hid m2; have M3 := Lib.hid m3
  clear m1 m2 m3
  go_enter Try.func37, Try.ntmps37
  go_wp2_with fail
  refine (M1.out _).mono ?_
  rintro e w1 ⟨rfl, hb⟩
  have kr : Blk w1 w.heap.size #[.bool false, .int .u64 0, .int .u64 0] := (Blk.new _ _ _).call hb
  have kw : Below w.heap.size w w1 := ((Below.refl w.heap.size w).alloc (Nat.le_refl _) _).trans (hb.mono (by simp))
  have Br := Lib.hid kr
  have HW1 := Lib.hid kw
  clear hb kw kr
  go_wp2_with fail
  refine (M2.out _).mono ?_
  rintro e w2 ⟨rfl, hb⟩
  have kr : Blk w2 w.heap.size #[.bool false, .int .u64 0, .int .u64 0] := Br.out.call hb
  have kw : Below w.heap.size w w2 := HW1.out.trans (hb.mono HW1.out.size)
  clear Br HW1
  have Br := Lib.hid kr
  have HW2 := Lib.hid kw
  clear hb kw kr
  go_wp2_with fail
  refine (M3.out _).mono ?_
  rintro e w3 ⟨rfl, hb⟩
  have kr : Blk w3 w.heap.size #[.bool false, .int .u64 0, .int .u64 0] := Br.out.call hb
  have kw : Below w.heap.size w w3 := HW2.out.trans (hb.mono HW2.out.size)
  clear Br HW2
  have Br := Lib.hid kr
  have HW3 := Lib.hid kw
  clear hb kw kr
  have lr := Br.out.lt
  have cr0 : w3.cell? ⟨w.heap.size, 0, none⟩ = some (.bool false) := Br.out.cell rfl
  have fr0 := Br.out.free 0
  have cr1 : w3.cell? ⟨w.heap.size, 1, none⟩ = some (.int .u64 0) := Br.out.cell rfl
  have fr1 := Br.out.free 1
  have cr2 : w3.cell? ⟨w.heap.size, 2, none⟩ = some (.int .u64 0) := Br.out.cell rfl
  have fr2 := Br.out.free 2
  go_upto_region 2 with fail
  go_region
  all_goals go_wp2_with fail
  all_goals exact bodyPost_ret (v := .agg #[.bool (false), .int .u64 (hi n : Nat), .int .u64 (lo n : Nat)]) (by simp [results, Try.results37, go_sem, cr0, cr1, cr2, lr]) rfl ⟨rfl, ((((HW3.out.setCell (p := ⟨w.heap.size, 0, none⟩) (by have := Br.out.lt; have := HW3.out.size; (first | (simp; done) | (simp; omega) | omega)) _).setCell (p := ⟨w.heap.size, 1, none⟩) (by have := Br.out.lt; have := HW3.out.size; (first | (simp; done) | (simp; omega) | omega)) _).setCell (p := ⟨w.heap.size, 2, none⟩) (by have := Br.out.lt; have := HW3.out.size; (first | (simp; done) | (simp; omega) | omega)) _).alloc (by have := HW3.out.size; simpa [World.setCell] using this) _).drew⟩
theorem prod_false_false (a b : Int) (x y n : Nat) (w : World)
    (hX : decide (a < 0) = false) (hY : decide (b < 0) = false)
    (m1 : ∀ w, Calls Try.prog 27 #[.int .i64 a] w fun en w' => en = .returned (.agg #[.int .u64 (hi x : Nat), .int .u64 (lo x : Nat)]) ∧ Below w.heap.size w w')
    (m2 : ∀ w, Calls Try.prog 27 #[.int .i64 b] w fun en w' => en = .returned (.agg #[.int .u64 (hi y : Nat), .int .u64 (lo y : Nat)]) ∧ Below w.heap.size w w')
    (m3 : ∀ w, Calls Try.prog 63 #[.agg #[.int .u64 (hi x : Nat), .int .u64 (lo x : Nat)], .agg #[.int .u64 (hi y : Nat), .int .u64 (lo y : Nat)]] w fun en w' => en = .returned (.tuple #[.agg #[.int .u64 (hi n : Nat), .int .u64 (lo n : Nat)], .bool false]) ∧ Below w.heap.size w w') :
    Calls Try.prog 37 #[.int .i64 a, .int .i64 b] w fun en w' => en = .returned (.agg #[.bool (false), .int .u64 (hi n : Nat), .int .u64 (lo n : Nat)]) ∧ Below w.heap.size w w' := by
  have M1 := Lib.hid m1; have M2 := Lib.hid m2; have M3 := Lib.hid m3
  clear m1 m2 m3
  go_enter Try.func37, Try.ntmps37
  go_wp2_with fail
  refine (M1.out _).mono ?_
  rintro e w1 ⟨rfl, hb⟩
  have kr : Blk w1 w.heap.size #[.bool false, .int .u64 0, .int .u64 0] := (Blk.new _ _ _).call hb
  have kw : Below w.heap.size w w1 := ((Below.refl w.heap.size w).alloc (Nat.le_refl _) _).trans (hb.mono (by simp))
  have Br := Lib.hid kr
  have HW1 := Lib.hid kw
  clear hb kw kr
  go_wp2_with fail
  refine (M2.out _).mono ?_
  rintro e w2 ⟨rfl, hb⟩
  have kr : Blk w2 w.heap.size #[.bool false, .int .u64 0, .int .u64 0] := Br.out.call hb
  have kw : Below w.heap.size w w2 := HW1.out.trans (hb.mono HW1.out.size)
  clear Br HW1
  have Br := Lib.hid kr
  have HW2 := Lib.hid kw
  clear hb kw kr
  go_wp2_with fail
  refine (M3.out _).mono ?_
  rintro e w3 ⟨rfl, hb⟩
  have kr : Blk w3 w.heap.size #[.bool false, .int .u64 0, .int .u64 0] := Br.out.call hb
  have kw : Below w.heap.size w w3 := HW2.out.trans (hb.mono HW2.out.size)
  clear Br HW2
  have Br := Lib.hid kr
  have HW3 := Lib.hid kw
  clear hb kw kr
  have lr := Br.out.lt
  have cr0 : w3.cell? ⟨w.heap.size, 0, none⟩ = some (.bool false) := Br.out.cell rfl
  have fr0 := Br.out.free 0
  have cr1 : w3.cell? ⟨w.heap.size, 1, none⟩ = some (.int .u64 0) := Br.out.cell rfl
  have fr1 := Br.out.free 1
  have cr2 : w3.cell? ⟨w.heap.size, 2, none⟩ = some (.int .u64 0) := Br.out.cell rfl
  have fr2 := Br.out.free 2
  go_upto_region 2 with fail
  go_region
  all_goals go_wp2_with fail
  all_goals exact bodyPost_ret (v := .agg #[.bool (false), .int .u64 (hi n : Nat), .int .u64 (lo n : Nat)]) (by simp [results, Try.results37, go_sem, cr0, cr1, cr2, lr]) rfl ⟨rfl, ((((HW3.out.setCell (p := ⟨w.heap.size, 0, none⟩) (by have := Br.out.lt; have := HW3.out.size; (first | (simp; done) | (simp; omega) | omega)) _).setCell (p := ⟨w.heap.size, 1, none⟩) (by have := Br.out.lt; have := HW3.out.size; (first | (simp; done) | (simp; omega) | omega)) _).setCell (p := ⟨w.heap.size, 2, none⟩) (by have := Br.out.lt; have := HW3.out.size; (first | (simp; done) | (simp; omega) | omega)) _).alloc (by have := HW3.out.size; simpa [World.setCell] using this) _).drew⟩
theorem prod_true_false (a b : Int) (x y n : Nat) (D : Bool) (w : World)
    (hX : decide (a < 0) = true) (hY : decide (b < 0) = false)
    (hE : ∀ w, (Op.equalIn 10000 48 (.agg #[.int .u64 (hi n : Nat), .int .u64 (lo n : Nat)]) (.agg #[.int .u64 0, .int .u64 0])).run Try.prog w = .ok D w)
    (m1 : ∀ w, Calls Try.prog 27 #[.int .i64 a] w fun en w' => en = .returned (.agg #[.int .u64 (hi x : Nat), .int .u64 (lo x : Nat)]) ∧ Below w.heap.size w w')
    (m2 : ∀ w, Calls Try.prog 27 #[.int .i64 b] w fun en w' => en = .returned (.agg #[.int .u64 (hi y : Nat), .int .u64 (lo y : Nat)]) ∧ Below w.heap.size w w')
    (m3 : ∀ w, Calls Try.prog 63 #[.agg #[.int .u64 (hi x : Nat), .int .u64 (lo x : Nat)], .agg #[.int .u64 (hi y : Nat), .int .u64 (lo y : Nat)]] w fun en w' => en = .returned (.tuple #[.agg #[.int .u64 (hi n : Nat), .int .u64 (lo n : Nat)], .bool false]) ∧ Below w.heap.size w w') :
    Calls Try.prog 37 #[.int .i64 a, .int .i64 b] w fun en w' => en = .returned (.agg #[.bool (!D), .int .u64 (hi n : Nat), .int .u64 (lo n : Nat)]) ∧ Below w.heap.size w w' := by
  have M1 := Lib.hid m1; have M2 := Lib.hid m2; have M3 := Lib.hid m3
  clear m1 m2 m3
  go_enter Try.func37, Try.ntmps37
  go_wp2_with fail
  refine (M1.out _).mono ?_
  rintro e w1 ⟨rfl, hb⟩
  have kr : Blk w1 w.heap.size #[.bool false, .int .u64 0, .int .u64 0] := (Blk.new _ _ _).call hb
  have kw : Below w.heap.size w w1 := ((Below.refl w.heap.size w).alloc (Nat.le_refl _) _).trans (hb.mono (by simp))
  have Br := Lib.hid kr
  have HW1 := Lib.hid kw
  clear hb kw kr
  go_wp2_with fail
  refine (M2.out _).mono ?_
  rintro e w2 ⟨rfl, hb⟩
  have kr : Blk w2 w.heap.size #[.bool false, .int .u64 0, .int .u64 0] := Br.out.call hb
  have kw : Below w.heap.size w w2 := HW1.out.trans (hb.mono HW1.out.size)
  clear Br HW1
  have Br := Lib.hid kr
  have HW2 := Lib.hid kw
  clear hb kw kr
  go_wp2_with fail
  refine (M3.out _).mono ?_
  rintro e w3 ⟨rfl, hb⟩
  have kr : Blk w3 w.heap.size #[.bool false, .int .u64 0, .int .u64 0] := Br.out.call hb
  have kw : Below w.heap.size w w3 := HW2.out.trans (hb.mono HW2.out.size)
  clear Br HW2
  have Br := Lib.hid kr
  have HW3 := Lib.hid kw
  clear hb kw kr
  have lr := Br.out.lt
  have cr0 : w3.cell? ⟨w.heap.size, 0, none⟩ = some (.bool false) := Br.out.cell rfl
  have fr0 := Br.out.free 0
  have cr1 : w3.cell? ⟨w.heap.size, 1, none⟩ = some (.int .u64 0) := Br.out.cell rfl
  have fr1 := Br.out.free 1
  have cr2 : w3.cell? ⟨w.heap.size, 2, none⟩ = some (.int .u64 0) := Br.out.cell rfl
  have fr2 := Br.out.free 2
  go_upto_region 2 with fail
  go_region
  all_goals go_wp2_with fail
  all_goals exact bodyPost_ret (v := .agg #[.bool (!D), .int .u64 (hi n : Nat), .int .u64 (lo n : Nat)]) (by simp [results, Try.results37, go_sem, cr0, cr1, cr2, lr]) rfl ⟨rfl, ((((HW3.out.setCell (p := ⟨w.heap.size, 0, none⟩) (by have := Br.out.lt; have := HW3.out.size; (first | (simp; done) | (simp; omega) | omega)) _).setCell (p := ⟨w.heap.size, 1, none⟩) (by have := Br.out.lt; have := HW3.out.size; (first | (simp; done) | (simp; omega) | omega)) _).setCell (p := ⟨w.heap.size, 2, none⟩) (by have := Br.out.lt; have := HW3.out.size; (first | (simp; done) | (simp; omega) | omega)) _).alloc (by have := HW3.out.size; simpa [World.setCell] using this) _).drew⟩
theorem prod_false_true (a b : Int) (x y n : Nat) (D : Bool) (w : World)
    (hX : decide (a < 0) = false) (hY : decide (b < 0) = true)
    (hE : ∀ w, (Op.equalIn 10000 48 (.agg #[.int .u64 (hi n : Nat), .int .u64 (lo n : Nat)]) (.agg #[.int .u64 0, .int .u64 0])).run Try.prog w = .ok D w)
    (m1 : ∀ w, Calls Try.prog 27 #[.int .i64 a] w fun en w' => en = .returned (.agg #[.int .u64 (hi x : Nat), .int .u64 (lo x : Nat)]) ∧ Below w.heap.size w w')
    (m2 : ∀ w, Calls Try.prog 27 #[.int .i64 b] w fun en w' => en = .returned (.agg #[.int .u64 (hi y : Nat), .int .u64 (lo y : Nat)]) ∧ Below w.heap.size w w')
    (m3 : ∀ w, Calls Try.prog 63 #[.agg #[.int .u64 (hi x : Nat), .int .u64 (lo x : Nat)], .agg #[.int .u64 (hi y : Nat), .int .u64 (lo y : Nat)]] w fun en w' => en = .returned (.tuple #[.agg #[.int .u64 (hi n : Nat), .int .u64 (lo n : Nat)], .bool false]) ∧ Below w.heap.size w w') :
    Calls Try.prog 37 #[.int .i64 a, .int .i64 b] w fun en w' => en = .returned (.agg #[.bool (!D), .int .u64 (hi n : Nat), .int .u64 (lo n : Nat)]) ∧ Below w.heap.size w w' := by
  have M1 := Lib.hid m1; have M2 := Lib.hid m2; have M3 := Lib.hid m3
  clear m1 m2 m3
  go_enter Try.func37, Try.ntmps37
  go_wp2_with fail
  refine (M1.out _).mono ?_
  rintro e w1 ⟨rfl, hb⟩
  have kr : Blk w1 w.heap.size #[.bool false, .int .u64 0, .int .u64 0] := (Blk.new _ _ _).call hb
  have kw : Below w.heap.size w w1 := ((Below.refl w.heap.size w).alloc (Nat.le_refl _) _).trans (hb.mono (by simp))
  have Br := Lib.hid kr
  have HW1 := Lib.hid kw
  clear hb kw kr
  go_wp2_with fail
  refine (M2.out _).mono ?_
  rintro e w2 ⟨rfl, hb⟩
  have kr : Blk w2 w.heap.size #[.bool false, .int .u64 0, .int .u64 0] := Br.out.call hb
  have kw : Below w.heap.size w w2 := HW1.out.trans (hb.mono HW1.out.size)
  clear Br HW1
  have Br := Lib.hid kr
  have HW2 := Lib.hid kw
  clear hb kw kr
  go_wp2_with fail
  refine (M3.out _).mono ?_
  rintro e w3 ⟨rfl, hb⟩
  have kr : Blk w3 w.heap.size #[.bool false, .int .u64 0, .int .u64 0] := Br.out.call hb
  have kw : Below w.heap.size w w3 := HW2.out.trans (hb.mono HW2.out.size)
  clear Br HW2
  have Br := Lib.hid kr
  have HW3 := Lib.hid kw
  clear hb kw kr
  have lr := Br.out.lt
  have cr0 : w3.cell? ⟨w.heap.size, 0, none⟩ = some (.bool false) := Br.out.cell rfl
  have fr0 := Br.out.free 0
  have cr1 : w3.cell? ⟨w.heap.size, 1, none⟩ = some (.int .u64 0) := Br.out.cell rfl
  have fr1 := Br.out.free 1
  have cr2 : w3.cell? ⟨w.heap.size, 2, none⟩ = some (.int .u64 0) := Br.out.cell rfl
  have fr2 := Br.out.free 2
  go_upto_region 2 with fail
  go_region
  all_goals go_wp2_with fail
  all_goals exact bodyPost_ret (v := .agg #[.bool (!D), .int .u64 (hi n : Nat), .int .u64 (lo n : Nat)]) (by simp [results, Try.results37, go_sem, cr0, cr1, cr2, lr]) rfl ⟨rfl, ((((HW3.out.setCell (p := ⟨w.heap.size, 0, none⟩) (by have := Br.out.lt; have := HW3.out.size; (first | (simp; done) | (simp; omega) | omega)) _).setCell (p := ⟨w.heap.size, 1, none⟩) (by have := Br.out.lt; have := HW3.out.size; (first | (simp; done) | (simp; omega) | omega)) _).setCell (p := ⟨w.heap.size, 2, none⟩) (by have := Br.out.lt; have := HW3.out.size; (first | (simp; done) | (simp; omega) | omega)) _).alloc (by have := HW3.out.size; simpa [World.setCell] using this) _).drew⟩
theorem product_any (a b : Int) (ha : IsInt a) (hb : IsInt b) (w : World) :
    Calls Try.prog 37 #[.int .i64 a, .int .i64 b] w fun en w' => en = .returned (zS (a * b)) ∧ Below w.heap.size w w' := by
  have hf := prod_fit ha hb
  have m1 := rsize_any a ha
  have m2 := rsize_any b hb
  have m3 := ref_times a.natAbs b.natAbs (by have := natAbs_lt ha; unfold M128; omega) (by have := natAbs_lt hb; unfold M128; omega) hf
  unfold zS
  rw [Int.natAbs_mul]
  by_cases h1 : a < 0 <;> by_cases h2 : b < 0
  · rw [decide_eq_false (by have := Int.mul_pos_of_neg_of_neg h1 h2; omega : ¬ a * b < 0)]
    exact prod_true_true a b _ _ _ w (decide_eq_true h1) (decide_eq_true h2) m1 m2 m3
  · have e : decide (a * b < 0) = !decide (a.natAbs * b.natAbs = 0) := by
      rw [ne_zero_D, ← Int.natAbs_mul]
      refine decide_eq_decide.2 ⟨fun h => by omega, fun h => ?_⟩
      have := Int.mul_nonpos_of_nonpos_of_nonneg (Int.le_of_lt h1) (by omega : 0 ≤ b)
      omega
    rw [e]
    exact prod_true_false a b _ _ _ _ w (decide_eq_true h1) (decide_eq_false h2) (eqZero _) m1 m2 m3
  · have e : decide (a * b < 0) = !decide (a.natAbs * b.natAbs = 0) := by
      rw [ne_zero_D, ← Int.natAbs_mul]
      refine decide_eq_decide.2 ⟨fun h => by omega, fun h => ?_⟩
      have := Int.mul_nonpos_of_nonneg_of_nonpos (by omega : 0 ≤ a) (Int.le_of_lt h2)
      omega
    rw [e]
    exact prod_false_true a b _ _ _ _ w (decide_eq_false h1) (decide_eq_true h2) (eqZero _) m1 m2 m3
  · rw [decide_eq_false (by have := Int.mul_nonneg (by omega : 0 ≤ a) (by omega : 0 ≤ b); omega : ¬ a * b < 0)]
    exact prod_false_false a b _ _ _ w (decide_eq_false h1) (decide_eq_false h2) m1 m2 m3
end Go.Proofs.Ytjnebbjjabnipaa
