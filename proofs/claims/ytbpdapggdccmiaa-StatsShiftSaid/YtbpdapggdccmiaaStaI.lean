/- stats: apart, Spread, Right, Join. -/
import Derived.Test.YtbpdapggdccmiaaStaH
import Derived.Test.YtbpdapggdccmiaaWMul
namespace Go.Proofs.Ytbpdapggdccmiaa
open Go.RowKit

set_option linter.unusedSimpArgs false in
set_option maxHeartbeats 4000000 in
set_option maxRecDepth 100000 in
theorem apart_core (n q p t d : Nat) (z l g : Int) (Y Z : Bool) (w : World) (hv : IntKind.u64.wrap (n : Int) = (n : Int))
    (m1 : ∀ w, Calls Try.prog 21 #[.agg #[.int .u64 0, .int .u64 (n : Int)], .agg #[.int .u64 (hi q : Nat), .int .u64 (lo q : Nat)]] w fun e w' => e = .returned (.tuple #[.agg #[.int .u64 (hi p : Nat), .int .u64 (lo p : Nat)], .bool Z]) ∧ Below w.heap.size w w')
    (m2 : ∀ w, Calls Try.prog 41 #[.int .i64 z] w fun e w' => e = .returned (.agg #[.int .u64 (hi t : Nat), .int .u64 (lo t : Nat)]) ∧ Below w.heap.size w w')
    (m3 : ∀ w, Calls Try.prog 40 #[.agg #[.int .u64 (hi p : Nat), .int .u64 (lo p : Nat)], .agg #[.int .u64 (hi t : Nat), .int .u64 (lo t : Nat)]] w fun e w' => e = .returned (.tuple #[.agg #[.int .u64 (hi d : Nat), .int .u64 (lo d : Nat)], .bool Y]) ∧ Below w.heap.size w w') :
    Calls Try.prog 24 #[.agg #[.int .i64 (n : Int), .int .i64 z, .int .u64 (hi q : Nat), .int .u64 (lo q : Nat), .int .i64 l, .int .i64 g]] w fun e w' => e = .returned (.tuple #[.agg #[.int .u64 (hi d : Nat), .int .u64 (lo d : Nat)], .bool Y]) ∧ Below w.heap.size w w' := by
  obtain ⟨w2, hw2⟩ : ∃ w2, (w.alloc (.cells #[.int .i64 (n : Int), .int .i64 z, .int .u64 (hi q : Nat), .int .u64 (lo q : Nat), .int .i64 l, .int .i64 g] 27)).alloc (.cells #[.int .u64 0, .int .u64 0] 25) = w2 := ⟨_, rfl⟩
  have hs2 : w2.heap.size = w.heap.size + 2 := by rw [← hw2]; simp
  have HB2 := Lib.hid (show Below w.heap.size w w2 by rw [← hw2]; exact ((Below.refl _ _).alloc (Nat.le_refl _) _).alloc (by simp) _)
  have HX2 := Lib.hid (show Has w2 w.heap.size [.int .i64 (n : Int), .int .i64 z, .int .u64 (hi q : Nat), .int .u64 (lo q : Nat), .int .i64 l, .int .i64 g] 27 by rw [← hw2]; exact (Has.new w _ _).alloc _)
  have HR2 := Lib.hid (show Has w2 (w.heap.size + 1) [.int .u64 0, .int .u64 0] 25 by
    have := Has.new (w.alloc (.cells #[.int .i64 (n : Int), .int .i64 z, .int .u64 (hi q : Nat), .int .u64 (lo q : Nat), .int .i64 l, .int .i64 g] 27)) [.int .u64 0, .int .u64 0] 25
    rw [show (w.alloc (.cells #[.int .i64 (n : Int), .int .i64 z, .int .u64 (hi q : Nat), .int .u64 (lo q : Nat), .int .i64 l, .int .i64 g] 27)).heap.size = w.heap.size + 1 by simp] at this
    rw [← hw2]; exact this)
  have hlt : w.heap.size < w2.heap.size := by omega
  have hlt2 : w.heap.size + 1 < w2.heap.size := by omega
  have HW2 := Lib.hid hw2
  have mt := m1 w2
  clear hw2 hs2 m1
  have xc0 : w2.cell? ⟨w.heap.size, 0, none⟩ = some (.int .i64 (n : Int)) := HX2.out.cell 0
  have xc1 : w2.cell? ⟨w.heap.size, 1, none⟩ = some (.int .i64 z) := HX2.out.cell 1
  have xc2 : w2.cell? ⟨w.heap.size, 2, none⟩ = some (.int .u64 (hi q : Nat)) := HX2.out.cell 2
  have xc3 : w2.cell? ⟨w.heap.size, 3, none⟩ = some (.int .u64 (lo q : Nat)) := HX2.out.cell 3
  have xc4 : w2.cell? ⟨w.heap.size, 4, none⟩ = some (.int .i64 l) := HX2.out.cell 4
  have xc5 : w2.cell? ⟨w.heap.size, 5, none⟩ = some (.int .i64 g) := HX2.out.cell 5
  go_enter Try.func24, Try.ntmps24
  go_upto_region 1 with fail
  rw [HW2.out]
  go_wp2_with fail
  refine mt.mono ?_
  rintro e w3 ⟨rfl, k3⟩
  have HX3 := HX2.out.call k3
  have HR3 := HR2.out.call k3
  have HB3 := HB2.out.trans (k3.mono HB2.out.size)
  obtain ⟨w4, hw4⟩ : ∃ w4, w3.alloc (.cells #[.int .u64 (hi p : Nat), .int .u64 (lo p : Nat)] 25) = w4 := ⟨_, rfl⟩
  have hs4 : w4.heap.size = w3.heap.size + 1 := by rw [← hw4]; simp
  have hk3 := k3.size
  have HB4 := Lib.hid (show Below w.heap.size w w4 by rw [← hw4]; exact HB3.alloc HB3.size _)
  have HX4 := Lib.hid (show Has w4 w.heap.size [.int .i64 (n : Int), .int .i64 z, .int .u64 (hi q : Nat), .int .u64 (lo q : Nat), .int .i64 l, .int .i64 g] 27 by rw [← hw4]; exact HX3.alloc _)
  have HR4 := Lib.hid (show Has w4 (w.heap.size + 1) [.int .u64 0, .int .u64 0] 25 by rw [← hw4]; exact HR3.alloc _)
  have HP4 := Lib.hid (show Has w4 w3.heap.size [.int .u64 (hi p : Nat), .int .u64 (lo p : Nat)] 25 by rw [← hw4]; exact Has.new _ _ _)
  have HW4 := Lib.hid hw4
  have hl1 : w.heap.size < w4.heap.size := by omega
  have hl2 : w.heap.size + 1 < w4.heap.size := by omega
  have hl3 : w3.heap.size < w4.heap.size := by omega
  have hl4 : w.heap.size + 1 < w3.heap.size := by omega
  clear hw4 hs4 k3 hk3 HX3 HR3 HB3 mt xc0 xc1 xc2 xc3 xc4 xc5
  go_upto_region 2 with fail
  rw [HW4.out]
  have xc0 : w4.cell? ⟨w.heap.size, 0, none⟩ = some (.int .i64 (n : Int)) := HX4.out.cell 0
  have xc1 : w4.cell? ⟨w.heap.size, 1, none⟩ = some (.int .i64 z) := HX4.out.cell 1
  have xc2 : w4.cell? ⟨w.heap.size, 2, none⟩ = some (.int .u64 (hi q : Nat)) := HX4.out.cell 2
  have xc3 : w4.cell? ⟨w.heap.size, 3, none⟩ = some (.int .u64 (lo q : Nat)) := HX4.out.cell 3
  have xc4 : w4.cell? ⟨w.heap.size, 4, none⟩ = some (.int .i64 l) := HX4.out.cell 4
  have xc5 : w4.cell? ⟨w.heap.size, 5, none⟩ = some (.int .i64 g) := HX4.out.cell 5
  have pc0 : w4.cell? ⟨w3.heap.size, 0, none⟩ = some (.int .u64 (hi p : Nat)) := HP4.out.cell 0
  have pc1 : w4.cell? ⟨w3.heap.size, 1, none⟩ = some (.int .u64 (lo p : Nat)) := HP4.out.cell 1
  go_region_with (first | (go_at_call 41; refine (m2 _).mono ?_; rintro e wr1 ⟨rfl, kr1⟩; (have HBr1 := Lib.hid (show Below w.heap.size w wr1 by first | exact (HB4.out).trans (kr1.mono (by have := HB4.out.size; first | omega | (simp; omega) | simp)) | exact (Below.drew (HB4.out)).trans (kr1.mono (by have := HB4.out.size; first | omega | (simp; omega) | simp)) | exact (Below.drew (Below.drew (HB4.out))).trans (kr1.mono (by have := HB4.out.size; first | omega | (simp; omega) | simp)) | exact (Below.drew (Below.drew (Below.drew (HB4.out)))).trans (kr1.mono (by have := HB4.out.size; first | omega | (simp; omega) | simp)))); (have Hxr1 := Lib.hid (show Has wr1 (w.heap.size) [.int .i64 (n : Int), .int .i64 z, .int .u64 (hi q : Nat), .int .u64 (lo q : Nat), .int .i64 l, .int .i64 g] 27 from HX4.out.step kr1 rfl)); (have yx10 : wr1.cell? ⟨w.heap.size, 0, none⟩ = some (.int .i64 (n : Int)) := Hxr1.out.cell 0); (have yx11 : wr1.cell? ⟨w.heap.size, 1, none⟩ = some (.int .i64 z) := Hxr1.out.cell 1); (have yx12 : wr1.cell? ⟨w.heap.size, 2, none⟩ = some (.int .u64 (hi q : Nat)) := Hxr1.out.cell 2); (have yx13 : wr1.cell? ⟨w.heap.size, 3, none⟩ = some (.int .u64 (lo q : Nat)) := Hxr1.out.cell 3); (have yx14 : wr1.cell? ⟨w.heap.size, 4, none⟩ = some (.int .i64 l) := Hxr1.out.cell 4); (have yx15 : wr1.cell? ⟨w.heap.size, 5, none⟩ = some (.int .i64 g) := Hxr1.out.cell 5); (have lx1 : w.heap.size < wr1.heap.size := Hxr1.out.lt); (have Hpr1 := Lib.hid (show Has wr1 (w3.heap.size) [.int .u64 (hi p : Nat), .int .u64 (lo p : Nat)] 25 from HP4.out.step kr1 rfl)); (have yp10 : wr1.cell? ⟨w3.heap.size, 0, none⟩ = some (.int .u64 (hi p : Nat)) := Hpr1.out.cell 0); (have yp11 : wr1.cell? ⟨w3.heap.size, 1, none⟩ = some (.int .u64 (lo p : Nat)) := Hpr1.out.cell 1); (have lp1 : w3.heap.size < wr1.heap.size := Hpr1.out.lt); (have Hrr1 := Lib.hid (show Has wr1 (w.heap.size + 1) [.int .u64 0, .int .u64 0] 25 from HR4.out.step kr1 rfl)); (have yr10 : wr1.cell? ⟨w.heap.size + 1, 0, none⟩ = some (.int .u64 0) := Hrr1.out.cell 0); (have yr11 : wr1.cell? ⟨w.heap.size + 1, 1, none⟩ = some (.int .u64 0) := Hrr1.out.cell 1); (have fr10 : wr1.frozen? ⟨w.heap.size + 1, 0, none⟩ = false := Hrr1.out.frozen 0); (have fr11 : wr1.frozen? ⟨w.heap.size + 1, 1, none⟩ = false := Hrr1.out.frozen 1); (have lr1 : w.heap.size + 1 < wr1.heap.size := Hrr1.out.lt)) | (go_at_call 40; refine (m3 _).mono ?_; rintro e wr2 ⟨rfl, kr2⟩; (have HBr2 := Lib.hid (show Below w.heap.size w wr2 by first | exact (HBr1.out).trans (kr2.mono (by have := HBr1.out.size; first | omega | (simp; omega) | simp)) | exact (Below.drew (HBr1.out)).trans (kr2.mono (by have := HBr1.out.size; first | omega | (simp; omega) | simp)) | exact (Below.drew (Below.drew (HBr1.out))).trans (kr2.mono (by have := HBr1.out.size; first | omega | (simp; omega) | simp)) | exact (Below.drew (Below.drew (Below.drew (HBr1.out)))).trans (kr2.mono (by have := HBr1.out.size; first | omega | (simp; omega) | simp)))); (have Hxr2 := Lib.hid (show Has wr2 (w.heap.size) [.int .i64 (n : Int), .int .i64 z, .int .u64 (hi q : Nat), .int .u64 (lo q : Nat), .int .i64 l, .int .i64 g] 27 from Hxr1.out.step kr2 rfl)); (have yx20 : wr2.cell? ⟨w.heap.size, 0, none⟩ = some (.int .i64 (n : Int)) := Hxr2.out.cell 0); (have yx21 : wr2.cell? ⟨w.heap.size, 1, none⟩ = some (.int .i64 z) := Hxr2.out.cell 1); (have yx22 : wr2.cell? ⟨w.heap.size, 2, none⟩ = some (.int .u64 (hi q : Nat)) := Hxr2.out.cell 2); (have yx23 : wr2.cell? ⟨w.heap.size, 3, none⟩ = some (.int .u64 (lo q : Nat)) := Hxr2.out.cell 3); (have yx24 : wr2.cell? ⟨w.heap.size, 4, none⟩ = some (.int .i64 l) := Hxr2.out.cell 4); (have yx25 : wr2.cell? ⟨w.heap.size, 5, none⟩ = some (.int .i64 g) := Hxr2.out.cell 5); (have lx2 : w.heap.size < wr2.heap.size := Hxr2.out.lt); (have Hpr2 := Lib.hid (show Has wr2 (w3.heap.size) [.int .u64 (hi p : Nat), .int .u64 (lo p : Nat)] 25 from Hpr1.out.step kr2 rfl)); (have yp20 : wr2.cell? ⟨w3.heap.size, 0, none⟩ = some (.int .u64 (hi p : Nat)) := Hpr2.out.cell 0); (have yp21 : wr2.cell? ⟨w3.heap.size, 1, none⟩ = some (.int .u64 (lo p : Nat)) := Hpr2.out.cell 1); (have lp2 : w3.heap.size < wr2.heap.size := Hpr2.out.lt); (have Hrr2 := Lib.hid (show Has wr2 (w.heap.size + 1) [.int .u64 0, .int .u64 0] 25 from Hrr1.out.step kr2 rfl)); (have yr20 : wr2.cell? ⟨w.heap.size + 1, 0, none⟩ = some (.int .u64 0) := Hrr2.out.cell 0); (have yr21 : wr2.cell? ⟨w.heap.size + 1, 1, none⟩ = some (.int .u64 0) := Hrr2.out.cell 1); (have fr20 : wr2.frozen? ⟨w.heap.size + 1, 0, none⟩ = false := Hrr2.out.frozen 0); (have fr21 : wr2.frozen? ⟨w.heap.size + 1, 1, none⟩ = false := Hrr2.out.frozen 1); (have lr2 : w.heap.size + 1 < wr2.heap.size := Hrr2.out.lt)))
  all_goals (
    have HZ := Lib.hid ((Hrr2.out.set 0 (.int .u64 (hi d : Nat))).set 1 (.int .u64 (lo d : Nat)))
    have HBB := Lib.hid ((HBr2.out.setCell (p := ⟨w.heap.size + 1, 0, none⟩) (Nat.le_add_right _ 1) (.int .u64 (hi d : Nat))).setCell (p := ⟨w.heap.size + 1, 1, none⟩) (Nat.le_add_right _ 1) (.int .u64 (lo d : Nat)))
    go_wp2
    (try simp only [Exit.inBlock, Exit.then])
    exact bodyPost_ret (results_cell_tmp Try.results24 rfl (loadW2 HZ.out)) rfl ⟨rfl, HBB.out⟩)
theorem apart_any (s : Sta) (n : Nat) (hn : s.n = (n : Int)) (hb : n ≤ 1000000000) (h1 : -1000000000000000 ≤ s.sum) (h2 : s.sum ≤ 1000000000000000) (hq : s.sq ≤ 1000000000000000000000) (w : World) :
    Calls Try.prog 24 #[staV s] w fun e w' => e = .returned (.tuple #[.agg #[.int .u64 (hi (subW (n * s.sq) (s.sum * s.sum).toNat) : Nat), .int .u64 (lo (subW (n * s.sq) (s.sum * s.sum).toNat) : Nat)], .bool (ltW (n * s.sq) (s.sum * s.sum).toNat)]) ∧ Below w.heap.size w w' := by
  have hm : n * s.sq ≤ 1000000000 * 1000000000000000000000 := Nat.mul_le_mul hb hq
  have hM : n * s.sq < M128 := by unfold M128; omega
  have hz : s.sum * s.sum ≤ 1000000000000000 * 1000000000000000 := sq_le h1 h2
  have hz0 := sq_nonneg' s.sum
  have m1 := fun w => times_num n s.sq (by unfold M128; omega) (by unfold M128; omega) w
  rw [mulW_fit _ _ hM, hi_low n (by unfold B64; omega), lo_low n (by unfold B64; omega)] at m1
  unfold staV
  rw [hn]
  exact apart_core n s.sq (n * s.sq) (s.sum * s.sum).toNat _ s.sum s.lo s.hi _ _ w (by rw [IntKind.wrap_u64]; omega) m1 (fun w => square_any s.sum h1 h2 w) fun w => sub_num (n * s.sq) (s.sum * s.sum).toNat hM (by unfold M128; omega) w
theorem apart_ok (s : Sta) (h : staOk s) (w : World) :
    Calls Try.prog 24 #[staV s] w fun e w' => e = .returned (.tuple #[.agg #[.int .u64 (hi (spreadN s) : Nat), .int .u64 (lo (spreadN s) : Nat)], .bool false]) ∧ Below w.heap.size w w' := by
  obtain ⟨n, hn, hb, hi1, hq, hp, hle, he⟩ := sta_fit h
  have hs := sta_sum h
  have hq2 : s.sq ≤ 1000000000000000000000 := by
    have := h.2.1.2.2
    rw [hn] at this
    omega
  have := apart_any s n hn hb hs.1 hs.2 hq2 w
  rw [subW_fit _ _ hle hp, show ltW (n * s.sq) (s.sum * s.sum).toNat = false from decide_eq_false (by omega), ← he] at this
  exact this
set_option linter.unusedSimpArgs false in
set_option linter.unusedVariables false in
set_option maxHeartbeats 2000000 in
set_option maxRecDepth 100000 in
theorem right_a (n z h o l g : Int) (w : World) (heq : ∀ w, (Op.equalIn 10000 27 (.agg #[.int .i64 n, .int .i64 z, .int .u64 (h : Int), .int .u64 (o : Int), .int .i64 l, .int .i64 g]) (.agg #[.int .i64 0, .int .i64 0, .int .u64 0, .int .u64 0, .int .i64 0, .int .i64 0])).run Try.prog w = .ok false w)
    (c : n < 1) :
    Calls Try.prog 10 #[.agg #[.int .i64 n, .int .i64 z, .int .u64 (h : Int), .int .u64 (o : Int), .int .i64 l, .int .i64 g]] w fun e w' => e = .returned (.bool false) ∧ Below w.heap.size w w' := by
  have hB := (Below.refl w.heap.size w).alloc (Nat.le_refl _) (.cells #[.int .i64 n, .int .i64 z, .int .u64 (h : Int), .int .u64 (o : Int), .int .i64 l, .int .i64 g] 27)
  
  go_enter Try.func10, Try.ntmps10
  go_wp2_with (refine (isSample_any _ _).mono ?_; rintro e wi ⟨rfl, rfl⟩)
  go_ret
  exact ⟨rfl, hB⟩
set_option linter.unusedSimpArgs false in
set_option linter.unusedVariables false in
set_option maxHeartbeats 2000000 in
set_option maxRecDepth 100000 in
theorem right_z (n z h o l g : Int) (w : World) (heq : ∀ w, (Op.equalIn 10000 27 (.agg #[.int .i64 n, .int .i64 z, .int .u64 (h : Int), .int .u64 (o : Int), .int .i64 l, .int .i64 g]) (.agg #[.int .i64 0, .int .i64 0, .int .u64 0, .int .u64 0, .int .i64 0, .int .i64 0])).run Try.prog w = .ok true w)
     :
    Calls Try.prog 10 #[.agg #[.int .i64 n, .int .i64 z, .int .u64 (h : Int), .int .u64 (o : Int), .int .i64 l, .int .i64 g]] w fun e w' => e = .returned (.bool true) ∧ Below w.heap.size w w' := by
  have hB := (Below.refl w.heap.size w).alloc (Nat.le_refl _) (.cells #[.int .i64 n, .int .i64 z, .int .u64 (h : Int), .int .u64 (o : Int), .int .i64 l, .int .i64 g] 27)
  
  go_enter Try.func10, Try.ntmps10
  go_wp2_with (refine (isSample_any _ _).mono ?_; rintro e wi ⟨rfl, rfl⟩)
  go_ret
  exact ⟨rfl, hB⟩
set_option linter.unusedSimpArgs false in
set_option linter.unusedVariables false in
set_option maxHeartbeats 2000000 in
set_option maxRecDepth 100000 in
theorem right_b (n z h o l g : Int) (w : World) (heq : ∀ w, (Op.equalIn 10000 27 (.agg #[.int .i64 n, .int .i64 z, .int .u64 (h : Int), .int .u64 (o : Int), .int .i64 l, .int .i64 g]) (.agg #[.int .i64 0, .int .i64 0, .int .u64 0, .int .u64 0, .int .i64 0, .int .i64 0])).run Try.prog w = .ok false w)
    (c : 1 ≤ n) (d : 1000000000 < n) :
    Calls Try.prog 10 #[.agg #[.int .i64 n, .int .i64 z, .int .u64 (h : Int), .int .u64 (o : Int), .int .i64 l, .int .i64 g]] w fun e w' => e = .returned (.bool false) ∧ Below w.heap.size w w' := by
  have hB := (Below.refl w.heap.size w).alloc (Nat.le_refl _) (.cells #[.int .i64 n, .int .i64 z, .int .u64 (h : Int), .int .u64 (o : Int), .int .i64 l, .int .i64 g] 27)
  have n1 : ¬ n < 1 := by omega
  go_enter Try.func10, Try.ntmps10
  go_wp2_with (refine (isSample_any _ _).mono ?_; rintro e wi ⟨rfl, rfl⟩)
  go_ret
  exact ⟨rfl, hB⟩
set_option linter.unusedSimpArgs false in
set_option linter.unusedVariables false in
set_option maxHeartbeats 2000000 in
set_option maxRecDepth 100000 in
theorem right_c (n z h o l g : Int) (w : World) (heq : ∀ w, (Op.equalIn 10000 27 (.agg #[.int .i64 n, .int .i64 z, .int .u64 (h : Int), .int .u64 (o : Int), .int .i64 l, .int .i64 g]) (.agg #[.int .i64 0, .int .i64 0, .int .u64 0, .int .u64 0, .int .i64 0, .int .i64 0])).run Try.prog w = .ok false w)
    (c : 1 ≤ n) (d : n ≤ 1000000000) (e : g < l) :
    Calls Try.prog 10 #[.agg #[.int .i64 n, .int .i64 z, .int .u64 (h : Int), .int .u64 (o : Int), .int .i64 l, .int .i64 g]] w fun e w' => e = .returned (.bool false) ∧ Below w.heap.size w w' := by
  have hB := (Below.refl w.heap.size w).alloc (Nat.le_refl _) (.cells #[.int .i64 n, .int .i64 z, .int .u64 (h : Int), .int .u64 (o : Int), .int .i64 l, .int .i64 g] 27)
  have n1 : ¬ n < 1 := by omega
  have n2 : ¬ 1000000000 < n := by omega
  clear c d
  go_enter Try.func10, Try.ntmps10
  go_wp2_with (refine (isSample_any _ _).mono ?_; rintro e wi ⟨rfl, rfl⟩)
  go_ret
  exact ⟨rfl, hB⟩
set_option linter.unusedSimpArgs false in
set_option linter.unusedVariables false in
set_option maxHeartbeats 2000000 in
set_option maxRecDepth 100000 in
theorem right_d (n z h o l g : Int) (w : World) (heq : ∀ w, (Op.equalIn 10000 27 (.agg #[.int .i64 n, .int .i64 z, .int .u64 (h : Int), .int .u64 (o : Int), .int .i64 l, .int .i64 g]) (.agg #[.int .i64 0, .int .i64 0, .int .u64 0, .int .u64 0, .int .i64 0, .int .i64 0])).run Try.prog w = .ok false w)
    (c : 1 ≤ n) (d : n ≤ 1000000000) (e : l ≤ g) (h4 : goodI l = false) :
    Calls Try.prog 10 #[.agg #[.int .i64 n, .int .i64 z, .int .u64 (h : Int), .int .u64 (o : Int), .int .i64 l, .int .i64 g]] w fun e w' => e = .returned (.bool false) ∧ Below w.heap.size w w' := by
  have hB := (Below.refl w.heap.size w).alloc (Nat.le_refl _) (.cells #[.int .i64 n, .int .i64 z, .int .u64 (h : Int), .int .u64 (o : Int), .int .i64 l, .int .i64 g] 27)
  have n1 : ¬ n < 1 := by omega
  have n2 : ¬ 1000000000 < n := by omega
  have n3 : ¬ g < l := by omega
  clear c d e
  go_enter Try.func10, Try.ntmps10
  go_wp2_with (refine (isSample_any _ _).mono ?_; rintro e wi ⟨rfl, rfl⟩)
  go_ret
  exact ⟨rfl, hB⟩
set_option linter.unusedSimpArgs false in
set_option linter.unusedVariables false in
set_option maxHeartbeats 2000000 in
set_option maxRecDepth 100000 in
theorem right_e (n z h o l g : Int) (w : World) (heq : ∀ w, (Op.equalIn 10000 27 (.agg #[.int .i64 n, .int .i64 z, .int .u64 (h : Int), .int .u64 (o : Int), .int .i64 l, .int .i64 g]) (.agg #[.int .i64 0, .int .i64 0, .int .u64 0, .int .u64 0, .int .i64 0, .int .i64 0])).run Try.prog w = .ok false w)
    (c : 1 ≤ n) (d : n ≤ 1000000000) (e : l ≤ g) (h4 : goodI l = true) (h5 : goodI g = false) :
    Calls Try.prog 10 #[.agg #[.int .i64 n, .int .i64 z, .int .u64 (h : Int), .int .u64 (o : Int), .int .i64 l, .int .i64 g]] w fun e w' => e = .returned (.bool false) ∧ Below w.heap.size w w' := by
  have hB := (Below.refl w.heap.size w).alloc (Nat.le_refl _) (.cells #[.int .i64 n, .int .i64 z, .int .u64 (h : Int), .int .u64 (o : Int), .int .i64 l, .int .i64 g] 27)
  have n1 : ¬ n < 1 := by omega
  have n2 : ¬ 1000000000 < n := by omega
  have n3 : ¬ g < l := by omega
  clear c d e
  go_enter Try.func10, Try.ntmps10
  go_wp2_with (refine (isSample_any _ _).mono ?_; rintro e wi ⟨rfl, rfl⟩)
  go_ret
  exact ⟨rfl, hB⟩
end Go.Proofs.Ytbpdapggdccmiaa
