/- stats: Spread, Join. -/
import Derived.Test.YtbpdapggdccmiaaStaJ
namespace Go.Proofs.Ytbpdapggdccmiaa
open Go.RowKit

set_option linter.unusedSimpArgs false in
set_option linter.unusedVariables false in
set_option maxHeartbeats 2000000 in
set_option maxRecDepth 100000 in
theorem spread_no (n z h o l g : Int) (w : World) (hr : (∀ w, Calls Try.prog 10 #[.agg #[.int .i64 n, .int .i64 z, .int .u64 h, .int .u64 o, .int .i64 l, .int .i64 g]] w fun e w' => e = .returned (.bool false) ∧ Below w.heap.size w w')) :
    Calls Try.prog 9 #[.agg #[.int .i64 n, .int .i64 z, .int .u64 h, .int .u64 o, .int .i64 l, .int .i64 g]] w fun e w' => e = .returned (.tuple #[.agg #[.int .u64 0, .int .u64 0], .int .i64 1]) ∧ Below w.heap.size w w' := by
  obtain ⟨w2, hw2⟩ : ∃ w2, (w.alloc (.cells #[.int .i64 n, .int .i64 z, .int .u64 h, .int .u64 o, .int .i64 l, .int .i64 g] 27)).alloc (.cells #[.int .u64 0, .int .u64 0] 25) = w2 := ⟨_, rfl⟩
  have hs2 : w2.heap.size = w.heap.size + 2 := by rw [← hw2]; simp
  have HB2 := Lib.hid (show Below w.heap.size w w2 by rw [← hw2]; exact ((Below.refl _ _).alloc (Nat.le_refl _) _).alloc (by simp) _)
  have HX2 := Lib.hid (show Has w2 w.heap.size [.int .i64 n, .int .i64 z, .int .u64 h, .int .u64 o, .int .i64 l, .int .i64 g] 27 by rw [← hw2]; exact (Has.new w _ _).alloc _)
  have HR2 := Lib.hid (show Has w2 (w.heap.size + 1) [.int .u64 0, .int .u64 0] 25 by
    have := Has.new (w.alloc (.cells #[.int .i64 n, .int .i64 z, .int .u64 h, .int .u64 o, .int .i64 l, .int .i64 g] 27)) [.int .u64 0, .int .u64 0] 25
    rw [show (w.alloc (.cells #[.int .i64 n, .int .i64 z, .int .u64 h, .int .u64 o, .int .i64 l, .int .i64 g] 27)).heap.size = w.heap.size + 1 by simp] at this
    rw [← hw2]; exact this)
  have hlt : w.heap.size < w2.heap.size := by omega
  have hlt2 : w.heap.size + 1 < w2.heap.size := by omega
  have HW2 := Lib.hid hw2
  have hr2 := hr w2
  clear hw2 hs2 hr
  have xc0 : w2.cell? ⟨w.heap.size, 0, none⟩ = some (.int .i64 n) := HX2.out.cell 0
  have xc1 : w2.cell? ⟨w.heap.size, 1, none⟩ = some (.int .i64 z) := HX2.out.cell 1
  have xc2 : w2.cell? ⟨w.heap.size, 2, none⟩ = some (.int .u64 h) := HX2.out.cell 2
  have xc3 : w2.cell? ⟨w.heap.size, 3, none⟩ = some (.int .u64 o) := HX2.out.cell 3
  have xc4 : w2.cell? ⟨w.heap.size, 4, none⟩ = some (.int .i64 l) := HX2.out.cell 4
  have xc5 : w2.cell? ⟨w.heap.size, 5, none⟩ = some (.int .i64 g) := HX2.out.cell 5
  go_enter Try.func9, Try.ntmps9
  go_upto_region 1 with fail
  rw [HW2.out]
  go_wp2_with fail
  refine hr2.mono ?_
  rintro e w3 ⟨rfl, k3⟩
  have HX3 := Lib.hid (HX2.out.call k3)
  have HR3 := Lib.hid (HR2.out.call k3)
  have HB3 := Lib.hid (HB2.out.trans (k3.mono HB2.out.size))
  have hk3 := k3.size
  have hl3 : w.heap.size < w3.heap.size := by omega
  have hl4 : w.heap.size + 1 < w3.heap.size := by omega
  clear hr2 k3 xc0 xc1 xc2 xc3 xc4 xc5
  have yc0 : w3.cell? ⟨w.heap.size, 0, none⟩ = some (.int .i64 n) := HX3.out.cell 0
  have yc1 : w3.cell? ⟨w.heap.size, 1, none⟩ = some (.int .i64 z) := HX3.out.cell 1
  have yc2 : w3.cell? ⟨w.heap.size, 2, none⟩ = some (.int .u64 h) := HX3.out.cell 2
  have yc3 : w3.cell? ⟨w.heap.size, 3, none⟩ = some (.int .u64 o) := HX3.out.cell 3
  have yc4 : w3.cell? ⟨w.heap.size, 4, none⟩ = some (.int .i64 l) := HX3.out.cell 4
  have yc5 : w3.cell? ⟨w.heap.size, 5, none⟩ = some (.int .i64 g) := HX3.out.cell 5
  have zc0 : w3.cell? ⟨w.heap.size + 1, 0, none⟩ = some (.int .u64 0) := HR3.out.cell 0
  have zf0 : w3.frozen? ⟨w.heap.size + 1, 0, none⟩ = false := HR3.out.frozen 0
  have zc1 : w3.cell? ⟨w.heap.size + 1, 1, none⟩ = some (.int .u64 0) := HR3.out.cell 1
  have zf1 : w3.frozen? ⟨w.heap.size + 1, 1, none⟩ = false := HR3.out.frozen 1
  have HZ := Lib.hid ((HR3.out.set 0 (.int .u64 0)).set 1 (.int .u64 0))
  have HBB := Lib.hid ((HB3.out.setCell (p := ⟨w.heap.size + 1, 0, none⟩) (Nat.le_add_right _ 1) (.int .u64 0)).setCell (p := ⟨w.heap.size + 1, 1, none⟩) (Nat.le_add_right _ 1) (.int .u64 0))
  go_wp2
  (try simp only [Exit.inBlock, Exit.then])
  exact bodyPost_ret (results_cell_tmp Try.results9 rfl (loadW2 HZ.out)) rfl ⟨rfl, HBB.out⟩
set_option linter.unusedSimpArgs false in
set_option linter.unusedVariables false in
set_option maxHeartbeats 2000000 in
set_option maxRecDepth 100000 in
theorem spread_none (n z h o l g : Int) (w : World) (hr : (∀ w, Calls Try.prog 10 #[.agg #[.int .i64 n, .int .i64 z, .int .u64 h, .int .u64 o, .int .i64 l, .int .i64 g]] w fun e w' => e = .returned (.bool true) ∧ Below w.heap.size w w')) (hn : n = 0) :
    Calls Try.prog 9 #[.agg #[.int .i64 n, .int .i64 z, .int .u64 h, .int .u64 o, .int .i64 l, .int .i64 g]] w fun e w' => e = .returned (.tuple #[.agg #[.int .u64 0, .int .u64 0], .int .i64 6]) ∧ Below w.heap.size w w' := by
  obtain ⟨w2, hw2⟩ : ∃ w2, (w.alloc (.cells #[.int .i64 n, .int .i64 z, .int .u64 h, .int .u64 o, .int .i64 l, .int .i64 g] 27)).alloc (.cells #[.int .u64 0, .int .u64 0] 25) = w2 := ⟨_, rfl⟩
  have hs2 : w2.heap.size = w.heap.size + 2 := by rw [← hw2]; simp
  have HB2 := Lib.hid (show Below w.heap.size w w2 by rw [← hw2]; exact ((Below.refl _ _).alloc (Nat.le_refl _) _).alloc (by simp) _)
  have HX2 := Lib.hid (show Has w2 w.heap.size [.int .i64 n, .int .i64 z, .int .u64 h, .int .u64 o, .int .i64 l, .int .i64 g] 27 by rw [← hw2]; exact (Has.new w _ _).alloc _)
  have HR2 := Lib.hid (show Has w2 (w.heap.size + 1) [.int .u64 0, .int .u64 0] 25 by
    have := Has.new (w.alloc (.cells #[.int .i64 n, .int .i64 z, .int .u64 h, .int .u64 o, .int .i64 l, .int .i64 g] 27)) [.int .u64 0, .int .u64 0] 25
    rw [show (w.alloc (.cells #[.int .i64 n, .int .i64 z, .int .u64 h, .int .u64 o, .int .i64 l, .int .i64 g] 27)).heap.size = w.heap.size + 1 by simp] at this
    rw [← hw2]; exact this)
  have hlt : w.heap.size < w2.heap.size := by omega
  have hlt2 : w.heap.size + 1 < w2.heap.size := by omega
  have HW2 := Lib.hid hw2
  have hr2 := hr w2
  clear hw2 hs2 hr
  have e0 : (n == 0) = true := beq_iff_eq.2 hn
  clear hn
  have xc0 : w2.cell? ⟨w.heap.size, 0, none⟩ = some (.int .i64 n) := HX2.out.cell 0
  have xc1 : w2.cell? ⟨w.heap.size, 1, none⟩ = some (.int .i64 z) := HX2.out.cell 1
  have xc2 : w2.cell? ⟨w.heap.size, 2, none⟩ = some (.int .u64 h) := HX2.out.cell 2
  have xc3 : w2.cell? ⟨w.heap.size, 3, none⟩ = some (.int .u64 o) := HX2.out.cell 3
  have xc4 : w2.cell? ⟨w.heap.size, 4, none⟩ = some (.int .i64 l) := HX2.out.cell 4
  have xc5 : w2.cell? ⟨w.heap.size, 5, none⟩ = some (.int .i64 g) := HX2.out.cell 5
  go_enter Try.func9, Try.ntmps9
  go_upto_region 1 with fail
  rw [HW2.out]
  go_wp2_with fail
  refine hr2.mono ?_
  rintro e w3 ⟨rfl, k3⟩
  have HX3 := Lib.hid (HX2.out.call k3)
  have HR3 := Lib.hid (HR2.out.call k3)
  have HB3 := Lib.hid (HB2.out.trans (k3.mono HB2.out.size))
  have hk3 := k3.size
  have hl3 : w.heap.size < w3.heap.size := by omega
  have hl4 : w.heap.size + 1 < w3.heap.size := by omega
  clear hr2 k3 xc0 xc1 xc2 xc3 xc4 xc5
  have yc0 : w3.cell? ⟨w.heap.size, 0, none⟩ = some (.int .i64 n) := HX3.out.cell 0
  have yc1 : w3.cell? ⟨w.heap.size, 1, none⟩ = some (.int .i64 z) := HX3.out.cell 1
  have yc2 : w3.cell? ⟨w.heap.size, 2, none⟩ = some (.int .u64 h) := HX3.out.cell 2
  have yc3 : w3.cell? ⟨w.heap.size, 3, none⟩ = some (.int .u64 o) := HX3.out.cell 3
  have yc4 : w3.cell? ⟨w.heap.size, 4, none⟩ = some (.int .i64 l) := HX3.out.cell 4
  have yc5 : w3.cell? ⟨w.heap.size, 5, none⟩ = some (.int .i64 g) := HX3.out.cell 5
  have zc0 : w3.cell? ⟨w.heap.size + 1, 0, none⟩ = some (.int .u64 0) := HR3.out.cell 0
  have zf0 : w3.frozen? ⟨w.heap.size + 1, 0, none⟩ = false := HR3.out.frozen 0
  have zc1 : w3.cell? ⟨w.heap.size + 1, 1, none⟩ = some (.int .u64 0) := HR3.out.cell 1
  have zf1 : w3.frozen? ⟨w.heap.size + 1, 1, none⟩ = false := HR3.out.frozen 1
  have HZ := Lib.hid ((HR3.out.set 0 (.int .u64 0)).set 1 (.int .u64 0))
  have HBB := Lib.hid ((HB3.out.setCell (p := ⟨w.heap.size + 1, 0, none⟩) (Nat.le_add_right _ 1) (.int .u64 0)).setCell (p := ⟨w.heap.size + 1, 1, none⟩) (Nat.le_add_right _ 1) (.int .u64 0))
  go_wp2
  (try simp only [Exit.inBlock, Exit.then])
  exact bodyPost_ret (results_cell_tmp Try.results9 rfl (loadW2 HZ.out)) rfl ⟨rfl, HBB.out⟩
set_option linter.unusedSimpArgs false in
set_option linter.unusedVariables false in
set_option maxHeartbeats 2000000 in
set_option maxRecDepth 100000 in
theorem spread_ok (n z h o l g : Int) (w : World) (hr : (∀ w, Calls Try.prog 10 #[.agg #[.int .i64 n, .int .i64 z, .int .u64 h, .int .u64 o, .int .i64 l, .int .i64 g]] w fun e w' => e = .returned (.bool true) ∧ Below w.heap.size w w')) (hn : ¬ n = 0) (dh dl : Int) (Y : Bool) (hap : (∀ w, Calls Try.prog 24 #[.agg #[.int .i64 n, .int .i64 z, .int .u64 h, .int .u64 o, .int .i64 l, .int .i64 g]] w fun e w' => e = .returned (.tuple #[.agg #[.int .u64 dh, .int .u64 dl], .bool Y]) ∧ Below w.heap.size w w')) :
    Calls Try.prog 9 #[.agg #[.int .i64 n, .int .i64 z, .int .u64 h, .int .u64 o, .int .i64 l, .int .i64 g]] w fun e w' => e = .returned (.tuple #[.agg #[.int .u64 dh, .int .u64 dl], .int .i64 0]) ∧ Below w.heap.size w w' := by
  obtain ⟨w2, hw2⟩ : ∃ w2, (w.alloc (.cells #[.int .i64 n, .int .i64 z, .int .u64 h, .int .u64 o, .int .i64 l, .int .i64 g] 27)).alloc (.cells #[.int .u64 0, .int .u64 0] 25) = w2 := ⟨_, rfl⟩
  have hs2 : w2.heap.size = w.heap.size + 2 := by rw [← hw2]; simp
  have HB2 := Lib.hid (show Below w.heap.size w w2 by rw [← hw2]; exact ((Below.refl _ _).alloc (Nat.le_refl _) _).alloc (by simp) _)
  have HX2 := Lib.hid (show Has w2 w.heap.size [.int .i64 n, .int .i64 z, .int .u64 h, .int .u64 o, .int .i64 l, .int .i64 g] 27 by rw [← hw2]; exact (Has.new w _ _).alloc _)
  have HR2 := Lib.hid (show Has w2 (w.heap.size + 1) [.int .u64 0, .int .u64 0] 25 by
    have := Has.new (w.alloc (.cells #[.int .i64 n, .int .i64 z, .int .u64 h, .int .u64 o, .int .i64 l, .int .i64 g] 27)) [.int .u64 0, .int .u64 0] 25
    rw [show (w.alloc (.cells #[.int .i64 n, .int .i64 z, .int .u64 h, .int .u64 o, .int .i64 l, .int .i64 g] 27)).heap.size = w.heap.size + 1 by simp] at this
    rw [← hw2]; exact this)
  have hlt : w.heap.size < w2.heap.size := by omega
  have hlt2 : w.heap.size + 1 < w2.heap.size := by omega
  have HW2 := Lib.hid hw2
  have hr2 := hr w2
  clear hw2 hs2 hr
  have xc0 : w2.cell? ⟨w.heap.size, 0, none⟩ = some (.int .i64 n) := HX2.out.cell 0
  have xc1 : w2.cell? ⟨w.heap.size, 1, none⟩ = some (.int .i64 z) := HX2.out.cell 1
  have xc2 : w2.cell? ⟨w.heap.size, 2, none⟩ = some (.int .u64 h) := HX2.out.cell 2
  have xc3 : w2.cell? ⟨w.heap.size, 3, none⟩ = some (.int .u64 o) := HX2.out.cell 3
  have xc4 : w2.cell? ⟨w.heap.size, 4, none⟩ = some (.int .i64 l) := HX2.out.cell 4
  have xc5 : w2.cell? ⟨w.heap.size, 5, none⟩ = some (.int .i64 g) := HX2.out.cell 5
  go_enter Try.func9, Try.ntmps9
  go_upto_region 1 with fail
  rw [HW2.out]
  go_wp2_with fail
  refine hr2.mono ?_
  rintro e w3 ⟨rfl, k3⟩
  have HX3 := Lib.hid (HX2.out.call k3)
  have HR3 := Lib.hid (HR2.out.call k3)
  have HB3 := Lib.hid (HB2.out.trans (k3.mono HB2.out.size))
  have hk3 := k3.size
  have hl3 : w.heap.size < w3.heap.size := by omega
  have hl4 : w.heap.size + 1 < w3.heap.size := by omega
  clear hr2 k3 xc0 xc1 xc2 xc3 xc4 xc5
  have yc0 : w3.cell? ⟨w.heap.size, 0, none⟩ = some (.int .i64 n) := HX3.out.cell 0
  have yc1 : w3.cell? ⟨w.heap.size, 1, none⟩ = some (.int .i64 z) := HX3.out.cell 1
  have yc2 : w3.cell? ⟨w.heap.size, 2, none⟩ = some (.int .u64 h) := HX3.out.cell 2
  have yc3 : w3.cell? ⟨w.heap.size, 3, none⟩ = some (.int .u64 o) := HX3.out.cell 3
  have yc4 : w3.cell? ⟨w.heap.size, 4, none⟩ = some (.int .i64 l) := HX3.out.cell 4
  have yc5 : w3.cell? ⟨w.heap.size, 5, none⟩ = some (.int .i64 g) := HX3.out.cell 5
  have zc0 : w3.cell? ⟨w.heap.size + 1, 0, none⟩ = some (.int .u64 0) := HR3.out.cell 0
  have zf0 : w3.frozen? ⟨w.heap.size + 1, 0, none⟩ = false := HR3.out.frozen 0
  have zc1 : w3.cell? ⟨w.heap.size + 1, 1, none⟩ = some (.int .u64 0) := HR3.out.cell 1
  have zf1 : w3.frozen? ⟨w.heap.size + 1, 1, none⟩ = false := HR3.out.frozen 1
  have e1 : (n == 0) = false := beq_false_of_ne hn
  have hap2 := hap w3
  clear hn hap
  go_upto_region 5 with fail
  go_wp2_with fail
  refine hap2.mono ?_
  rintro e w4 ⟨rfl, k4⟩
  have hk4 := k4.size
  have HR4 := HR3.out.call k4
  have HB4 := HB3.out.trans (k4.mono HB3.out.size)
  obtain ⟨w5, hw5⟩ : ∃ w5, w4.alloc (.cells #[.int .u64 dh, .int .u64 dl] 25) = w5 := ⟨_, rfl⟩
  have HB5 := Lib.hid (show Below w.heap.size w w5 by rw [← hw5]; exact HB4.alloc HB4.size _)
  have HR5 := Lib.hid (show Has w5 (w.heap.size + 1) [.int .u64 0, .int .u64 0] 25 by rw [← hw5]; exact HR4.alloc _)
  have HD5 := Lib.hid (show Has w5 w4.heap.size [.int .u64 dh, .int .u64 dl] 25 by rw [← hw5]; exact Has.new _ _ _)
  have HW5 := Lib.hid hw5
  have hl5 : w.heap.size + 1 < w4.heap.size := by omega
  clear hw5 k4 hap2 HR4 HB4 yc0 yc1 yc2 yc3 yc4 yc5 zc0 zc1 zf0 zf1
  go_upto_region 6 with fail
  rw [HW5.out]
  have dc0 : w5.cell? ⟨w4.heap.size, 0, none⟩ = some (.int .u64 dh) := HD5.out.cell 0
  have dc1 : w5.cell? ⟨w4.heap.size, 1, none⟩ = some (.int .u64 dl) := HD5.out.cell 1
  have zc0 : w5.cell? ⟨w.heap.size + 1, 0, none⟩ = some (.int .u64 0) := HR5.out.cell 0
  have zf0 : w5.frozen? ⟨w.heap.size + 1, 0, none⟩ = false := HR5.out.frozen 0
  have zc1 : w5.cell? ⟨w.heap.size + 1, 1, none⟩ = some (.int .u64 0) := HR5.out.cell 1
  have zf1 : w5.frozen? ⟨w.heap.size + 1, 1, none⟩ = false := HR5.out.frozen 1
  have HZ := Lib.hid ((HR5.out.set 0 (.int .u64 dh)).set 1 (.int .u64 dl))
  have HBB := Lib.hid ((HB5.out.setCell (p := ⟨w.heap.size + 1, 0, none⟩) (Nat.le_add_right _ 1) (.int .u64 dh)).setCell (p := ⟨w.heap.size + 1, 1, none⟩) (Nat.le_add_right _ 1) (.int .u64 dl))
  go_wp2
  (try simp only [Exit.inBlock, Exit.then])
  exact bodyPost_ret (results_cell_tmp Try.results9 rfl (loadW2 HZ.out)) rfl ⟨rfl, HBB.out⟩
/-- What Spread tells of stats: the number and the error. -/
def sprN (s : Sta) : Nat := if staB s = true ∧ ¬ s.n = 0 then spreadN s else 0
def sprE (s : Sta) : Int := if staB s = true then (if s.n = 0 then 6 else 0) else 1
theorem staB_ok {s : Sta} (h : staB s = true) (hn : ¬ s.n = 0) : staOk s := (of_decide_eq_true h).resolve_left fun c => hn c.1
theorem spread11_any (s : Sta) (hq : s.sq < M128) (w : World) :
    Calls Try.prog 9 #[staV s] w fun e w' => e = .returned (.tuple #[.agg #[.int .u64 (hi (sprN s) : Nat), .int .u64 (lo (sprN s) : Nat)], .int .i64 (sprE s)]) ∧ Below w.heap.size w w' := by
  have hr := fun w => right11_any s hq w
  unfold sprN sprE
  cases hb : staB s with
  | false =>
    rw [hb] at hr
    rw [if_neg (fun h => by cases h.1), if_neg (fun h => by cases h)]
    exact spread_no _ _ _ _ _ _ w hr
  | true =>
    rw [hb] at hr
    rw [if_pos rfl]
    by_cases hn : s.n = 0
    · rw [if_neg (fun h => h.2 hn), if_pos hn]
      exact spread_none _ _ _ _ _ _ w hr hn
    · rw [if_pos ⟨rfl, hn⟩, if_neg hn]
      exact spread_ok _ _ _ _ _ _ w hr hn _ _ _ (fun w => apart_ok s (staB_ok hb hn) w)
set_option linter.unusedSimpArgs false in
set_option linter.unusedVariables false in
set_option maxHeartbeats 2000000 in
set_option maxRecDepth 100000 in
theorem join_na (n1 z1 h1 o1 l1 g1 n2 z2 h2 o2 l2 g2 : Int) (w : World) (hra : (∀ w, Calls Try.prog 10 #[.agg #[.int .i64 n1, .int .i64 z1, .int .u64 h1, .int .u64 o1, .int .i64 l1, .int .i64 g1]] w fun e w' => e = .returned (.bool false) ∧ Below w.heap.size w w')) :
    Calls Try.prog 8 #[.agg #[.int .i64 n1, .int .i64 z1, .int .u64 h1, .int .u64 o1, .int .i64 l1, .int .i64 g1], .agg #[.int .i64 n2, .int .i64 z2, .int .u64 h2, .int .u64 o2, .int .i64 l2, .int .i64 g2]] w fun e w' => e = .returned (.tuple #[.agg #[.int .i64 0, .int .i64 0, .int .u64 0, .int .u64 0, .int .i64 0, .int .i64 0], .int .i64 1]) ∧ Below w.heap.size w w' := by
  obtain ⟨w3, hw3⟩ : ∃ w3, ((w.alloc (.cells #[.int .i64 n1, .int .i64 z1, .int .u64 h1, .int .u64 o1, .int .i64 l1, .int .i64 g1] 27)).alloc (.cells #[.int .i64 n2, .int .i64 z2, .int .u64 h2, .int .u64 o2, .int .i64 l2, .int .i64 g2] 27)).alloc (.cells #[.int .i64 0, .int .i64 0, .int .u64 0, .int .u64 0, .int .i64 0, .int .i64 0] 27) = w3 := ⟨_, rfl⟩
  have hs3 : w3.heap.size = w.heap.size + 3 := by rw [← hw3]; simp
  have HB3 := Lib.hid (show Below w.heap.size w w3 by rw [← hw3]; exact (((Below.refl _ _).alloc (Nat.le_refl _) _).alloc (by simp) _).alloc (by simp; omega) _)
  have HX1 := Lib.hid (show Has w3 w.heap.size [.int .i64 n1, .int .i64 z1, .int .u64 h1, .int .u64 o1, .int .i64 l1, .int .i64 g1] 27 by rw [← hw3]; exact ((Has.new w _ _).alloc _).alloc _)
  have HX2 := Lib.hid (show Has w3 (w.heap.size + 1) [.int .i64 n2, .int .i64 z2, .int .u64 h2, .int .u64 o2, .int .i64 l2, .int .i64 g2] 27 by
    have := (Has.new (w.alloc (.cells #[.int .i64 n1, .int .i64 z1, .int .u64 h1, .int .u64 o1, .int .i64 l1, .int .i64 g1] 27)) [.int .i64 n2, .int .i64 z2, .int .u64 h2, .int .u64 o2, .int .i64 l2, .int .i64 g2] 27).alloc (.cells #[.int .i64 0, .int .i64 0, .int .u64 0, .int .u64 0, .int .i64 0, .int .i64 0] 27)
    rw [show (w.alloc (.cells #[.int .i64 n1, .int .i64 z1, .int .u64 h1, .int .u64 o1, .int .i64 l1, .int .i64 g1] 27)).heap.size = w.heap.size + 1 by simp] at this
    rw [← hw3]; exact this)
  have HX3 := Lib.hid (show Has w3 (w.heap.size + 2) [.int .i64 0, .int .i64 0, .int .u64 0, .int .u64 0, .int .i64 0, .int .i64 0] 27 by
    have := Has.new ((w.alloc (.cells #[.int .i64 n1, .int .i64 z1, .int .u64 h1, .int .u64 o1, .int .i64 l1, .int .i64 g1] 27)).alloc (.cells #[.int .i64 n2, .int .i64 z2, .int .u64 h2, .int .u64 o2, .int .i64 l2, .int .i64 g2] 27)) [.int .i64 0, .int .i64 0, .int .u64 0, .int .u64 0, .int .i64 0, .int .i64 0] 27
    rw [show ((w.alloc (.cells #[.int .i64 n1, .int .i64 z1, .int .u64 h1, .int .u64 o1, .int .i64 l1, .int .i64 g1] 27)).alloc (.cells #[.int .i64 n2, .int .i64 z2, .int .u64 h2, .int .u64 o2, .int .i64 l2, .int .i64 g2] 27)).heap.size = w.heap.size + 2 by simp] at this
    rw [← hw3]; exact this)
  have HW3 := Lib.hid hw3
  have hlt : w.heap.size < w3.heap.size := by omega
  have hlt1 : w.heap.size + 1 < w3.heap.size := by omega
  have hlt2 : w.heap.size + 2 < w3.heap.size := by omega
  have hra2 := hra w3
  clear hw3 hs3 hra
  have ac0 : w3.cell? ⟨w.heap.size, 0, none⟩ = some (.int .i64 n1) := HX1.out.cell 0
  have ac1 : w3.cell? ⟨w.heap.size, 1, none⟩ = some (.int .i64 z1) := HX1.out.cell 1
  have ac2 : w3.cell? ⟨w.heap.size, 2, none⟩ = some (.int .u64 h1) := HX1.out.cell 2
  have ac3 : w3.cell? ⟨w.heap.size, 3, none⟩ = some (.int .u64 o1) := HX1.out.cell 3
  have ac4 : w3.cell? ⟨w.heap.size, 4, none⟩ = some (.int .i64 l1) := HX1.out.cell 4
  have ac5 : w3.cell? ⟨w.heap.size, 5, none⟩ = some (.int .i64 g1) := HX1.out.cell 5
  go_enter Try.func8, Try.ntmps8
  go_upto_region 1 with fail
  rw [HW3.out]
  go_wp2_with fail
  refine hra2.mono ?_
  rintro e w4 ⟨rfl, k4⟩
  have hk4 := k4.size
  have HA4 := Lib.hid (HX1.out.call k4)
  have HC4 := Lib.hid (HX2.out.call k4)
  have HR4 := Lib.hid (HX3.out.call k4)
  have HB4 := Lib.hid (HB3.out.trans (k4.mono HB3.out.size))
  have hl0 : w.heap.size < w4.heap.size := by omega
  have hl1 : w.heap.size + 1 < w4.heap.size := by omega
  have hl2 : w.heap.size + 2 < w4.heap.size := by omega
  clear hra2 k4 ac0 ac1 ac2 ac3 ac4 ac5
  have zc0 : w4.cell? ⟨w.heap.size + 2, 0, none⟩ = some (.int .i64 0) := HR4.out.cell 0
  have zf0 : w4.frozen? ⟨w.heap.size + 2, 0, none⟩ = false := HR4.out.frozen 0
  have zc1 : w4.cell? ⟨w.heap.size + 2, 1, none⟩ = some (.int .i64 0) := HR4.out.cell 1
  have zf1 : w4.frozen? ⟨w.heap.size + 2, 1, none⟩ = false := HR4.out.frozen 1
  have zc2 : w4.cell? ⟨w.heap.size + 2, 2, none⟩ = some (.int .u64 0) := HR4.out.cell 2
  have zf2 : w4.frozen? ⟨w.heap.size + 2, 2, none⟩ = false := HR4.out.frozen 2
  have zc3 : w4.cell? ⟨w.heap.size + 2, 3, none⟩ = some (.int .u64 0) := HR4.out.cell 3
  have zf3 : w4.frozen? ⟨w.heap.size + 2, 3, none⟩ = false := HR4.out.frozen 3
  have zc4 : w4.cell? ⟨w.heap.size + 2, 4, none⟩ = some (.int .i64 0) := HR4.out.cell 4
  have zf4 : w4.frozen? ⟨w.heap.size + 2, 4, none⟩ = false := HR4.out.frozen 4
  have zc5 : w4.cell? ⟨w.heap.size + 2, 5, none⟩ = some (.int .i64 0) := HR4.out.cell 5
  have zf5 : w4.frozen? ⟨w.heap.size + 2, 5, none⟩ = false := HR4.out.frozen 5
  have HP := Lib.hid (HR4.out.put6 (.int .i64 0) (.int .i64 0) (.int .u64 0) (.int .u64 0) (.int .i64 0) (.int .i64 0))
  have HBP := Lib.hid (Below.put6 (b := w.heap.size + 2) HB4.out (Nat.le_add_right _ 2) (.int .i64 0) (.int .i64 0) (.int .u64 0) (.int .u64 0) (.int .i64 0) (.int .i64 0))
  go_wp2
  (try simp only [Exit.inBlock, Exit.then])
  exact bodyPost_ret (results_cell_tmp Try.results8 rfl (load6 HP.out)) rfl ⟨rfl, HBP.out⟩
set_option linter.unusedSimpArgs false in
set_option linter.unusedVariables false in
set_option maxHeartbeats 2000000 in
set_option maxRecDepth 100000 in
theorem join_nb (n1 z1 h1 o1 l1 g1 n2 z2 h2 o2 l2 g2 : Int) (w : World) (hra : (∀ w, Calls Try.prog 10 #[.agg #[.int .i64 n1, .int .i64 z1, .int .u64 h1, .int .u64 o1, .int .i64 l1, .int .i64 g1]] w fun e w' => e = .returned (.bool true) ∧ Below w.heap.size w w')) (hrb : (∀ w, Calls Try.prog 10 #[.agg #[.int .i64 n2, .int .i64 z2, .int .u64 h2, .int .u64 o2, .int .i64 l2, .int .i64 g2]] w fun e w' => e = .returned (.bool false) ∧ Below w.heap.size w w')) :
    Calls Try.prog 8 #[.agg #[.int .i64 n1, .int .i64 z1, .int .u64 h1, .int .u64 o1, .int .i64 l1, .int .i64 g1], .agg #[.int .i64 n2, .int .i64 z2, .int .u64 h2, .int .u64 o2, .int .i64 l2, .int .i64 g2]] w fun e w' => e = .returned (.tuple #[.agg #[.int .i64 0, .int .i64 0, .int .u64 0, .int .u64 0, .int .i64 0, .int .i64 0], .int .i64 1]) ∧ Below w.heap.size w w' := by
  obtain ⟨w3, hw3⟩ : ∃ w3, ((w.alloc (.cells #[.int .i64 n1, .int .i64 z1, .int .u64 h1, .int .u64 o1, .int .i64 l1, .int .i64 g1] 27)).alloc (.cells #[.int .i64 n2, .int .i64 z2, .int .u64 h2, .int .u64 o2, .int .i64 l2, .int .i64 g2] 27)).alloc (.cells #[.int .i64 0, .int .i64 0, .int .u64 0, .int .u64 0, .int .i64 0, .int .i64 0] 27) = w3 := ⟨_, rfl⟩
  have hs3 : w3.heap.size = w.heap.size + 3 := by rw [← hw3]; simp
  have HB3 := Lib.hid (show Below w.heap.size w w3 by rw [← hw3]; exact (((Below.refl _ _).alloc (Nat.le_refl _) _).alloc (by simp) _).alloc (by simp; omega) _)
  have HX1 := Lib.hid (show Has w3 w.heap.size [.int .i64 n1, .int .i64 z1, .int .u64 h1, .int .u64 o1, .int .i64 l1, .int .i64 g1] 27 by rw [← hw3]; exact ((Has.new w _ _).alloc _).alloc _)
  have HX2 := Lib.hid (show Has w3 (w.heap.size + 1) [.int .i64 n2, .int .i64 z2, .int .u64 h2, .int .u64 o2, .int .i64 l2, .int .i64 g2] 27 by
    have := (Has.new (w.alloc (.cells #[.int .i64 n1, .int .i64 z1, .int .u64 h1, .int .u64 o1, .int .i64 l1, .int .i64 g1] 27)) [.int .i64 n2, .int .i64 z2, .int .u64 h2, .int .u64 o2, .int .i64 l2, .int .i64 g2] 27).alloc (.cells #[.int .i64 0, .int .i64 0, .int .u64 0, .int .u64 0, .int .i64 0, .int .i64 0] 27)
    rw [show (w.alloc (.cells #[.int .i64 n1, .int .i64 z1, .int .u64 h1, .int .u64 o1, .int .i64 l1, .int .i64 g1] 27)).heap.size = w.heap.size + 1 by simp] at this
    rw [← hw3]; exact this)
  have HX3 := Lib.hid (show Has w3 (w.heap.size + 2) [.int .i64 0, .int .i64 0, .int .u64 0, .int .u64 0, .int .i64 0, .int .i64 0] 27 by
    have := Has.new ((w.alloc (.cells #[.int .i64 n1, .int .i64 z1, .int .u64 h1, .int .u64 o1, .int .i64 l1, .int .i64 g1] 27)).alloc (.cells #[.int .i64 n2, .int .i64 z2, .int .u64 h2, .int .u64 o2, .int .i64 l2, .int .i64 g2] 27)) [.int .i64 0, .int .i64 0, .int .u64 0, .int .u64 0, .int .i64 0, .int .i64 0] 27
    rw [show ((w.alloc (.cells #[.int .i64 n1, .int .i64 z1, .int .u64 h1, .int .u64 o1, .int .i64 l1, .int .i64 g1] 27)).alloc (.cells #[.int .i64 n2, .int .i64 z2, .int .u64 h2, .int .u64 o2, .int .i64 l2, .int .i64 g2] 27)).heap.size = w.heap.size + 2 by simp] at this
    rw [← hw3]; exact this)
  have HW3 := Lib.hid hw3
  have hlt : w.heap.size < w3.heap.size := by omega
  have hlt1 : w.heap.size + 1 < w3.heap.size := by omega
  have hlt2 : w.heap.size + 2 < w3.heap.size := by omega
  have hra2 := hra w3
  clear hw3 hs3 hra
  have ac0 : w3.cell? ⟨w.heap.size, 0, none⟩ = some (.int .i64 n1) := HX1.out.cell 0
  have ac1 : w3.cell? ⟨w.heap.size, 1, none⟩ = some (.int .i64 z1) := HX1.out.cell 1
  have ac2 : w3.cell? ⟨w.heap.size, 2, none⟩ = some (.int .u64 h1) := HX1.out.cell 2
  have ac3 : w3.cell? ⟨w.heap.size, 3, none⟩ = some (.int .u64 o1) := HX1.out.cell 3
  have ac4 : w3.cell? ⟨w.heap.size, 4, none⟩ = some (.int .i64 l1) := HX1.out.cell 4
  have ac5 : w3.cell? ⟨w.heap.size, 5, none⟩ = some (.int .i64 g1) := HX1.out.cell 5
  go_enter Try.func8, Try.ntmps8
  go_upto_region 1 with fail
  rw [HW3.out]
  go_wp2_with fail
  refine hra2.mono ?_
  rintro e w4 ⟨rfl, k4⟩
  have hk4 := k4.size
  have HA4 := Lib.hid (HX1.out.call k4)
  have HC4 := Lib.hid (HX2.out.call k4)
  have HR4 := Lib.hid (HX3.out.call k4)
  have HB4 := Lib.hid (HB3.out.trans (k4.mono HB3.out.size))
  have hl0 : w.heap.size < w4.heap.size := by omega
  have hl1 : w.heap.size + 1 < w4.heap.size := by omega
  have hl2 : w.heap.size + 2 < w4.heap.size := by omega
  clear hra2 k4 ac0 ac1 ac2 ac3 ac4 ac5
  have hrb2 := hrb w4
  have bc0 : w4.cell? ⟨w.heap.size + 1, 0, none⟩ = some (.int .i64 n2) := HC4.out.cell 0
  have bc1 : w4.cell? ⟨w.heap.size + 1, 1, none⟩ = some (.int .i64 z2) := HC4.out.cell 1
  have bc2 : w4.cell? ⟨w.heap.size + 1, 2, none⟩ = some (.int .u64 h2) := HC4.out.cell 2
  have bc3 : w4.cell? ⟨w.heap.size + 1, 3, none⟩ = some (.int .u64 o2) := HC4.out.cell 3
  have bc4 : w4.cell? ⟨w.heap.size + 1, 4, none⟩ = some (.int .i64 l2) := HC4.out.cell 4
  have bc5 : w4.cell? ⟨w.heap.size + 1, 5, none⟩ = some (.int .i64 g2) := HC4.out.cell 5
  go_wp2_with fail
  refine hrb2.mono ?_
  rintro e w5 ⟨rfl, k5⟩
  have hk5 := k5.size
  have HA5 := Lib.hid (HA4.out.call k5)
  have HC5 := Lib.hid (HC4.out.call k5)
  have HR5 := Lib.hid (HR4.out.call k5)
  have HB5 := Lib.hid (HB4.out.trans (k5.mono HB4.out.size))
  have hm0 : w.heap.size < w5.heap.size := by omega
  have hm1 : w.heap.size + 1 < w5.heap.size := by omega
  have hm2 : w.heap.size + 2 < w5.heap.size := by omega
  clear hrb2 k5 bc0 bc1 bc2 bc3 bc4 bc5
  have zc0 : w5.cell? ⟨w.heap.size + 2, 0, none⟩ = some (.int .i64 0) := HR5.out.cell 0
  have zf0 : w5.frozen? ⟨w.heap.size + 2, 0, none⟩ = false := HR5.out.frozen 0
  have zc1 : w5.cell? ⟨w.heap.size + 2, 1, none⟩ = some (.int .i64 0) := HR5.out.cell 1
  have zf1 : w5.frozen? ⟨w.heap.size + 2, 1, none⟩ = false := HR5.out.frozen 1
  have zc2 : w5.cell? ⟨w.heap.size + 2, 2, none⟩ = some (.int .u64 0) := HR5.out.cell 2
  have zf2 : w5.frozen? ⟨w.heap.size + 2, 2, none⟩ = false := HR5.out.frozen 2
  have zc3 : w5.cell? ⟨w.heap.size + 2, 3, none⟩ = some (.int .u64 0) := HR5.out.cell 3
  have zf3 : w5.frozen? ⟨w.heap.size + 2, 3, none⟩ = false := HR5.out.frozen 3
  have zc4 : w5.cell? ⟨w.heap.size + 2, 4, none⟩ = some (.int .i64 0) := HR5.out.cell 4
  have zf4 : w5.frozen? ⟨w.heap.size + 2, 4, none⟩ = false := HR5.out.frozen 4
  have zc5 : w5.cell? ⟨w.heap.size + 2, 5, none⟩ = some (.int .i64 0) := HR5.out.cell 5
  have zf5 : w5.frozen? ⟨w.heap.size + 2, 5, none⟩ = false := HR5.out.frozen 5
  have HP := Lib.hid (HR5.out.put6 (.int .i64 0) (.int .i64 0) (.int .u64 0) (.int .u64 0) (.int .i64 0) (.int .i64 0))
  have HBP := Lib.hid (Below.put6 (b := w.heap.size + 2) HB5.out (Nat.le_add_right _ 2) (.int .i64 0) (.int .i64 0) (.int .u64 0) (.int .u64 0) (.int .i64 0) (.int .i64 0))
  go_wp2
  (try simp only [Exit.inBlock, Exit.then])
  exact bodyPost_ret (results_cell_tmp Try.results8 rfl (load6 HP.out)) rfl ⟨rfl, HBP.out⟩
set_option linter.unusedSimpArgs false in
set_option linter.unusedVariables false in
set_option maxHeartbeats 2000000 in
set_option maxRecDepth 100000 in
theorem join_full (n1 z1 h1 o1 l1 g1 n2 z2 h2 o2 l2 g2 : Int) (w : World) (hra : (∀ w, Calls Try.prog 10 #[.agg #[.int .i64 n1, .int .i64 z1, .int .u64 h1, .int .u64 o1, .int .i64 l1, .int .i64 g1]] w fun e w' => e = .returned (.bool true) ∧ Below w.heap.size w w')) (hrb : (∀ w, Calls Try.prog 10 #[.agg #[.int .i64 n2, .int .i64 z2, .int .u64 h2, .int .u64 o2, .int .i64 l2, .int .i64 g2]] w fun e w' => e = .returned (.bool true) ∧ Below w.heap.size w w')) (S : Int) (hS : wrap64 (n1 + n2) = S) (hf : 1000000000 < S) :
    Calls Try.prog 8 #[.agg #[.int .i64 n1, .int .i64 z1, .int .u64 h1, .int .u64 o1, .int .i64 l1, .int .i64 g1], .agg #[.int .i64 n2, .int .i64 z2, .int .u64 h2, .int .u64 o2, .int .i64 l2, .int .i64 g2]] w fun e w' => e = .returned (.tuple #[.agg #[.int .i64 0, .int .i64 0, .int .u64 0, .int .u64 0, .int .i64 0, .int .i64 0], .int .i64 11]) ∧ Below w.heap.size w w' := by
  obtain ⟨w3, hw3⟩ : ∃ w3, ((w.alloc (.cells #[.int .i64 n1, .int .i64 z1, .int .u64 h1, .int .u64 o1, .int .i64 l1, .int .i64 g1] 27)).alloc (.cells #[.int .i64 n2, .int .i64 z2, .int .u64 h2, .int .u64 o2, .int .i64 l2, .int .i64 g2] 27)).alloc (.cells #[.int .i64 0, .int .i64 0, .int .u64 0, .int .u64 0, .int .i64 0, .int .i64 0] 27) = w3 := ⟨_, rfl⟩
  have hs3 : w3.heap.size = w.heap.size + 3 := by rw [← hw3]; simp
  have HB3 := Lib.hid (show Below w.heap.size w w3 by rw [← hw3]; exact (((Below.refl _ _).alloc (Nat.le_refl _) _).alloc (by simp) _).alloc (by simp; omega) _)
  have HX1 := Lib.hid (show Has w3 w.heap.size [.int .i64 n1, .int .i64 z1, .int .u64 h1, .int .u64 o1, .int .i64 l1, .int .i64 g1] 27 by rw [← hw3]; exact ((Has.new w _ _).alloc _).alloc _)
  have HX2 := Lib.hid (show Has w3 (w.heap.size + 1) [.int .i64 n2, .int .i64 z2, .int .u64 h2, .int .u64 o2, .int .i64 l2, .int .i64 g2] 27 by
    have := (Has.new (w.alloc (.cells #[.int .i64 n1, .int .i64 z1, .int .u64 h1, .int .u64 o1, .int .i64 l1, .int .i64 g1] 27)) [.int .i64 n2, .int .i64 z2, .int .u64 h2, .int .u64 o2, .int .i64 l2, .int .i64 g2] 27).alloc (.cells #[.int .i64 0, .int .i64 0, .int .u64 0, .int .u64 0, .int .i64 0, .int .i64 0] 27)
    rw [show (w.alloc (.cells #[.int .i64 n1, .int .i64 z1, .int .u64 h1, .int .u64 o1, .int .i64 l1, .int .i64 g1] 27)).heap.size = w.heap.size + 1 by simp] at this
    rw [← hw3]; exact this)
  have HX3 := Lib.hid (show Has w3 (w.heap.size + 2) [.int .i64 0, .int .i64 0, .int .u64 0, .int .u64 0, .int .i64 0, .int .i64 0] 27 by
    have := Has.new ((w.alloc (.cells #[.int .i64 n1, .int .i64 z1, .int .u64 h1, .int .u64 o1, .int .i64 l1, .int .i64 g1] 27)).alloc (.cells #[.int .i64 n2, .int .i64 z2, .int .u64 h2, .int .u64 o2, .int .i64 l2, .int .i64 g2] 27)) [.int .i64 0, .int .i64 0, .int .u64 0, .int .u64 0, .int .i64 0, .int .i64 0] 27
    rw [show ((w.alloc (.cells #[.int .i64 n1, .int .i64 z1, .int .u64 h1, .int .u64 o1, .int .i64 l1, .int .i64 g1] 27)).alloc (.cells #[.int .i64 n2, .int .i64 z2, .int .u64 h2, .int .u64 o2, .int .i64 l2, .int .i64 g2] 27)).heap.size = w.heap.size + 2 by simp] at this
    rw [← hw3]; exact this)
  have HW3 := Lib.hid hw3
  have hlt : w.heap.size < w3.heap.size := by omega
  have hlt1 : w.heap.size + 1 < w3.heap.size := by omega
  have hlt2 : w.heap.size + 2 < w3.heap.size := by omega
  have hra2 := hra w3
  clear hw3 hs3 hra
  have ac0 : w3.cell? ⟨w.heap.size, 0, none⟩ = some (.int .i64 n1) := HX1.out.cell 0
  have ac1 : w3.cell? ⟨w.heap.size, 1, none⟩ = some (.int .i64 z1) := HX1.out.cell 1
  have ac2 : w3.cell? ⟨w.heap.size, 2, none⟩ = some (.int .u64 h1) := HX1.out.cell 2
  have ac3 : w3.cell? ⟨w.heap.size, 3, none⟩ = some (.int .u64 o1) := HX1.out.cell 3
  have ac4 : w3.cell? ⟨w.heap.size, 4, none⟩ = some (.int .i64 l1) := HX1.out.cell 4
  have ac5 : w3.cell? ⟨w.heap.size, 5, none⟩ = some (.int .i64 g1) := HX1.out.cell 5
  go_enter Try.func8, Try.ntmps8
  go_upto_region 1 with fail
  rw [HW3.out]
  go_wp2_with fail
  refine hra2.mono ?_
  rintro e w4 ⟨rfl, k4⟩
  have hk4 := k4.size
  have HA4 := Lib.hid (HX1.out.call k4)
  have HC4 := Lib.hid (HX2.out.call k4)
  have HR4 := Lib.hid (HX3.out.call k4)
  have HB4 := Lib.hid (HB3.out.trans (k4.mono HB3.out.size))
  have hl0 : w.heap.size < w4.heap.size := by omega
  have hl1 : w.heap.size + 1 < w4.heap.size := by omega
  have hl2 : w.heap.size + 2 < w4.heap.size := by omega
  clear hra2 k4 ac0 ac1 ac2 ac3 ac4 ac5
  have hrb2 := hrb w4
  have bc0 : w4.cell? ⟨w.heap.size + 1, 0, none⟩ = some (.int .i64 n2) := HC4.out.cell 0
  have bc1 : w4.cell? ⟨w.heap.size + 1, 1, none⟩ = some (.int .i64 z2) := HC4.out.cell 1
  have bc2 : w4.cell? ⟨w.heap.size + 1, 2, none⟩ = some (.int .u64 h2) := HC4.out.cell 2
  have bc3 : w4.cell? ⟨w.heap.size + 1, 3, none⟩ = some (.int .u64 o2) := HC4.out.cell 3
  have bc4 : w4.cell? ⟨w.heap.size + 1, 4, none⟩ = some (.int .i64 l2) := HC4.out.cell 4
  have bc5 : w4.cell? ⟨w.heap.size + 1, 5, none⟩ = some (.int .i64 g2) := HC4.out.cell 5
  go_wp2_with fail
  refine hrb2.mono ?_
  rintro e w5 ⟨rfl, k5⟩
  have hk5 := k5.size
  have HA5 := Lib.hid (HA4.out.call k5)
  have HC5 := Lib.hid (HC4.out.call k5)
  have HR5 := Lib.hid (HR4.out.call k5)
  have HB5 := Lib.hid (HB4.out.trans (k5.mono HB4.out.size))
  have hm0 : w.heap.size < w5.heap.size := by omega
  have hm1 : w.heap.size + 1 < w5.heap.size := by omega
  have hm2 : w.heap.size + 2 < w5.heap.size := by omega
  clear hrb2 k5 bc0 bc1 bc2 bc3 bc4 bc5
  have pc0 : w5.cell? ⟨w.heap.size, 0, none⟩ = some (.int .i64 n1) := HA5.out.cell 0
  have qc0 : w5.cell? ⟨w.heap.size + 1, 0, none⟩ = some (.int .i64 n2) := HC5.out.cell 0
  have zc0 : w5.cell? ⟨w.heap.size + 2, 0, none⟩ = some (.int .i64 0) := HR5.out.cell 0
  have zf0 : w5.frozen? ⟨w.heap.size + 2, 0, none⟩ = false := HR5.out.frozen 0
  have zc1 : w5.cell? ⟨w.heap.size + 2, 1, none⟩ = some (.int .i64 0) := HR5.out.cell 1
  have zf1 : w5.frozen? ⟨w.heap.size + 2, 1, none⟩ = false := HR5.out.frozen 1
  have zc2 : w5.cell? ⟨w.heap.size + 2, 2, none⟩ = some (.int .u64 0) := HR5.out.cell 2
  have zf2 : w5.frozen? ⟨w.heap.size + 2, 2, none⟩ = false := HR5.out.frozen 2
  have zc3 : w5.cell? ⟨w.heap.size + 2, 3, none⟩ = some (.int .u64 0) := HR5.out.cell 3
  have zf3 : w5.frozen? ⟨w.heap.size + 2, 3, none⟩ = false := HR5.out.frozen 3
  have zc4 : w5.cell? ⟨w.heap.size + 2, 4, none⟩ = some (.int .i64 0) := HR5.out.cell 4
  have zf4 : w5.frozen? ⟨w.heap.size + 2, 4, none⟩ = false := HR5.out.frozen 4
  have zc5 : w5.cell? ⟨w.heap.size + 2, 5, none⟩ = some (.int .i64 0) := HR5.out.cell 5
  have zf5 : w5.frozen? ⟨w.heap.size + 2, 5, none⟩ = false := HR5.out.frozen 5
  have HP := Lib.hid (HR5.out.put6 (.int .i64 0) (.int .i64 0) (.int .u64 0) (.int .u64 0) (.int .i64 0) (.int .i64 0))
  have HBP := Lib.hid (Below.put6 (b := w.heap.size + 2) HB5.out (Nat.le_add_right _ 2) (.int .i64 0) (.int .i64 0) (.int .u64 0) (.int .u64 0) (.int .i64 0) (.int .i64 0))
  go_wp2
  (try simp only [Exit.inBlock, Exit.then])
  exact bodyPost_ret (results_cell_tmp Try.results8 rfl (load6 HP.out)) rfl ⟨rfl, HBP.out⟩
set_option linter.unusedSimpArgs false in
set_option linter.unusedVariables false in
set_option maxHeartbeats 2000000 in
set_option maxRecDepth 100000 in
theorem join_ok (n1 z1 h1 o1 l1 g1 n2 z2 h2 o2 l2 g2 : Int) (w : World) (hra : (∀ w, Calls Try.prog 10 #[.agg #[.int .i64 n1, .int .i64 z1, .int .u64 h1, .int .u64 o1, .int .i64 l1, .int .i64 g1]] w fun e w' => e = .returned (.bool true) ∧ Below w.heap.size w w')) (hrb : (∀ w, Calls Try.prog 10 #[.agg #[.int .i64 n2, .int .i64 z2, .int .u64 h2, .int .u64 o2, .int .i64 l2, .int .i64 g2]] w fun e w' => e = .returned (.bool true) ∧ Below w.heap.size w w')) (S : Int) (hS : wrap64 (n1 + n2) = S) (hf : ¬ 1000000000 < S) (n3 z3 h3 o3 l3 g3 : Int) (hbo : (∀ w, Calls Try.prog 23 #[.agg #[.int .i64 n1, .int .i64 z1, .int .u64 h1, .int .u64 o1, .int .i64 l1, .int .i64 g1], .agg #[.int .i64 n2, .int .i64 z2, .int .u64 h2, .int .u64 o2, .int .i64 l2, .int .i64 g2]] w fun e w' => e = .returned (.agg #[.int .i64 n3, .int .i64 z3, .int .u64 h3, .int .u64 o3, .int .i64 l3, .int .i64 g3]) ∧ Below w.heap.size w w')) :
    Calls Try.prog 8 #[.agg #[.int .i64 n1, .int .i64 z1, .int .u64 h1, .int .u64 o1, .int .i64 l1, .int .i64 g1], .agg #[.int .i64 n2, .int .i64 z2, .int .u64 h2, .int .u64 o2, .int .i64 l2, .int .i64 g2]] w fun e w' => e = .returned (.tuple #[.agg #[.int .i64 n3, .int .i64 z3, .int .u64 h3, .int .u64 o3, .int .i64 l3, .int .i64 g3], .int .i64 0]) ∧ Below w.heap.size w w' := by
  obtain ⟨w3, hw3⟩ : ∃ w3, ((w.alloc (.cells #[.int .i64 n1, .int .i64 z1, .int .u64 h1, .int .u64 o1, .int .i64 l1, .int .i64 g1] 27)).alloc (.cells #[.int .i64 n2, .int .i64 z2, .int .u64 h2, .int .u64 o2, .int .i64 l2, .int .i64 g2] 27)).alloc (.cells #[.int .i64 0, .int .i64 0, .int .u64 0, .int .u64 0, .int .i64 0, .int .i64 0] 27) = w3 := ⟨_, rfl⟩
  have hs3 : w3.heap.size = w.heap.size + 3 := by rw [← hw3]; simp
  have HB3 := Lib.hid (show Below w.heap.size w w3 by rw [← hw3]; exact (((Below.refl _ _).alloc (Nat.le_refl _) _).alloc (by simp) _).alloc (by simp; omega) _)
  have HX1 := Lib.hid (show Has w3 w.heap.size [.int .i64 n1, .int .i64 z1, .int .u64 h1, .int .u64 o1, .int .i64 l1, .int .i64 g1] 27 by rw [← hw3]; exact ((Has.new w _ _).alloc _).alloc _)
  have HX2 := Lib.hid (show Has w3 (w.heap.size + 1) [.int .i64 n2, .int .i64 z2, .int .u64 h2, .int .u64 o2, .int .i64 l2, .int .i64 g2] 27 by
    have := (Has.new (w.alloc (.cells #[.int .i64 n1, .int .i64 z1, .int .u64 h1, .int .u64 o1, .int .i64 l1, .int .i64 g1] 27)) [.int .i64 n2, .int .i64 z2, .int .u64 h2, .int .u64 o2, .int .i64 l2, .int .i64 g2] 27).alloc (.cells #[.int .i64 0, .int .i64 0, .int .u64 0, .int .u64 0, .int .i64 0, .int .i64 0] 27)
    rw [show (w.alloc (.cells #[.int .i64 n1, .int .i64 z1, .int .u64 h1, .int .u64 o1, .int .i64 l1, .int .i64 g1] 27)).heap.size = w.heap.size + 1 by simp] at this
    rw [← hw3]; exact this)
  have HX3 := Lib.hid (show Has w3 (w.heap.size + 2) [.int .i64 0, .int .i64 0, .int .u64 0, .int .u64 0, .int .i64 0, .int .i64 0] 27 by
    have := Has.new ((w.alloc (.cells #[.int .i64 n1, .int .i64 z1, .int .u64 h1, .int .u64 o1, .int .i64 l1, .int .i64 g1] 27)).alloc (.cells #[.int .i64 n2, .int .i64 z2, .int .u64 h2, .int .u64 o2, .int .i64 l2, .int .i64 g2] 27)) [.int .i64 0, .int .i64 0, .int .u64 0, .int .u64 0, .int .i64 0, .int .i64 0] 27
    rw [show ((w.alloc (.cells #[.int .i64 n1, .int .i64 z1, .int .u64 h1, .int .u64 o1, .int .i64 l1, .int .i64 g1] 27)).alloc (.cells #[.int .i64 n2, .int .i64 z2, .int .u64 h2, .int .u64 o2, .int .i64 l2, .int .i64 g2] 27)).heap.size = w.heap.size + 2 by simp] at this
    rw [← hw3]; exact this)
  have HW3 := Lib.hid hw3
  have hlt : w.heap.size < w3.heap.size := by omega
  have hlt1 : w.heap.size + 1 < w3.heap.size := by omega
  have hlt2 : w.heap.size + 2 < w3.heap.size := by omega
  have hra2 := hra w3
  clear hw3 hs3 hra
  have ac0 : w3.cell? ⟨w.heap.size, 0, none⟩ = some (.int .i64 n1) := HX1.out.cell 0
  have ac1 : w3.cell? ⟨w.heap.size, 1, none⟩ = some (.int .i64 z1) := HX1.out.cell 1
  have ac2 : w3.cell? ⟨w.heap.size, 2, none⟩ = some (.int .u64 h1) := HX1.out.cell 2
  have ac3 : w3.cell? ⟨w.heap.size, 3, none⟩ = some (.int .u64 o1) := HX1.out.cell 3
  have ac4 : w3.cell? ⟨w.heap.size, 4, none⟩ = some (.int .i64 l1) := HX1.out.cell 4
  have ac5 : w3.cell? ⟨w.heap.size, 5, none⟩ = some (.int .i64 g1) := HX1.out.cell 5
  go_enter Try.func8, Try.ntmps8
  go_upto_region 1 with fail
  rw [HW3.out]
  go_wp2_with fail
  refine hra2.mono ?_
  rintro e w4 ⟨rfl, k4⟩
  have hk4 := k4.size
  have HA4 := Lib.hid (HX1.out.call k4)
  have HC4 := Lib.hid (HX2.out.call k4)
  have HR4 := Lib.hid (HX3.out.call k4)
  have HB4 := Lib.hid (HB3.out.trans (k4.mono HB3.out.size))
  have hl0 : w.heap.size < w4.heap.size := by omega
  have hl1 : w.heap.size + 1 < w4.heap.size := by omega
  have hl2 : w.heap.size + 2 < w4.heap.size := by omega
  clear hra2 k4 ac0 ac1 ac2 ac3 ac4 ac5
  have hrb2 := hrb w4
  have bc0 : w4.cell? ⟨w.heap.size + 1, 0, none⟩ = some (.int .i64 n2) := HC4.out.cell 0
  have bc1 : w4.cell? ⟨w.heap.size + 1, 1, none⟩ = some (.int .i64 z2) := HC4.out.cell 1
  have bc2 : w4.cell? ⟨w.heap.size + 1, 2, none⟩ = some (.int .u64 h2) := HC4.out.cell 2
  have bc3 : w4.cell? ⟨w.heap.size + 1, 3, none⟩ = some (.int .u64 o2) := HC4.out.cell 3
  have bc4 : w4.cell? ⟨w.heap.size + 1, 4, none⟩ = some (.int .i64 l2) := HC4.out.cell 4
  have bc5 : w4.cell? ⟨w.heap.size + 1, 5, none⟩ = some (.int .i64 g2) := HC4.out.cell 5
  go_wp2_with fail
  refine hrb2.mono ?_
  rintro e w5 ⟨rfl, k5⟩
  have hk5 := k5.size
  have HA5 := Lib.hid (HA4.out.call k5)
  have HC5 := Lib.hid (HC4.out.call k5)
  have HR5 := Lib.hid (HR4.out.call k5)
  have HB5 := Lib.hid (HB4.out.trans (k5.mono HB4.out.size))
  have hm0 : w.heap.size < w5.heap.size := by omega
  have hm1 : w.heap.size + 1 < w5.heap.size := by omega
  have hm2 : w.heap.size + 2 < w5.heap.size := by omega
  clear hrb2 k5 bc0 bc1 bc2 bc3 bc4 bc5
  have pc0 : w5.cell? ⟨w.heap.size, 0, none⟩ = some (.int .i64 n1) := HA5.out.cell 0
  have pc1 : w5.cell? ⟨w.heap.size, 1, none⟩ = some (.int .i64 z1) := HA5.out.cell 1
  have pc2 : w5.cell? ⟨w.heap.size, 2, none⟩ = some (.int .u64 h1) := HA5.out.cell 2
  have pc3 : w5.cell? ⟨w.heap.size, 3, none⟩ = some (.int .u64 o1) := HA5.out.cell 3
  have pc4 : w5.cell? ⟨w.heap.size, 4, none⟩ = some (.int .i64 l1) := HA5.out.cell 4
  have pc5 : w5.cell? ⟨w.heap.size, 5, none⟩ = some (.int .i64 g1) := HA5.out.cell 5
  have qc0 : w5.cell? ⟨w.heap.size + 1, 0, none⟩ = some (.int .i64 n2) := HC5.out.cell 0
  have qc1 : w5.cell? ⟨w.heap.size + 1, 1, none⟩ = some (.int .i64 z2) := HC5.out.cell 1
  have qc2 : w5.cell? ⟨w.heap.size + 1, 2, none⟩ = some (.int .u64 h2) := HC5.out.cell 2
  have qc3 : w5.cell? ⟨w.heap.size + 1, 3, none⟩ = some (.int .u64 o2) := HC5.out.cell 3
  have qc4 : w5.cell? ⟨w.heap.size + 1, 4, none⟩ = some (.int .i64 l2) := HC5.out.cell 4
  have qc5 : w5.cell? ⟨w.heap.size + 1, 5, none⟩ = some (.int .i64 g2) := HC5.out.cell 5
  have hbo2 := hbo w5
  go_upto_region 5 with fail
  go_wp2_with fail
  refine hbo2.mono ?_
  rintro e w6 ⟨rfl, k6⟩
  have hk6 := k6.size
  have HR6 := Lib.hid (HR5.out.call k6)
  have HB6 := Lib.hid (HB5.out.trans (k6.mono HB5.out.size))
  have hn2 : w.heap.size + 2 < w6.heap.size := by omega
  clear hbo2 k6 pc0 qc0 pc1 qc1 pc2 qc2 pc3 qc3 pc4 qc4 pc5 qc5
  have zc0 : w6.cell? ⟨w.heap.size + 2, 0, none⟩ = some (.int .i64 0) := HR6.out.cell 0
  have zf0 : w6.frozen? ⟨w.heap.size + 2, 0, none⟩ = false := HR6.out.frozen 0
  have zc1 : w6.cell? ⟨w.heap.size + 2, 1, none⟩ = some (.int .i64 0) := HR6.out.cell 1
  have zf1 : w6.frozen? ⟨w.heap.size + 2, 1, none⟩ = false := HR6.out.frozen 1
  have zc2 : w6.cell? ⟨w.heap.size + 2, 2, none⟩ = some (.int .u64 0) := HR6.out.cell 2
  have zf2 : w6.frozen? ⟨w.heap.size + 2, 2, none⟩ = false := HR6.out.frozen 2
  have zc3 : w6.cell? ⟨w.heap.size + 2, 3, none⟩ = some (.int .u64 0) := HR6.out.cell 3
  have zf3 : w6.frozen? ⟨w.heap.size + 2, 3, none⟩ = false := HR6.out.frozen 3
  have zc4 : w6.cell? ⟨w.heap.size + 2, 4, none⟩ = some (.int .i64 0) := HR6.out.cell 4
  have zf4 : w6.frozen? ⟨w.heap.size + 2, 4, none⟩ = false := HR6.out.frozen 4
  have zc5 : w6.cell? ⟨w.heap.size + 2, 5, none⟩ = some (.int .i64 0) := HR6.out.cell 5
  have zf5 : w6.frozen? ⟨w.heap.size + 2, 5, none⟩ = false := HR6.out.frozen 5
  have HP := Lib.hid (HR6.out.put6 (.int .i64 n3) (.int .i64 z3) (.int .u64 h3) (.int .u64 o3) (.int .i64 l3) (.int .i64 g3))
  have HBP := Lib.hid (Below.put6 (b := w.heap.size + 2) HB6.out (Nat.le_add_right _ 2) (.int .i64 n3) (.int .i64 z3) (.int .u64 h3) (.int .u64 o3) (.int .i64 l3) (.int .i64 g3))
  go_wp2
  (try simp only [Exit.inBlock, Exit.then])
  exact bodyPost_ret (results_cell_tmp Try.results8 rfl (load6 HP.out)) rfl ⟨rfl, HBP.out⟩
/-- What Join tells of two: the stats and the error. -/
def joiN (a b : Sta) : Sta := if staB a = true ∧ staB b = true ∧ a.n + b.n ≤ 1000000000 then joinS a b else sta0
def joiE (a b : Sta) : Int := if staB a = true ∧ staB b = true then (if a.n + b.n ≤ 1000000000 then 0 else 11) else 1
theorem staB_fit {s : Sta} (h : staB s = true) : 0 ≤ s.n ∧ s.n ≤ 1000000000 ∧ -1000000000000000 ≤ s.sum ∧ s.sum ≤ 1000000000000000 ∧ s.sq ≤ 1000000000000000000000 := by
  rcases of_decide_eq_true h with c | c
  · obtain ⟨c1, c2, c3, -⟩ := c
    omega
  · have h1 := sta_sum c
    have h2 := c.1.1
    have h3 := c.1.2.1
    have h4 := c.2.1.2.2
    refine ⟨by omega, h3, h1.1, h1.2, by omega⟩
theorem join11_any (a b : Sta) (hqa : a.sq < M128) (hqb : b.sq < M128) (w : World) :
    Calls Try.prog 8 #[staV a, staV b] w fun e w' => e = .returned (.tuple #[staV (joiN a b), .int .i64 (joiE a b)]) ∧ Below w.heap.size w w' := by
  have hra := fun w => right11_any a hqa w
  have hrb := fun w => right11_any b hqb w
  unfold joiN joiE
  cases ha : staB a with
  | false =>
    rw [ha] at hra
    rw [if_neg (fun h => by cases h.1), if_neg (fun h => by cases h.1)]
    exact join_na _ _ _ _ _ _ _ _ _ _ _ _ w hra
  | true =>
    rw [ha] at hra
    cases hb : staB b with
    | false =>
      rw [hb] at hrb
      rw [if_neg (fun h => by cases h.2.1), if_neg (fun h => by cases h.2)]
      exact join_nb _ _ _ _ _ _ _ _ _ _ _ _ w hra hrb
    | true =>
      rw [hb] at hrb
      have fa := staB_fit ha
      have fb := staB_fit hb
      rw [if_pos (show true = true ∧ true = true from ⟨rfl, rfl⟩)]
      by_cases hn : a.n + b.n ≤ 1000000000
      · rw [if_pos ⟨rfl, rfl, hn⟩, if_pos hn]
        exact join_ok _ _ _ _ _ _ _ _ _ _ _ _ w hra hrb (a.n + b.n) (by unfold wrap64; omega) (by omega) _ _ _ _ _ _ (fun w => both_any a b ⟨by omega, by omega⟩ ⟨by omega, by omega⟩ (by unfold M128; omega) w)
      · rw [if_neg (fun h => hn h.2.2), if_neg hn]
        exact join_full _ _ _ _ _ _ _ _ _ _ _ _ w hra hrb (a.n + b.n) (by unfold wrap64; omega) (by omega)
end Go.Proofs.Ytbpdapggdccmiaa
