/- The reference of stage 15: Take. -/
import Derived.Test.YtfafkdbflmennaaBasA
import Derived.Test.YtfafkdbflmennaaStaD
import Derived.Test.YtfafkdbflmennaaBlks
import Derived.Test.YtfafkdbflmennaaApI
import Derived.BigRegion
import Derived.BigQuiet
import Derived.Deep.QuietTactic
namespace Go.Proofs.Ytfafkdbflmennaa
open Go.RowKit

theorem Has.put5B {w : World} {b : Nat} {a0 a1 a2 a3 a4 : Value} {T : TypeId} (h : Has w b [a0, a1, a2, a3, a4] T) (c0 c1 c2 c3 c4 : Value) : Has (((((w.setCell ⟨b, 0, none⟩ c0).setCell ⟨b, 1, none⟩ c1).setCell ⟨b, 2, none⟩ c2).setCell ⟨b, 3, none⟩ c3).setCell ⟨b, 4, none⟩ c4) b [c0, c1, c2, c3, c4] T :=
  ((((h.set 0 c0).set 1 c1).set 2 c2).set 3 c3).set 4 c4
theorem Below.put5B {B b : Nat} {x y : World} (h : Below B x y) (hb : B ≤ b) (c0 c1 c2 c3 c4 : Value) : Below B x (((((y.setCell ⟨b, 0, none⟩ c0).setCell ⟨b, 1, none⟩ c1).setCell ⟨b, 2, none⟩ c2).setCell ⟨b, 3, none⟩ c3).setCell ⟨b, 4, none⟩ c4) :=
  ((((h.setCell (p := ⟨b, 0, none⟩) hb c0).setCell (p := ⟨b, 1, none⟩) hb c1).setCell (p := ⟨b, 2, none⟩) hb c2).setCell (p := ⟨b, 3, none⟩) hb c3).setCell (p := ⟨b, 4, none⟩) hb c4
theorem Has.drewB {w : World} {b : Nat} {cs : List Value} {T : TypeId} (h : Has w b cs T) : Has w.drew b cs T := h
theorem sizeBas : ((Try.prog).info? 23).map (·.size) = some 5 := by kernel_rfl
theorem loadBas {w : World} {b : Nat} {c0 c1 c2 c3 c4 : Value} (h : Has w b [c0, c1, c2, c3, c4] 23) : (loadVar 23 ⟨b, 0, none⟩).run Try.prog w = .ok (.agg #[c0, c1, c2, c3, c4]) w :=
  run_loadVar_mid w b 0 23 [c0, c1, c2, c3, c4] _ h.range Try.underlying23 rfl sizeBas
theorem resCellB {P : Program} {fn : Func} {tmps : Array Value} {w : World} {a : Nat} {t : TypeId} {ad : Addr} {v : Value} (h : fn.results = #[.cell a t]) (ha : tmps.getD a undef = .pointer (some ad)) (hl : (loadVar t ad).run P w = .ok v w) :
    (results fn tmps).run P w = .ok v w := by
  have ha' : tmps[a]?.getD undef = .pointer (some ad) := by simpa using ha
  simp [results, h, ha', hl, asAddr]
set_option linter.unusedSimpArgs false in
set_option linter.unusedVariables false in
set_option maxHeartbeats 8000000 in
set_option maxRecDepth 100000 in
theorem rtake15_0 (size m sum rng last : Int) (l : List Int) (sn ss : Int) (sq : Nat) (sl sh x0 xl R : Int) (n : Nat) (ao : Option Addr) (cap : Nat) (w : World) (hn : l.length = n) (hn1 : 1 ≤ n) (hn10 : n ≤ 10) (hr : ReadsI w (.slice ao n cap) l)
    (hx0 : l.getD 0 0 = x0) (hxl : l.getD (n - 1) 0 = xl) (hm : 0 ≤ m ∧ m ≤ 25) (hsum : -1000000000 ≤ sum ∧ sum ≤ 1000000000) (hrng : 0 ≤ rng ∧ rng ≤ 1000000000) (hla : -1000000 ≤ last ∧ last ≤ 1000000) (hss : -100000000 ≤ ss ∧ ss ≤ 100000000) (hsl : -1000000 ≤ sl ∧ sl ≤ 1000000) (hsh : -1000000 ≤ sh ∧ sh ≤ 1000000) (hxb : -1000000 ≤ x0 ∧ x0 ≤ 1000000) (q1 : (size == 1) = true) (q2 : 0 < m) (hR : max (last - x0) (x0 - last) = R)
    (HOF : Hid (∀ W, Below w.heap.size w W → Calls Try.prog 28 #[.slice ao n cap] W fun e w' => e = .returned (.agg #[.int .i64 sn, .int .i64 ss, .int .u64 (hi sq : Nat), .int .u64 (lo sq : Nat), .int .i64 sl, .int .i64 sh]) ∧ Below W.heap.size W w')) :
    Calls Try.prog 14 #[.agg #[.int .i64 size, .int .i64 m, .int .i64 sum, .int .i64 rng, .int .i64 last], .slice ao n cap] w fun e w' => e = .returned (.agg #[.int .i64 size, .int .i64 (m + 1), .int .i64 (sum + ss), .int .i64 (rng + R), .int .i64 xl]) ∧ Below w.heap.size w w' := by
  obtain ⟨w2, hw2⟩ : ∃ w2, ((w.alloc (.cells #[.int .i64 size, .int .i64 m, .int .i64 sum, .int .i64 rng, .int .i64 last] 23)).alloc (.cells #[.int .i64 0, .int .i64 0, .int .i64 0, .int .i64 0, .int .i64 0] 23)) = w2 := ⟨_, rfl⟩
  have hi : TwoB w w2 [.int .i64 size, .int .i64 m, .int .i64 sum, .int .i64 rng, .int .i64 last] [.int .i64 0, .int .i64 0, .int .i64 0, .int .i64 0, .int .i64 0] 23 23 := by rw [← hw2]; exact twoB w _ _ _ _
  have HI := Lib.hid hi; have HW2 := Lib.hid hw2
  have HC := Lib.hid (HOF.out w2 hi.below)
  have HRD := Lib.hid hr; have HN := Lib.hid hn; have HX0 := Lib.hid hx0; have HXL := Lib.hid hxl
  have HRR := Lib.hid hR
  have hRb : -3000000 ≤ R ∧ R ≤ 3000000 := by rw [← hR]; omega
  clear hi hw2 hr hn hx0 hxl hR
  go_enter Try.func14, Try.ntmps14
  go_upto_region 1 with fail
  rw [HW2.out]
  go_wp2_with fail
  refine HC.out.mono ?_
  rintro e w3 ⟨rfl, k3⟩
  have HJ := Lib.hid (HI.out.call k3)
  obtain ⟨w4, hw4⟩ : ∃ w4, (w3.alloc (.cells #[.int .i64 sn, .int .i64 ss, .int .u64 (hi sq : Nat), .int .u64 (lo sq : Nat), .int .i64 sl, .int .i64 sh] 64)) = w4 := ⟨_, rfl⟩
  obtain ⟨k4, hk4⟩ : ∃ k, w3.heap.size = k := ⟨_, rfl⟩
  have hj : TwoC w w4 [.int .i64 size, .int .i64 m, .int .i64 sum, .int .i64 rng, .int .i64 last] [.int .i64 0, .int .i64 0, .int .i64 0, .int .i64 0, .int .i64 0] [.int .i64 sn, .int .i64 ss, .int .u64 (hi sq : Nat), .int .u64 (lo sq : Nat), .int .i64 sl, .int .i64 sh] k4 23 23 64 := by rw [← hw4, ← hk4]; exact HJ.out.three _ _
  have HK := Lib.hid hj; have HW4 := Lib.hid hw4; have HK4 := Lib.hid hk4
  clear hj hw4 hk4 k3
  go_upto_region 2 with fail
  rw [HW4.out]
  (try rw [HK4.out])
  have c0 := HK.out.a.cell 0
  have c1 := HK.out.a.cell 1
  have c2 := HK.out.a.cell 2
  have c3 := HK.out.a.cell 3
  have c4 := HK.out.a.cell 4
  have d0 := HK.out.c.cell 0
  have d1 := HK.out.c.cell 1
  have d2 := HK.out.c.cell 2
  have d3 := HK.out.c.cell 3
  have d4 := HK.out.c.cell 4
  have d5 := HK.out.c.cell 5
  simp only [List.getElem?_cons_zero, List.getElem?_cons_succ] at c0 c1 c2 c3 c4 d0 d1 d2 d3 d4 d5
  have l1 := HK.out.a.lt; have l3 := HK.out.c.lt
  obtain ⟨b, off, hao, hbl, hz0⟩ : ∃ b off, ao = some ⟨b, off, none⟩ ∧ b < w4.heap.size ∧ w4.cell? ⟨b, off, none⟩ = some (.int .i64 x0) := by
    obtain ⟨ao', cap', e, _, _, h4⟩ := HRD.out.below HK.out.below
    injection e with e1 e2 e3
    obtain ⟨b, off, h5, h6, h7⟩ := h4 0 (by rw [HN.out]; omega)
    exact ⟨b, off, e1.trans h5, h6, by rw [HX0.out] at h7; exact h7⟩
  subst hao
  have hzl : w4.cell? ⟨b, off + (n - 1), none⟩ = some (.int .i64 xl) := by
    obtain ⟨ao', cap', e, _, _, h4⟩ := HRD.out.below HK.out.below
    injection e with e1 e2 e3
    obtain ⟨b', off', h5, h6, h7⟩ := h4 (n - 1) (by rw [HN.out]; omega)
    rw [h5] at e1
    injection e1 with e1
    injection e1 with e1 e2 _
    subst e1 e2
    rw [HXL.out] at h7
    exact h7
  have hnz : (0 : Int) < (n : Int) := by omega
  have hn0 : 0 < n := by omega
  have wr1 : IntKind.i64.wrap (last - x0) = last - x0 := wrap_int (by unfold IsInt; omega)
  have wr2 : IntKind.i64.wrap (x0 - last) = x0 - last := wrap_int (by unfold IsInt; omega)
  go_upto_region 4 with fail
  go_quiet (fail)
  (try rw [HRR.out])
  clear hz0 hzl c0 c1 c2 c3 c4 d0 d1 d2 d3 d4 d5 wr1 wr2 hbl l1 l3
  obtain ⟨w5, hw5⟩ : ∃ w5, w4.drewN nq = w5 := ⟨_, rfl⟩
  have HK5 := Lib.hid (show TwoC w w5 [.int .i64 size, .int .i64 m, .int .i64 sum, .int .i64 rng, .int .i64 last] [.int .i64 0, .int .i64 0, .int .i64 0, .int .i64 0, .int .i64 0] [.int .i64 sn, .int .i64 ss, .int .u64 (hi sq : Nat), .int .u64 (lo sq : Nat), .int .i64 sl, .int .i64 sh] k4 23 23 64 by rw [← hw5]; exact HK.out.call ⟨rfl, rfl, rfl, Nat.le_refl _, fun _ _ => rfl⟩)
  rw [hw5]
  clear hw5
  go_upto_region 5 with fail
  have c0 := HK5.out.a.cell 0; have z0 := HK5.out.b.cell 0; have y0 := HK5.out.b.frozen 0
  have c1 := HK5.out.a.cell 1; have z1 := HK5.out.b.cell 1; have y1 := HK5.out.b.frozen 1
  have c2 := HK5.out.a.cell 2; have z2 := HK5.out.b.cell 2; have y2 := HK5.out.b.frozen 2
  have c3 := HK5.out.a.cell 3; have z3 := HK5.out.b.cell 3; have y3 := HK5.out.b.frozen 3
  have c4 := HK5.out.a.cell 4; have z4 := HK5.out.b.cell 4; have y4 := HK5.out.b.frozen 4
  have d0 := HK5.out.c.cell 0
  have d1 := HK5.out.c.cell 1
  have d2 := HK5.out.c.cell 2
  have d3 := HK5.out.c.cell 3
  have d4 := HK5.out.c.cell 4
  have d5 := HK5.out.c.cell 5
  simp only [List.getElem?_cons_zero, List.getElem?_cons_succ] at c0 z0 c1 z1 c2 z2 c3 z3 c4 z4 d0 d1 d2 d3 d4 d5
  have l1 := HK5.out.a.lt; have l2 := HK5.out.b.lt; have l3 := HK5.out.c.lt; have l4 := HK5.out.lt
  have hbl : b < w5.heap.size ∧ w5.cell? ⟨b, off + (n - 1), none⟩ = some (.int .i64 xl) := by
    obtain ⟨ao', cap', e, _, _, h4⟩ := HRD.out.below HK5.out.below
    injection e with e1 e2 e3
    obtain ⟨b', off', h5, h6, h7⟩ := h4 (n - 1) (by rw [HN.out]; omega)
    rw [h5] at e1
    injection e1 with e1
    injection e1 with e1 e2 _
    subst e1 e2
    rw [HXL.out] at h7
    exact ⟨h6, h7⟩
  obtain ⟨hbl, hzl⟩ := hbl
  have HR := Lib.hid (HK5.out.b.put5B (.int .i64 size) (.int .i64 (m + 1)) (.int .i64 (sum + ss)) (.int .i64 (rng + R)) (.int .i64 xl))
  have HB := Lib.hid (Below.put5B HK5.out.below (b := w.heap.size + 1) (by omega) (.int .i64 size) (.int .i64 (m + 1)) (.int .i64 (sum + ss)) (.int .i64 (rng + R)) (.int .i64 xl))
  have hix : 0 ≤ (n : Int) - 1 ∧ (n : Int) - 1 < (n : Int) := by omega
  have hnt : ((n : Int) - 1).toNat = n - 1 := by omega
  go_region
  all_goals
    go_wp2
    (try simp only [Exit.inBlock, Exit.then])
    exact bodyPost_ret (resCellB rfl rfl (loadBas HR.out.drewB)) rfl ⟨rfl, HB.out.drew⟩
set_option linter.unusedSimpArgs false in
set_option linter.unusedVariables false in
set_option maxHeartbeats 8000000 in
set_option maxRecDepth 100000 in
theorem rtake15_1 (size m sum rng last : Int) (l : List Int) (sn ss : Int) (sq : Nat) (sl sh x0 xl R : Int) (n : Nat) (ao : Option Addr) (cap : Nat) (w : World) (hn : l.length = n) (hn1 : 1 ≤ n) (hn10 : n ≤ 10) (hr : ReadsI w (.slice ao n cap) l)
    (hx0 : l.getD 0 0 = x0) (hxl : l.getD (n - 1) 0 = xl) (hm : 0 ≤ m ∧ m ≤ 25) (hsum : -1000000000 ≤ sum ∧ sum ≤ 1000000000) (hrng : 0 ≤ rng ∧ rng ≤ 1000000000) (hla : -1000000 ≤ last ∧ last ≤ 1000000) (hss : -100000000 ≤ ss ∧ ss ≤ 100000000) (hsl : -1000000 ≤ sl ∧ sl ≤ 1000000) (hsh : -1000000 ≤ sh ∧ sh ≤ 1000000) (hxb : -1000000 ≤ x0 ∧ x0 ≤ 1000000) (q1 : (size == 1) = true) (q2 : ¬ 0 < m) (hR : sh - sl = R)
    (HOF : Hid (∀ W, Below w.heap.size w W → Calls Try.prog 28 #[.slice ao n cap] W fun e w' => e = .returned (.agg #[.int .i64 sn, .int .i64 ss, .int .u64 (hi sq : Nat), .int .u64 (lo sq : Nat), .int .i64 sl, .int .i64 sh]) ∧ Below W.heap.size W w')) :
    Calls Try.prog 14 #[.agg #[.int .i64 size, .int .i64 m, .int .i64 sum, .int .i64 rng, .int .i64 last], .slice ao n cap] w fun e w' => e = .returned (.agg #[.int .i64 size, .int .i64 (m + 1), .int .i64 (sum + ss), .int .i64 (rng + R), .int .i64 xl]) ∧ Below w.heap.size w w' := by
  obtain ⟨w2, hw2⟩ : ∃ w2, ((w.alloc (.cells #[.int .i64 size, .int .i64 m, .int .i64 sum, .int .i64 rng, .int .i64 last] 23)).alloc (.cells #[.int .i64 0, .int .i64 0, .int .i64 0, .int .i64 0, .int .i64 0] 23)) = w2 := ⟨_, rfl⟩
  have hi : TwoB w w2 [.int .i64 size, .int .i64 m, .int .i64 sum, .int .i64 rng, .int .i64 last] [.int .i64 0, .int .i64 0, .int .i64 0, .int .i64 0, .int .i64 0] 23 23 := by rw [← hw2]; exact twoB w _ _ _ _
  have HI := Lib.hid hi; have HW2 := Lib.hid hw2
  have HC := Lib.hid (HOF.out w2 hi.below)
  have HRD := Lib.hid hr; have HN := Lib.hid hn; have HX0 := Lib.hid hx0; have HXL := Lib.hid hxl
  have HRR := Lib.hid hR
  have hRb : -3000000 ≤ R ∧ R ≤ 3000000 := by rw [← hR]; omega
  clear hi hw2 hr hn hx0 hxl hR
  go_enter Try.func14, Try.ntmps14
  go_upto_region 1 with fail
  rw [HW2.out]
  go_wp2_with fail
  refine HC.out.mono ?_
  rintro e w3 ⟨rfl, k3⟩
  have HJ := Lib.hid (HI.out.call k3)
  obtain ⟨w4, hw4⟩ : ∃ w4, (w3.alloc (.cells #[.int .i64 sn, .int .i64 ss, .int .u64 (hi sq : Nat), .int .u64 (lo sq : Nat), .int .i64 sl, .int .i64 sh] 64)) = w4 := ⟨_, rfl⟩
  obtain ⟨k4, hk4⟩ : ∃ k, w3.heap.size = k := ⟨_, rfl⟩
  have hj : TwoC w w4 [.int .i64 size, .int .i64 m, .int .i64 sum, .int .i64 rng, .int .i64 last] [.int .i64 0, .int .i64 0, .int .i64 0, .int .i64 0, .int .i64 0] [.int .i64 sn, .int .i64 ss, .int .u64 (hi sq : Nat), .int .u64 (lo sq : Nat), .int .i64 sl, .int .i64 sh] k4 23 23 64 := by rw [← hw4, ← hk4]; exact HJ.out.three _ _
  have HK := Lib.hid hj; have HW4 := Lib.hid hw4; have HK4 := Lib.hid hk4
  clear hj hw4 hk4 k3
  go_upto_region 2 with fail
  rw [HW4.out]
  (try rw [HK4.out])
  have c0 := HK.out.a.cell 0
  have c1 := HK.out.a.cell 1
  have c2 := HK.out.a.cell 2
  have c3 := HK.out.a.cell 3
  have c4 := HK.out.a.cell 4
  have d0 := HK.out.c.cell 0
  have d1 := HK.out.c.cell 1
  have d2 := HK.out.c.cell 2
  have d3 := HK.out.c.cell 3
  have d4 := HK.out.c.cell 4
  have d5 := HK.out.c.cell 5
  simp only [List.getElem?_cons_zero, List.getElem?_cons_succ] at c0 c1 c2 c3 c4 d0 d1 d2 d3 d4 d5
  have l1 := HK.out.a.lt; have l3 := HK.out.c.lt
  obtain ⟨b, off, hao, hbl, hz0⟩ : ∃ b off, ao = some ⟨b, off, none⟩ ∧ b < w4.heap.size ∧ w4.cell? ⟨b, off, none⟩ = some (.int .i64 x0) := by
    obtain ⟨ao', cap', e, _, _, h4⟩ := HRD.out.below HK.out.below
    injection e with e1 e2 e3
    obtain ⟨b, off, h5, h6, h7⟩ := h4 0 (by rw [HN.out]; omega)
    exact ⟨b, off, e1.trans h5, h6, by rw [HX0.out] at h7; exact h7⟩
  subst hao
  have hzl : w4.cell? ⟨b, off + (n - 1), none⟩ = some (.int .i64 xl) := by
    obtain ⟨ao', cap', e, _, _, h4⟩ := HRD.out.below HK.out.below
    injection e with e1 e2 e3
    obtain ⟨b', off', h5, h6, h7⟩ := h4 (n - 1) (by rw [HN.out]; omega)
    rw [h5] at e1
    injection e1 with e1
    injection e1 with e1 e2 _
    subst e1 e2
    rw [HXL.out] at h7
    exact h7
  have hnz : (0 : Int) < (n : Int) := by omega
  have hn0 : 0 < n := by omega
  clear hz0 hzl hbl l1 l3
  go_upto_region 5 with fail
  (try rw [HRR.out])
  clear c0 c1 c2 c3 c4 d0 d1 d2 d3 d4 d5
  obtain ⟨w5, hw5⟩ : ∃ w5, w4 = w5 := ⟨_, rfl⟩
  have HK5 := Lib.hid (show TwoC w w5 [.int .i64 size, .int .i64 m, .int .i64 sum, .int .i64 rng, .int .i64 last] [.int .i64 0, .int .i64 0, .int .i64 0, .int .i64 0, .int .i64 0] [.int .i64 sn, .int .i64 ss, .int .u64 (hi sq : Nat), .int .u64 (lo sq : Nat), .int .i64 sl, .int .i64 sh] k4 23 23 64 by rw [← hw5]; exact HK.out)
  rw [hw5]
  clear hw5
  have c0 := HK5.out.a.cell 0; have z0 := HK5.out.b.cell 0; have y0 := HK5.out.b.frozen 0
  have c1 := HK5.out.a.cell 1; have z1 := HK5.out.b.cell 1; have y1 := HK5.out.b.frozen 1
  have c2 := HK5.out.a.cell 2; have z2 := HK5.out.b.cell 2; have y2 := HK5.out.b.frozen 2
  have c3 := HK5.out.a.cell 3; have z3 := HK5.out.b.cell 3; have y3 := HK5.out.b.frozen 3
  have c4 := HK5.out.a.cell 4; have z4 := HK5.out.b.cell 4; have y4 := HK5.out.b.frozen 4
  have d0 := HK5.out.c.cell 0
  have d1 := HK5.out.c.cell 1
  have d2 := HK5.out.c.cell 2
  have d3 := HK5.out.c.cell 3
  have d4 := HK5.out.c.cell 4
  have d5 := HK5.out.c.cell 5
  simp only [List.getElem?_cons_zero, List.getElem?_cons_succ] at c0 z0 c1 z1 c2 z2 c3 z3 c4 z4 d0 d1 d2 d3 d4 d5
  have l1 := HK5.out.a.lt; have l2 := HK5.out.b.lt; have l3 := HK5.out.c.lt; have l4 := HK5.out.lt
  have hbl : b < w5.heap.size ∧ w5.cell? ⟨b, off + (n - 1), none⟩ = some (.int .i64 xl) := by
    obtain ⟨ao', cap', e, _, _, h4⟩ := HRD.out.below HK5.out.below
    injection e with e1 e2 e3
    obtain ⟨b', off', h5, h6, h7⟩ := h4 (n - 1) (by rw [HN.out]; omega)
    rw [h5] at e1
    injection e1 with e1
    injection e1 with e1 e2 _
    subst e1 e2
    rw [HXL.out] at h7
    exact ⟨h6, h7⟩
  obtain ⟨hbl, hzl⟩ := hbl
  have HR := Lib.hid (HK5.out.b.put5B (.int .i64 size) (.int .i64 (m + 1)) (.int .i64 (sum + ss)) (.int .i64 (rng + R)) (.int .i64 xl))
  have HB := Lib.hid (Below.put5B HK5.out.below (b := w.heap.size + 1) (by omega) (.int .i64 size) (.int .i64 (m + 1)) (.int .i64 (sum + ss)) (.int .i64 (rng + R)) (.int .i64 xl))
  have hix : 0 ≤ (n : Int) - 1 ∧ (n : Int) - 1 < (n : Int) := by omega
  have hnt : ((n : Int) - 1).toNat = n - 1 := by omega
  go_region
  all_goals
    go_wp2
    (try simp only [Exit.inBlock, Exit.then])
    exact bodyPost_ret (resCellB rfl rfl (loadBas HR.out.drewB)) rfl ⟨rfl, HB.out.drew⟩
set_option linter.unusedSimpArgs false in
set_option linter.unusedVariables false in
set_option maxHeartbeats 8000000 in
set_option maxRecDepth 100000 in
theorem rtake15_2 (size m sum rng last : Int) (l : List Int) (sn ss : Int) (sq : Nat) (sl sh x0 xl R : Int) (n : Nat) (ao : Option Addr) (cap : Nat) (w : World) (hn : l.length = n) (hn1 : 1 ≤ n) (hn10 : n ≤ 10) (hr : ReadsI w (.slice ao n cap) l)
    (hx0 : l.getD 0 0 = x0) (hxl : l.getD (n - 1) 0 = xl) (hm : 0 ≤ m ∧ m ≤ 25) (hsum : -1000000000 ≤ sum ∧ sum ≤ 1000000000) (hrng : 0 ≤ rng ∧ rng ≤ 1000000000) (hla : -1000000 ≤ last ∧ last ≤ 1000000) (hss : -100000000 ≤ ss ∧ ss ≤ 100000000) (hsl : -1000000 ≤ sl ∧ sl ≤ 1000000) (hsh : -1000000 ≤ sh ∧ sh ≤ 1000000) (hxb : -1000000 ≤ x0 ∧ x0 ≤ 1000000) (q1 : (size == 1) = false) (hR : sh - sl = R)
    (HOF : Hid (∀ W, Below w.heap.size w W → Calls Try.prog 28 #[.slice ao n cap] W fun e w' => e = .returned (.agg #[.int .i64 sn, .int .i64 ss, .int .u64 (hi sq : Nat), .int .u64 (lo sq : Nat), .int .i64 sl, .int .i64 sh]) ∧ Below W.heap.size W w')) :
    Calls Try.prog 14 #[.agg #[.int .i64 size, .int .i64 m, .int .i64 sum, .int .i64 rng, .int .i64 last], .slice ao n cap] w fun e w' => e = .returned (.agg #[.int .i64 size, .int .i64 (m + 1), .int .i64 (sum + ss), .int .i64 (rng + R), .int .i64 xl]) ∧ Below w.heap.size w w' := by
  obtain ⟨w2, hw2⟩ : ∃ w2, ((w.alloc (.cells #[.int .i64 size, .int .i64 m, .int .i64 sum, .int .i64 rng, .int .i64 last] 23)).alloc (.cells #[.int .i64 0, .int .i64 0, .int .i64 0, .int .i64 0, .int .i64 0] 23)) = w2 := ⟨_, rfl⟩
  have hi : TwoB w w2 [.int .i64 size, .int .i64 m, .int .i64 sum, .int .i64 rng, .int .i64 last] [.int .i64 0, .int .i64 0, .int .i64 0, .int .i64 0, .int .i64 0] 23 23 := by rw [← hw2]; exact twoB w _ _ _ _
  have HI := Lib.hid hi; have HW2 := Lib.hid hw2
  have HC := Lib.hid (HOF.out w2 hi.below)
  have HRD := Lib.hid hr; have HN := Lib.hid hn; have HX0 := Lib.hid hx0; have HXL := Lib.hid hxl
  have HRR := Lib.hid hR
  have hRb : -3000000 ≤ R ∧ R ≤ 3000000 := by rw [← hR]; omega
  clear hi hw2 hr hn hx0 hxl hR
  go_enter Try.func14, Try.ntmps14
  go_upto_region 1 with fail
  rw [HW2.out]
  go_wp2_with fail
  refine HC.out.mono ?_
  rintro e w3 ⟨rfl, k3⟩
  have HJ := Lib.hid (HI.out.call k3)
  obtain ⟨w4, hw4⟩ : ∃ w4, (w3.alloc (.cells #[.int .i64 sn, .int .i64 ss, .int .u64 (hi sq : Nat), .int .u64 (lo sq : Nat), .int .i64 sl, .int .i64 sh] 64)) = w4 := ⟨_, rfl⟩
  obtain ⟨k4, hk4⟩ : ∃ k, w3.heap.size = k := ⟨_, rfl⟩
  have hj : TwoC w w4 [.int .i64 size, .int .i64 m, .int .i64 sum, .int .i64 rng, .int .i64 last] [.int .i64 0, .int .i64 0, .int .i64 0, .int .i64 0, .int .i64 0] [.int .i64 sn, .int .i64 ss, .int .u64 (hi sq : Nat), .int .u64 (lo sq : Nat), .int .i64 sl, .int .i64 sh] k4 23 23 64 := by rw [← hw4, ← hk4]; exact HJ.out.three _ _
  have HK := Lib.hid hj; have HW4 := Lib.hid hw4; have HK4 := Lib.hid hk4
  clear hj hw4 hk4 k3
  go_upto_region 2 with fail
  rw [HW4.out]
  (try rw [HK4.out])
  have c0 := HK.out.a.cell 0
  have c1 := HK.out.a.cell 1
  have c2 := HK.out.a.cell 2
  have c3 := HK.out.a.cell 3
  have c4 := HK.out.a.cell 4
  have d0 := HK.out.c.cell 0
  have d1 := HK.out.c.cell 1
  have d2 := HK.out.c.cell 2
  have d3 := HK.out.c.cell 3
  have d4 := HK.out.c.cell 4
  have d5 := HK.out.c.cell 5
  simp only [List.getElem?_cons_zero, List.getElem?_cons_succ] at c0 c1 c2 c3 c4 d0 d1 d2 d3 d4 d5
  have l1 := HK.out.a.lt; have l3 := HK.out.c.lt
  obtain ⟨b, off, hao, hbl, hz0⟩ : ∃ b off, ao = some ⟨b, off, none⟩ ∧ b < w4.heap.size ∧ w4.cell? ⟨b, off, none⟩ = some (.int .i64 x0) := by
    obtain ⟨ao', cap', e, _, _, h4⟩ := HRD.out.below HK.out.below
    injection e with e1 e2 e3
    obtain ⟨b, off, h5, h6, h7⟩ := h4 0 (by rw [HN.out]; omega)
    exact ⟨b, off, e1.trans h5, h6, by rw [HX0.out] at h7; exact h7⟩
  subst hao
  have hzl : w4.cell? ⟨b, off + (n - 1), none⟩ = some (.int .i64 xl) := by
    obtain ⟨ao', cap', e, _, _, h4⟩ := HRD.out.below HK.out.below
    injection e with e1 e2 e3
    obtain ⟨b', off', h5, h6, h7⟩ := h4 (n - 1) (by rw [HN.out]; omega)
    rw [h5] at e1
    injection e1 with e1
    injection e1 with e1 e2 _
    subst e1 e2
    rw [HXL.out] at h7
    exact h7
  have hnz : (0 : Int) < (n : Int) := by omega
  have hn0 : 0 < n := by omega
  clear hz0 hzl hbl l1 l3
  go_upto_region 5 with fail
  (try rw [HRR.out])
  clear c0 c1 c2 c3 c4 d0 d1 d2 d3 d4 d5
  obtain ⟨w5, hw5⟩ : ∃ w5, w4 = w5 := ⟨_, rfl⟩
  have HK5 := Lib.hid (show TwoC w w5 [.int .i64 size, .int .i64 m, .int .i64 sum, .int .i64 rng, .int .i64 last] [.int .i64 0, .int .i64 0, .int .i64 0, .int .i64 0, .int .i64 0] [.int .i64 sn, .int .i64 ss, .int .u64 (hi sq : Nat), .int .u64 (lo sq : Nat), .int .i64 sl, .int .i64 sh] k4 23 23 64 by rw [← hw5]; exact HK.out)
  rw [hw5]
  clear hw5
  have c0 := HK5.out.a.cell 0; have z0 := HK5.out.b.cell 0; have y0 := HK5.out.b.frozen 0
  have c1 := HK5.out.a.cell 1; have z1 := HK5.out.b.cell 1; have y1 := HK5.out.b.frozen 1
  have c2 := HK5.out.a.cell 2; have z2 := HK5.out.b.cell 2; have y2 := HK5.out.b.frozen 2
  have c3 := HK5.out.a.cell 3; have z3 := HK5.out.b.cell 3; have y3 := HK5.out.b.frozen 3
  have c4 := HK5.out.a.cell 4; have z4 := HK5.out.b.cell 4; have y4 := HK5.out.b.frozen 4
  have d0 := HK5.out.c.cell 0
  have d1 := HK5.out.c.cell 1
  have d2 := HK5.out.c.cell 2
  have d3 := HK5.out.c.cell 3
  have d4 := HK5.out.c.cell 4
  have d5 := HK5.out.c.cell 5
  simp only [List.getElem?_cons_zero, List.getElem?_cons_succ] at c0 z0 c1 z1 c2 z2 c3 z3 c4 z4 d0 d1 d2 d3 d4 d5
  have l1 := HK5.out.a.lt; have l2 := HK5.out.b.lt; have l3 := HK5.out.c.lt; have l4 := HK5.out.lt
  have hbl : b < w5.heap.size ∧ w5.cell? ⟨b, off + (n - 1), none⟩ = some (.int .i64 xl) := by
    obtain ⟨ao', cap', e, _, _, h4⟩ := HRD.out.below HK5.out.below
    injection e with e1 e2 e3
    obtain ⟨b', off', h5, h6, h7⟩ := h4 (n - 1) (by rw [HN.out]; omega)
    rw [h5] at e1
    injection e1 with e1
    injection e1 with e1 e2 _
    subst e1 e2
    rw [HXL.out] at h7
    exact ⟨h6, h7⟩
  obtain ⟨hbl, hzl⟩ := hbl
  have HR := Lib.hid (HK5.out.b.put5B (.int .i64 size) (.int .i64 (m + 1)) (.int .i64 (sum + ss)) (.int .i64 (rng + R)) (.int .i64 xl))
  have HB := Lib.hid (Below.put5B HK5.out.below (b := w.heap.size + 1) (by omega) (.int .i64 size) (.int .i64 (m + 1)) (.int .i64 (sum + ss)) (.int .i64 (rng + R)) (.int .i64 xl))
  have hix : 0 ≤ (n : Int) - 1 ∧ (n : Int) - 1 < (n : Int) := by omega
  have hnt : ((n : Int) - 1).toNat = n - 1 := by omega
  go_region
  all_goals
    go_wp2
    (try simp only [Exit.inBlock, Exit.then])
    exact bodyPost_ret (resCellB rfl rfl (loadBas HR.out.drewB)) rfl ⟨rfl, HB.out.drew⟩
end Go.Proofs.Ytfafkdbflmennaa
