/- The reference's next, of rules 3 and 4. -/
import Derived.Test.YtjonpcpcokapkaaNelA
namespace Go.Proofs.Ytjonpcpcokapkaa
open Go.RowKit

theorem Has.put4S {w : World} {b : Nat} {a0 a1 a2 a3 : Value} {T : TypeId} (h : Has w b [a0, a1, a2, a3] T) (c0 c1 c2 c3 : Value) : Has ((((w.setCell ⟨b, 0, none⟩ c0).setCell ⟨b, 1, none⟩ c1).setCell ⟨b, 2, none⟩ c2).setCell ⟨b, 3, none⟩ c3) b [c0, c1, c2, c3] T :=
  (((h.set 0 c0).set 1 c1).set 2 c2).set 3 c3
theorem Below.put4S {B b : Nat} {x y : World} (h : Below B x y) (hb : B ≤ b) (c0 c1 c2 c3 : Value) : Below B x ((((y.setCell ⟨b, 0, none⟩ c0).setCell ⟨b, 1, none⟩ c1).setCell ⟨b, 2, none⟩ c2).setCell ⟨b, 3, none⟩ c3) :=
  (((h.setCell (p := ⟨b, 0, none⟩) hb c0).setCell (p := ⟨b, 1, none⟩) hb c1).setCell (p := ⟨b, 2, none⟩) hb c2).setCell (p := ⟨b, 3, none⟩) hb c3
/-- What lies in memory when next has begun. -/
structure NexI (w w2 : World) (n a b l x : Int) : Prop where
  below : Below w.heap.size w w2
  box : Has w2 w.heap.size [.int .i64 n, .int .i64 a, .int .i64 b, .int .i64 l] 64
  res : Has w2 (w.heap.size + 1) [.int .i64 0, .int .i64 0, .int .i64 0, .int .i64 0] 64
  out : Has w2 (w.heap.size + 2) [.int .i64 (n + 1), .int .i64 a, .int .i64 b, .int .i64 x] 64
theorem nexI (w : World) (n a b l x : Int) : NexI w (((w.alloc (.cells #[.int .i64 n, .int .i64 a, .int .i64 b, .int .i64 l] 64)).alloc (.cells #[.int .i64 0, .int .i64 0, .int .i64 0, .int .i64 0] 64)).alloc (.cells #[.int .i64 (n + 1), .int .i64 a, .int .i64 b, .int .i64 x] 64)) n a b l x where
  below := (((Below.refl _ _).alloc (Nat.le_refl _) _).alloc (by simp) _).alloc (by simp; omega) _
  box := ((Has.new w _ _).alloc _).alloc _
  res := by
    have := (Has.new (w.alloc (.cells #[.int .i64 n, .int .i64 a, .int .i64 b, .int .i64 l] 64)) [.int .i64 0, .int .i64 0, .int .i64 0, .int .i64 0] 64).alloc (.cells #[.int .i64 (n + 1), .int .i64 a, .int .i64 b, .int .i64 x] 64)
    rw [show (w.alloc (.cells #[.int .i64 n, .int .i64 a, .int .i64 b, .int .i64 l] 64)).heap.size = w.heap.size + 1 by simp] at this
    exact this
  out := by
    have := Has.new ((w.alloc (.cells #[.int .i64 n, .int .i64 a, .int .i64 b, .int .i64 l] 64)).alloc (.cells #[.int .i64 0, .int .i64 0, .int .i64 0, .int .i64 0] 64)) [.int .i64 (n + 1), .int .i64 a, .int .i64 b, .int .i64 x] 64
    rw [show ((w.alloc (.cells #[.int .i64 n, .int .i64 a, .int .i64 b, .int .i64 l] 64)).alloc (.cells #[.int .i64 0, .int .i64 0, .int .i64 0, .int .i64 0] 64)).heap.size = w.heap.size + 2 by simp] at this
    exact this
set_option linter.unusedSimpArgs false in
set_option linter.unusedVariables false in
set_option maxHeartbeats 16000000 in
set_option maxRecDepth 100000 in
theorem next3_any (n a b l c : Int) (hn : 0 ≤ n ∧ n ≤ 15) (w : World) :
    Calls Try.prog 46 #[.int .i64 3, .agg #[.int .i64 n, .int .i64 a, .int .i64 b, .int .i64 l], .int .i64 c] w fun e w' => e = .returned (.agg #[.int .i64 (nextN 3 ⟨n, a, b, l⟩ c).n, .int .i64 (nextN 3 ⟨n, a, b, l⟩ c).a, .int .i64 (nextN 3 ⟨n, a, b, l⟩ c).b, .int .i64 (nextN 3 ⟨n, a, b, l⟩ c).last]) ∧ Below w.heap.size w w' := by
  by_cases h0 : n = 0
  · subst h0
    clear hn
    have hx : nextN 3 ⟨0, a, b, l⟩ c = ⟨0 + 1, oneN (true), oneN (true), c⟩ := by simp [nextN, upR, downR, swN, upN, downN]
    rw [hx]
    have HX := Lib.hid hx
    have e1 : wrap64 (0 + 1) = 0 + 1 := by unfold wrap64; omega
    obtain ⟨w2, hw2⟩ : ∃ w2, (((w.alloc (.cells #[.int .i64 0, .int .i64 a, .int .i64 b, .int .i64 l] 64)).alloc (.cells #[.int .i64 0, .int .i64 0, .int .i64 0, .int .i64 0] 64)).alloc (.cells #[.int .i64 (1), .int .i64 a, .int .i64 b, .int .i64 0] 64)) = w2 := ⟨_, rfl⟩
    have hi : NexI w w2 0 a b l 0 := by rw [← hw2]; exact nexI w 0 a b l 0
    have HI := Lib.hid hi
    have HW2 := Lib.hid hw2
    clear hx hw2 hi
    go_enter Try.func46, Try.ntmps46
    go_upto_region 2 with fail
    rw [HW2.out]
    have c0 := HI.out.box.cell 0
    have d0 := HI.out.out.cell 0
    have f0 := HI.out.out.frozen 0
    have z0 := HI.out.res.cell 0
    have y0 := HI.out.res.frozen 0
    have c1 := HI.out.box.cell 1
    have d1 := HI.out.out.cell 1
    have f1 := HI.out.out.frozen 1
    have z1 := HI.out.res.cell 1
    have y1 := HI.out.res.frozen 1
    have c2 := HI.out.box.cell 2
    have d2 := HI.out.out.cell 2
    have f2 := HI.out.out.frozen 2
    have z2 := HI.out.res.cell 2
    have y2 := HI.out.res.frozen 2
    have c3 := HI.out.box.cell 3
    have d3 := HI.out.out.cell 3
    have f3 := HI.out.out.frozen 3
    have z3 := HI.out.res.cell 3
    have y3 := HI.out.res.frozen 3
    replace d0 : w2.cell? ⟨w.heap.size + 2, 0, none⟩ = some (.int .i64 1) := d0
    simp only [List.getElem?_cons_zero, List.getElem?_cons_succ] at c0 d0 z0 c1 d1 z1 c2 d2 z2 c3 d3 z3
    have l0 := HI.out.box.lt
    have l1 := HI.out.res.lt
    have l2 := HI.out.out.lt
    go_wp2_with fail
    refine (one14_any (true) _).mono ?_
    rintro e w3 ⟨rfl, rfl⟩
    go_wp2_with fail
    refine (one14_any (true) _).mono ?_
    rintro e w4 ⟨rfl, rfl⟩
    have HR := Lib.hid (((((HI.out.res.other (p := ⟨w.heap.size + 2, 1, none⟩) (by dsimp only; omega) (.int .i64 (oneN (true)))).other (p := ⟨w.heap.size + 2, 2, none⟩) (by dsimp only; omega) (.int .i64 (oneN (true)))).other (p := ⟨w.heap.size + 2, 3, none⟩) (by dsimp only; omega) (.int .i64 c)).put4S (.int .i64 (1)) (.int .i64 (oneN (true))) (.int .i64 (oneN (true))) (.int .i64 c)))
    have HB := Lib.hid (Below.put4S (((HI.out.below.setCell (p := ⟨w.heap.size + 2, 1, none⟩) (by dsimp only; omega) (.int .i64 (oneN (true)))).setCell (p := ⟨w.heap.size + 2, 2, none⟩) (by dsimp only; omega) (.int .i64 (oneN (true)))).setCell (p := ⟨w.heap.size + 2, 3, none⟩) (by dsimp only; omega) (.int .i64 c)) (b := w.heap.size + 1) (by omega) (.int .i64 (1)) (.int .i64 (oneN (true))) (.int .i64 (oneN (true))) (.int .i64 c))
    go_wp2
    (try simp only [Exit.inBlock, Exit.then])
    exact bodyPost_ret (resCellS Try.results46 rfl (loadS HR.out)) rfl ⟨rfl, HB.out⟩
  · skip
    by_cases ha : a = 1
    · by_cases hb : b = 1
      · skip
        have hx : nextN 3 ⟨n, a, b, l⟩ c = ⟨n + 1, oneN (decide (l < c)), oneN (decide (c < l)), c⟩ := by simp [nextN, upR, downR, swN, upN, downN, h0, ha, hb]
        rw [hx]
        have HX := Lib.hid hx
        have e1 : wrap64 (n + 1) = n + 1 := by unfold wrap64; omega
        obtain ⟨w2, hw2⟩ : ∃ w2, (((w.alloc (.cells #[.int .i64 n, .int .i64 a, .int .i64 b, .int .i64 l] 64)).alloc (.cells #[.int .i64 0, .int .i64 0, .int .i64 0, .int .i64 0] 64)).alloc (.cells #[.int .i64 (n + 1), .int .i64 a, .int .i64 b, .int .i64 0] 64)) = w2 := ⟨_, rfl⟩
        have hi : NexI w w2 n a b l 0 := by rw [← hw2]; exact nexI w n a b l 0
        have HI := Lib.hid hi
        have HW2 := Lib.hid hw2
        have g0 : (n == 0) = false := beq_false_of_ne h0
        have g1 : (a == 1) = true := by rw [ha]; rfl
        have g2 : (b == 1) = true := by rw [hb]; rfl
        clear hx hw2 hi h0 ha hb
        go_enter Try.func46, Try.ntmps46
        go_upto_region 2 with fail
        rw [HW2.out]
        have c0 := HI.out.box.cell 0
        have d0 := HI.out.out.cell 0
        have f0 := HI.out.out.frozen 0
        have z0 := HI.out.res.cell 0
        have y0 := HI.out.res.frozen 0
        have c1 := HI.out.box.cell 1
        have d1 := HI.out.out.cell 1
        have f1 := HI.out.out.frozen 1
        have z1 := HI.out.res.cell 1
        have y1 := HI.out.res.frozen 1
        have c2 := HI.out.box.cell 2
        have d2 := HI.out.out.cell 2
        have f2 := HI.out.out.frozen 2
        have z2 := HI.out.res.cell 2
        have y2 := HI.out.res.frozen 2
        have c3 := HI.out.box.cell 3
        have d3 := HI.out.out.cell 3
        have f3 := HI.out.out.frozen 3
        have z3 := HI.out.res.cell 3
        have y3 := HI.out.res.frozen 3
        simp only [List.getElem?_cons_zero, List.getElem?_cons_succ] at c0 d0 z0 c1 d1 z1 c2 d2 z2 c3 d3 z3
        have l0 := HI.out.box.lt
        have l1 := HI.out.res.lt
        have l2 := HI.out.out.lt
        go_wp2_with fail
        refine (one14_any (decide (l < c)) _).mono ?_
        rintro e w3 ⟨rfl, rfl⟩
        go_wp2_with fail
        refine (one14_any (decide (c < l)) _).mono ?_
        rintro e w4 ⟨rfl, rfl⟩
        have HR := Lib.hid (((((HI.out.res.other (p := ⟨w.heap.size + 2, 1, none⟩) (by dsimp only; omega) (.int .i64 (oneN (decide (l < c))))).other (p := ⟨w.heap.size + 2, 2, none⟩) (by dsimp only; omega) (.int .i64 (oneN (decide (c < l))))).other (p := ⟨w.heap.size + 2, 3, none⟩) (by dsimp only; omega) (.int .i64 c)).put4S (.int .i64 (n + 1)) (.int .i64 (oneN (decide (l < c)))) (.int .i64 (oneN (decide (c < l)))) (.int .i64 c)))
        have HB := Lib.hid (Below.put4S (((HI.out.below.setCell (p := ⟨w.heap.size + 2, 1, none⟩) (by dsimp only; omega) (.int .i64 (oneN (decide (l < c))))).setCell (p := ⟨w.heap.size + 2, 2, none⟩) (by dsimp only; omega) (.int .i64 (oneN (decide (c < l))))).setCell (p := ⟨w.heap.size + 2, 3, none⟩) (by dsimp only; omega) (.int .i64 c)) (b := w.heap.size + 1) (by omega) (.int .i64 (n + 1)) (.int .i64 (oneN (decide (l < c)))) (.int .i64 (oneN (decide (c < l)))) (.int .i64 c))
        go_wp2
        (try simp only [Exit.inBlock, Exit.then])
        exact bodyPost_ret (resCellS Try.results46 rfl (loadS HR.out)) rfl ⟨rfl, HB.out⟩
      · skip
        have hx : nextN 3 ⟨n, a, b, l⟩ c = ⟨n + 1, oneN (decide (l < c)), oneN (false), c⟩ := by simp [nextN, upR, downR, swN, upN, downN, h0, ha, hb]
        rw [hx]
        have HX := Lib.hid hx
        have e1 : wrap64 (n + 1) = n + 1 := by unfold wrap64; omega
        obtain ⟨w2, hw2⟩ : ∃ w2, (((w.alloc (.cells #[.int .i64 n, .int .i64 a, .int .i64 b, .int .i64 l] 64)).alloc (.cells #[.int .i64 0, .int .i64 0, .int .i64 0, .int .i64 0] 64)).alloc (.cells #[.int .i64 (n + 1), .int .i64 a, .int .i64 b, .int .i64 0] 64)) = w2 := ⟨_, rfl⟩
        have hi : NexI w w2 n a b l 0 := by rw [← hw2]; exact nexI w n a b l 0
        have HI := Lib.hid hi
        have HW2 := Lib.hid hw2
        have g0 : (n == 0) = false := beq_false_of_ne h0
        have g1 : (a == 1) = true := by rw [ha]; rfl
        have g2 : (b == 1) = false := beq_false_of_ne hb
        clear hx hw2 hi h0 ha hb
        go_enter Try.func46, Try.ntmps46
        go_upto_region 2 with fail
        rw [HW2.out]
        have c0 := HI.out.box.cell 0
        have d0 := HI.out.out.cell 0
        have f0 := HI.out.out.frozen 0
        have z0 := HI.out.res.cell 0
        have y0 := HI.out.res.frozen 0
        have c1 := HI.out.box.cell 1
        have d1 := HI.out.out.cell 1
        have f1 := HI.out.out.frozen 1
        have z1 := HI.out.res.cell 1
        have y1 := HI.out.res.frozen 1
        have c2 := HI.out.box.cell 2
        have d2 := HI.out.out.cell 2
        have f2 := HI.out.out.frozen 2
        have z2 := HI.out.res.cell 2
        have y2 := HI.out.res.frozen 2
        have c3 := HI.out.box.cell 3
        have d3 := HI.out.out.cell 3
        have f3 := HI.out.out.frozen 3
        have z3 := HI.out.res.cell 3
        have y3 := HI.out.res.frozen 3
        simp only [List.getElem?_cons_zero, List.getElem?_cons_succ] at c0 d0 z0 c1 d1 z1 c2 d2 z2 c3 d3 z3
        have l0 := HI.out.box.lt
        have l1 := HI.out.res.lt
        have l2 := HI.out.out.lt
        go_wp2_with fail
        refine (one14_any (decide (l < c)) _).mono ?_
        rintro e w3 ⟨rfl, rfl⟩
        go_wp2_with fail
        refine (one14_any (false) _).mono ?_
        rintro e w4 ⟨rfl, rfl⟩
        have HR := Lib.hid (((((HI.out.res.other (p := ⟨w.heap.size + 2, 1, none⟩) (by dsimp only; omega) (.int .i64 (oneN (decide (l < c))))).other (p := ⟨w.heap.size + 2, 2, none⟩) (by dsimp only; omega) (.int .i64 (oneN (false)))).other (p := ⟨w.heap.size + 2, 3, none⟩) (by dsimp only; omega) (.int .i64 c)).put4S (.int .i64 (n + 1)) (.int .i64 (oneN (decide (l < c)))) (.int .i64 (oneN (false))) (.int .i64 c)))
        have HB := Lib.hid (Below.put4S (((HI.out.below.setCell (p := ⟨w.heap.size + 2, 1, none⟩) (by dsimp only; omega) (.int .i64 (oneN (decide (l < c))))).setCell (p := ⟨w.heap.size + 2, 2, none⟩) (by dsimp only; omega) (.int .i64 (oneN (false)))).setCell (p := ⟨w.heap.size + 2, 3, none⟩) (by dsimp only; omega) (.int .i64 c)) (b := w.heap.size + 1) (by omega) (.int .i64 (n + 1)) (.int .i64 (oneN (decide (l < c)))) (.int .i64 (oneN (false))) (.int .i64 c))
        go_wp2
        (try simp only [Exit.inBlock, Exit.then])
        exact bodyPost_ret (resCellS Try.results46 rfl (loadS HR.out)) rfl ⟨rfl, HB.out⟩
    · by_cases hb : b = 1
      · skip
        have hx : nextN 3 ⟨n, a, b, l⟩ c = ⟨n + 1, oneN (false), oneN (decide (c < l)), c⟩ := by simp [nextN, upR, downR, swN, upN, downN, h0, ha, hb]
        rw [hx]
        have HX := Lib.hid hx
        have e1 : wrap64 (n + 1) = n + 1 := by unfold wrap64; omega
        obtain ⟨w2, hw2⟩ : ∃ w2, (((w.alloc (.cells #[.int .i64 n, .int .i64 a, .int .i64 b, .int .i64 l] 64)).alloc (.cells #[.int .i64 0, .int .i64 0, .int .i64 0, .int .i64 0] 64)).alloc (.cells #[.int .i64 (n + 1), .int .i64 a, .int .i64 b, .int .i64 0] 64)) = w2 := ⟨_, rfl⟩
        have hi : NexI w w2 n a b l 0 := by rw [← hw2]; exact nexI w n a b l 0
        have HI := Lib.hid hi
        have HW2 := Lib.hid hw2
        have g0 : (n == 0) = false := beq_false_of_ne h0
        have g1 : (a == 1) = false := beq_false_of_ne ha
        have g2 : (b == 1) = true := by rw [hb]; rfl
        clear hx hw2 hi h0 ha hb
        go_enter Try.func46, Try.ntmps46
        go_upto_region 2 with fail
        rw [HW2.out]
        have c0 := HI.out.box.cell 0
        have d0 := HI.out.out.cell 0
        have f0 := HI.out.out.frozen 0
        have z0 := HI.out.res.cell 0
        have y0 := HI.out.res.frozen 0
        have c1 := HI.out.box.cell 1
        have d1 := HI.out.out.cell 1
        have f1 := HI.out.out.frozen 1
        have z1 := HI.out.res.cell 1
        have y1 := HI.out.res.frozen 1
        have c2 := HI.out.box.cell 2
        have d2 := HI.out.out.cell 2
        have f2 := HI.out.out.frozen 2
        have z2 := HI.out.res.cell 2
        have y2 := HI.out.res.frozen 2
        have c3 := HI.out.box.cell 3
        have d3 := HI.out.out.cell 3
        have f3 := HI.out.out.frozen 3
        have z3 := HI.out.res.cell 3
        have y3 := HI.out.res.frozen 3
        simp only [List.getElem?_cons_zero, List.getElem?_cons_succ] at c0 d0 z0 c1 d1 z1 c2 d2 z2 c3 d3 z3
        have l0 := HI.out.box.lt
        have l1 := HI.out.res.lt
        have l2 := HI.out.out.lt
        go_wp2_with fail
        refine (one14_any (false) _).mono ?_
        rintro e w3 ⟨rfl, rfl⟩
        go_wp2_with fail
        refine (one14_any (decide (c < l)) _).mono ?_
        rintro e w4 ⟨rfl, rfl⟩
        have HR := Lib.hid (((((HI.out.res.other (p := ⟨w.heap.size + 2, 1, none⟩) (by dsimp only; omega) (.int .i64 (oneN (false)))).other (p := ⟨w.heap.size + 2, 2, none⟩) (by dsimp only; omega) (.int .i64 (oneN (decide (c < l))))).other (p := ⟨w.heap.size + 2, 3, none⟩) (by dsimp only; omega) (.int .i64 c)).put4S (.int .i64 (n + 1)) (.int .i64 (oneN (false))) (.int .i64 (oneN (decide (c < l)))) (.int .i64 c)))
        have HB := Lib.hid (Below.put4S (((HI.out.below.setCell (p := ⟨w.heap.size + 2, 1, none⟩) (by dsimp only; omega) (.int .i64 (oneN (false)))).setCell (p := ⟨w.heap.size + 2, 2, none⟩) (by dsimp only; omega) (.int .i64 (oneN (decide (c < l))))).setCell (p := ⟨w.heap.size + 2, 3, none⟩) (by dsimp only; omega) (.int .i64 c)) (b := w.heap.size + 1) (by omega) (.int .i64 (n + 1)) (.int .i64 (oneN (false))) (.int .i64 (oneN (decide (c < l)))) (.int .i64 c))
        go_wp2
        (try simp only [Exit.inBlock, Exit.then])
        exact bodyPost_ret (resCellS Try.results46 rfl (loadS HR.out)) rfl ⟨rfl, HB.out⟩
      · skip
        have hx : nextN 3 ⟨n, a, b, l⟩ c = ⟨n + 1, oneN (false), oneN (false), c⟩ := by simp [nextN, upR, downR, swN, upN, downN, h0, ha, hb]
        rw [hx]
        have HX := Lib.hid hx
        have e1 : wrap64 (n + 1) = n + 1 := by unfold wrap64; omega
        obtain ⟨w2, hw2⟩ : ∃ w2, (((w.alloc (.cells #[.int .i64 n, .int .i64 a, .int .i64 b, .int .i64 l] 64)).alloc (.cells #[.int .i64 0, .int .i64 0, .int .i64 0, .int .i64 0] 64)).alloc (.cells #[.int .i64 (n + 1), .int .i64 a, .int .i64 b, .int .i64 0] 64)) = w2 := ⟨_, rfl⟩
        have hi : NexI w w2 n a b l 0 := by rw [← hw2]; exact nexI w n a b l 0
        have HI := Lib.hid hi
        have HW2 := Lib.hid hw2
        have g0 : (n == 0) = false := beq_false_of_ne h0
        have g1 : (a == 1) = false := beq_false_of_ne ha
        have g2 : (b == 1) = false := beq_false_of_ne hb
        clear hx hw2 hi h0 ha hb
        go_enter Try.func46, Try.ntmps46
        go_upto_region 2 with fail
        rw [HW2.out]
        have c0 := HI.out.box.cell 0
        have d0 := HI.out.out.cell 0
        have f0 := HI.out.out.frozen 0
        have z0 := HI.out.res.cell 0
        have y0 := HI.out.res.frozen 0
        have c1 := HI.out.box.cell 1
        have d1 := HI.out.out.cell 1
        have f1 := HI.out.out.frozen 1
        have z1 := HI.out.res.cell 1
        have y1 := HI.out.res.frozen 1
        have c2 := HI.out.box.cell 2
        have d2 := HI.out.out.cell 2
        have f2 := HI.out.out.frozen 2
        have z2 := HI.out.res.cell 2
        have y2 := HI.out.res.frozen 2
        have c3 := HI.out.box.cell 3
        have d3 := HI.out.out.cell 3
        have f3 := HI.out.out.frozen 3
        have z3 := HI.out.res.cell 3
        have y3 := HI.out.res.frozen 3
        simp only [List.getElem?_cons_zero, List.getElem?_cons_succ] at c0 d0 z0 c1 d1 z1 c2 d2 z2 c3 d3 z3
        have l0 := HI.out.box.lt
        have l1 := HI.out.res.lt
        have l2 := HI.out.out.lt
        go_wp2_with fail
        refine (one14_any (false) _).mono ?_
        rintro e w3 ⟨rfl, rfl⟩
        go_wp2_with fail
        refine (one14_any (false) _).mono ?_
        rintro e w4 ⟨rfl, rfl⟩
        have HR := Lib.hid (((((HI.out.res.other (p := ⟨w.heap.size + 2, 1, none⟩) (by dsimp only; omega) (.int .i64 (oneN (false)))).other (p := ⟨w.heap.size + 2, 2, none⟩) (by dsimp only; omega) (.int .i64 (oneN (false)))).other (p := ⟨w.heap.size + 2, 3, none⟩) (by dsimp only; omega) (.int .i64 c)).put4S (.int .i64 (n + 1)) (.int .i64 (oneN (false))) (.int .i64 (oneN (false))) (.int .i64 c)))
        have HB := Lib.hid (Below.put4S (((HI.out.below.setCell (p := ⟨w.heap.size + 2, 1, none⟩) (by dsimp only; omega) (.int .i64 (oneN (false)))).setCell (p := ⟨w.heap.size + 2, 2, none⟩) (by dsimp only; omega) (.int .i64 (oneN (false)))).setCell (p := ⟨w.heap.size + 2, 3, none⟩) (by dsimp only; omega) (.int .i64 c)) (b := w.heap.size + 1) (by omega) (.int .i64 (n + 1)) (.int .i64 (oneN (false))) (.int .i64 (oneN (false))) (.int .i64 c))
        go_wp2
        (try simp only [Exit.inBlock, Exit.then])
        exact bodyPost_ret (resCellS Try.results46 rfl (loadS HR.out)) rfl ⟨rfl, HB.out⟩
set_option linter.unusedSimpArgs false in
set_option linter.unusedVariables false in
set_option maxHeartbeats 16000000 in
set_option maxRecDepth 100000 in
theorem next4_any (n a b l c : Int) (hn : 0 ≤ n ∧ n ≤ 15) (w : World) :
    Calls Try.prog 46 #[.int .i64 4, .agg #[.int .i64 n, .int .i64 a, .int .i64 b, .int .i64 l], .int .i64 c] w fun e w' => e = .returned (.agg #[.int .i64 (nextN 4 ⟨n, a, b, l⟩ c).n, .int .i64 (nextN 4 ⟨n, a, b, l⟩ c).a, .int .i64 (nextN 4 ⟨n, a, b, l⟩ c).b, .int .i64 (nextN 4 ⟨n, a, b, l⟩ c).last]) ∧ Below w.heap.size w w' := by
  by_cases h0 : n = 0
  · subst h0
    clear hn
    have hx : nextN 4 ⟨0, a, b, l⟩ c = ⟨0 + 1, oneN (true), oneN (true), c⟩ := by simp [nextN, upR, downR, swN, upN, downN]
    rw [hx]
    have HX := Lib.hid hx
    have e1 : wrap64 (0 + 1) = 0 + 1 := by unfold wrap64; omega
    obtain ⟨w2, hw2⟩ : ∃ w2, (((w.alloc (.cells #[.int .i64 0, .int .i64 a, .int .i64 b, .int .i64 l] 64)).alloc (.cells #[.int .i64 0, .int .i64 0, .int .i64 0, .int .i64 0] 64)).alloc (.cells #[.int .i64 (1), .int .i64 a, .int .i64 b, .int .i64 0] 64)) = w2 := ⟨_, rfl⟩
    have hi : NexI w w2 0 a b l 0 := by rw [← hw2]; exact nexI w 0 a b l 0
    have HI := Lib.hid hi
    have HW2 := Lib.hid hw2
    clear hx hw2 hi
    go_enter Try.func46, Try.ntmps46
    go_upto_region 2 with fail
    rw [HW2.out]
    have c0 := HI.out.box.cell 0
    have d0 := HI.out.out.cell 0
    have f0 := HI.out.out.frozen 0
    have z0 := HI.out.res.cell 0
    have y0 := HI.out.res.frozen 0
    have c1 := HI.out.box.cell 1
    have d1 := HI.out.out.cell 1
    have f1 := HI.out.out.frozen 1
    have z1 := HI.out.res.cell 1
    have y1 := HI.out.res.frozen 1
    have c2 := HI.out.box.cell 2
    have d2 := HI.out.out.cell 2
    have f2 := HI.out.out.frozen 2
    have z2 := HI.out.res.cell 2
    have y2 := HI.out.res.frozen 2
    have c3 := HI.out.box.cell 3
    have d3 := HI.out.out.cell 3
    have f3 := HI.out.out.frozen 3
    have z3 := HI.out.res.cell 3
    have y3 := HI.out.res.frozen 3
    replace d0 : w2.cell? ⟨w.heap.size + 2, 0, none⟩ = some (.int .i64 1) := d0
    simp only [List.getElem?_cons_zero, List.getElem?_cons_succ] at c0 d0 z0 c1 d1 z1 c2 d2 z2 c3 d3 z3
    have l0 := HI.out.box.lt
    have l1 := HI.out.res.lt
    have l2 := HI.out.out.lt
    go_wp2_with fail
    refine (one14_any (true) _).mono ?_
    rintro e w3 ⟨rfl, rfl⟩
    go_wp2_with fail
    refine (one14_any (true) _).mono ?_
    rintro e w4 ⟨rfl, rfl⟩
    have HR := Lib.hid (((((HI.out.res.other (p := ⟨w.heap.size + 2, 1, none⟩) (by dsimp only; omega) (.int .i64 (oneN (true)))).other (p := ⟨w.heap.size + 2, 2, none⟩) (by dsimp only; omega) (.int .i64 (oneN (true)))).other (p := ⟨w.heap.size + 2, 3, none⟩) (by dsimp only; omega) (.int .i64 c)).put4S (.int .i64 (1)) (.int .i64 (oneN (true))) (.int .i64 (oneN (true))) (.int .i64 c)))
    have HB := Lib.hid (Below.put4S (((HI.out.below.setCell (p := ⟨w.heap.size + 2, 1, none⟩) (by dsimp only; omega) (.int .i64 (oneN (true)))).setCell (p := ⟨w.heap.size + 2, 2, none⟩) (by dsimp only; omega) (.int .i64 (oneN (true)))).setCell (p := ⟨w.heap.size + 2, 3, none⟩) (by dsimp only; omega) (.int .i64 c)) (b := w.heap.size + 1) (by omega) (.int .i64 (1)) (.int .i64 (oneN (true))) (.int .i64 (oneN (true))) (.int .i64 c))
    go_wp2
    (try simp only [Exit.inBlock, Exit.then])
    exact bodyPost_ret (resCellS Try.results46 rfl (loadS HR.out)) rfl ⟨rfl, HB.out⟩
  · skip
    by_cases ha : a = 1
    · by_cases hb : b = 1
      · by_cases hp : n % 2 = 0
        · skip
          have hx : nextN 4 ⟨n, a, b, l⟩ c = ⟨n + 1, oneN (decide (c < l)), oneN (decide (l < c)), c⟩ := by simp [nextN, upR, downR, swN, upN, downN, h0, ha, hb, hp]
          rw [hx]
          have HX := Lib.hid hx
          have e1 : wrap64 (n + 1) = n + 1 := by unfold wrap64; omega
          obtain ⟨w2, hw2⟩ : ∃ w2, (((w.alloc (.cells #[.int .i64 n, .int .i64 a, .int .i64 b, .int .i64 l] 64)).alloc (.cells #[.int .i64 0, .int .i64 0, .int .i64 0, .int .i64 0] 64)).alloc (.cells #[.int .i64 (n + 1), .int .i64 a, .int .i64 b, .int .i64 0] 64)) = w2 := ⟨_, rfl⟩
          have hi : NexI w w2 n a b l 0 := by rw [← hw2]; exact nexI w n a b l 0
          have HI := Lib.hid hi
          have HW2 := Lib.hid hw2
          have g0 : (n == 0) = false := beq_false_of_ne h0
          have g1 : (a == 1) = true := by rw [ha]; rfl
          have g2 : (b == 1) = true := by rw [hb]; rfl
          have g3 : ((n : Int).tmod 2 == 0) = true := by
            have : (n : Int).tmod 2 = n % 2 := Int.tmod_eq_emod_of_nonneg (by omega)
            rw [this]; rw [hp]; rfl
          have g4 : (n % 2 == 0) = true := by rw [hp]; rfl
          clear hx hw2 hi h0 ha hb hp
          go_enter Try.func46, Try.ntmps46
          go_upto_region 2 with fail
          rw [HW2.out]
          have c0 := HI.out.box.cell 0
          have d0 := HI.out.out.cell 0
          have f0 := HI.out.out.frozen 0
          have z0 := HI.out.res.cell 0
          have y0 := HI.out.res.frozen 0
          have c1 := HI.out.box.cell 1
          have d1 := HI.out.out.cell 1
          have f1 := HI.out.out.frozen 1
          have z1 := HI.out.res.cell 1
          have y1 := HI.out.res.frozen 1
          have c2 := HI.out.box.cell 2
          have d2 := HI.out.out.cell 2
          have f2 := HI.out.out.frozen 2
          have z2 := HI.out.res.cell 2
          have y2 := HI.out.res.frozen 2
          have c3 := HI.out.box.cell 3
          have d3 := HI.out.out.cell 3
          have f3 := HI.out.out.frozen 3
          have z3 := HI.out.res.cell 3
          have y3 := HI.out.res.frozen 3
          simp only [List.getElem?_cons_zero, List.getElem?_cons_succ] at c0 d0 z0 c1 d1 z1 c2 d2 z2 c3 d3 z3
          have l0 := HI.out.box.lt
          have l1 := HI.out.res.lt
          have l2 := HI.out.out.lt
          go_wp2_with fail
          refine (one14_any (decide (c < l)) _).mono ?_
          rintro e w3 ⟨rfl, rfl⟩
          go_wp2_with fail
          refine (one14_any (decide (l < c)) _).mono ?_
          rintro e w4 ⟨rfl, rfl⟩
          have HR := Lib.hid (((((HI.out.res.other (p := ⟨w.heap.size + 2, 1, none⟩) (by dsimp only; omega) (.int .i64 (oneN (decide (c < l))))).other (p := ⟨w.heap.size + 2, 2, none⟩) (by dsimp only; omega) (.int .i64 (oneN (decide (l < c))))).other (p := ⟨w.heap.size + 2, 3, none⟩) (by dsimp only; omega) (.int .i64 c)).put4S (.int .i64 (n + 1)) (.int .i64 (oneN (decide (c < l)))) (.int .i64 (oneN (decide (l < c)))) (.int .i64 c)))
          have HB := Lib.hid (Below.put4S (((HI.out.below.setCell (p := ⟨w.heap.size + 2, 1, none⟩) (by dsimp only; omega) (.int .i64 (oneN (decide (c < l))))).setCell (p := ⟨w.heap.size + 2, 2, none⟩) (by dsimp only; omega) (.int .i64 (oneN (decide (l < c))))).setCell (p := ⟨w.heap.size + 2, 3, none⟩) (by dsimp only; omega) (.int .i64 c)) (b := w.heap.size + 1) (by omega) (.int .i64 (n + 1)) (.int .i64 (oneN (decide (c < l)))) (.int .i64 (oneN (decide (l < c)))) (.int .i64 c))
          go_wp2
          (try simp only [Exit.inBlock, Exit.then])
          exact bodyPost_ret (resCellS Try.results46 rfl (loadS HR.out)) rfl ⟨rfl, HB.out⟩
        · skip
          have hx : nextN 4 ⟨n, a, b, l⟩ c = ⟨n + 1, oneN (decide (l < c)), oneN (decide (c < l)), c⟩ := by simp [nextN, upR, downR, swN, upN, downN, h0, ha, hb, hp]
          rw [hx]
          have HX := Lib.hid hx
          have e1 : wrap64 (n + 1) = n + 1 := by unfold wrap64; omega
          obtain ⟨w2, hw2⟩ : ∃ w2, (((w.alloc (.cells #[.int .i64 n, .int .i64 a, .int .i64 b, .int .i64 l] 64)).alloc (.cells #[.int .i64 0, .int .i64 0, .int .i64 0, .int .i64 0] 64)).alloc (.cells #[.int .i64 (n + 1), .int .i64 a, .int .i64 b, .int .i64 0] 64)) = w2 := ⟨_, rfl⟩
          have hi : NexI w w2 n a b l 0 := by rw [← hw2]; exact nexI w n a b l 0
          have HI := Lib.hid hi
          have HW2 := Lib.hid hw2
          have g0 : (n == 0) = false := beq_false_of_ne h0
          have g1 : (a == 1) = true := by rw [ha]; rfl
          have g2 : (b == 1) = true := by rw [hb]; rfl
          have g3 : ((n : Int).tmod 2 == 0) = false := by
            have : (n : Int).tmod 2 = n % 2 := Int.tmod_eq_emod_of_nonneg (by omega)
            rw [this]; exact beq_false_of_ne hp
          have g4 : (n % 2 == 0) = false := beq_false_of_ne hp
          clear hx hw2 hi h0 ha hb hp
          go_enter Try.func46, Try.ntmps46
          go_upto_region 2 with fail
          rw [HW2.out]
          have c0 := HI.out.box.cell 0
          have d0 := HI.out.out.cell 0
          have f0 := HI.out.out.frozen 0
          have z0 := HI.out.res.cell 0
          have y0 := HI.out.res.frozen 0
          have c1 := HI.out.box.cell 1
          have d1 := HI.out.out.cell 1
          have f1 := HI.out.out.frozen 1
          have z1 := HI.out.res.cell 1
          have y1 := HI.out.res.frozen 1
          have c2 := HI.out.box.cell 2
          have d2 := HI.out.out.cell 2
          have f2 := HI.out.out.frozen 2
          have z2 := HI.out.res.cell 2
          have y2 := HI.out.res.frozen 2
          have c3 := HI.out.box.cell 3
          have d3 := HI.out.out.cell 3
          have f3 := HI.out.out.frozen 3
          have z3 := HI.out.res.cell 3
          have y3 := HI.out.res.frozen 3
          simp only [List.getElem?_cons_zero, List.getElem?_cons_succ] at c0 d0 z0 c1 d1 z1 c2 d2 z2 c3 d3 z3
          have l0 := HI.out.box.lt
          have l1 := HI.out.res.lt
          have l2 := HI.out.out.lt
          go_wp2_with fail
          refine (one14_any (decide (l < c)) _).mono ?_
          rintro e w3 ⟨rfl, rfl⟩
          go_wp2_with fail
          refine (one14_any (decide (c < l)) _).mono ?_
          rintro e w4 ⟨rfl, rfl⟩
          have HR := Lib.hid (((((HI.out.res.other (p := ⟨w.heap.size + 2, 1, none⟩) (by dsimp only; omega) (.int .i64 (oneN (decide (l < c))))).other (p := ⟨w.heap.size + 2, 2, none⟩) (by dsimp only; omega) (.int .i64 (oneN (decide (c < l))))).other (p := ⟨w.heap.size + 2, 3, none⟩) (by dsimp only; omega) (.int .i64 c)).put4S (.int .i64 (n + 1)) (.int .i64 (oneN (decide (l < c)))) (.int .i64 (oneN (decide (c < l)))) (.int .i64 c)))
          have HB := Lib.hid (Below.put4S (((HI.out.below.setCell (p := ⟨w.heap.size + 2, 1, none⟩) (by dsimp only; omega) (.int .i64 (oneN (decide (l < c))))).setCell (p := ⟨w.heap.size + 2, 2, none⟩) (by dsimp only; omega) (.int .i64 (oneN (decide (c < l))))).setCell (p := ⟨w.heap.size + 2, 3, none⟩) (by dsimp only; omega) (.int .i64 c)) (b := w.heap.size + 1) (by omega) (.int .i64 (n + 1)) (.int .i64 (oneN (decide (l < c)))) (.int .i64 (oneN (decide (c < l)))) (.int .i64 c))
          go_wp2
          (try simp only [Exit.inBlock, Exit.then])
          exact bodyPost_ret (resCellS Try.results46 rfl (loadS HR.out)) rfl ⟨rfl, HB.out⟩
      · by_cases hp : n % 2 = 0
        · skip
          have hx : nextN 4 ⟨n, a, b, l⟩ c = ⟨n + 1, oneN (decide (c < l)), oneN (false), c⟩ := by simp [nextN, upR, downR, swN, upN, downN, h0, ha, hb, hp]
          rw [hx]
          have HX := Lib.hid hx
          have e1 : wrap64 (n + 1) = n + 1 := by unfold wrap64; omega
          obtain ⟨w2, hw2⟩ : ∃ w2, (((w.alloc (.cells #[.int .i64 n, .int .i64 a, .int .i64 b, .int .i64 l] 64)).alloc (.cells #[.int .i64 0, .int .i64 0, .int .i64 0, .int .i64 0] 64)).alloc (.cells #[.int .i64 (n + 1), .int .i64 a, .int .i64 b, .int .i64 0] 64)) = w2 := ⟨_, rfl⟩
          have hi : NexI w w2 n a b l 0 := by rw [← hw2]; exact nexI w n a b l 0
          have HI := Lib.hid hi
          have HW2 := Lib.hid hw2
          have g0 : (n == 0) = false := beq_false_of_ne h0
          have g1 : (a == 1) = true := by rw [ha]; rfl
          have g2 : (b == 1) = false := beq_false_of_ne hb
          have g3 : ((n : Int).tmod 2 == 0) = true := by
            have : (n : Int).tmod 2 = n % 2 := Int.tmod_eq_emod_of_nonneg (by omega)
            rw [this]; rw [hp]; rfl
          have g4 : (n % 2 == 0) = true := by rw [hp]; rfl
          clear hx hw2 hi h0 ha hb hp
          go_enter Try.func46, Try.ntmps46
          go_upto_region 2 with fail
          rw [HW2.out]
          have c0 := HI.out.box.cell 0
          have d0 := HI.out.out.cell 0
          have f0 := HI.out.out.frozen 0
          have z0 := HI.out.res.cell 0
          have y0 := HI.out.res.frozen 0
          have c1 := HI.out.box.cell 1
          have d1 := HI.out.out.cell 1
          have f1 := HI.out.out.frozen 1
          have z1 := HI.out.res.cell 1
          have y1 := HI.out.res.frozen 1
          have c2 := HI.out.box.cell 2
          have d2 := HI.out.out.cell 2
          have f2 := HI.out.out.frozen 2
          have z2 := HI.out.res.cell 2
          have y2 := HI.out.res.frozen 2
          have c3 := HI.out.box.cell 3
          have d3 := HI.out.out.cell 3
          have f3 := HI.out.out.frozen 3
          have z3 := HI.out.res.cell 3
          have y3 := HI.out.res.frozen 3
          simp only [List.getElem?_cons_zero, List.getElem?_cons_succ] at c0 d0 z0 c1 d1 z1 c2 d2 z2 c3 d3 z3
          have l0 := HI.out.box.lt
          have l1 := HI.out.res.lt
          have l2 := HI.out.out.lt
          go_wp2_with fail
          refine (one14_any (decide (c < l)) _).mono ?_
          rintro e w3 ⟨rfl, rfl⟩
          go_wp2_with fail
          refine (one14_any (false) _).mono ?_
          rintro e w4 ⟨rfl, rfl⟩
          have HR := Lib.hid (((((HI.out.res.other (p := ⟨w.heap.size + 2, 1, none⟩) (by dsimp only; omega) (.int .i64 (oneN (decide (c < l))))).other (p := ⟨w.heap.size + 2, 2, none⟩) (by dsimp only; omega) (.int .i64 (oneN (false)))).other (p := ⟨w.heap.size + 2, 3, none⟩) (by dsimp only; omega) (.int .i64 c)).put4S (.int .i64 (n + 1)) (.int .i64 (oneN (decide (c < l)))) (.int .i64 (oneN (false))) (.int .i64 c)))
          have HB := Lib.hid (Below.put4S (((HI.out.below.setCell (p := ⟨w.heap.size + 2, 1, none⟩) (by dsimp only; omega) (.int .i64 (oneN (decide (c < l))))).setCell (p := ⟨w.heap.size + 2, 2, none⟩) (by dsimp only; omega) (.int .i64 (oneN (false)))).setCell (p := ⟨w.heap.size + 2, 3, none⟩) (by dsimp only; omega) (.int .i64 c)) (b := w.heap.size + 1) (by omega) (.int .i64 (n + 1)) (.int .i64 (oneN (decide (c < l)))) (.int .i64 (oneN (false))) (.int .i64 c))
          go_wp2
          (try simp only [Exit.inBlock, Exit.then])
          exact bodyPost_ret (resCellS Try.results46 rfl (loadS HR.out)) rfl ⟨rfl, HB.out⟩
        · skip
          have hx : nextN 4 ⟨n, a, b, l⟩ c = ⟨n + 1, oneN (decide (l < c)), oneN (false), c⟩ := by simp [nextN, upR, downR, swN, upN, downN, h0, ha, hb, hp]
          rw [hx]
          have HX := Lib.hid hx
          have e1 : wrap64 (n + 1) = n + 1 := by unfold wrap64; omega
          obtain ⟨w2, hw2⟩ : ∃ w2, (((w.alloc (.cells #[.int .i64 n, .int .i64 a, .int .i64 b, .int .i64 l] 64)).alloc (.cells #[.int .i64 0, .int .i64 0, .int .i64 0, .int .i64 0] 64)).alloc (.cells #[.int .i64 (n + 1), .int .i64 a, .int .i64 b, .int .i64 0] 64)) = w2 := ⟨_, rfl⟩
          have hi : NexI w w2 n a b l 0 := by rw [← hw2]; exact nexI w n a b l 0
          have HI := Lib.hid hi
          have HW2 := Lib.hid hw2
          have g0 : (n == 0) = false := beq_false_of_ne h0
          have g1 : (a == 1) = true := by rw [ha]; rfl
          have g2 : (b == 1) = false := beq_false_of_ne hb
          have g3 : ((n : Int).tmod 2 == 0) = false := by
            have : (n : Int).tmod 2 = n % 2 := Int.tmod_eq_emod_of_nonneg (by omega)
            rw [this]; exact beq_false_of_ne hp
          have g4 : (n % 2 == 0) = false := beq_false_of_ne hp
          clear hx hw2 hi h0 ha hb hp
          go_enter Try.func46, Try.ntmps46
          go_upto_region 2 with fail
          rw [HW2.out]
          have c0 := HI.out.box.cell 0
          have d0 := HI.out.out.cell 0
          have f0 := HI.out.out.frozen 0
          have z0 := HI.out.res.cell 0
          have y0 := HI.out.res.frozen 0
          have c1 := HI.out.box.cell 1
          have d1 := HI.out.out.cell 1
          have f1 := HI.out.out.frozen 1
          have z1 := HI.out.res.cell 1
          have y1 := HI.out.res.frozen 1
          have c2 := HI.out.box.cell 2
          have d2 := HI.out.out.cell 2
          have f2 := HI.out.out.frozen 2
          have z2 := HI.out.res.cell 2
          have y2 := HI.out.res.frozen 2
          have c3 := HI.out.box.cell 3
          have d3 := HI.out.out.cell 3
          have f3 := HI.out.out.frozen 3
          have z3 := HI.out.res.cell 3
          have y3 := HI.out.res.frozen 3
          simp only [List.getElem?_cons_zero, List.getElem?_cons_succ] at c0 d0 z0 c1 d1 z1 c2 d2 z2 c3 d3 z3
          have l0 := HI.out.box.lt
          have l1 := HI.out.res.lt
          have l2 := HI.out.out.lt
          go_wp2_with fail
          refine (one14_any (decide (l < c)) _).mono ?_
          rintro e w3 ⟨rfl, rfl⟩
          go_wp2_with fail
          refine (one14_any (false) _).mono ?_
          rintro e w4 ⟨rfl, rfl⟩
          have HR := Lib.hid (((((HI.out.res.other (p := ⟨w.heap.size + 2, 1, none⟩) (by dsimp only; omega) (.int .i64 (oneN (decide (l < c))))).other (p := ⟨w.heap.size + 2, 2, none⟩) (by dsimp only; omega) (.int .i64 (oneN (false)))).other (p := ⟨w.heap.size + 2, 3, none⟩) (by dsimp only; omega) (.int .i64 c)).put4S (.int .i64 (n + 1)) (.int .i64 (oneN (decide (l < c)))) (.int .i64 (oneN (false))) (.int .i64 c)))
          have HB := Lib.hid (Below.put4S (((HI.out.below.setCell (p := ⟨w.heap.size + 2, 1, none⟩) (by dsimp only; omega) (.int .i64 (oneN (decide (l < c))))).setCell (p := ⟨w.heap.size + 2, 2, none⟩) (by dsimp only; omega) (.int .i64 (oneN (false)))).setCell (p := ⟨w.heap.size + 2, 3, none⟩) (by dsimp only; omega) (.int .i64 c)) (b := w.heap.size + 1) (by omega) (.int .i64 (n + 1)) (.int .i64 (oneN (decide (l < c)))) (.int .i64 (oneN (false))) (.int .i64 c))
          go_wp2
          (try simp only [Exit.inBlock, Exit.then])
          exact bodyPost_ret (resCellS Try.results46 rfl (loadS HR.out)) rfl ⟨rfl, HB.out⟩
    · by_cases hb : b = 1
      · by_cases hp : n % 2 = 0
        · skip
          have hx : nextN 4 ⟨n, a, b, l⟩ c = ⟨n + 1, oneN (false), oneN (decide (l < c)), c⟩ := by simp [nextN, upR, downR, swN, upN, downN, h0, ha, hb, hp]
          rw [hx]
          have HX := Lib.hid hx
          have e1 : wrap64 (n + 1) = n + 1 := by unfold wrap64; omega
          obtain ⟨w2, hw2⟩ : ∃ w2, (((w.alloc (.cells #[.int .i64 n, .int .i64 a, .int .i64 b, .int .i64 l] 64)).alloc (.cells #[.int .i64 0, .int .i64 0, .int .i64 0, .int .i64 0] 64)).alloc (.cells #[.int .i64 (n + 1), .int .i64 a, .int .i64 b, .int .i64 0] 64)) = w2 := ⟨_, rfl⟩
          have hi : NexI w w2 n a b l 0 := by rw [← hw2]; exact nexI w n a b l 0
          have HI := Lib.hid hi
          have HW2 := Lib.hid hw2
          have g0 : (n == 0) = false := beq_false_of_ne h0
          have g1 : (a == 1) = false := beq_false_of_ne ha
          have g2 : (b == 1) = true := by rw [hb]; rfl
          have g3 : ((n : Int).tmod 2 == 0) = true := by
            have : (n : Int).tmod 2 = n % 2 := Int.tmod_eq_emod_of_nonneg (by omega)
            rw [this]; rw [hp]; rfl
          have g4 : (n % 2 == 0) = true := by rw [hp]; rfl
          clear hx hw2 hi h0 ha hb hp
          go_enter Try.func46, Try.ntmps46
          go_upto_region 2 with fail
          rw [HW2.out]
          have c0 := HI.out.box.cell 0
          have d0 := HI.out.out.cell 0
          have f0 := HI.out.out.frozen 0
          have z0 := HI.out.res.cell 0
          have y0 := HI.out.res.frozen 0
          have c1 := HI.out.box.cell 1
          have d1 := HI.out.out.cell 1
          have f1 := HI.out.out.frozen 1
          have z1 := HI.out.res.cell 1
          have y1 := HI.out.res.frozen 1
          have c2 := HI.out.box.cell 2
          have d2 := HI.out.out.cell 2
          have f2 := HI.out.out.frozen 2
          have z2 := HI.out.res.cell 2
          have y2 := HI.out.res.frozen 2
          have c3 := HI.out.box.cell 3
          have d3 := HI.out.out.cell 3
          have f3 := HI.out.out.frozen 3
          have z3 := HI.out.res.cell 3
          have y3 := HI.out.res.frozen 3
          simp only [List.getElem?_cons_zero, List.getElem?_cons_succ] at c0 d0 z0 c1 d1 z1 c2 d2 z2 c3 d3 z3
          have l0 := HI.out.box.lt
          have l1 := HI.out.res.lt
          have l2 := HI.out.out.lt
          go_wp2_with fail
          refine (one14_any (false) _).mono ?_
          rintro e w3 ⟨rfl, rfl⟩
          go_wp2_with fail
          refine (one14_any (decide (l < c)) _).mono ?_
          rintro e w4 ⟨rfl, rfl⟩
          have HR := Lib.hid (((((HI.out.res.other (p := ⟨w.heap.size + 2, 1, none⟩) (by dsimp only; omega) (.int .i64 (oneN (false)))).other (p := ⟨w.heap.size + 2, 2, none⟩) (by dsimp only; omega) (.int .i64 (oneN (decide (l < c))))).other (p := ⟨w.heap.size + 2, 3, none⟩) (by dsimp only; omega) (.int .i64 c)).put4S (.int .i64 (n + 1)) (.int .i64 (oneN (false))) (.int .i64 (oneN (decide (l < c)))) (.int .i64 c)))
          have HB := Lib.hid (Below.put4S (((HI.out.below.setCell (p := ⟨w.heap.size + 2, 1, none⟩) (by dsimp only; omega) (.int .i64 (oneN (false)))).setCell (p := ⟨w.heap.size + 2, 2, none⟩) (by dsimp only; omega) (.int .i64 (oneN (decide (l < c))))).setCell (p := ⟨w.heap.size + 2, 3, none⟩) (by dsimp only; omega) (.int .i64 c)) (b := w.heap.size + 1) (by omega) (.int .i64 (n + 1)) (.int .i64 (oneN (false))) (.int .i64 (oneN (decide (l < c)))) (.int .i64 c))
          go_wp2
          (try simp only [Exit.inBlock, Exit.then])
          exact bodyPost_ret (resCellS Try.results46 rfl (loadS HR.out)) rfl ⟨rfl, HB.out⟩
        · skip
          have hx : nextN 4 ⟨n, a, b, l⟩ c = ⟨n + 1, oneN (false), oneN (decide (c < l)), c⟩ := by simp [nextN, upR, downR, swN, upN, downN, h0, ha, hb, hp]
          rw [hx]
          have HX := Lib.hid hx
          have e1 : wrap64 (n + 1) = n + 1 := by unfold wrap64; omega
          obtain ⟨w2, hw2⟩ : ∃ w2, (((w.alloc (.cells #[.int .i64 n, .int .i64 a, .int .i64 b, .int .i64 l] 64)).alloc (.cells #[.int .i64 0, .int .i64 0, .int .i64 0, .int .i64 0] 64)).alloc (.cells #[.int .i64 (n + 1), .int .i64 a, .int .i64 b, .int .i64 0] 64)) = w2 := ⟨_, rfl⟩
          have hi : NexI w w2 n a b l 0 := by rw [← hw2]; exact nexI w n a b l 0
          have HI := Lib.hid hi
          have HW2 := Lib.hid hw2
          have g0 : (n == 0) = false := beq_false_of_ne h0
          have g1 : (a == 1) = false := beq_false_of_ne ha
          have g2 : (b == 1) = true := by rw [hb]; rfl
          have g3 : ((n : Int).tmod 2 == 0) = false := by
            have : (n : Int).tmod 2 = n % 2 := Int.tmod_eq_emod_of_nonneg (by omega)
            rw [this]; exact beq_false_of_ne hp
          have g4 : (n % 2 == 0) = false := beq_false_of_ne hp
          clear hx hw2 hi h0 ha hb hp
          go_enter Try.func46, Try.ntmps46
          go_upto_region 2 with fail
          rw [HW2.out]
          have c0 := HI.out.box.cell 0
          have d0 := HI.out.out.cell 0
          have f0 := HI.out.out.frozen 0
          have z0 := HI.out.res.cell 0
          have y0 := HI.out.res.frozen 0
          have c1 := HI.out.box.cell 1
          have d1 := HI.out.out.cell 1
          have f1 := HI.out.out.frozen 1
          have z1 := HI.out.res.cell 1
          have y1 := HI.out.res.frozen 1
          have c2 := HI.out.box.cell 2
          have d2 := HI.out.out.cell 2
          have f2 := HI.out.out.frozen 2
          have z2 := HI.out.res.cell 2
          have y2 := HI.out.res.frozen 2
          have c3 := HI.out.box.cell 3
          have d3 := HI.out.out.cell 3
          have f3 := HI.out.out.frozen 3
          have z3 := HI.out.res.cell 3
          have y3 := HI.out.res.frozen 3
          simp only [List.getElem?_cons_zero, List.getElem?_cons_succ] at c0 d0 z0 c1 d1 z1 c2 d2 z2 c3 d3 z3
          have l0 := HI.out.box.lt
          have l1 := HI.out.res.lt
          have l2 := HI.out.out.lt
          go_wp2_with fail
          refine (one14_any (false) _).mono ?_
          rintro e w3 ⟨rfl, rfl⟩
          go_wp2_with fail
          refine (one14_any (decide (c < l)) _).mono ?_
          rintro e w4 ⟨rfl, rfl⟩
          have HR := Lib.hid (((((HI.out.res.other (p := ⟨w.heap.size + 2, 1, none⟩) (by dsimp only; omega) (.int .i64 (oneN (false)))).other (p := ⟨w.heap.size + 2, 2, none⟩) (by dsimp only; omega) (.int .i64 (oneN (decide (c < l))))).other (p := ⟨w.heap.size + 2, 3, none⟩) (by dsimp only; omega) (.int .i64 c)).put4S (.int .i64 (n + 1)) (.int .i64 (oneN (false))) (.int .i64 (oneN (decide (c < l)))) (.int .i64 c)))
          have HB := Lib.hid (Below.put4S (((HI.out.below.setCell (p := ⟨w.heap.size + 2, 1, none⟩) (by dsimp only; omega) (.int .i64 (oneN (false)))).setCell (p := ⟨w.heap.size + 2, 2, none⟩) (by dsimp only; omega) (.int .i64 (oneN (decide (c < l))))).setCell (p := ⟨w.heap.size + 2, 3, none⟩) (by dsimp only; omega) (.int .i64 c)) (b := w.heap.size + 1) (by omega) (.int .i64 (n + 1)) (.int .i64 (oneN (false))) (.int .i64 (oneN (decide (c < l)))) (.int .i64 c))
          go_wp2
          (try simp only [Exit.inBlock, Exit.then])
          exact bodyPost_ret (resCellS Try.results46 rfl (loadS HR.out)) rfl ⟨rfl, HB.out⟩
      · by_cases hp : n % 2 = 0
        · skip
          have hx : nextN 4 ⟨n, a, b, l⟩ c = ⟨n + 1, oneN (false), oneN (false), c⟩ := by simp [nextN, upR, downR, swN, upN, downN, h0, ha, hb, hp]
          rw [hx]
          have HX := Lib.hid hx
          have e1 : wrap64 (n + 1) = n + 1 := by unfold wrap64; omega
          obtain ⟨w2, hw2⟩ : ∃ w2, (((w.alloc (.cells #[.int .i64 n, .int .i64 a, .int .i64 b, .int .i64 l] 64)).alloc (.cells #[.int .i64 0, .int .i64 0, .int .i64 0, .int .i64 0] 64)).alloc (.cells #[.int .i64 (n + 1), .int .i64 a, .int .i64 b, .int .i64 0] 64)) = w2 := ⟨_, rfl⟩
          have hi : NexI w w2 n a b l 0 := by rw [← hw2]; exact nexI w n a b l 0
          have HI := Lib.hid hi
          have HW2 := Lib.hid hw2
          have g0 : (n == 0) = false := beq_false_of_ne h0
          have g1 : (a == 1) = false := beq_false_of_ne ha
          have g2 : (b == 1) = false := beq_false_of_ne hb
          have g3 : ((n : Int).tmod 2 == 0) = true := by
            have : (n : Int).tmod 2 = n % 2 := Int.tmod_eq_emod_of_nonneg (by omega)
            rw [this]; rw [hp]; rfl
          have g4 : (n % 2 == 0) = true := by rw [hp]; rfl
          clear hx hw2 hi h0 ha hb hp
          go_enter Try.func46, Try.ntmps46
          go_upto_region 2 with fail
          rw [HW2.out]
          have c0 := HI.out.box.cell 0
          have d0 := HI.out.out.cell 0
          have f0 := HI.out.out.frozen 0
          have z0 := HI.out.res.cell 0
          have y0 := HI.out.res.frozen 0
          have c1 := HI.out.box.cell 1
          have d1 := HI.out.out.cell 1
          have f1 := HI.out.out.frozen 1
          have z1 := HI.out.res.cell 1
          have y1 := HI.out.res.frozen 1
          have c2 := HI.out.box.cell 2
          have d2 := HI.out.out.cell 2
          have f2 := HI.out.out.frozen 2
          have z2 := HI.out.res.cell 2
          have y2 := HI.out.res.frozen 2
          have c3 := HI.out.box.cell 3
          have d3 := HI.out.out.cell 3
          have f3 := HI.out.out.frozen 3
          have z3 := HI.out.res.cell 3
          have y3 := HI.out.res.frozen 3
          simp only [List.getElem?_cons_zero, List.getElem?_cons_succ] at c0 d0 z0 c1 d1 z1 c2 d2 z2 c3 d3 z3
          have l0 := HI.out.box.lt
          have l1 := HI.out.res.lt
          have l2 := HI.out.out.lt
          go_wp2_with fail
          refine (one14_any (false) _).mono ?_
          rintro e w3 ⟨rfl, rfl⟩
          go_wp2_with fail
          refine (one14_any (false) _).mono ?_
          rintro e w4 ⟨rfl, rfl⟩
          have HR := Lib.hid (((((HI.out.res.other (p := ⟨w.heap.size + 2, 1, none⟩) (by dsimp only; omega) (.int .i64 (oneN (false)))).other (p := ⟨w.heap.size + 2, 2, none⟩) (by dsimp only; omega) (.int .i64 (oneN (false)))).other (p := ⟨w.heap.size + 2, 3, none⟩) (by dsimp only; omega) (.int .i64 c)).put4S (.int .i64 (n + 1)) (.int .i64 (oneN (false))) (.int .i64 (oneN (false))) (.int .i64 c)))
          have HB := Lib.hid (Below.put4S (((HI.out.below.setCell (p := ⟨w.heap.size + 2, 1, none⟩) (by dsimp only; omega) (.int .i64 (oneN (false)))).setCell (p := ⟨w.heap.size + 2, 2, none⟩) (by dsimp only; omega) (.int .i64 (oneN (false)))).setCell (p := ⟨w.heap.size + 2, 3, none⟩) (by dsimp only; omega) (.int .i64 c)) (b := w.heap.size + 1) (by omega) (.int .i64 (n + 1)) (.int .i64 (oneN (false))) (.int .i64 (oneN (false))) (.int .i64 c))
          go_wp2
          (try simp only [Exit.inBlock, Exit.then])
          exact bodyPost_ret (resCellS Try.results46 rfl (loadS HR.out)) rfl ⟨rfl, HB.out⟩
        · skip
          have hx : nextN 4 ⟨n, a, b, l⟩ c = ⟨n + 1, oneN (false), oneN (false), c⟩ := by simp [nextN, upR, downR, swN, upN, downN, h0, ha, hb, hp]
          rw [hx]
          have HX := Lib.hid hx
          have e1 : wrap64 (n + 1) = n + 1 := by unfold wrap64; omega
          obtain ⟨w2, hw2⟩ : ∃ w2, (((w.alloc (.cells #[.int .i64 n, .int .i64 a, .int .i64 b, .int .i64 l] 64)).alloc (.cells #[.int .i64 0, .int .i64 0, .int .i64 0, .int .i64 0] 64)).alloc (.cells #[.int .i64 (n + 1), .int .i64 a, .int .i64 b, .int .i64 0] 64)) = w2 := ⟨_, rfl⟩
          have hi : NexI w w2 n a b l 0 := by rw [← hw2]; exact nexI w n a b l 0
          have HI := Lib.hid hi
          have HW2 := Lib.hid hw2
          have g0 : (n == 0) = false := beq_false_of_ne h0
          have g1 : (a == 1) = false := beq_false_of_ne ha
          have g2 : (b == 1) = false := beq_false_of_ne hb
          have g3 : ((n : Int).tmod 2 == 0) = false := by
            have : (n : Int).tmod 2 = n % 2 := Int.tmod_eq_emod_of_nonneg (by omega)
            rw [this]; exact beq_false_of_ne hp
          have g4 : (n % 2 == 0) = false := beq_false_of_ne hp
          clear hx hw2 hi h0 ha hb hp
          go_enter Try.func46, Try.ntmps46
          go_upto_region 2 with fail
          rw [HW2.out]
          have c0 := HI.out.box.cell 0
          have d0 := HI.out.out.cell 0
          have f0 := HI.out.out.frozen 0
          have z0 := HI.out.res.cell 0
          have y0 := HI.out.res.frozen 0
          have c1 := HI.out.box.cell 1
          have d1 := HI.out.out.cell 1
          have f1 := HI.out.out.frozen 1
          have z1 := HI.out.res.cell 1
          have y1 := HI.out.res.frozen 1
          have c2 := HI.out.box.cell 2
          have d2 := HI.out.out.cell 2
          have f2 := HI.out.out.frozen 2
          have z2 := HI.out.res.cell 2
          have y2 := HI.out.res.frozen 2
          have c3 := HI.out.box.cell 3
          have d3 := HI.out.out.cell 3
          have f3 := HI.out.out.frozen 3
          have z3 := HI.out.res.cell 3
          have y3 := HI.out.res.frozen 3
          simp only [List.getElem?_cons_zero, List.getElem?_cons_succ] at c0 d0 z0 c1 d1 z1 c2 d2 z2 c3 d3 z3
          have l0 := HI.out.box.lt
          have l1 := HI.out.res.lt
          have l2 := HI.out.out.lt
          go_wp2_with fail
          refine (one14_any (false) _).mono ?_
          rintro e w3 ⟨rfl, rfl⟩
          go_wp2_with fail
          refine (one14_any (false) _).mono ?_
          rintro e w4 ⟨rfl, rfl⟩
          have HR := Lib.hid (((((HI.out.res.other (p := ⟨w.heap.size + 2, 1, none⟩) (by dsimp only; omega) (.int .i64 (oneN (false)))).other (p := ⟨w.heap.size + 2, 2, none⟩) (by dsimp only; omega) (.int .i64 (oneN (false)))).other (p := ⟨w.heap.size + 2, 3, none⟩) (by dsimp only; omega) (.int .i64 c)).put4S (.int .i64 (n + 1)) (.int .i64 (oneN (false))) (.int .i64 (oneN (false))) (.int .i64 c)))
          have HB := Lib.hid (Below.put4S (((HI.out.below.setCell (p := ⟨w.heap.size + 2, 1, none⟩) (by dsimp only; omega) (.int .i64 (oneN (false)))).setCell (p := ⟨w.heap.size + 2, 2, none⟩) (by dsimp only; omega) (.int .i64 (oneN (false)))).setCell (p := ⟨w.heap.size + 2, 3, none⟩) (by dsimp only; omega) (.int .i64 c)) (b := w.heap.size + 1) (by omega) (.int .i64 (n + 1)) (.int .i64 (oneN (false))) (.int .i64 (oneN (false))) (.int .i64 c))
          go_wp2
          (try simp only [Exit.inBlock, Exit.then])
          exact bodyPost_ret (resCellS Try.results46 rfl (loadS HR.out)) rfl ⟨rfl, HB.out⟩
end Go.Proofs.Ytjonpcpcokapkaa
