/- nelson's stepped and allButOne. -/
import Derived.Test.YtjonpcpcokapkaaNelPb
import Derived.RegionTactic
import Derived.BigRegion
namespace Go.Proofs.Ytjonpcpcokapkaa
open Go.RowKit

theorem Has.put6 {w : World} {b : Nat} {a0 a1 a2 a3 a4 a5 : Value} {T : TypeId} (h : Has w b [a0, a1, a2, a3, a4, a5] T) (c0 c1 c2 c3 c4 c5 : Value) : Has ((((((w.setCell ⟨b, 0, none⟩ c0).setCell ⟨b, 1, none⟩ c1).setCell ⟨b, 2, none⟩ c2).setCell ⟨b, 3, none⟩ c3).setCell ⟨b, 4, none⟩ c4).setCell ⟨b, 5, none⟩ c5) b [c0, c1, c2, c3, c4, c5] T :=
  (((((h.set 0 c0).set 1 c1).set 2 c2).set 3 c3).set 4 c4).set 5 c5
theorem Below.put6 {B b : Nat} {x y : World} (h : Below B x y) (hb : B ≤ b) (c0 c1 c2 c3 c4 c5 : Value) : Below B x ((((((y.setCell ⟨b, 0, none⟩ c0).setCell ⟨b, 1, none⟩ c1).setCell ⟨b, 2, none⟩ c2).setCell ⟨b, 3, none⟩ c3).setCell ⟨b, 4, none⟩ c4).setCell ⟨b, 5, none⟩ c5) :=
  (((((h.setCell (p := ⟨b, 0, none⟩) hb c0).setCell (p := ⟨b, 1, none⟩) hb c1).setCell (p := ⟨b, 2, none⟩) hb c2).setCell (p := ⟨b, 3, none⟩) hb c3).setCell (p := ⟨b, 4, none⟩) hb c4).setCell (p := ⟨b, 5, none⟩) hb c5
theorem sizeP : ((Try.prog).info? 55).map (·.size) = some 6 := by kernel_rfl
theorem loadP {w : World} {b : Nat} {c0 c1 c2 c3 c4 c5 : Value} (h : Has w b [c0, c1, c2, c3, c4, c5] 55) : (loadVar 55 ⟨b, 0, none⟩).run Try.prog w = .ok (.agg #[c0, c1, c2, c3, c4, c5]) w :=
  run_loadVar_mid w b 0 55 [c0, c1, c2, c3, c4, c5] _ h.range Try.underlying55 rfl sizeP
theorem Has.drew {w : World} {b : Nat} {cs : List Value} {T : TypeId} (h : Has w b cs T) : Has w.drew b cs T := h
abbrev zeroO : Obj := .cells #[.bool false, .int .i64 0, .int .i64 0, .int .i64 0, .int .i64 0, .int .i64 0] 55
abbrev zeroV : List Value := [.bool false, .int .i64 0, .int .i64 0, .int .i64 0, .int .i64 0, .int .i64 0]
abbrev lookV (c : Int) (b : Bool) (cl st sd na nb : Int) : List Value := [.int .i64 c, .bool b, .int .i64 cl, .int .i64 st, .int .i64 sd, .int .i64 na, .int .i64 nb]
/-- Three blocks were made. -/
structure Three (w w2 : World) (A B C : List Value) (TA TB TC : TypeId) : Prop where
  below : Below w.heap.size w w2
  a : Has w2 w.heap.size A TA
  b : Has w2 (w.heap.size + 1) B TB
  c : Has w2 (w.heap.size + 2) C TC
theorem three (w : World) (A B C : List Value) (TA TB TC : TypeId) : Three w (((w.alloc (.cells A.toArray TA)).alloc (.cells B.toArray TB)).alloc (.cells C.toArray TC)) A B C TA TB TC where
  below := (((Below.refl _ _).alloc (Nat.le_refl _) _).alloc (by simp) _).alloc (by simp; omega) _
  a := ((Has.new w _ _).alloc _).alloc _
  b := by
    have := (Has.new (w.alloc (.cells A.toArray TA)) B TB).alloc (.cells C.toArray TC)
    rw [show (w.alloc (.cells A.toArray TA)).heap.size = w.heap.size + 1 by simp] at this
    exact this
  c := by
    have := Has.new ((w.alloc (.cells A.toArray TA)).alloc (.cells B.toArray TB)) C TC
    rw [show ((w.alloc (.cells A.toArray TA)).alloc (.cells B.toArray TB)).heap.size = w.heap.size + 2 by simp] at this
    exact this
set_option linter.unusedSimpArgs false in
set_option maxHeartbeats 4000000 in
set_option maxRecDepth 100000 in
theorem stepped_any (c : Int) (p : Past) (w : World) : Calls Try.prog 50 #[lookA c p] w fun e w' => e = .returned (pastA (steppedN c p)) ∧ Below w.heap.size w w' := by
  obtain ⟨b, cl, st, sd, na, nb⟩ := p
  have HC := Lib.hid (cmp_any c cl)
  unfold steppedN
  dsimp only
  obtain ⟨D, hD⟩ : ∃ D, cmpN c cl = D := ⟨_, rfl⟩
  rw [hD] at HC ⊢
  clear hD
  cases b with
  | true =>
    rw [if_pos rfl]
    obtain ⟨w2, hw2⟩ : ∃ w2, (((w.alloc (lookO c ⟨true, cl, st, sd, na, nb⟩)).alloc zeroO).alloc (.cells #[.bool true, .int .i64 c, .int .i64 D, .int .i64 0, .int .i64 0, .int .i64 0] 55)) = w2 := ⟨_, rfl⟩
    have hi : Three w w2 (lookV c true cl st sd na nb) zeroV [.bool true, .int .i64 c, .int .i64 D, .int .i64 0, .int .i64 0, .int .i64 0] 57 55 55 := by rw [← hw2]; exact three w _ _ _ _ _ _
    have HI := Lib.hid hi; have HW2 := Lib.hid hw2
    clear hi hw2
    go_enter Try.func50, Try.ntmps50
    go_wp2_with fail
    refine (HC.out _).mono ?_
    rintro e w3 ⟨rfl, rfl⟩
    go_upto_region 4 with fail
    rw [HW2.out]
    have d0 := HI.out.c.cell 0; have z0 := HI.out.b.cell 0; have y0 := HI.out.b.frozen 0
    have d1 := HI.out.c.cell 1; have z1 := HI.out.b.cell 1; have y1 := HI.out.b.frozen 1
    have d2 := HI.out.c.cell 2; have z2 := HI.out.b.cell 2; have y2 := HI.out.b.frozen 2
    have d3 := HI.out.c.cell 3; have z3 := HI.out.b.cell 3; have y3 := HI.out.b.frozen 3
    have d4 := HI.out.c.cell 4; have z4 := HI.out.b.cell 4; have y4 := HI.out.b.frozen 4
    have d5 := HI.out.c.cell 5; have z5 := HI.out.b.cell 5; have y5 := HI.out.b.frozen 5
    simp only [List.getElem?_cons_zero, List.getElem?_cons_succ] at d0 z0 d1 z1 d2 z2 d3 z3 d4 z4 d5 z5
    have l1 := HI.out.b.lt; have l2 := HI.out.c.lt
    have HR := Lib.hid (HI.out.b.put6 (.bool true) (.int .i64 c) (.int .i64 D) (.int .i64 0) (.int .i64 0) (.int .i64 0))
    have HB := Lib.hid (Below.put6 HI.out.below (b := w.heap.size + 1) (by omega) (.bool true) (.int .i64 c) (.int .i64 D) (.int .i64 0) (.int .i64 0) (.int .i64 0))
    go_wp2
    have q0 := HR.out.cell 0
    have q1 := HR.out.cell 1
    have q2 := HR.out.cell 2
    have q3 := HR.out.cell 3
    have q4 := HR.out.cell 4
    have q5 := HR.out.cell 5
    simp only [List.getElem?_cons_zero, List.getElem?_cons_succ] at q0 q1 q2 q3 q4 q5
    exact bodyPost_ret (v := pastA ⟨true, c, D, 0, 0, 0⟩) (by simp [results, Try.results50, go_sem, q0, q1, q2, q3, q4, q5]) rfl ⟨rfl, HB.out⟩
  | false =>
    rw [if_neg (by decide)]
    obtain ⟨w2, hw2⟩ : ∃ w2, (((w.alloc (lookO c ⟨false, cl, st, sd, na, nb⟩)).alloc zeroO).alloc (.cells #[.bool true, .int .i64 c, .int .i64 0, .int .i64 0, .int .i64 0, .int .i64 0] 55)) = w2 := ⟨_, rfl⟩
    have hi : Three w w2 (lookV c false cl st sd na nb) zeroV [.bool true, .int .i64 c, .int .i64 0, .int .i64 0, .int .i64 0, .int .i64 0] 57 55 55 := by rw [← hw2]; exact three w _ _ _ _ _ _
    have HI := Lib.hid hi; have HW2 := Lib.hid hw2
    clear hi hw2
    go_enter Try.func50, Try.ntmps50
    go_upto_region 4 with fail
    rw [HW2.out]
    have d0 := HI.out.c.cell 0; have z0 := HI.out.b.cell 0; have y0 := HI.out.b.frozen 0
    have d1 := HI.out.c.cell 1; have z1 := HI.out.b.cell 1; have y1 := HI.out.b.frozen 1
    have d2 := HI.out.c.cell 2; have z2 := HI.out.b.cell 2; have y2 := HI.out.b.frozen 2
    have d3 := HI.out.c.cell 3; have z3 := HI.out.b.cell 3; have y3 := HI.out.b.frozen 3
    have d4 := HI.out.c.cell 4; have z4 := HI.out.b.cell 4; have y4 := HI.out.b.frozen 4
    have d5 := HI.out.c.cell 5; have z5 := HI.out.b.cell 5; have y5 := HI.out.b.frozen 5
    simp only [List.getElem?_cons_zero, List.getElem?_cons_succ] at d0 z0 d1 z1 d2 z2 d3 z3 d4 z4 d5 z5
    have l1 := HI.out.b.lt; have l2 := HI.out.c.lt
    have HR := Lib.hid (HI.out.b.put6 (.bool true) (.int .i64 c) (.int .i64 0) (.int .i64 0) (.int .i64 0) (.int .i64 0))
    have HB := Lib.hid (Below.put6 HI.out.below (b := w.heap.size + 1) (by omega) (.bool true) (.int .i64 c) (.int .i64 0) (.int .i64 0) (.int .i64 0) (.int .i64 0))
    go_wp2
    have q0 := HR.out.cell 0
    have q1 := HR.out.cell 1
    have q2 := HR.out.cell 2
    have q3 := HR.out.cell 3
    have q4 := HR.out.cell 4
    have q5 := HR.out.cell 5
    simp only [List.getElem?_cons_zero, List.getElem?_cons_succ] at q0 q1 q2 q3 q4 q5
    exact bodyPost_ret (v := pastA ⟨true, c, 0, 0, 0, 0⟩) (by simp [results, Try.results50, go_sem, q0, q1, q2, q3, q4, q5]) rfl ⟨rfl, HB.out⟩
end Go.Proofs.Ytjonpcpcokapkaa
