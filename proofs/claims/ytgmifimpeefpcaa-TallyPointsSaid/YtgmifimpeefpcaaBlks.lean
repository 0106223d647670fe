/- Two, three, four blocks that were made, known whole. -/
import Derived.Test.YtgmifimpeefpcaaHas
namespace Go.Proofs.Ytgmifimpeefpcaa
open Go.RowKit

/-- One block was made. -/
structure OneB (w w2 : World) (A : List Value) (TA : TypeId) : Prop where
  below : Below w.heap.size w w2
  a : Has w2 w.heap.size A TA
theorem oneB (w : World) (A : List Value) (TA : TypeId) : OneB w (w.alloc (.cells A.toArray TA)) A TA := ⟨(Below.refl _ _).alloc (Nat.le_refl _) _, Has.new w _ _⟩
theorem OneB.call {w w2 w3 : World} {A : List Value} {TA : TypeId} (h : OneB w w2 A TA) (hb : Below w2.heap.size w2 w3) : OneB w w3 A TA := ⟨h.below.trans (hb.mono h.below.size), h.a.call hb⟩
theorem OneB.drew {w w2 : World} {A : List Value} {TA : TypeId} (h : OneB w w2 A TA) : OneB w w2.drew A TA := ⟨h.below.drew, h.a⟩
/-- Three blocks were made. -/
structure Three (w w2 : World) (A B C : List Value) (TA TB TC : TypeId) : Prop where
  below : Below w.heap.size w w2
  a : Has w2 w.heap.size A TA
  b : Has w2 (w.heap.size + 1) B TB
  c : Has w2 (w.heap.size + 2) C TC
theorem three (w : World) (A B C : List Value) (TA TB TC : TypeId) : Three w (((w.alloc (.cells A.toArray TA)).alloc (.cells B.toArray TB)).alloc (.cells C.toArray TC)) A B C TA TB TC where
  below := (((Below.refl _ _).alloc (Nat.le_refl _) _).alloc (by simp) _).alloc (by simp; omega) _
  a := ((Has.new w _ _).alloc _).alloc _
  b := by
    have := (Has.new (w.alloc (.cells A.toArray TA)) B TB).alloc (.cells C.toArray TC)
    rw [show (w.alloc (.cells A.toArray TA)).heap.size = w.heap.size + 1 by simp] at this
    exact this
  c := by
    have := Has.new ((w.alloc (.cells A.toArray TA)).alloc (.cells B.toArray TB)) C TC
    rw [show ((w.alloc (.cells A.toArray TA)).alloc (.cells B.toArray TB)).heap.size = w.heap.size + 2 by simp] at this
    exact this
/-- Two blocks were made. -/
structure TwoB (w w2 : World) (A B : List Value) (TA TB : TypeId) : Prop where
  below : Below w.heap.size w w2
  a : Has w2 w.heap.size A TA
  b : Has w2 (w.heap.size + 1) B TB
theorem twoB (w : World) (A B : List Value) (TA TB : TypeId) : TwoB w ((w.alloc (.cells A.toArray TA)).alloc (.cells B.toArray TB)) A B TA TB where
  below := ((Below.refl _ _).alloc (Nat.le_refl _) _).alloc (by simp) _
  a := (Has.new w _ _).alloc _
  b := by
    have := Has.new (w.alloc (.cells A.toArray TA)) B TB
    rw [show (w.alloc (.cells A.toArray TA)).heap.size = w.heap.size + 1 by simp] at this
    exact this
theorem TwoB.call {w w2 w3 : World} {A B : List Value} {TA TB : TypeId} (h : TwoB w w2 A B TA TB) (hb : Below w2.heap.size w2 w3) : TwoB w w3 A B TA TB :=
  ⟨h.below.trans (hb.mono h.below.size), h.a.call hb, h.b.call hb⟩
/-- Two blocks were made, and a third one somewhere behind them. -/
structure TwoC (w w2 : World) (A B C : List Value) (k : Nat) (TA TB TC : TypeId) : Prop where
  below : Below w.heap.size w w2
  a : Has w2 w.heap.size A TA
  b : Has w2 (w.heap.size + 1) B TB
  c : Has w2 k C TC
  lt : w.heap.size + 2 ≤ k
theorem TwoB.three {w w2 : World} {A B : List Value} {TA TB : TypeId} (h : TwoB w w2 A B TA TB) (C : List Value) (TC : TypeId) : TwoC w (w2.alloc (.cells C.toArray TC)) A B C w2.heap.size TA TB TC :=
  ⟨h.below.alloc h.below.size _, h.a.alloc _, h.b.alloc _, Has.new _ _ _, h.b.lt⟩
/-- Four blocks were made. -/
structure Four (w w2 : World) (A B C D : List Value) (TA TB TC TD : TypeId) : Prop where
  below : Below w.heap.size w w2
  a : Has w2 w.heap.size A TA
  b : Has w2 (w.heap.size + 1) B TB
  c : Has w2 (w.heap.size + 2) C TC
  d : Has w2 (w.heap.size + 3) D TD
theorem four (w : World) (A B C D : List Value) (TA TB TC TD : TypeId) : Four w ((((w.alloc (.cells A.toArray TA)).alloc (.cells B.toArray TB)).alloc (.cells C.toArray TC)).alloc (.cells D.toArray TD)) A B C D TA TB TC TD := by
  obtain ⟨h1, h2, h3, h4⟩ := three w A B C TA TB TC
  have hs : (((w.alloc (.cells A.toArray TA)).alloc (.cells B.toArray TB)).alloc (.cells C.toArray TC)).heap.size = w.heap.size + 3 := by simp
  refine ⟨h1.alloc h1.size _, h2.alloc _, h3.alloc _, h4.alloc _, ?_⟩
  have := Has.new (((w.alloc (.cells A.toArray TA)).alloc (.cells B.toArray TB)).alloc (.cells C.toArray TC)) D TD
  rw [hs] at this
  exact this
theorem TwoC.drew {w w2 : World} {A B C : List Value} {k : Nat} {TA TB TC : TypeId} (h : TwoC w w2 A B C k TA TB TC) : TwoC w w2.drew A B C k TA TB TC := ⟨h.below.drew, h.a, h.b, h.c, h.lt⟩
theorem TwoC.call {w w2 w3 : World} {A B C : List Value} {k : Nat} {TA TB TC : TypeId} (h : TwoC w w2 A B C k TA TB TC) (hb : Below w2.heap.size w2 w3) : TwoC w w3 A B C k TA TB TC := ⟨h.below.trans (hb.mono h.below.size), h.a.call hb, h.b.call hb, h.c.call hb, h.lt⟩
theorem TwoB.drew {w w2 : World} {A B : List Value} {TA TB : TypeId} (h : TwoB w w2 A B TA TB) : TwoB w w2.drew A B TA TB := ⟨h.below.drew, h.a, h.b⟩
end Go.Proofs.Ytgmifimpeefpcaa
