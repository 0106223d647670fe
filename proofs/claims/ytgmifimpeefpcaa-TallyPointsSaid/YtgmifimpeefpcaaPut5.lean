/- Five cells of a block stored one after another; a struct result in a cell. -/
import Derived.Test.YtgmifimpeefpcaaBlks
namespace Go.Proofs.Ytgmifimpeefpcaa
open Go.RowKit

theorem Has.put5B {w : World} {b : Nat} {a0 a1 a2 a3 a4 : Value} {T : TypeId} (h : Has w b [a0, a1, a2, a3, a4] T) (c0 c1 c2 c3 c4 : Value) : Has (((((w.setCell ⟨b, 0, none⟩ c0).setCell ⟨b, 1, none⟩ c1).setCell ⟨b, 2, none⟩ c2).setCell ⟨b, 3, none⟩ c3).setCell ⟨b, 4, none⟩ c4) b [c0, c1, c2, c3, c4] T :=
  ((((h.set 0 c0).set 1 c1).set 2 c2).set 3 c3).set 4 c4
theorem Below.put5B {B b : Nat} {x y : World} (h : Below B x y) (hb : B ≤ b) (c0 c1 c2 c3 c4 : Value) : Below B x (((((y.setCell ⟨b, 0, none⟩ c0).setCell ⟨b, 1, none⟩ c1).setCell ⟨b, 2, none⟩ c2).setCell ⟨b, 3, none⟩ c3).setCell ⟨b, 4, none⟩ c4) :=
  ((((h.setCell (p := ⟨b, 0, none⟩) hb c0).setCell (p := ⟨b, 1, none⟩) hb c1).setCell (p := ⟨b, 2, none⟩) hb c2).setCell (p := ⟨b, 3, none⟩) hb c3).setCell (p := ⟨b, 4, none⟩) hb c4
theorem Has.drewB {w : World} {b : Nat} {cs : List Value} {T : TypeId} (h : Has w b cs T) : Has w.drew b cs T := h
theorem resCellB {P : Program} {fn : Func} {tmps : Array Value} {w : World} {a : Nat} {t : TypeId} {ad : Addr} {v : Value} (h : fn.results = #[.cell a t]) (ha : tmps.getD a undef = .pointer (some ad)) (hl : (loadVar t ad).run P w = .ok v w) :
    (results fn tmps).run P w = .ok v w := by
  have ha' : tmps[a]?.getD undef = .pointer (some ad) := by simpa using ha
  simp [results, h, ha', hl, asAddr]
theorem TwoB.put5 {w w2 : World} {A : List Value} {b0 b1 b2 b3 b4 : Value} {TA TB : TypeId} (h : TwoB w w2 A [b0, b1, b2, b3, b4] TA TB) (c0 c1 c2 c3 c4 : Value) : TwoB w (((((w2.setCell ⟨w.heap.size + 1, 0, none⟩ c0).setCell ⟨w.heap.size + 1, 1, none⟩ c1).setCell ⟨w.heap.size + 1, 2, none⟩ c2).setCell ⟨w.heap.size + 1, 3, none⟩ c3).setCell ⟨w.heap.size + 1, 4, none⟩ c4) A [c0, c1, c2, c3, c4] TA TB :=
  ⟨Below.put5B h.below (by omega) _ _ _ _ _, ((((h.a.other (p := ⟨w.heap.size + 1, 0, none⟩) (by dsimp only; omega) _).other (p := ⟨w.heap.size + 1, 1, none⟩) (by dsimp only; omega) _).other (p := ⟨w.heap.size + 1, 2, none⟩) (by dsimp only; omega) _).other (p := ⟨w.heap.size + 1, 3, none⟩) (by dsimp only; omega) _).other (p := ⟨w.heap.size + 1, 4, none⟩) (by dsimp only; omega) _, h.b.put5B _ _ _ _ _⟩
end Go.Proofs.Ytgmifimpeefpcaa
