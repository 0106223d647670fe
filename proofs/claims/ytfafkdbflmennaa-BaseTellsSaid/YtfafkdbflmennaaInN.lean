/- Samples that are within the ends, as numbers. -/
import Derived.RowKit
namespace Go.Proofs.Ytfafkdbflmennaa

def inB (l : List Int) : Bool := l.all fun x => decide (-1000000 ≤ x ∧ x ≤ 1000000)
theorem inB_of {l : List Int} (h : inB l = true) : ∀ x ∈ l, -1000000 ≤ x ∧ x ≤ 1000000 := fun x hx => of_decide_eq_true (List.all_eq_true.1 h x hx)
def clampI (x : Int) : Int := min (max x (-1000000)) 1000000
def someN (l : List Int) (N : Nat) : List Int := (l.take N).map clampI
theorem someN_in (l : List Int) (N : Nat) : inB (someN l N) = true := by
  unfold inB
  rw [List.all_eq_true]
  intro x hx
  obtain ⟨y, _, rfl⟩ := List.mem_map.1 hx
  unfold clampI
  exact decide_eq_true (by omega)
theorem someN_len (l : List Int) (N : Nat) : (someN l N).length ≤ N := by unfold someN; rw [List.length_map, List.length_take]; omega
theorem some_snoc (l : List Int) (k : Nat) (x : Int) (hk : k < l.length) (hx : l.getD k 0 = x) : (l.take (k + 1)).map clampI = (l.take k).map clampI ++ [clampI x] := by
  rw [List.take_add_one, List.getElem?_eq_getElem hk, List.map_append, ← hx, List.getD_eq_getElem?_getD, List.getElem?_eq_getElem hk]
  rfl
end Go.Proofs.Ytfafkdbflmennaa
