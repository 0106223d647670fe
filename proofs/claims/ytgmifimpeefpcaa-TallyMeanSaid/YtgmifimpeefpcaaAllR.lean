/- Rows of ints read one by one: a place, and that all before it are so. -/
import Derived.Test.YtgmifimpeefpcaaInts
namespace Go.Proofs.Ytgmifimpeefpcaa
open Go.RowKit

theorem ReadsI.spot {w : World} {ao : Option Addr} {n cap : Nat} {xs : List Int} (h : ReadsI w (.slice ao n cap) xs) {i : Nat} {z : Int} (hz : xs[i]? = some z) :
    ∃ b off, ao = some ⟨b, off, none⟩ ∧ b < w.heap.size ∧ w.cell? ⟨b, off + i, none⟩ = some (.int .i64 z) := by
  obtain ⟨ao', cap', h1, h2, h3, h4⟩ := h
  injection h1 with e1 e2 e3
  subst e1 e3
  have hi : i < xs.length := (List.getElem?_eq_some_iff.1 hz).1
  obtain ⟨b, off, h5, h6, h7⟩ := h4 i hi
  refine ⟨b, off, h5, h6, ?_⟩
  rw [h7, List.getD_eq_getElem?_getD, hz]
  rfl
theorem ReadsI.shape {w : World} {v : Value} {xs : List Int} (h : ReadsI w v xs) : ∃ ao cap, v = .slice ao xs.length cap := by
  obtain ⟨ao, cap, h1, _⟩ := h
  exact ⟨ao, cap, h1⟩
theorem all_step {p : Int → Bool} {ms : List Int} {j : Nat} {m : Int} (h : ∀ x ∈ ms.take j, p x = true) (hm : ms[j]? = some m) (hp : p m = true) : ∀ x ∈ ms.take (j + 1), p x = true := by
  intro x hx
  rw [List.take_add_one, hm, List.mem_append] at hx
  rcases hx with hx | hx
  · exact h x hx
  · have : x = m := by simpa using hx
    rw [this]; exact hp
theorem all_not {p : Int → Bool} {ms : List Int} {j : Nat} {m : Int} (hm : ms[j]? = some m) (hp : p m = false) : ms.all p = false := by
  rw [← Bool.not_eq_true, List.all_eq_true]
  intro h
  rw [h m (List.mem_of_getElem? hm)] at hp
  cases hp
theorem all_yes {p : Int → Bool} {ms : List Int} (h : ∀ x ∈ ms.take ms.length, p x = true) : ms.all p = true := by
  rw [List.take_length] at h
  exact List.all_eq_true.2 h
def AllRel (p : Int → Bool) (ms : List Int) (w : World) (iv : Value) (wr : World) : Prop :=
  ∃ j : Nat, j ≤ ms.length ∧ iv = .int .i64 (j : Nat) ∧ (∀ x ∈ ms.take j, p x = true) ∧ w = wr
end Go.Proofs.Ytgmifimpeefpcaa
