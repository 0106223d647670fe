/- Rows of rows of ints, read. -/
import Derived.Test.YtfafkdbflmennaaInts
import Derived.Test.YtfafkdbflmennaaGen
namespace Go.Proofs.Ytfafkdbflmennaa
open Go.RowKit

/-- A slice of rows. -/
def ReadsR (w : World) (v : Value) (L : List (List Int)) : Prop :=
  ∃ ao cap, v = .slice ao L.length cap ∧ L.length ≤ cap ∧ cap ≤ maxLen ∧ ∀ i, i < L.length → ∃ b off u, ao = some ⟨b, off, none⟩ ∧ b < w.heap.size ∧ w.cell? ⟨b, off + i, none⟩ = some u ∧ ReadsI w u (L.getD i [])
theorem ReadsR.below {w w' : World} {v : Value} {L : List (List Int)} (h : ReadsR w v L) (hb : Below w.heap.size w w') : ReadsR w' v L := by
  obtain ⟨ao, cap, h1, h2, h3, h4⟩ := h
  refine ⟨ao, cap, h1, h2, h3, fun i hi => ?_⟩
  obtain ⟨b, off, u, h5, h6, h7, h8⟩ := h4 i hi
  exact ⟨b, off, u, h5, Nat.lt_of_lt_of_le h6 hb.size, (hb.cell h6).trans h7, h8.below hb⟩
theorem ReadsR.nil (w : World) : ReadsR w (.slice none 0 0) [] := ⟨none, 0, rfl, Nat.le_refl _, Nat.zero_le _, fun _ hi => absurd hi (Nat.not_lt_zero _)⟩
theorem ReadsI.nil (w : World) : ReadsI w (.slice none 0 0) [] := ⟨none, 0, rfl, Nat.le_refl _, Nat.zero_le _, fun _ hi => absurd hi (Nat.not_lt_zero _)⟩
theorem infoRow : ((Try.prog).info? 24).map (fun i => (i.zero, i.size, i.bytes)) = some (some (.slice none 0 0), 1, 24) := by kernel_rfl
end Go.Proofs.Ytfafkdbflmennaa
