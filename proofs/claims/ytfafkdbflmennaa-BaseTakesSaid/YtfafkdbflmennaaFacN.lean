/- factor's numbers: the table, how far two ints are apart, and which number of a row is nearest. -/
import Derived.RowKit
namespace Go.Proofs.Ytfafkdbflmennaa

/-- The table: seven rows of nine. -/
def facL : List Int := [18800, 10230, 7290, 5770, 4830, 4190, 3730, 3370, 3080, 0, 0, 0, 0, 0, 760, 1360, 1840, 2230, 32670, 25740, 22820, 21140, 20040, 19240, 18640, 18160, 17770, 11280, 16930, 20590, 23260, 25340, 27040, 28470, 29700, 30780, 26590, 19540, 16280, 14270, 12870, 11820, 10990, 10320, 9750, 0, 0, 0, 0, 300, 1180, 1850, 2390, 2840, 32670, 25680, 22660, 20890, 19700, 18820, 18150, 17610, 17160]
/-- Factor k of a row of j + 2 samples. -/
def fac (k j : Nat) : Int := facL.getD (9 * k + j) 0
theorem fac_row : ∀ k, k < 7 → ∀ j, j < 9 → 0 ≤ fac k j ∧ fac k j ≤ 32670 := by decide
/-- How far two are apart. -/
def dist (a v : Int) : Nat := (a - v).natAbs
/-- The nearest, of the first i + 1 sizes: as an offset from 2. -/
def nst (k : Nat) (v : Int) : Nat → Nat
  | 0 => 0
  | i + 1 => if dist (fac k (i + 1)) v < dist (fac k (nst k v i)) v then i + 1 else nst k v i
theorem nst_le (k : Nat) (v : Int) : ∀ i, nst k v i ≤ i
  | 0 => Nat.le_refl _
  | i + 1 => by
    unfold nst
    split
    · exact Nat.le_refl _
    · exact Nat.le_succ_of_le (nst_le k v i)
theorem nst_least (k : Nat) (v : Int) : ∀ i j, j ≤ i → dist (fac k (nst k v i)) v ≤ dist (fac k j) v ∧ (j < nst k v i → dist (fac k (nst k v i)) v < dist (fac k j) v)
  | 0, j, h => by
    have : j = 0 := by omega
    subst this
    exact ⟨Nat.le_refl _, fun h => absurd h (Nat.lt_irrefl _)⟩
  | i + 1, j, h => by
    have hi := nst_le k v i
    unfold nst
    split
    · rename_i hd
      rcases Nat.lt_or_ge j (i + 1) with hj | hj
      · have := (nst_least k v i j (by omega)).1
        exact ⟨by omega, fun _ => by omega⟩
      · have : j = i + 1 := by omega
        subst this
        exact ⟨Nat.le_refl _, fun h => absurd h (Nat.lt_irrefl _)⟩
    · rename_i hd
      rcases Nat.lt_or_ge j (i + 1) with hj | hj
      · exact nst_least k v i j (by omega)
      · have : j = i + 1 := by omega
        subst this
        exact ⟨by omega, fun h => by omega⟩
/-- The nearest of all nine sizes. -/
def nea (k : Nat) (v : Int) : Nat := nst k v 8
theorem nea_lt (k : Nat) (v : Int) : nea k v < 9 := by have := nst_le k v 8; unfold nea; omega
end Go.Proofs.Ytfafkdbflmennaa
