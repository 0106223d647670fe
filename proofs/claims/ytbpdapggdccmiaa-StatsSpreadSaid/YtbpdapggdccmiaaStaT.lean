/- The squares of all differences, gathered one by one. -/
import Derived.Test.YtbpdapggdccmiaaStaM
namespace Go.Proofs.Ytbpdapggdccmiaa

def farI (k : List Int) (i : Nat) : Nat → Nat
  | 0 => 0
  | j + 1 => farI k i j + ((k.getD i 0 - k.getD (i + 1 + j) 0) * (k.getD i 0 - k.getD (i + 1 + j) 0)).toNat
def farO (k : List Int) : Nat → Nat
  | 0 => 0
  | i + 1 => farO k i + farI k i (k.length - (i + 1))
theorem psum_snoc (x y : Int) : ∀ l : List Int, psum x (l ++ [y]) = psum x l + (x - y) * (x - y)
  | [] => by simp [psum]
  | z :: l => by
    have := psum_snoc x y l
    simp only [List.cons_append, psum]
    omega
theorem farI_psum (k : List Int) (i : Nat) : ∀ j, i + 1 + j ≤ k.length → (farI k i j : Int) = psum (k.getD i 0) ((k.drop (i + 1)).take j)
  | 0, _ => by simp [farI, psum]
  | j + 1, h => by
    have ih := farI_psum k i j (by omega)
    have hd : (k.drop (i + 1)).take (j + 1) = (k.drop (i + 1)).take j ++ [k.getD (i + 1 + j) 0] := by
      rw [List.take_add_one, List.getElem?_drop, List.getElem?_eq_getElem (by omega), List.getD_eq_getElem?_getD, List.getElem?_eq_getElem (by omega)]
      rfl
    rw [hd, psum_snoc, ← ih]
    rw [show farI k i (j + 1) = farI k i j + ((k.getD i 0 - k.getD (i + 1 + j) 0) * (k.getD i 0 - k.getD (i + 1 + j) 0)).toNat from rfl]
    have := sq_nonneg' (k.getD i 0 - k.getD (i + 1 + j) 0)
    omega
theorem farO_dsum (k : List Int) : ∀ i, i ≤ k.length → (farO k i : Int) + dsum (k.drop i) = dsum k
  | 0, _ => by simp [farO]
  | i + 1, h => by
    have ih := farO_dsum k i (by omega)
    have hi := farI_psum k i (k.length - (i + 1)) (by omega)
    have hd : k.drop i = k.getD i 0 :: k.drop (i + 1) := by
      rw [List.drop_eq_getElem_cons (by omega), List.getD_eq_getElem?_getD, List.getElem?_eq_getElem (by omega)]
      rfl
    rw [List.take_of_length_le (by rw [List.length_drop]; omega)] at hi
    rw [hd] at ih
    rw [show farO k (i + 1) = farO k i + farI k i (k.length - (i + 1)) from rfl]
    simp only [dsum] at ih
    omega
theorem farO_all (k : List Int) : farO k k.length = spreadN (staOf k) := by
  have h1 := farO_dsum k k.length (Nat.le_refl _)
  have h2 := spread_of k
  rw [List.drop_length] at h1
  simp only [dsum] at h1
  omega
theorem far_sq {k : List Int} (h : inB k = true) (i j : Nat) (hi : i < k.length) (hj : j < k.length) : ((k.getD i 0 - k.getD j 0) * (k.getD i 0 - k.getD j 0)).toNat ≤ 4000000000000 := by
  have a : -1000000 ≤ k.getD i 0 ∧ k.getD i 0 ≤ 1000000 := by
    refine inB_of h _ ?_
    rw [List.getD_eq_getElem?_getD, List.getElem?_eq_getElem hi]
    exact List.getElem_mem _
  have b : -1000000 ≤ k.getD j 0 ∧ k.getD j 0 ≤ 1000000 := by
    refine inB_of h _ ?_
    rw [List.getD_eq_getElem?_getD, List.getElem?_eq_getElem hj]
    exact List.getElem_mem _
  have := sq_le (x := k.getD i 0 - k.getD j 0) (b := 2000000) (by omega) (by omega)
  omega
theorem farI_le {k : List Int} (h : inB k = true) (i : Nat) : ∀ j, i + 1 + j ≤ k.length → farI k i j ≤ j * 4000000000000
  | 0, _ => Nat.zero_le _
  | j + 1, hj => by
    have ih := farI_le h i j (by omega)
    have := far_sq h i (i + 1 + j) (by omega) (by omega)
    rw [show farI k i (j + 1) = farI k i j + ((k.getD i 0 - k.getD (i + 1 + j) 0) * (k.getD i 0 - k.getD (i + 1 + j) 0)).toNat from rfl]
    omega
theorem farO_le {k : List Int} (h : inB k = true) (hk : k.length ≤ 40) : ∀ i, i ≤ k.length → farO k i ≤ i * 160000000000000
  | 0, _ => Nat.zero_le _
  | i + 1, hi => by
    have ih := farO_le h hk i (by omega)
    have := farI_le h i (k.length - (i + 1)) (by omega)
    rw [show farO k (i + 1) = farO k i + farI k i (k.length - (i + 1)) from rfl]
    omega
end Go.Proofs.Ytbpdapggdccmiaa
