/- Samples a tenth as great, moved and grown: their stats. -/
import Derived.Test.YtbpdapggdccmiaaStaF
namespace Go.Proofs.Ytbpdapggdccmiaa

def tenI (x : Int) : Int := x.tdiv 10
theorem tenI_b {x : Int} (h : -1000000 ≤ x ∧ x ≤ 1000000) : -100000 ≤ tenI x ∧ tenI x ≤ 100000 := by
  unfold tenI
  rcases Int.le_total 0 x with c | c
  · rw [Int.tdiv_eq_ediv_of_nonneg c]; omega
  · obtain ⟨y, rfl⟩ : ∃ y : Int, x = -y := ⟨-x, by omega⟩
    rw [Int.neg_tdiv, Int.tdiv_eq_ediv_of_nonneg (by omega)]; omega
/-- What stands in the row behind k rounds. -/
def cutL (l : List Int) (k : Nat) : List Int := (l.take k).map tenI ++ l.drop k
def movL (l : List Int) (c : Int) (k : Nat) : List Int := (l.take k).map fun x => tenI x + c
def groL (l : List Int) (t : Int) (k : Nat) : List Int := (l.take k).map fun x => tenI x * t
theorem take_one {l : List Int} {k : Nat} (hk : k < l.length) : l.take (k + 1) = l.take k ++ [l.getD k 0] := by
  rw [List.take_add_one, List.getElem?_eq_getElem hk, List.getD_eq_getElem?_getD, List.getElem?_eq_getElem hk]
  rfl
theorem cutL_len (l : List Int) (k : Nat) : (cutL l k).length = l.length := by
  unfold cutL
  rw [List.length_append, List.length_map, List.length_take, List.length_drop]
  omega
theorem cutL_at {l : List Int} {k : Nat} (hk : k < l.length) : (cutL l k).getD k 0 = l.getD k 0 := by
  unfold cutL
  have h : ((l.take k).map tenI).length = k := by rw [List.length_map, List.length_take]; omega
  rw [List.getD_eq_getElem?_getD, List.getElem?_append_right (by omega), h, Nat.sub_self, List.getElem?_drop, List.getD_eq_getElem?_getD]
  simp
theorem cutL_set {l : List Int} {k : Nat} (hk : k < l.length) : (cutL l k).set k (tenI (l.getD k 0)) = cutL l (k + 1) := by
  unfold cutL
  have h : ((l.take k).map tenI).length = k := by rw [List.length_map, List.length_take]; omega
  rw [List.set_append_right _ _ (by omega), h, Nat.sub_self, take_one hk, List.map_append, List.append_assoc]
  congr 1
  rw [List.drop_eq_getElem_cons hk]
  rfl
theorem movL_one {l : List Int} {c : Int} {k : Nat} (hk : k < l.length) : movL l c (k + 1) = movL l c k ++ [tenI (l.getD k 0) + c] := by
  unfold movL
  rw [take_one hk, List.map_append]
  rfl
theorem groL_one {l : List Int} {t : Int} {k : Nat} (hk : k < l.length) : groL l t (k + 1) = groL l t k ++ [tenI (l.getD k 0) * t] := by
  unfold groL
  rw [take_one hk, List.map_append]
  rfl
theorem cutL_all (l : List Int) : cutL l l.length = l.map tenI := by unfold cutL; rw [List.take_length, List.drop_length, List.append_nil]
theorem movL_all (l : List Int) (c : Int) : movL l c l.length = (l.map tenI).map (· + c) := by unfold movL; rw [List.take_length, List.map_map]; rfl
theorem groL_all (l : List Int) (t : Int) : groL l t l.length = (l.map tenI).map (· * t) := by unfold groL; rw [List.take_length, List.map_map]; rfl
theorem ten_in {l : List Int} (h : inB l = true) : ∀ x ∈ l.map tenI, -100000 ≤ x ∧ x ≤ 100000 := fun x hx => by
  obtain ⟨y, hy, rfl⟩ := List.mem_map.1 hx
  exact tenI_b (inB_of h y hy)
theorem inB_mk {l : List Int} (h : ∀ x ∈ l, -1000000 ≤ x ∧ x ≤ 1000000) : inB l = true := by
  unfold inB
  rw [List.all_eq_true]
  exact fun x hx => decide_eq_true (h x hx)
theorem mul_b {x t : Int} (hx : -100000 ≤ x ∧ x ≤ 100000) (ht : -9 ≤ t ∧ t ≤ 9) : -900000 ≤ x * t ∧ x * t ≤ 900000 := by
  have h2 : (x * t).natAbs = x.natAbs * t.natAbs := Int.natAbs_mul x t
  have h3 : x.natAbs * t.natAbs ≤ 100000 * 9 := Nat.mul_le_mul (by omega) (by omega)
  omega
theorem spreadN_mov (a : List Int) (c : Int) : spreadN (staOf (a.map (· + c))) = spreadN (staOf a) := by
  have h1 := spread_of (a.map (· + c))
  have h2 := spread_of a
  rw [dsum_add] at h1
  omega
theorem spreadN_gro (a : List Int) (t : Int) (u : Nat) (hu : (u : Int) = t * t) : spreadN (staOf (a.map (· * t))) = spreadN (staOf a) * u := by
  have h1 := spread_of (a.map (· * t))
  have h2 := spread_of a
  rw [dsum_mul, ← h2, ← hu] at h1
  have h3 : ((spreadN (staOf a) * u : Nat) : Int) = (u : Int) * (spreadN (staOf a) : Int) := by rw [Int.natCast_mul, Int.mul_comm]
  omega
theorem spreadN_le {a : List Int} (h : inB a = true) (hn : a.length ≤ 100) : spreadN (staOf a) ≤ 10000000000000000 := by
  have h3 := qsum_le 1000000 (l := a) (inB_of h)
  have h4 := staOf_sq a
  have h5 := sq_nonneg' (ssum a)
  have h6 : (a.length : Int) * qsum a ≤ 100 * qsum a := Int.mul_le_mul_of_nonneg_right (by omega) (qsum_nonneg a)
  unfold spreadN
  rw [h4]
  show ((a.length : Int) * qsum a - ssum a * ssum a).toNat ≤ _
  omega
end Go.Proofs.Ytbpdapggdccmiaa
