/- Bases and points as numbers: which may be, a row more, a sum's point, how a range is. -/
import Derived.Test.YtfafkdbflmennaaStaM
import Derived.Test.YtfafkdbflmennaaMovN
import Derived.Test.YtfafkdbflmennaaFacN
namespace Go.Proofs.Ytfafkdbflmennaa

structure Bas where
  size : Int
  m : Int
  sum : Int
  rng : Int
  last : Int
theorem Bas.eq_iff (s t : Bas) : s = t ↔ s.size = t.size ∧ s.m = t.m ∧ s.sum = t.sum ∧ s.rng = t.rng ∧ s.last = t.last := by
  constructor
  · rintro rfl; exact ⟨rfl, rfl, rfl, rfl, rfl⟩
  · rintro ⟨h1, h2, h3, h4, h5⟩
    cases s; cases t
    simp only at h1 h2 h3 h4 h5
    subst h1 h2 h3 h4 h5
    rfl
def bas0 : Bas := ⟨0, 0, 0, 0, 0⟩
def stpN (b : Bas) : Int := if b.size = 1 then max 0 (b.m - 1) else b.m
def basOk (b : Bas) : Prop := (1 ≤ b.size ∧ b.size ≤ 10 ∧ 0 ≤ b.m ∧ b.m ≤ 25 ∧ -1000000 ≤ b.last ∧ b.last ≤ 1000000 ∧ (b.m = 0 → b.last = 0)) ∧ (0 - b.m * b.size * 1000000 ≤ b.sum ∧ b.sum ≤ b.m * b.size * 1000000) ∧ (0 ≤ b.rng ∧ b.rng ≤ 2000000 * stpN b)
instance (b : Bas) : Decidable (basOk b) := by unfold basOk; infer_instance
def basB (b : Bas) : Bool := decide (basOk b)
def rowB (b : Bas) (l : List Int) : Bool := decide ((l.length : Int) = b.size) && inB l
def rngN (b : Bas) (l : List Int) : Int := if b.size = 1 ∧ 0 < b.m then distI b.last (l.getD 0 0) else lmax l - lmin l
def takeN (b : Bas) (l : List Int) : Bas := ⟨b.size, b.m + 1, b.sum + ssum l, b.rng + rngN b l, l.getD (l.length - 1) 0⟩
theorem stp_bounds {b : Bas} (h : basOk b) : 0 ≤ stpN b ∧ stpN b ≤ b.m ∧ stpN b ≤ 25 := by
  obtain ⟨h1, h2, h3⟩ := h
  unfold stpN
  split <;> omega
/-- m times size, bounded. -/
theorem ms_bounds {b : Bas} (h : basOk b) : 0 ≤ b.m * b.size ∧ b.m * b.size ≤ 250 := by
  obtain ⟨⟨h1, h2, h3, h4, _⟩, _⟩ := h
  refine ⟨Int.mul_nonneg h3 (by omega), ?_⟩
  have := Int.mul_le_mul h4 h2 (by omega) (by omega)
  omega
theorem row_len {b : Bas} {l : List Int} (h : rowB b l = true) : (l.length : Int) = b.size ∧ inB l = true := by
  unfold rowB at h
  rw [Bool.and_eq_true] at h
  exact ⟨of_decide_eq_true h.1, h.2⟩
theorem row_some {b : Bas} {l : List Int} (hb : basOk b) (h : rowB b l = true) : l ≠ [] := by
  have h1 := (row_len h).1
  have h2 := hb.1.1
  rintro rfl
  simp at h1
  omega
theorem ssum_in {l : List Int} (h : inB l = true) : 0 - (l.length : Int) * 1000000 ≤ ssum l ∧ ssum l ≤ (l.length : Int) * 1000000 := by
  have hb := inB_of h
  have h1 := sum_ge (-1000000) (l := l) (fun x hx => (hb x hx).1)
  have h2 := sum_le 1000000 (l := l) (fun x hx => (hb x hx).2)
  omega
theorem span_in {l : List Int} (hl : l ≠ []) (h : inB l = true) : 0 ≤ lmax l - lmin l ∧ lmax l - lmin l ≤ 2000000 := by
  have hb := inB_of h
  have h1 := hb _ (lmin_mem hl)
  have h2 := hb _ (lmax_mem hl)
  have h3 := lmin_le (lmax_mem hl)
  omega
theorem getD_in {l : List Int} (h : inB l = true) (i : Nat) : -1000000 ≤ l.getD i 0 ∧ l.getD i 0 ≤ 1000000 := by
  rw [List.getD_eq_getElem?_getD]
  cases hx : l[i]? with
  | none => exact ⟨by decide, by decide⟩
  | some x => exact inB_of h x (List.mem_of_getElem? hx)
theorem rng_bounds {b : Bas} {l : List Int} (hb : basOk b) (h : rowB b l = true) : 0 ≤ rngN b l ∧ rngN b l ≤ 2000000 := by
  have hi := (row_len h).2
  unfold rngN
  split
  · exact ⟨distI_nonneg _ _, distI_le ⟨hb.1.2.2.2.2.1, hb.1.2.2.2.2.2.1⟩ (getD_in hi 0)⟩
  · exact span_in (row_some hb h) hi
theorem lmax_one (x : Int) : lmax [x] - lmin [x] = 0 := by simp [lmax, lmin]
theorem rng_one {b : Bas} {l : List Int} (h : rowB b l = true) (h1 : b.size = 1) (h0 : b.m = 0) : rngN b l = 0 := by
  have hl := (row_len h).1
  rw [h1] at hl
  obtain ⟨x, rfl⟩ : ∃ x, l = [x] := List.length_eq_one_iff.1 (by omega)
  unfold rngN
  rw [if_neg (by omega)]
  exact lmax_one x
theorem take_ok {b : Bas} {l : List Int} (hb : basOk b) (h : rowB b l = true) (hm : b.m < 25) : basOk (takeN b l) := by
  have hs := ssum_in (row_len h).2
  have hl := (row_len h).1
  have hr := rng_bounds hb h
  have hg := getD_in (row_len h).2 (l.length - 1)
  have h1 := fun h1 h0 => rng_one h h1 h0
  obtain ⟨⟨b1, b2, b3, b4, b5, b6, b7⟩, ⟨c1, c2⟩, d1, d2⟩ := hb
  rw [hl] at hs
  have e : (b.m + 1) * b.size = b.m * b.size + b.size := by rw [Int.add_mul, Int.one_mul]
  unfold takeN basOk
  dsimp only
  rw [e]
  refine ⟨⟨b1, b2, by omega, by omega, hg.1, hg.2, fun h => by omega⟩, ⟨?_, ?_⟩, ?_, ?_⟩
  · generalize b.m * b.size = P at *; omega
  · generalize b.m * b.size = P at *; omega
  · omega
  · unfold stpN at d2 ⊢
    dsimp only
    by_cases k : b.size = 1
    · rw [if_pos k] at d2 ⊢
      by_cases k0 : b.m = 0
      · have := h1 k k0
        omega
      · omega
    · rw [if_neg k] at d2 ⊢
      omega
/-! ### What Take, Point, Wide answer -/
def takE (b : Bas) (l : List Int) : Int := if basB b && rowB b l then (if b.m = 25 then 11 else 0) else 1
def takA (b : Bas) (l : List Int) : Bas := if takE b l = 0 then takeN b l else bas0
def sumB (b : Bas) (s : Int) : Bool := decide (-1000000 * b.size ≤ s ∧ s ≤ 1000000 * b.size)
structure Pnt where
  center : Int
  den : Int
  dev : Int
  var : Nat
def pnt0 : Pnt := ⟨0, 0, 0, 0⟩
def rootN (b : Bas) : Int := if b.size = 1 then 10000 * b.m * b.rng else fac 0 (b.size - 2).toNat * b.rng * b.size
def pntN (b : Bas) (s : Int) : Pnt :=
  if b.size = 1 then ⟨11280 * (b.m - 1) * b.sum, 11280 * b.m * (b.m - 1), 11280 * (b.m - 1) * (s * b.m - b.sum), (rootN b).natAbs * (rootN b).natAbs⟩
  else ⟨30000 * b.sum, 30000 * b.m * b.size, 30000 * (s * b.m - b.sum), (rootN b).natAbs * (rootN b).natAbs⟩
def poiE (b : Bas) (s : Int) : Int := if basB b && sumB b s then (if b.m < 2 then 12 else 0) else 1
def poiA (b : Bas) (s : Int) : Pnt := if poiE b s = 0 then pntN b s else pnt0
def nWide (b : Bas) : Int := if b.size = 1 then 2 else b.size
def mWide (b : Bas) : Int := if b.size = 1 then b.m - 1 else b.m
def wideN (b : Bas) (r : Int) : Int := if fac 2 (nWide b - 2).toNat * b.rng < r * mWide b * 10000 then 1 else if r * mWide b * 10000 < fac 1 (nWide b - 2).toNat * b.rng then -1 else 0
def widE (b : Bas) (r : Int) : Int := if basB b && decide (0 ≤ r ∧ r ≤ 2000000) then (if b.m < 2 then 12 else 0) else 1
def widA (b : Bas) (r : Int) : Int := if widE b r = 0 then wideN b r else 0
end Go.Proofs.Ytfafkdbflmennaa
