/- Tallies as numbers: which may be, a count more, a count's point. -/
import Derived.Test.YtgmifimpeefpcaaPnt
import Derived.Test.YtgmifimpeefpcaaStaN
namespace Go.Proofs.Ytgmifimpeefpcaa

structure Tal where
  kind : Int
  size : Int
  m : Int
  sum : Int
def tal0 : Tal := ⟨0, 0, 0, 0⟩
theorem Tal.eq_iff (s t : Tal) : s = t ↔ s.kind = t.kind ∧ s.size = t.size ∧ s.m = t.m ∧ s.sum = t.sum := by
  constructor
  · rintro rfl; exact ⟨rfl, rfl, rfl, rfl⟩
  · rintro ⟨h1, h2, h3, h4⟩
    cases s; cases t
    simp only at h1 h2 h3 h4
    subst h1 h2 h3 h4
    rfl
def sizesP (k n : Int) : Prop := 2 ≤ k ∧ k ≤ 5 ∧ 1 ≤ n ∧ n ≤ 1000 ∧ (k = 4 → n = 1)
instance (k n : Int) : Decidable (sizesP k n) := by unfold sizesP; infer_instance
def sizesB (k n : Int) : Bool := decide (sizesP k n)
def mostT (t : Tal) : Int := if t.kind ≤ 3 then t.size else 1000000
def talOk (t : Tal) : Prop := sizesP t.kind t.size ∧ 0 ≤ t.m ∧ t.m ≤ 25 ∧ 0 ≤ t.sum ∧ t.sum ≤ t.m * mostT t
instance (t : Tal) : Decidable (talOk t) := by unfold talOk; infer_instance
def talB (t : Tal) : Bool := decide (talOk t)
def cntB (t : Tal) (d : Int) : Bool := decide (0 ≤ d ∧ d ≤ mostT t)
def takeT (t : Tal) (d : Int) : Tal := ⟨t.kind, t.size, t.m + 1, t.sum + d⟩
def pntT (t : Tal) (d : Int) : Pnt :=
  if 4 ≤ t.kind then ⟨t.sum, t.m * t.size, d * t.m - t.sum, (t.sum * t.m).toNat⟩
  else if t.kind = 2 then ⟨t.sum * t.size, t.m * t.size * t.size, d * (t.m * t.size) - t.sum * t.size, (t.sum * (t.m * t.size - t.sum) * t.size).toNat⟩
  else ⟨t.sum * t.size, t.m * t.size, d * (t.m * t.size) - t.sum * t.size, (t.sum * (t.m * t.size - t.sum) * t.size).toNat⟩
theorem most_bounds {t : Tal} (h : sizesP t.kind t.size) : 1 ≤ mostT t ∧ mostT t ≤ 1000000 := by
  obtain ⟨h1, h2, h3, h4, _⟩ := h
  unfold mostT
  split <;> omega
theorem tsum_bounds {t : Tal} (h : talOk t) : 0 ≤ t.sum ∧ t.sum ≤ 25000000 := by
  have hm := most_bounds h.1
  obtain ⟨_, h1, h2, h3, h4⟩ := h
  have := Int.mul_le_mul h2 hm.2 (by omega) (by omega)
  omega
theorem tcnt_bounds {t : Tal} (h : talOk t) {d : Int} (hd : cntB t d = true) : 0 ≤ d ∧ d ≤ 1000000 := by
  have hm := most_bounds h.1
  have := of_decide_eq_true hd
  omega
/-- Where units are counted, no more are than there were. -/
theorem tsum_all {t : Tal} (h : talOk t) (hk : t.kind ≤ 3) : t.sum ≤ t.m * t.size := by
  have h4 := h.2.2.2.2
  unfold mostT at h4
  rwa [if_pos hk] at h4
theorem takeT_ok {t : Tal} {d : Int} (h : talOk t) (hd : cntB t d = true) (hm : t.m ≠ 25) : talOk (takeT t d) := by
  have hd := of_decide_eq_true hd
  obtain ⟨h0, h1, h2, h3, h4⟩ := h
  have e : mostT (takeT t d) = mostT t := rfl
  refine ⟨h0, by show 0 ≤ t.m + 1; omega, by show t.m + 1 ≤ 25; omega, by show 0 ≤ t.sum + d; omega, ?_⟩
  rw [e]
  show t.sum + d ≤ (t.m + 1) * mostT t
  rw [Int.add_mul, Int.one_mul]
  omega
/-! ### What New, Take, Point answer -/
def tnewE (k n : Int) : Int := if sizesB k n = true then 0 else 1
def tnewA (k n : Int) : Tal := if sizesB k n = true then ⟨k, n, 0, 0⟩ else tal0
def ttakE (t : Tal) (d : Int) : Int := if talB t && cntB t d then (if t.m = 25 then 11 else 0) else 1
def ttakA (t : Tal) (d : Int) : Tal := if ttakE t d = 0 then takeT t d else tal0
def tpoiE (t : Tal) (d : Int) : Int := if talB t && cntB t d then (if t.m = 0 then 12 else 0) else 1
def tpoiA (t : Tal) (d : Int) : Pnt := if tpoiE t d = 0 then pntT t d else pnt0
def talI (t : Tal) : Prop := IsInt t.kind ∧ IsInt t.size ∧ IsInt t.m ∧ IsInt t.sum
theorem talI_ok {t : Tal} (h : talOk t) : talI t := by
  have h1 := tsum_bounds h
  obtain ⟨⟨h2, h3, h4, h5, _⟩, h6, h7, _⟩ := h
  unfold talI IsInt
  omega
/-! ### A tally of counts -/
def clampT (M d : Int) : Int := min (max d 0) M
theorem clampT_in {M : Int} (h : 0 ≤ M) (d : Int) : 0 ≤ clampT M d ∧ clampT M d ≤ M := by unfold clampT; omega
theorem clampT_id {M d : Int} (h : 0 ≤ d ∧ d ≤ M) : clampT M d = d := by unfold clampT; omega
def madeT (K N : Int) (cs : List Int) : Tal := ⟨K, N, cs.length, ssum cs⟩
def cntsOk (M : Int) (cs : List Int) : Prop := ∀ c ∈ cs, 0 ≤ c ∧ c ≤ M
theorem cnts_sum {M : Int} : ∀ {cs : List Int}, cntsOk M cs → 0 ≤ ssum cs ∧ ssum cs ≤ (cs.length : Int) * M
  | [], _ => by simp [ssum]
  | c :: cs, h => by
    have h1 := cnts_sum (cs := cs) (fun x hx => h x (List.mem_cons_of_mem _ hx))
    have h2 := h c List.mem_cons_self
    simp only [ssum, List.length_cons, Int.natCast_add, Int.natCast_one, Int.add_mul, Int.one_mul]
    omega
theorem made16_ok {K N : Int} (hP : sizesP K N) {cs : List Int} (hc : cntsOk (mostT ⟨K, N, 0, 0⟩) cs) (hl : cs.length ≤ 25) : talOk (madeT K N cs) := by
  have h := cnts_sum hc
  exact ⟨hP, by show 0 ≤ (cs.length : Int); omega, by show (cs.length : Int) ≤ 25; omega, h.1, h.2⟩
theorem made16_next {K N c : Int} (hP : sizesP K N) {cs : List Int} (hc : cntsOk (mostT ⟨K, N, 0, 0⟩) cs) (hl : cs.length < 25) (h0 : 0 ≤ c ∧ c ≤ mostT ⟨K, N, 0, 0⟩) :
    talI (madeT K N cs) ∧ ttakA (madeT K N cs) c = madeT K N (cs ++ [c]) ∧ ttakE (madeT K N cs) c = 0 := by
  have ho := made16_ok hP hc (Nat.le_of_lt hl)
  have hd : cntB (madeT K N cs) c = true := decide_eq_true h0
  have hm : ¬ (madeT K N cs).m = 25 := by show ¬ (cs.length : Int) = 25; omega
  have hE : ttakE (madeT K N cs) c = 0 := by unfold ttakE; rw [show talB (madeT K N cs) = true from decide_eq_true ho, hd]; exact if_neg hm
  refine ⟨talI_ok ho, ?_, hE⟩
  unfold ttakA
  rw [hE, if_pos rfl]
  unfold takeT madeT
  dsimp only
  rw [List.length_append, ssum_append]
  simp [ssum]
end Go.Proofs.Ytgmifimpeefpcaa
