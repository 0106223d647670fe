/- factor's small functions, of the code and of the reference: which kinds and sizes there are, how far two ints are apart. -/
import Derived.Test.YtnfbgpcilnlpjaaHas
import Derived.Test.YtnfbgpcilnlpjaaNum
import Derived.Test.YtnfbgpcilnlpjaaFacN
import Derived.WalkArith
namespace Go.Proofs.Ytnfbgpcilnlpjaa
open Go.RowKit

def kindB (k : Int) : Bool := decide (0 ≤ k ∧ k < 7)
def rowsB (n : Int) : Bool := decide (2 ≤ n ∧ n ≤ 10)
theorem kindB_t {k : Int} (h : kindB k = true) : 0 ≤ k ∧ k < 7 := of_decide_eq_true h
theorem rowsB_t {k : Int} (h : rowsB k = true) : 2 ≤ k ∧ k ≤ 10 := of_decide_eq_true h
theorem isFactor_any (k : Int) (w : World) :
    Calls Try.prog 14 #[.int .i64 k] w fun e w' => e = .returned (.bool (kindB k)) ∧ w' = w := by
  by_cases h1 : 0 ≤ k
  · by_cases h2 : k < 7
    · have e : kindB k = true := decide_eq_true ⟨by omega, by omega⟩
      rw [e]
      clear e
      go_enter Try.func14, Try.ntmps14
      go_wp2
      go_ret
      exact ⟨rfl, rfl⟩
    · have e : kindB k = false := decide_eq_false (by omega)
      rw [e]
      clear e
      go_enter Try.func14, Try.ntmps14
      go_wp2
      go_ret
      exact ⟨rfl, rfl⟩
  · have e : kindB k = false := decide_eq_false (by omega)
    rw [e]
    clear e
    go_enter Try.func14, Try.ntmps14
    go_wp2
    go_ret
    exact ⟨rfl, rfl⟩
theorem isSize_any (k : Int) (w : World) :
    Calls Try.prog 15 #[.int .i64 k] w fun e w' => e = .returned (.bool (rowsB k)) ∧ w' = w := by
  by_cases h1 : 2 ≤ k
  · by_cases h2 : k ≤ 10
    · have e : rowsB k = true := decide_eq_true ⟨by omega, by omega⟩
      rw [e]
      clear e
      go_enter Try.func15, Try.ntmps15
      go_wp2
      go_ret
      exact ⟨rfl, rfl⟩
    · have e : rowsB k = false := decide_eq_false (by omega)
      rw [e]
      clear e
      go_enter Try.func15, Try.ntmps15
      go_wp2
      go_ret
      exact ⟨rfl, rfl⟩
  · have e : rowsB k = false := decide_eq_false (by omega)
    rw [e]
    clear e
    go_enter Try.func15, Try.ntmps15
    go_wp2
    go_ret
    exact ⟨rfl, rfl⟩
theorem kind_any (k : Int) (w : World) :
    Calls Try.prog 12 #[.int .i64 k] w fun e w' => e = .returned (.bool (kindB k)) ∧ w' = w := by
  by_cases h1 : 0 ≤ k
  · by_cases h2 : k ≤ 6
    · have e : kindB k = true := decide_eq_true ⟨by omega, by omega⟩
      rw [e]
      clear e
      go_enter Try.func12, Try.ntmps12
      go_wp2
      go_ret
      exact ⟨rfl, rfl⟩
    · have e : kindB k = false := decide_eq_false (by omega)
      rw [e]
      clear e
      go_enter Try.func12, Try.ntmps12
      go_wp2
      go_ret
      exact ⟨rfl, rfl⟩
  · have e : kindB k = false := decide_eq_false (by omega)
    rw [e]
    clear e
    go_enter Try.func12, Try.ntmps12
    go_wp2
    go_ret
    exact ⟨rfl, rfl⟩
theorem rows_any (k : Int) (w : World) :
    Calls Try.prog 10 #[.int .i64 k] w fun e w' => e = .returned (.bool (rowsB k)) ∧ w' = w := by
  by_cases h1 : 2 ≤ k
  · by_cases h2 : k ≤ 10
    · have e : rowsB k = true := decide_eq_true ⟨by omega, by omega⟩
      rw [e]
      clear e
      go_enter Try.func10, Try.ntmps10
      go_wp2
      go_ret
      exact ⟨rfl, rfl⟩
    · have e : rowsB k = false := decide_eq_false (by omega)
      rw [e]
      clear e
      go_enter Try.func10, Try.ntmps10
      go_wp2
      go_ret
      exact ⟨rfl, rfl⟩
  · have e : rowsB k = false := decide_eq_false (by omega)
    rw [e]
    clear e
    go_enter Try.func10, Try.ntmps10
    go_wp2
    go_ret
    exact ⟨rfl, rfl⟩

/-! ### How far two are apart -/
theorem u64_of (z : Int) (h : 0 ≤ z) (h2 : z < 18446744073709551616) : IntKind.u64.wrap z = z := by
  simp only [IntKind.wrap, IntKind.signed, IntKind.bits]
  simp
  omega
theorem u64_below (z : Int) (h : z < 0) (h2 : -18446744073709551616 ≤ z) : IntKind.u64.wrap z = z + 18446744073709551616 := by
  simp only [IntKind.wrap, IntKind.signed, IntKind.bits]
  simp
  omega
/-- A difference of two ints in order, taken of words. -/
theorem u64_diff {a b : Int} (ha : IsInt a) (hb : IsInt b) (h : b ≤ a) : IntKind.u64.wrap (IntKind.u64.wrap a - IntKind.u64.wrap b) = a - b := by
  unfold IsInt at ha hb
  rcases Int.lt_or_le a 0 with h1 | h1
  · rw [u64_below a h1 (by omega), u64_below b (by omega) (by omega)]
    rw [show a + 18446744073709551616 - (b + 18446744073709551616) = a - b by omega]
    exact u64_of _ (by omega) (by omega)
  · rw [u64_of a h1 (by omega)]
    rcases Int.lt_or_le b 0 with h2 | h2
    · rw [u64_below b h2 (by omega), u64_below _ (by omega) (by omega)]
      omega
    · rw [u64_of b h2 (by omega)]
      exact u64_of _ (by omega) (by omega)
theorem dist_le {a v : Int} (h : v ≤ a) : ((dist a v : Nat) : Int) = a - v := by unfold dist; omega
theorem dist_ge {a v : Int} (h : a ≤ v) : ((dist a v : Nat) : Int) = v - a := by unfold dist; omega
theorem apart_any (a v : Int) (ha : IsInt a) (hv : IsInt v) (w : World) :
    Calls Try.prog 17 #[.int .i64 a, .int .i64 v] w fun e w' => e = .returned (.int .u64 (dist a v : Nat)) ∧ w' = w := by
  have d1 : a ≤ v → ((dist a v : Nat) : Int) = v - a := dist_ge
  have d2 : v ≤ a → ((dist a v : Nat) : Int) = a - v := dist_le
  obtain ⟨D, hD⟩ : ∃ D : Int, ((dist a v : Nat) : Int) = D := ⟨_, rfl⟩
  rw [hD] at d1 d2 ⊢
  clear hD
  rcases Int.lt_trichotomy a v with h | h | h
  · have hd := u64_diff hv ha (by omega)
    rw [← d1 (by omega)] at hd
    clear d1 d2 ha hv
    go_enter Try.func17, Try.ntmps17
    go_wp2
    all_goals first | (exfalso; omega) | (go_ret; exact ⟨rfl, rfl⟩)
  · subst h
    have d0 : D = 0 := by have := d1 (by omega); omega
    subst d0
    have hd : IntKind.u64.wrap 0 = 0 := by decide
    clear d1 d2 ha hv
    go_enter Try.func17, Try.ntmps17
    go_wp2
    all_goals first | (exfalso; omega) | (go_ret; exact ⟨rfl, rfl⟩)
  · have hd := u64_diff ha hv (by omega)
    rw [← d2 (by omega)] at hd
    clear d1 d2 ha hv
    go_enter Try.func17, Try.ntmps17
    go_wp2
    all_goals first | (exfalso; omega) | (go_ret; exact ⟨rfl, rfl⟩)
theorem rapart_any (a v : Int) (ha : IsInt a) (hv : IsInt v) (w : World) :
    Calls Try.prog 19 #[.int .i64 a, .int .i64 v] w fun e w' => e = .returned (.int .u64 (dist a v : Nat)) ∧ w' = w := by
  have d1 : a ≤ v → ((dist a v : Nat) : Int) = v - a := dist_ge
  have d2 : v ≤ a → ((dist a v : Nat) : Int) = a - v := dist_le
  obtain ⟨D, hD⟩ : ∃ D : Int, ((dist a v : Nat) : Int) = D := ⟨_, rfl⟩
  rw [hD] at d1 d2 ⊢
  clear hD
  rcases Int.lt_trichotomy a v with h | h | h
  · have hd := u64_diff hv ha (by omega)
    rw [← d1 (by omega)] at hd
    clear d1 d2 ha hv
    go_enter Try.func19, Try.ntmps19
    go_wp2
    all_goals first | (exfalso; omega) | (go_ret; exact ⟨rfl, rfl⟩)
  · subst h
    have d0 : D = 0 := by have := d1 (by omega); omega
    subst d0
    have hd : IntKind.u64.wrap 0 = 0 := by decide
    clear d1 d2 ha hv
    go_enter Try.func19, Try.ntmps19
    go_wp2
    all_goals first | (exfalso; omega) | (go_ret; exact ⟨rfl, rfl⟩)
  · have hd := u64_diff ha hv (by omega)
    rw [← d2 (by omega)] at hd
    clear d1 d2 ha hv
    go_enter Try.func19, Try.ntmps19
    go_wp2
    all_goals first | (exfalso; omega) | (go_ret; exact ⟨rfl, rfl⟩)
end Go.Proofs.Ytnfbgpcilnlpjaa
