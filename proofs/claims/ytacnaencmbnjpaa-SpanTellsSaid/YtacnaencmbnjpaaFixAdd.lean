/- fix.Add, fix.Sub: the sum or difference if it is an int, else ErrOver. -/
import Derived.Test.YtacnaencmbnjpaaFixS
namespace Go.Proofs.Ytacnaencmbnjpaa
open Go.RowKit

/-- attempt where the work answers an int or gives up with ErrOver. -/
theorem attempt_told (K : Nat) (cap : Array Value) (z : Int) (w : World) (eg : ∀ args w, (callFunc K args).run Try.prog w = .ok (.enter K args) w)
    (hk : ∀ w1, Below w.heap.size w w1 → Calls Try.prog K cap w1 fun e w2 => e = told z ∧ Below w1.heap.size w1 w2) :
    Calls Try.prog 49 #[.func (.func K) #[] cap] w fun e w' => e = .returned (.tuple #[.int .i64 (ans z), .int .i64 (err z)]) ∧ Below w.heap.size w w' := by
  by_cases h : IsInt z
  · rw [ans_ok h, err_ok h]
    rw [told_ok h] at hk
    exact attempt_ok K cap z w eg hk
  · rw [ans_no h, err_no h]
    rw [told_no h] at hk
    exact attempt_no K cap 5 w eg hk

theorem fadd_work (a b : Int) (p q : Nat) (ha : IsInt a) (hb : IsInt b) (w : World) (cp : w.cell? ⟨p, 0, none⟩ = some (.int .i64 a)) (cq : w.cell? ⟨q, 0, none⟩ = some (.int .i64 b)) :
    Calls Try.prog 50 #[.pointer (some ⟨p, 0, none⟩), .pointer (some ⟨q, 0, none⟩)] w fun e w' => e = told (a + b) ∧ Below w.heap.size w w' := by
  obtain ⟨s, hs⟩ : ∃ s : Int, IntKind.i64.wrap (a + b) = s := ⟨_, rfl⟩
  by_cases h : IsInt (a + b)
  · rw [told_ok h]
    rw [wrap_int h] at hs
    have hw := wrap_int h
    rw [hs] at hw ⊢
    have hr : s < a ↔ b < 0 := by omega
    have hx : IntKind.i64.wrap (a + b) = s := by rw [hs]; exact hw
    clear hs hw h ha hb
    by_cases h0 : b < 0
    · have h1 := hr.2 h0
      clear hr
      go_enter Try.func50, Try.ntmps50
      go_wp2_with fail
      go_ret
      exact ⟨rfl, Below.refl _ _⟩
    · have h1 : ¬ (s < a) := fun k => h0 (hr.1 k)
      clear hr
      go_enter Try.func50, Try.ntmps50
      go_wp2_with fail
      go_ret
      exact ⟨rfl, Below.refl _ _⟩
  · rw [told_no h]
    have hr : s < a ↔ ¬ b < 0 := by
      unfold IsInt at h ha hb
      have : s = a + b + 18446744073709551616 ∨ s = a + b - 18446744073709551616 := by
        rw [← hs]; simp only [IntKind.wrap, IntKind.signed, IntKind.bits]; simp; omega
      have : -9223372036854775808 ≤ s ∧ s ≤ 9223372036854775807 := by
        rw [← hs]; simp only [IntKind.wrap, IntKind.signed, IntKind.bits]; simp; omega
      omega
    have hx := hs
    clear hs h ha hb
    by_cases h0 : b < 0
    · have h1 : ¬ (s < a) := fun k => hr.1 k h0
      clear hr
      go_enter Try.func50, Try.ntmps50
      go_wp2_with fail
      exact ⟨rfl, rfl, Below.refl _ _⟩
    · have h1 := hr.2 h0
      clear hr
      go_enter Try.func50, Try.ntmps50
      go_wp2_with fail
      exact ⟨rfl, rfl, Below.refl _ _⟩
theorem fadd_any (a b : Int) (ha : IsInt a) (hb : IsInt b) (w : World) :
    Calls Try.prog 26 #[.int .i64 a, .int .i64 b] w fun e w' => e = .returned (.tuple #[.int .i64 (ans (a + b)), .int .i64 (err (a + b))]) ∧ Below w.heap.size w w' := by
  have hk := attempt_told 50 #[.pointer (some ⟨w.heap.size, 0, none⟩), .pointer (some ⟨w.heap.size + 1, 0, none⟩)] (a + b) ((w.alloc (.cells #[.int .i64 a] 3)).alloc (.cells #[.int .i64 b] 3)) (enters_of Try.func50 (by kernel_rfl) rfl)
    (fun w1 hb1 => fadd_work a b _ _ ha hb w1 (((IBox.new _ _ _).alloc _).call hb1).c ((IBox.newAt (by simp)).call hb1).c)
  obtain ⟨x, hx⟩ : ∃ x, ans (a + b) = x := ⟨_, rfl⟩
  obtain ⟨y, hy⟩ : ∃ y, err (a + b) = y := ⟨_, rfl⟩
  rw [hx, hy] at hk ⊢
  have HK := Lib.hid hk
  clear hk hx hy ha hb
  have hmf : ∀ (fn : Fn) (first cap : Array Value) (w : World), (Instr.makeFunc fn first cap).run Try.prog w = .ok (.func fn first cap) w := fun _ _ _ _ => rfl
  go_enter Try.func26, Try.ntmps26
  go_wp2_with fail
  refine HK.out.mono ?_
  rintro e w1 ⟨rfl, hb1⟩
  have HW := Lib.hid ((((Below.refl w.heap.size w).alloc (Nat.le_refl _) _).alloc (by simp) _).trans (hb1.mono (by simp; omega)))
  clear hb1
  go_wp2_with fail
  go_ret2
  exact ⟨rfl, HW.out⟩

theorem fsub_work (a b : Int) (p q : Nat) (ha : IsInt a) (hb : IsInt b) (w : World) (cp : w.cell? ⟨p, 0, none⟩ = some (.int .i64 a)) (cq : w.cell? ⟨q, 0, none⟩ = some (.int .i64 b)) :
    Calls Try.prog 51 #[.pointer (some ⟨p, 0, none⟩), .pointer (some ⟨q, 0, none⟩)] w fun e w' => e = told (a - b) ∧ Below w.heap.size w w' := by
  obtain ⟨s, hs⟩ : ∃ s : Int, IntKind.i64.wrap (a - b) = s := ⟨_, rfl⟩
  by_cases h : IsInt (a - b)
  · rw [told_ok h]
    rw [wrap_int h] at hs
    have hw := wrap_int h
    rw [hs] at hw ⊢
    have hr : a < s ↔ b < 0 := by omega
    have hx : IntKind.i64.wrap (a - b) = s := by rw [hs]; exact hw
    clear hs hw h ha hb
    by_cases h0 : b < 0
    · have h1 := hr.2 h0
      clear hr
      go_enter Try.func51, Try.ntmps51
      go_wp2_with fail
      go_ret
      exact ⟨rfl, Below.refl _ _⟩
    · have h1 : ¬ (a < s) := fun k => h0 (hr.1 k)
      clear hr
      go_enter Try.func51, Try.ntmps51
      go_wp2_with fail
      go_ret
      exact ⟨rfl, Below.refl _ _⟩
  · rw [told_no h]
    have hr : a < s ↔ ¬ b < 0 := by
      unfold IsInt at h ha hb
      have : s = a - b + 18446744073709551616 ∨ s = a - b - 18446744073709551616 := by
        rw [← hs]; simp only [IntKind.wrap, IntKind.signed, IntKind.bits]; simp; omega
      have : -9223372036854775808 ≤ s ∧ s ≤ 9223372036854775807 := by
        rw [← hs]; simp only [IntKind.wrap, IntKind.signed, IntKind.bits]; simp; omega
      omega
    have hx := hs
    clear hs h ha hb
    by_cases h0 : b < 0
    · have h1 : ¬ (a < s) := fun k => hr.1 k h0
      clear hr
      go_enter Try.func51, Try.ntmps51
      go_wp2_with fail
      exact ⟨rfl, rfl, Below.refl _ _⟩
    · have h1 := hr.2 h0
      clear hr
      go_enter Try.func51, Try.ntmps51
      go_wp2_with fail
      exact ⟨rfl, rfl, Below.refl _ _⟩
theorem fsub_any (a b : Int) (ha : IsInt a) (hb : IsInt b) (w : World) :
    Calls Try.prog 27 #[.int .i64 a, .int .i64 b] w fun e w' => e = .returned (.tuple #[.int .i64 (ans (a - b)), .int .i64 (err (a - b))]) ∧ Below w.heap.size w w' := by
  have hk := attempt_told 51 #[.pointer (some ⟨w.heap.size, 0, none⟩), .pointer (some ⟨w.heap.size + 1, 0, none⟩)] (a - b) ((w.alloc (.cells #[.int .i64 a] 3)).alloc (.cells #[.int .i64 b] 3)) (enters_of Try.func51 (by kernel_rfl) rfl)
    (fun w1 hb1 => fsub_work a b _ _ ha hb w1 (((IBox.new _ _ _).alloc _).call hb1).c ((IBox.newAt (by simp)).call hb1).c)
  obtain ⟨x, hx⟩ : ∃ x, ans (a - b) = x := ⟨_, rfl⟩
  obtain ⟨y, hy⟩ : ∃ y, err (a - b) = y := ⟨_, rfl⟩
  rw [hx, hy] at hk ⊢
  have HK := Lib.hid hk
  clear hk hx hy ha hb
  have hmf : ∀ (fn : Fn) (first cap : Array Value) (w : World), (Instr.makeFunc fn first cap).run Try.prog w = .ok (.func fn first cap) w := fun _ _ _ _ => rfl
  go_enter Try.func27, Try.ntmps27
  go_wp2_with fail
  refine HK.out.mono ?_
  rintro e w1 ⟨rfl, hb1⟩
  have HW := Lib.hid ((((Below.refl w.heap.size w).alloc (Nat.le_refl _) _).alloc (by simp) _).trans (hb1.mono (by simp; omega)))
  clear hb1
  go_wp2_with fail
  go_ret2
  exact ⟨rfl, HW.out⟩
end Go.Proofs.Ytacnaencmbnjpaa
