/- fix.size, fix.whole: an int without its sign; the int that lies so far from 0, or what whole gives up with. -/
import Derived.Test.YtacnaencmbnjpaaAttempt
import Derived.Test.YtacnaencmbnjpaaWMul
namespace Go.Proofs.Ytacnaencmbnjpaa
open Go.RowKit

theorem u64_low (z : Int) (h : 0 ≤ z) (h2 : z < 18446744073709551616) : IntKind.u64.wrap z = z := by
  simp only [IntKind.wrap, IntKind.signed, IntKind.bits]
  simp
  omega
theorem u64_neg (z : Int) (h : z < 0) (h2 : -18446744073709551616 ≤ z) : IntKind.u64.wrap z = z + 18446744073709551616 := by
  simp only [IntKind.wrap, IntKind.signed, IntKind.bits]
  simp
  omega
theorem i64_high (z : Int) (h : 9223372036854775808 ≤ z) (h2 : z < 18446744073709551616) : IntKind.i64.wrap z = z - 18446744073709551616 := by
  simp only [IntKind.wrap, IntKind.signed, IntKind.bits]
  simp
  omega
theorem size_nums (a : Int) (ha : IsInt a) : (a < 0 → IntKind.u64.wrap (-(IntKind.u64.wrap a)) = (a.natAbs : Nat)) ∧ (¬ a < 0 → IntKind.u64.wrap a = (a.natAbs : Nat)) := by
  unfold IsInt at ha
  constructor
  · intro h
    rw [u64_neg a h (by omega), u64_neg _ (by omega) (by omega)]
    omega
  · intro h
    rw [u64_low a (by omega) (by omega)]
    omega
theorem size_any (a : Int) (ha : IsInt a) (w : World) :
    Calls Try.prog 55 #[.int .i64 a] w fun e w' => e = .returned (.int .u64 (a.natAbs : Nat)) ∧ w' = w := by
  obtain ⟨h1, h2⟩ := size_nums a ha
  obtain ⟨n, hn⟩ : ∃ n : Nat, a.natAbs = n := ⟨_, rfl⟩
  rw [hn] at h1 h2 ⊢
  clear hn
  by_cases h : a < 0
  · have e1 := h1 h
    clear h1 h2 ha
    obtain ⟨X, hX⟩ : ∃ X, IntKind.u64.wrap a = X := ⟨_, rfl⟩
    rw [hX] at e1
    go_enter Try.func55, Try.ntmps55
    go_wp2_with fail
    go_ret
    exact ⟨rfl, rfl⟩
  · have e1 := h2 h
    clear h1 h2 ha
    go_enter Try.func55, Try.ntmps55
    go_wp2_with fail
    go_ret
    exact ⟨rfl, rfl⟩

/-- An int, or what is given up with where there is none. -/
def told (z : Int) : Ending := if IsInt z then .returned (.int .i64 z) else gaveUp 5
theorem told_ok {z : Int} (h : IsInt z) : told z = .returned (.int .i64 z) := if_pos h
theorem told_no {z : Int} (h : ¬ IsInt z) : told z = gaveUp 5 := if_neg h

theorem whole_up (n : Nat) (hn : n < M128) (w : World) :
    Calls Try.prog 53 #[.bool false, .agg #[.int .u64 (hi n : Nat), .int .u64 (lo n : Nat)]] w fun e w' => e = told n ∧ Below w.heap.size w w' := by
  have hl := less_num 9223372036854775807 n (by decide) hn
  by_cases h : n ≤ 9223372036854775807
  · rw [told_ok (show IsInt n by unfold IsInt; omega)]
    rw [show ltW 9223372036854775807 n = false from decide_eq_false (by omega)] at hl
    have hL : ∀ w, Calls Try.prog 64 #[.agg #[.int .u64 0, .int .u64 9223372036854775807], .agg #[.int .u64 (hi n : Nat), .int .u64 (lo n : Nat)]] w fun e w' => e = .returned (.bool false) ∧ Below w.heap.size w w' := hl
    have e1 : IntKind.i64.wrap (lo n : Nat) = n := by
      rw [show lo n = n from Nat.mod_eq_of_lt (by omega)]
      exact wrap_int (by unfold IsInt; omega)
    have HL := Lib.hid hL
    clear hl hL h hn
    obtain ⟨z, hz⟩ : ∃ z : Int, (n : Int) = z := ⟨_, rfl⟩
    rw [hz] at e1 ⊢
    clear hz
    go_enter Try.func53, Try.ntmps53
    go_wp2_with fail
    refine (HL.out _).mono ?_
    rintro e w1 ⟨rfl, hb⟩
    have hW := ((Below.refl w.heap.size w).alloc (Nat.le_refl _) _).trans (hb.mono (by simp))
    have c0 := (hb.cell (p := ⟨w.heap.size, 0, none⟩) (by simp)); have c1 := (hb.cell (p := ⟨w.heap.size, 1, none⟩) (by simp))
    simp [go_sem] at c0 c1
    have HW := Lib.hid hW
    clear hb hW
    go_wp2_with fail
    go_ret
    exact ⟨rfl, HW.out⟩
  · rw [told_no (show ¬ IsInt n by unfold IsInt; omega)]
    rw [show ltW 9223372036854775807 n = true from decide_eq_true (by omega)] at hl
    have hL : ∀ w, Calls Try.prog 64 #[.agg #[.int .u64 0, .int .u64 9223372036854775807], .agg #[.int .u64 (hi n : Nat), .int .u64 (lo n : Nat)]] w fun e w' => e = .returned (.bool true) ∧ Below w.heap.size w w' := hl
    have HL := Lib.hid hL
    clear hl hL h hn
    go_enter Try.func53, Try.ntmps53
    go_wp2_with fail
    refine (HL.out _).mono ?_
    rintro e w1 ⟨rfl, hb⟩
    have hW := ((Below.refl w.heap.size w).alloc (Nat.le_refl _) _).trans (hb.mono (by simp))
    have HW := Lib.hid hW
    clear hb hW
    go_wp2_with fail
    exact ⟨rfl, rfl, HW.out⟩

theorem whole_down (n : Nat) (hn : n < M128) (w : World) :
    Calls Try.prog 53 #[.bool true, .agg #[.int .u64 (hi n : Nat), .int .u64 (lo n : Nat)]] w fun e w' => e = told (-(n : Int)) ∧ Below w.heap.size w w' := by
  have hl := less_num 9223372036854775808 n (by decide) hn
  by_cases h : n ≤ 9223372036854775808
  · rw [told_ok (show IsInt (-(n : Int)) by unfold IsInt; omega)]
    rw [show ltW 9223372036854775808 n = false from decide_eq_false (by omega)] at hl
    have hL : ∀ w, Calls Try.prog 64 #[.agg #[.int .u64 0, .int .u64 9223372036854775808], .agg #[.int .u64 (hi n : Nat), .int .u64 (lo n : Nat)]] w fun e w' => e = .returned (.bool false) ∧ Below w.heap.size w w' := hl
    have e1 : IntKind.i64.wrap (IntKind.u64.wrap (-(lo n : Nat))) = -(n : Int) := by
      rw [show lo n = n from Nat.mod_eq_of_lt (by omega)]
      rcases Nat.eq_zero_or_pos n with h0 | h0
      · subst h0; decide
      · rw [u64_neg _ (by omega) (by omega), i64_high _ (by omega) (by omega)]
        omega
    have HL := Lib.hid hL
    clear hl hL h hn
    obtain ⟨z, hz⟩ : ∃ z : Int, -(n : Int) = z := ⟨_, rfl⟩
    obtain ⟨X, hX⟩ : ∃ X : Int, IntKind.u64.wrap (-(lo n : Nat)) = X := ⟨_, rfl⟩
    rw [hz] at e1 ⊢
    rw [hX] at e1
    clear hz
    go_enter Try.func53, Try.ntmps53
    go_wp2_with fail
    refine (HL.out _).mono ?_
    rintro e w1 ⟨rfl, hb⟩
    have hW := ((Below.refl w.heap.size w).alloc (Nat.le_refl _) _).trans (hb.mono (by simp))
    have c0 := (hb.cell (p := ⟨w.heap.size, 0, none⟩) (by simp)); have c1 := (hb.cell (p := ⟨w.heap.size, 1, none⟩) (by simp))
    simp [go_sem] at c0 c1
    have HW := Lib.hid hW
    clear hb hW
    go_wp2_with fail
    go_ret
    exact ⟨rfl, HW.out⟩
  · rw [told_no (show ¬ IsInt (-(n : Int)) by unfold IsInt; omega)]
    rw [show ltW 9223372036854775808 n = true from decide_eq_true (by omega)] at hl
    have hL : ∀ w, Calls Try.prog 64 #[.agg #[.int .u64 0, .int .u64 9223372036854775808], .agg #[.int .u64 (hi n : Nat), .int .u64 (lo n : Nat)]] w fun e w' => e = .returned (.bool true) ∧ Below w.heap.size w w' := hl
    have HL := Lib.hid hL
    clear hl hL h hn
    go_enter Try.func53, Try.ntmps53
    go_wp2_with fail
    refine (HL.out _).mono ?_
    rintro e w1 ⟨rfl, hb⟩
    have hW := ((Below.refl w.heap.size w).alloc (Nat.le_refl _) _).trans (hb.mono (by simp))
    have HW := Lib.hid hW
    clear hb hW
    go_wp2_with fail
    exact ⟨rfl, rfl, HW.out⟩
theorem fixWhole_any (below : Bool) (n : Nat) (hn : n < M128) (w : World) :
    Calls Try.prog 53 #[.bool below, .agg #[.int .u64 (hi n : Nat), .int .u64 (lo n : Nat)]] w fun e w' => e = told (sgn below n) ∧ Below w.heap.size w w' := by
  cases below
  · exact whole_up n hn w
  · exact whole_down n hn w
end Go.Proofs.Ytacnaencmbnjpaa
