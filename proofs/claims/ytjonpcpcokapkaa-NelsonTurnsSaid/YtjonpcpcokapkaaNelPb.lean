/- nelson's small functions: isNoClass, isNoMask, Compare, far. -/
import Derived.Test.YtjonpcpcokapkaaNelPa
import Derived.Test.YtjonpcpcokapkaaZonI
import Derived.Test.YtjonpcpcokapkaaApI
import Derived.Test.YtjonpcpcokapkaaNelG
import Derived.Lib.MinMax
namespace Go.Proofs.Ytjonpcpcokapkaa
open Go.RowKit

theorem noClass_any (c : Int) (w : World) : Calls Try.prog 24 #[.int .i64 c] w fun e w' => e = .returned (.bool (!clsB c)) ∧ w = w' := by
  unfold clsB
  by_cases h1 : -4 ≤ c
  · have g1 : ¬ c < -4 := by omega
    by_cases h2 : c ≤ 4
    · have g2 : ¬ 4 < c := by omega
      rw [decide_eq_true (show -4 ≤ c ∧ c ≤ 4 from ⟨h1, h2⟩)]
      go_enter Try.func24, Try.ntmps24
      go_wp2
      go_ret
      exact ⟨rfl, rfl⟩
    · have g2 : 4 < c := by omega
      rw [decide_eq_false (show ¬ (-4 ≤ c ∧ c ≤ 4) by omega)]
      go_enter Try.func24, Try.ntmps24
      go_wp2
      go_ret
      exact ⟨rfl, rfl⟩
  · have g1 : c < -4 := by omega
    rw [decide_eq_false (show ¬ (-4 ≤ c ∧ c ≤ 4) by omega)]
    go_enter Try.func24, Try.ntmps24
    go_wp2
    go_ret
    exact ⟨rfl, rfl⟩
theorem noMask_any (m : Int) (w : World) : Calls Try.prog 28 #[.int .i64 m] w fun e w' => e = .returned (.bool (!maskB m)) ∧ w = w' := by
  unfold maskB
  by_cases h : 1 ≤ m ∧ m ≤ 511
  · rw [decide_eq_true h]
    have HE := Lib.hid (ends13_ok m h w)
    clear h
    go_enter Try.func28, Try.ntmps28
    go_wp2_with fail
    refine HE.out.mono ?_
    rintro e w2 ⟨rfl, rfl⟩
    go_wp2
    go_ret
    exact ⟨rfl, rfl⟩
  · rw [decide_eq_false h]
    have HE := Lib.hid (ends13_no m h w)
    clear h
    go_enter Try.func28, Try.ntmps28
    go_wp2_with fail
    refine HE.out.mono ?_
    rintro e w2 ⟨rfl, rfl⟩
    go_wp2
    go_ret
    exact ⟨rfl, rfl⟩
theorem nan_any (x : Int) (w : World) : Calls Try.prog 56 #[.int .i64 x] w fun e w' => e = .returned (.bool false) ∧ w = w' := by
  go_enter Try.func56, Try.ntmps56
  go_wp2
  go_ret
  exact ⟨by simp, rfl⟩
theorem cmp_any (x y : Int) (w : World) : Calls Try.prog 49 #[.int .i64 x, .int .i64 y] w fun e w' => e = .returned (.int .i64 (cmpN x y)) ∧ w = w' := by
  have n1 := fun W => nan_any x W
  have n2 := fun W => nan_any y W
  have N1 := Lib.hid n1; have N2 := Lib.hid n2
  clear n1 n2
  unfold cmpN
  rcases Int.lt_trichotomy x y with g | g | g
  · rw [if_pos g]
    go_enter Try.func49, Try.ntmps49
    go_wp2_with fail
    refine (N1.out _).mono ?_
    rintro e w2 ⟨rfl, rfl⟩
    go_wp2_with fail
    refine (N2.out _).mono ?_
    rintro e w3 ⟨rfl, rfl⟩
    go_wp2
    go_ret
    exact ⟨rfl, rfl⟩
  · subst g
    rw [if_neg (Int.lt_irrefl _), if_neg (Int.lt_irrefl _)]
    have g1 : ¬ x < x := Int.lt_irrefl _
    go_enter Try.func49, Try.ntmps49
    go_wp2_with fail
    refine (N1.out _).mono ?_
    rintro e w2 ⟨rfl, rfl⟩
    go_wp2_with fail
    refine (N2.out _).mono ?_
    rintro e w3 ⟨rfl, rfl⟩
    go_wp2
    go_ret
    exact ⟨rfl, rfl⟩
  · rw [if_neg (by omega), if_pos g]
    have g1 : ¬ x < y := by omega
    go_enter Try.func49, Try.ntmps49
    go_wp2_with fail
    refine (N1.out _).mono ?_
    rintro e w2 ⟨rfl, rfl⟩
    go_wp2_with fail
    refine (N2.out _).mono ?_
    rintro e w3 ⟨rfl, rfl⟩
    go_wp2
    go_ret
    exact ⟨rfl, rfl⟩
/-! ### What a rule looks at -/
def pastV (p : Past) : List Value := [.bool p.begun, .int .i64 p.cls, .int .i64 p.step, .int .i64 p.side, .int .i64 p.na, .int .i64 p.nb]
abbrev pastA (p : Past) : Value := .agg #[.bool p.begun, .int .i64 p.cls, .int .i64 p.step, .int .i64 p.side, .int .i64 p.na, .int .i64 p.nb]
abbrev lookA (c : Int) (p : Past) : Value := .agg #[.int .i64 c, .bool p.begun, .int .i64 p.cls, .int .i64 p.step, .int .i64 p.side, .int .i64 p.na, .int .i64 p.nb]
abbrev lookO (c : Int) (p : Past) : Obj := .cells #[.int .i64 c, .bool p.begun, .int .i64 p.cls, .int .i64 p.step, .int .i64 p.side, .int .i64 p.na, .int .i64 p.nb] 57
theorem far_any (c : Int) (hc : -4 ≤ c ∧ c ≤ 4) (p : Past) (w : World) : Calls Try.prog 48 #[lookA c p] w fun e w' => e = .returned (.int .i64 (farN c)) ∧ Below w.heap.size w w' := by
  have hB := (Below.refl w.heap.size w).alloc (Nat.le_refl _) (lookO c p)
  unfold farN
  go_enter Try.func48, Try.ntmps48
  go_wp2
  go_ret
  exact ⟨rfl, hB⟩
end Go.Proofs.Ytjonpcpcokapkaa
