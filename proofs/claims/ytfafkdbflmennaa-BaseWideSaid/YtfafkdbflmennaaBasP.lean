/- base's small functions; the methods of both charts, all but how wide a row is. -/
import Derived.Test.YtfafkdbflmennaaBasM
import Derived.Test.YtfafkdbflmennaaBasA
import Derived.Test.YtfafkdbflmennaaFacC0
import Derived.Test.YtfafkdbflmennaaContF
import Derived.Lib.MinMax
namespace Go.Proofs.Ytfafkdbflmennaa
open Go.RowKit

def sizB (n : Int) : Bool := decide (1 ≤ n ∧ n ≤ 10)
def nearB (x n : Int) : Bool := decide (-n * 1000000 ≤ x ∧ x ≤ n * 1000000)
theorem wrapJ {x : Int} (h : -9000000000000000000 ≤ x ∧ x ≤ 9000000000000000000) : IntKind.i64.wrap x = x := wrap_int (by unfold IsInt; omega)
theorem wrapJ6 {x : Int} (h : -9000000000000000000 ≤ x ∧ x ≤ 9000000000000000000) : wrap64 x = x := by unfold wrap64; omega
theorem bsize_any (n : Int) (w : World) : Calls Try.prog 22 #[.int .i64 n] w fun e w' => e = .returned (.bool (sizB n)) ∧ w' = w := by
  by_cases h1 : 1 ≤ n
  · by_cases h2 : n ≤ 10
    · have e : sizB n = true := decide_eq_true ⟨h1, h2⟩
      rw [e]
      clear e
      go_enter Try.func22, Try.ntmps22
      go_wp2
      go_ret
      exact ⟨rfl, rfl⟩
    · have e : sizB n = false := decide_eq_false (by omega)
      rw [e]
      clear e
      go_enter Try.func22, Try.ntmps22
      go_wp2
      go_ret
      exact ⟨rfl, rfl⟩
  · have e : sizB n = false := decide_eq_false (by omega)
    rw [e]
    clear e
    go_enter Try.func22, Try.ntmps22
    go_wp2
    go_ret
    exact ⟨rfl, rfl⟩
theorem near_any (x n : Int) (hn : 0 ≤ n ∧ n ≤ 1000) (w : World) : Calls Try.prog 26 #[.int .i64 x, .int .i64 n] w fun e w' => e = .returned (.bool (nearB x n)) ∧ w' = w := by
  obtain ⟨L, hL⟩ : ∃ L, -n * 1000000 = L := ⟨_, rfl⟩
  obtain ⟨H, hH⟩ : ∃ H, n * 1000000 = H := ⟨_, rfl⟩
  have e1 : IntKind.i64.wrap (-n) = -n := wrapJ (by omega)
  have e2 : IntKind.i64.wrap (-n * 1000000) = L := by rw [wrapJ (by omega)]; exact hL
  have e3 : IntKind.i64.wrap (n * 1000000) = H := by rw [wrapJ (by omega)]; exact hH
  unfold nearB
  rw [hL, hH]
  clear hL hH hn
  by_cases h1 : L ≤ x
  · by_cases h2 : x ≤ H
    · rw [show decide (L ≤ x ∧ x ≤ H) = true from decide_eq_true ⟨h1, h2⟩]
      go_enter Try.func26, Try.ntmps26
      go_wp2
      go_ret
      exact ⟨rfl, rfl⟩
    · rw [show decide (L ≤ x ∧ x ≤ H) = false from decide_eq_false (by omega)]
      go_enter Try.func26, Try.ntmps26
      go_wp2
      go_ret
      exact ⟨rfl, rfl⟩
  · rw [show decide (L ≤ x ∧ x ≤ H) = false from decide_eq_false (by omega)]
    go_enter Try.func26, Try.ntmps26
    go_wp2
    go_ret
    exact ⟨rfl, rfl⟩
theorem noSample_any (x : Int) (w : World) : Calls Try.prog 24 #[.int .i64 x] w fun e w' => e = .returned (.bool (!nearB x 1)) ∧ w = w' := by
  have M := Lib.hid (near_any x 1 (by omega) w)
  obtain ⟨V, hV⟩ : ∃ V, nearB x 1 = V := ⟨_, rfl⟩
  rw [hV] at M ⊢
  clear hV
  go_enter Try.func24, Try.ntmps24
  go_wp2_with fail
  refine M.out.mono ?_
  rintro e w2 ⟨rfl, rfl⟩
  go_wp2
  go_ret
  exact ⟨rfl, rfl⟩
theorem notSample : NotP 24 (fun x => nearB x 1) := ⟨fun args w => by kernel_rfl, noSample_any⟩
set_option linter.unusedSimpArgs false in
set_option linter.unusedVariables false in
set_option maxHeartbeats 4000000 in
set_option maxRecDepth 100000 in
theorem factorOf_core (k n x : Int) (w : World)
    (m : Calls Try.prog 37 #[.int .i64 k, .int .i64 n] w fun e w' => e = .returned (.tuple #[.int .i64 x, .int .i64 0]) ∧ Below w.heap.size w w') :
    Calls Try.prog 30 #[.int .i64 k, .int .i64 n] w fun e w' => e = .returned (.int .i64 x) ∧ Below w.heap.size w w' := by
  have M := Lib.hid m
  clear m
  go_enter Try.func30, Try.ntmps30
  go_wp2_with fail
  refine M.out.mono ?_
  rintro e w2 ⟨rfl, hb⟩
  have HB := Lib.hid hb
  clear hb
  go_wp2
  go_ret
  exact ⟨rfl, HB.out⟩
theorem factorOf_any (k j : Nat) (n x : Int) (hk : k < 7) (hj : j < 9) (hn : n = j + 2) (hx : x = fac k j) (w : World) :
    Calls Try.prog 30 #[.int .i64 (k : Nat), .int .i64 n] w fun e w' => e = .returned (.int .i64 x) ∧ Below w.heap.size w w' := by
  subst hn hx
  exact factorOf_core _ _ _ w (factor_any k j hk hj w)
/-! ### Charts -/
def chV (b : Bas) : Value := if b.size = 1 then .iface 74 (basV b) else .iface 75 (basV b)
set_option linter.unusedSimpArgs false in
set_option linter.unusedVariables false in
set_option maxHeartbeats 4000000 in
set_option maxRecDepth 100000 in
theorem chartOf_1 (m sum rng last : Int) (w : World) : Calls Try.prog 25 #[.agg #[.int .i64 1, .int .i64 m, .int .i64 sum, .int .i64 rng, .int .i64 last]] w fun e w' => e = .returned (.iface 74 (.agg #[.int .i64 1, .int .i64 m, .int .i64 sum, .int .i64 rng, .int .i64 last])) ∧ Below w.heap.size w w' := by
  have HB := (Below.refl w.heap.size w).alloc (Nat.le_refl _) (basO ⟨1, m, sum, rng, last⟩)
  go_enter Try.func25, Try.ntmps25
  go_wp2
  go_ret
  exact ⟨rfl, HB⟩
set_option linter.unusedSimpArgs false in
set_option linter.unusedVariables false in
set_option maxHeartbeats 4000000 in
set_option maxRecDepth 100000 in
theorem chartOf_2 (size m sum rng last : Int) (q : (size == 1) = false) (w : World) : Calls Try.prog 25 #[.agg #[.int .i64 size, .int .i64 m, .int .i64 sum, .int .i64 rng, .int .i64 last]] w fun e w' => e = .returned (.iface 75 (.agg #[.int .i64 size, .int .i64 m, .int .i64 sum, .int .i64 rng, .int .i64 last])) ∧ Below w.heap.size w w' := by
  have HB := (Below.refl w.heap.size w).alloc (Nat.le_refl _) (basO ⟨size, m, sum, rng, last⟩)
  go_enter Try.func25, Try.ntmps25
  go_wp2
  go_ret
  exact ⟨rfl, HB⟩
set_option linter.unusedSimpArgs false in
set_option linter.unusedVariables false in
set_option maxHeartbeats 4000000 in
set_option maxRecDepth 100000 in
theorem ranges_1 (size m sum rng last R : Int) (h : max 0 (IntKind.i64.wrap (m - 1)) = R) (w : World) : Calls Try.prog 92 #[.agg #[.int .i64 size, .int .i64 m, .int .i64 sum, .int .i64 rng, .int .i64 last]] w fun e w' => e = .returned (.int .i64 R) ∧ Below w.heap.size w w' := by
  have HB := (Below.refl w.heap.size w).alloc (Nat.le_refl _) (.cells #[.int .i64 size, .int .i64 m, .int .i64 sum, .int .i64 rng, .int .i64 last] 74)
  obtain ⟨M, hM⟩ : ∃ M, IntKind.i64.wrap (m - 1) = M := ⟨_, rfl⟩
  rw [hM] at h
  go_enter Try.func92, Try.ntmps92
  go_wp2
  go_ret
  exact ⟨rfl, HB⟩
set_option linter.unusedSimpArgs false in
set_option linter.unusedVariables false in
set_option maxHeartbeats 4000000 in
set_option maxRecDepth 100000 in
theorem width_1 (size m sum rng last : Int) (w : World) : Calls Try.prog 93 #[.agg #[.int .i64 size, .int .i64 m, .int .i64 sum, .int .i64 rng, .int .i64 last]] w fun e w' => e = .returned (.int .i64 2) ∧ Below w.heap.size w w' := by
  have HB := (Below.refl w.heap.size w).alloc (Nat.le_refl _) (.cells #[.int .i64 size, .int .i64 m, .int .i64 sum, .int .i64 rng, .int .i64 last] 74)
  go_enter Try.func93, Try.ntmps93
  go_wp2
  go_ret
  exact ⟨rfl, HB⟩
set_option linter.unusedSimpArgs false in
set_option linter.unusedVariables false in
set_option maxHeartbeats 4000000 in
set_option maxRecDepth 100000 in
theorem ranges_2 (size m sum rng last : Int) (w : World) : Calls Try.prog 96 #[.agg #[.int .i64 size, .int .i64 m, .int .i64 sum, .int .i64 rng, .int .i64 last]] w fun e w' => e = .returned (.int .i64 m) ∧ Below w.heap.size w w' := by
  have HB := (Below.refl w.heap.size w).alloc (Nat.le_refl _) (.cells #[.int .i64 size, .int .i64 m, .int .i64 sum, .int .i64 rng, .int .i64 last] 75)
  go_enter Try.func96, Try.ntmps96
  go_wp2
  go_ret
  exact ⟨rfl, HB⟩
set_option linter.unusedSimpArgs false in
set_option linter.unusedVariables false in
set_option maxHeartbeats 4000000 in
set_option maxRecDepth 100000 in
theorem width_2 (size m sum rng last : Int) (w : World) : Calls Try.prog 97 #[.agg #[.int .i64 size, .int .i64 m, .int .i64 sum, .int .i64 rng, .int .i64 last]] w fun e w' => e = .returned (.int .i64 size) ∧ Below w.heap.size w w' := by
  have HB := (Below.refl w.heap.size w).alloc (Nat.le_refl _) (.cells #[.int .i64 size, .int .i64 m, .int .i64 sum, .int .i64 rng, .int .i64 last] 75)
  go_enter Try.func97, Try.ntmps97
  go_wp2
  go_ret
  exact ⟨rfl, HB⟩
end Go.Proofs.Ytfafkdbflmennaa
