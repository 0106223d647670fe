/- Bases as values; the reference of stage 15: Right, Row, Sum. -/
import Derived.Test.YtfafkdbflmennaaBasN
import Derived.Test.YtfafkdbflmennaaIn
import Derived.Test.YtfafkdbflmennaaHas
import Derived.Test.YtfafkdbflmennaaNum
import Derived.Lib.MinMax
namespace Go.Proofs.Ytfafkdbflmennaa
open Go.RowKit

abbrev basV (b : Bas) : Value := .agg #[.int .i64 b.size, .int .i64 b.m, .int .i64 b.sum, .int .i64 b.rng, .int .i64 b.last]
abbrev basO (b : Bas) : Obj := .cells #[.int .i64 b.size, .int .i64 b.m, .int .i64 b.sum, .int .i64 b.rng, .int .i64 b.last] 23
def basL (b : Bas) : List Value := [.int .i64 b.size, .int .i64 b.m, .int .i64 b.sum, .int .i64 b.rng, .int .i64 b.last]
set_option linter.unusedSimpArgs false in
set_option linter.unusedVariables false in
set_option maxHeartbeats 4000000 in
set_option maxRecDepth 100000 in
theorem rr15_0 (size m sum rng last : Int)  (h0 : size < 1) (w : World) : Calls Try.prog 11 #[.agg #[.int .i64 size, .int .i64 m, .int .i64 sum, .int .i64 rng, .int .i64 last]] w fun e w' => e = .returned (.bool false) ∧ Below w.heap.size w w' := by
  have HB := (Below.refl w.heap.size w).alloc (Nat.le_refl _) (basO ⟨size, m, sum, rng, last⟩)
  go_enter Try.func11, Try.ntmps11
  go_wp2
  go_ret
  exact ⟨rfl, HB⟩
set_option linter.unusedSimpArgs false in
set_option linter.unusedVariables false in
set_option maxHeartbeats 4000000 in
set_option maxRecDepth 100000 in
theorem rr15_1 (size m sum rng last : Int) (h0 : ¬ size < 1) (h1 : 10 < size) (w : World) : Calls Try.prog 11 #[.agg #[.int .i64 size, .int .i64 m, .int .i64 sum, .int .i64 rng, .int .i64 last]] w fun e w' => e = .returned (.bool false) ∧ Below w.heap.size w w' := by
  have HB := (Below.refl w.heap.size w).alloc (Nat.le_refl _) (basO ⟨size, m, sum, rng, last⟩)
  go_enter Try.func11, Try.ntmps11
  go_wp2
  go_ret
  exact ⟨rfl, HB⟩
set_option linter.unusedSimpArgs false in
set_option linter.unusedVariables false in
set_option maxHeartbeats 4000000 in
set_option maxRecDepth 100000 in
theorem rr15_2 (size m sum rng last : Int) (h0 : ¬ size < 1) (h1 : ¬ 10 < size) (h2 : m < 0) (w : World) : Calls Try.prog 11 #[.agg #[.int .i64 size, .int .i64 m, .int .i64 sum, .int .i64 rng, .int .i64 last]] w fun e w' => e = .returned (.bool false) ∧ Below w.heap.size w w' := by
  have HB := (Below.refl w.heap.size w).alloc (Nat.le_refl _) (basO ⟨size, m, sum, rng, last⟩)
  go_enter Try.func11, Try.ntmps11
  go_wp2
  go_ret
  exact ⟨rfl, HB⟩
set_option linter.unusedSimpArgs false in
set_option linter.unusedVariables false in
set_option maxHeartbeats 4000000 in
set_option maxRecDepth 100000 in
theorem rr15_3 (size m sum rng last : Int) (h0 : ¬ size < 1) (h1 : ¬ 10 < size) (h2 : ¬ m < 0) (h3 : 25 < m) (w : World) : Calls Try.prog 11 #[.agg #[.int .i64 size, .int .i64 m, .int .i64 sum, .int .i64 rng, .int .i64 last]] w fun e w' => e = .returned (.bool false) ∧ Below w.heap.size w w' := by
  have HB := (Below.refl w.heap.size w).alloc (Nat.le_refl _) (basO ⟨size, m, sum, rng, last⟩)
  go_enter Try.func11, Try.ntmps11
  go_wp2
  go_ret
  exact ⟨rfl, HB⟩
set_option linter.unusedSimpArgs false in
set_option linter.unusedVariables false in
set_option maxHeartbeats 4000000 in
set_option maxRecDepth 100000 in
theorem rr15_4 (size m sum rng last : Int) (h0 : ¬ size < 1) (h1 : ¬ 10 < size) (h2 : ¬ m < 0) (h3 : ¬ 25 < m) (h4 : last < -1000000) (w : World) : Calls Try.prog 11 #[.agg #[.int .i64 size, .int .i64 m, .int .i64 sum, .int .i64 rng, .int .i64 last]] w fun e w' => e = .returned (.bool false) ∧ Below w.heap.size w w' := by
  have HB := (Below.refl w.heap.size w).alloc (Nat.le_refl _) (basO ⟨size, m, sum, rng, last⟩)
  go_enter Try.func11, Try.ntmps11
  go_wp2
  go_ret
  exact ⟨rfl, HB⟩
set_option linter.unusedSimpArgs false in
set_option linter.unusedVariables false in
set_option maxHeartbeats 4000000 in
set_option maxRecDepth 100000 in
theorem rr15_5 (size m sum rng last : Int) (h0 : ¬ size < 1) (h1 : ¬ 10 < size) (h2 : ¬ m < 0) (h3 : ¬ 25 < m) (h4 : ¬ last < -1000000) (h5 : 1000000 < last) (w : World) : Calls Try.prog 11 #[.agg #[.int .i64 size, .int .i64 m, .int .i64 sum, .int .i64 rng, .int .i64 last]] w fun e w' => e = .returned (.bool false) ∧ Below w.heap.size w w' := by
  have HB := (Below.refl w.heap.size w).alloc (Nat.le_refl _) (basO ⟨size, m, sum, rng, last⟩)
  go_enter Try.func11, Try.ntmps11
  go_wp2
  go_ret
  exact ⟨rfl, HB⟩
set_option linter.unusedSimpArgs false in
set_option linter.unusedVariables false in
set_option maxHeartbeats 4000000 in
set_option maxRecDepth 100000 in
theorem rr15_6 (size m sum rng last : Int) (h0 : ¬ size < 1) (h1 : ¬ 10 < size) (h2 : ¬ m < 0) (h3 : ¬ 25 < m) (h4 : ¬ last < -1000000) (h5 : ¬ 1000000 < last) (g1 : (m == 0) = true) (g2 : (last == 0) = false) (w : World) : Calls Try.prog 11 #[.agg #[.int .i64 size, .int .i64 m, .int .i64 sum, .int .i64 rng, .int .i64 last]] w fun e w' => e = .returned (.bool false) ∧ Below w.heap.size w w' := by
  have g3 : (last != 0) = true := by rw [bne, g2]; rfl
  have HB := (Below.refl w.heap.size w).alloc (Nat.le_refl _) (basO ⟨size, m, sum, rng, last⟩)
  go_enter Try.func11, Try.ntmps11
  go_wp2
  go_ret
  exact ⟨rfl, HB⟩
set_option linter.unusedSimpArgs false in
set_option linter.unusedVariables false in
set_option maxHeartbeats 4000000 in
set_option maxRecDepth 100000 in
theorem rr15_z010 (size m sum rng last P st : Int) (h0 : ¬ size < 1) (h1 : ¬ 10 < size) (h2 : ¬ m < 0) (h3 : ¬ 25 < m) (h4 : ¬ last < -1000000) (h5 : ¬ 1000000 < last) (g1 : (m == 0) = true) (g2 : (last == 0) = true) (q1 : (size == 1) = true) (q2 : max 0 (m - 1) = st) (hP0 : 0 ≤ P ∧ P ≤ 250) (hst : 0 ≤ st ∧ st ≤ 25) (hP : m * size = P)  (c0 : ¬ 0 - P * 1000000 ≤ sum) (w : World) : Calls Try.prog 11 #[.agg #[.int .i64 size, .int .i64 m, .int .i64 sum, .int .i64 rng, .int .i64 last]] w fun e w' => e = .returned (.bool false) ∧ Below w.heap.size w w' := by
  have g3 : (last != 0) = false := by rw [bne, g2]; rfl
  have hw : wrap64 (m * size) = P := by rw [hP]; unfold wrap64; omega
  have c0b : ¬ -(P * 1000000) ≤ sum := by omega
  have HP := Lib.hid hP; clear hP
  have HB := (Below.refl w.heap.size w).alloc (Nat.le_refl _) (basO ⟨size, m, sum, rng, last⟩)
  go_enter Try.func11, Try.ntmps11
  go_wp2
  go_ret
  exact ⟨rfl, HB⟩
set_option linter.unusedSimpArgs false in
set_option linter.unusedVariables false in
set_option maxHeartbeats 4000000 in
set_option maxRecDepth 100000 in
theorem rr15_z011 (size m sum rng last P st : Int) (h0 : ¬ size < 1) (h1 : ¬ 10 < size) (h2 : ¬ m < 0) (h3 : ¬ 25 < m) (h4 : ¬ last < -1000000) (h5 : ¬ 1000000 < last) (g1 : (m == 0) = true) (g2 : (last == 0) = true) (q1 : (size == 1) = true) (q2 : max 0 (m - 1) = st) (hP0 : 0 ≤ P ∧ P ≤ 250) (hst : 0 ≤ st ∧ st ≤ 25) (hP : m * size = P) (c0 : 0 - P * 1000000 ≤ sum) (c1 : ¬ sum ≤ P * 1000000) (w : World) : Calls Try.prog 11 #[.agg #[.int .i64 size, .int .i64 m, .int .i64 sum, .int .i64 rng, .int .i64 last]] w fun e w' => e = .returned (.bool false) ∧ Below w.heap.size w w' := by
  have g3 : (last != 0) = false := by rw [bne, g2]; rfl
  have hw : wrap64 (m * size) = P := by rw [hP]; unfold wrap64; omega
  have c0b : -(P * 1000000) ≤ sum := by omega
  have HP := Lib.hid hP; clear hP
  have HB := (Below.refl w.heap.size w).alloc (Nat.le_refl _) (basO ⟨size, m, sum, rng, last⟩)
  go_enter Try.func11, Try.ntmps11
  go_wp2
  go_ret
  exact ⟨rfl, HB⟩
set_option linter.unusedSimpArgs false in
set_option linter.unusedVariables false in
set_option maxHeartbeats 4000000 in
set_option maxRecDepth 100000 in
theorem rr15_z012 (size m sum rng last P st : Int) (h0 : ¬ size < 1) (h1 : ¬ 10 < size) (h2 : ¬ m < 0) (h3 : ¬ 25 < m) (h4 : ¬ last < -1000000) (h5 : ¬ 1000000 < last) (g1 : (m == 0) = true) (g2 : (last == 0) = true) (q1 : (size == 1) = true) (q2 : max 0 (m - 1) = st) (hP0 : 0 ≤ P ∧ P ≤ 250) (hst : 0 ≤ st ∧ st ≤ 25) (hP : m * size = P) (c0 : 0 - P * 1000000 ≤ sum) (c1 : sum ≤ P * 1000000) (c2 : ¬ 0 ≤ rng) (w : World) : Calls Try.prog 11 #[.agg #[.int .i64 size, .int .i64 m, .int .i64 sum, .int .i64 rng, .int .i64 last]] w fun e w' => e = .returned (.bool false) ∧ Below w.heap.size w w' := by
  have g3 : (last != 0) = false := by rw [bne, g2]; rfl
  have hw : wrap64 (m * size) = P := by rw [hP]; unfold wrap64; omega
  have c0b : -(P * 1000000) ≤ sum := by omega
  have HP := Lib.hid hP; clear hP
  have HB := (Below.refl w.heap.size w).alloc (Nat.le_refl _) (basO ⟨size, m, sum, rng, last⟩)
  go_enter Try.func11, Try.ntmps11
  go_wp2
  go_ret
  exact ⟨rfl, HB⟩
set_option linter.unusedSimpArgs false in
set_option linter.unusedVariables false in
set_option maxHeartbeats 4000000 in
set_option maxRecDepth 100000 in
theorem rr15_z013 (size m sum rng last P st : Int) (h0 : ¬ size < 1) (h1 : ¬ 10 < size) (h2 : ¬ m < 0) (h3 : ¬ 25 < m) (h4 : ¬ last < -1000000) (h5 : ¬ 1000000 < last) (g1 : (m == 0) = true) (g2 : (last == 0) = true) (q1 : (size == 1) = true) (q2 : max 0 (m - 1) = st) (hP0 : 0 ≤ P ∧ P ≤ 250) (hst : 0 ≤ st ∧ st ≤ 25) (hP : m * size = P) (c0 : 0 - P * 1000000 ≤ sum) (c1 : sum ≤ P * 1000000) (c2 : 0 ≤ rng) (c3 : ¬ rng ≤ 2000000 * st) (w : World) : Calls Try.prog 11 #[.agg #[.int .i64 size, .int .i64 m, .int .i64 sum, .int .i64 rng, .int .i64 last]] w fun e w' => e = .returned (.bool false) ∧ Below w.heap.size w w' := by
  have g3 : (last != 0) = false := by rw [bne, g2]; rfl
  have hw : wrap64 (m * size) = P := by rw [hP]; unfold wrap64; omega
  have c0b : -(P * 1000000) ≤ sum := by omega
  have HP := Lib.hid hP; clear hP
  have HB := (Below.refl w.heap.size w).alloc (Nat.le_refl _) (basO ⟨size, m, sum, rng, last⟩)
  go_enter Try.func11, Try.ntmps11
  go_wp2
  go_ret
  exact ⟨rfl, HB⟩
set_option linter.unusedSimpArgs false in
set_option linter.unusedVariables false in
set_option maxHeartbeats 4000000 in
set_option maxRecDepth 100000 in
theorem rr15_z014 (size m sum rng last P st : Int) (h0 : ¬ size < 1) (h1 : ¬ 10 < size) (h2 : ¬ m < 0) (h3 : ¬ 25 < m) (h4 : ¬ last < -1000000) (h5 : ¬ 1000000 < last) (g1 : (m == 0) = true) (g2 : (last == 0) = true) (q1 : (size == 1) = true) (q2 : max 0 (m - 1) = st) (hP0 : 0 ≤ P ∧ P ≤ 250) (hst : 0 ≤ st ∧ st ≤ 25) (hP : m * size = P) (c0 : 0 - P * 1000000 ≤ sum) (c1 : sum ≤ P * 1000000) (c2 : 0 ≤ rng) (c3 : rng ≤ 2000000 * st) (w : World) : Calls Try.prog 11 #[.agg #[.int .i64 size, .int .i64 m, .int .i64 sum, .int .i64 rng, .int .i64 last]] w fun e w' => e = .returned (.bool true) ∧ Below w.heap.size w w' := by
  have g3 : (last != 0) = false := by rw [bne, g2]; rfl
  have hw : wrap64 (m * size) = P := by rw [hP]; unfold wrap64; omega
  have c0b : -(P * 1000000) ≤ sum := by omega
  have HP := Lib.hid hP; clear hP
  have HB := (Below.refl w.heap.size w).alloc (Nat.le_refl _) (basO ⟨size, m, sum, rng, last⟩)
  go_enter Try.func11, Try.ntmps11
  go_wp2
  go_ret
  exact ⟨rfl, HB⟩
set_option linter.unusedSimpArgs false in
set_option linter.unusedVariables false in
set_option maxHeartbeats 4000000 in
set_option maxRecDepth 100000 in
theorem rr15_z000 (size m sum rng last P : Int) (h0 : ¬ size < 1) (h1 : ¬ 10 < size) (h2 : ¬ m < 0) (h3 : ¬ 25 < m) (h4 : ¬ last < -1000000) (h5 : ¬ 1000000 < last) (g1 : (m == 0) = true) (g2 : (last == 0) = true) (q1 : (size == 1) = false) (hP0 : 0 ≤ P ∧ P ≤ 250) (hP : m * size = P)  (c0 : ¬ 0 - P * 1000000 ≤ sum) (w : World) : Calls Try.prog 11 #[.agg #[.int .i64 size, .int .i64 m, .int .i64 sum, .int .i64 rng, .int .i64 last]] w fun e w' => e = .returned (.bool false) ∧ Below w.heap.size w w' := by
  have g3 : (last != 0) = false := by rw [bne, g2]; rfl
  have hw : wrap64 (m * size) = P := by rw [hP]; unfold wrap64; omega
  have c0b : ¬ -(P * 1000000) ≤ sum := by omega
  have HP := Lib.hid hP; clear hP
  have HB := (Below.refl w.heap.size w).alloc (Nat.le_refl _) (basO ⟨size, m, sum, rng, last⟩)
  go_enter Try.func11, Try.ntmps11
  go_wp2
  go_ret
  exact ⟨rfl, HB⟩
set_option linter.unusedSimpArgs false in
set_option linter.unusedVariables false in
set_option maxHeartbeats 4000000 in
set_option maxRecDepth 100000 in
theorem rr15_z001 (size m sum rng last P : Int) (h0 : ¬ size < 1) (h1 : ¬ 10 < size) (h2 : ¬ m < 0) (h3 : ¬ 25 < m) (h4 : ¬ last < -1000000) (h5 : ¬ 1000000 < last) (g1 : (m == 0) = true) (g2 : (last == 0) = true) (q1 : (size == 1) = false) (hP0 : 0 ≤ P ∧ P ≤ 250) (hP : m * size = P) (c0 : 0 - P * 1000000 ≤ sum) (c1 : ¬ sum ≤ P * 1000000) (w : World) : Calls Try.prog 11 #[.agg #[.int .i64 size, .int .i64 m, .int .i64 sum, .int .i64 rng, .int .i64 last]] w fun e w' => e = .returned (.bool false) ∧ Below w.heap.size w w' := by
  have g3 : (last != 0) = false := by rw [bne, g2]; rfl
  have hw : wrap64 (m * size) = P := by rw [hP]; unfold wrap64; omega
  have c0b : -(P * 1000000) ≤ sum := by omega
  have HP := Lib.hid hP; clear hP
  have HB := (Below.refl w.heap.size w).alloc (Nat.le_refl _) (basO ⟨size, m, sum, rng, last⟩)
  go_enter Try.func11, Try.ntmps11
  go_wp2
  go_ret
  exact ⟨rfl, HB⟩
set_option linter.unusedSimpArgs false in
set_option linter.unusedVariables false in
set_option maxHeartbeats 4000000 in
set_option maxRecDepth 100000 in
theorem rr15_z002 (size m sum rng last P : Int) (h0 : ¬ size < 1) (h1 : ¬ 10 < size) (h2 : ¬ m < 0) (h3 : ¬ 25 < m) (h4 : ¬ last < -1000000) (h5 : ¬ 1000000 < last) (g1 : (m == 0) = true) (g2 : (last == 0) = true) (q1 : (size == 1) = false) (hP0 : 0 ≤ P ∧ P ≤ 250) (hP : m * size = P) (c0 : 0 - P * 1000000 ≤ sum) (c1 : sum ≤ P * 1000000) (c2 : ¬ 0 ≤ rng) (w : World) : Calls Try.prog 11 #[.agg #[.int .i64 size, .int .i64 m, .int .i64 sum, .int .i64 rng, .int .i64 last]] w fun e w' => e = .returned (.bool false) ∧ Below w.heap.size w w' := by
  have g3 : (last != 0) = false := by rw [bne, g2]; rfl
  have hw : wrap64 (m * size) = P := by rw [hP]; unfold wrap64; omega
  have c0b : -(P * 1000000) ≤ sum := by omega
  have HP := Lib.hid hP; clear hP
  have HB := (Below.refl w.heap.size w).alloc (Nat.le_refl _) (basO ⟨size, m, sum, rng, last⟩)
  go_enter Try.func11, Try.ntmps11
  go_wp2
  go_ret
  exact ⟨rfl, HB⟩
set_option linter.unusedSimpArgs false in
set_option linter.unusedVariables false in
set_option maxHeartbeats 4000000 in
set_option maxRecDepth 100000 in
theorem rr15_z003 (size m sum rng last P : Int) (h0 : ¬ size < 1) (h1 : ¬ 10 < size) (h2 : ¬ m < 0) (h3 : ¬ 25 < m) (h4 : ¬ last < -1000000) (h5 : ¬ 1000000 < last) (g1 : (m == 0) = true) (g2 : (last == 0) = true) (q1 : (size == 1) = false) (hP0 : 0 ≤ P ∧ P ≤ 250) (hP : m * size = P) (c0 : 0 - P * 1000000 ≤ sum) (c1 : sum ≤ P * 1000000) (c2 : 0 ≤ rng) (c3 : ¬ rng ≤ 2000000 * m) (w : World) : Calls Try.prog 11 #[.agg #[.int .i64 size, .int .i64 m, .int .i64 sum, .int .i64 rng, .int .i64 last]] w fun e w' => e = .returned (.bool false) ∧ Below w.heap.size w w' := by
  have g3 : (last != 0) = false := by rw [bne, g2]; rfl
  have hw : wrap64 (m * size) = P := by rw [hP]; unfold wrap64; omega
  have c0b : -(P * 1000000) ≤ sum := by omega
  have HP := Lib.hid hP; clear hP
  have HB := (Below.refl w.heap.size w).alloc (Nat.le_refl _) (basO ⟨size, m, sum, rng, last⟩)
  go_enter Try.func11, Try.ntmps11
  go_wp2
  go_ret
  exact ⟨rfl, HB⟩
set_option linter.unusedSimpArgs false in
set_option linter.unusedVariables false in
set_option maxHeartbeats 4000000 in
set_option maxRecDepth 100000 in
theorem rr15_z004 (size m sum rng last P : Int) (h0 : ¬ size < 1) (h1 : ¬ 10 < size) (h2 : ¬ m < 0) (h3 : ¬ 25 < m) (h4 : ¬ last < -1000000) (h5 : ¬ 1000000 < last) (g1 : (m == 0) = true) (g2 : (last == 0) = true) (q1 : (size == 1) = false) (hP0 : 0 ≤ P ∧ P ≤ 250) (hP : m * size = P) (c0 : 0 - P * 1000000 ≤ sum) (c1 : sum ≤ P * 1000000) (c2 : 0 ≤ rng) (c3 : rng ≤ 2000000 * m) (w : World) : Calls Try.prog 11 #[.agg #[.int .i64 size, .int .i64 m, .int .i64 sum, .int .i64 rng, .int .i64 last]] w fun e w' => e = .returned (.bool true) ∧ Below w.heap.size w w' := by
  have g3 : (last != 0) = false := by rw [bne, g2]; rfl
  have hw : wrap64 (m * size) = P := by rw [hP]; unfold wrap64; omega
  have c0b : -(P * 1000000) ≤ sum := by omega
  have HP := Lib.hid hP; clear hP
  have HB := (Below.refl w.heap.size w).alloc (Nat.le_refl _) (basO ⟨size, m, sum, rng, last⟩)
  go_enter Try.func11, Try.ntmps11
  go_wp2
  go_ret
  exact ⟨rfl, HB⟩
set_option linter.unusedSimpArgs false in
set_option linter.unusedVariables false in
set_option maxHeartbeats 4000000 in
set_option maxRecDepth 100000 in
theorem rr15_z110 (size m sum rng last P st : Int) (h0 : ¬ size < 1) (h1 : ¬ 10 < size) (h2 : ¬ m < 0) (h3 : ¬ 25 < m) (h4 : ¬ last < -1000000) (h5 : ¬ 1000000 < last) (g1 : (m == 0) = false) (q1 : (size == 1) = true) (q2 : max 0 (m - 1) = st) (hP0 : 0 ≤ P ∧ P ≤ 250) (hst : 0 ≤ st ∧ st ≤ 25) (hP : m * size = P)  (c0 : ¬ 0 - P * 1000000 ≤ sum) (w : World) : Calls Try.prog 11 #[.agg #[.int .i64 size, .int .i64 m, .int .i64 sum, .int .i64 rng, .int .i64 last]] w fun e w' => e = .returned (.bool false) ∧ Below w.heap.size w w' := by
  have hw : wrap64 (m * size) = P := by rw [hP]; unfold wrap64; omega
  have c0b : ¬ -(P * 1000000) ≤ sum := by omega
  have HP := Lib.hid hP; clear hP
  have HB := (Below.refl w.heap.size w).alloc (Nat.le_refl _) (basO ⟨size, m, sum, rng, last⟩)
  go_enter Try.func11, Try.ntmps11
  go_wp2
  go_ret
  exact ⟨rfl, HB⟩
set_option linter.unusedSimpArgs false in
set_option linter.unusedVariables false in
set_option maxHeartbeats 4000000 in
set_option maxRecDepth 100000 in
theorem rr15_z111 (size m sum rng last P st : Int) (h0 : ¬ size < 1) (h1 : ¬ 10 < size) (h2 : ¬ m < 0) (h3 : ¬ 25 < m) (h4 : ¬ last < -1000000) (h5 : ¬ 1000000 < last) (g1 : (m == 0) = false) (q1 : (size == 1) = true) (q2 : max 0 (m - 1) = st) (hP0 : 0 ≤ P ∧ P ≤ 250) (hst : 0 ≤ st ∧ st ≤ 25) (hP : m * size = P) (c0 : 0 - P * 1000000 ≤ sum) (c1 : ¬ sum ≤ P * 1000000) (w : World) : Calls Try.prog 11 #[.agg #[.int .i64 size, .int .i64 m, .int .i64 sum, .int .i64 rng, .int .i64 last]] w fun e w' => e = .returned (.bool false) ∧ Below w.heap.size w w' := by
  have hw : wrap64 (m * size) = P := by rw [hP]; unfold wrap64; omega
  have c0b : -(P * 1000000) ≤ sum := by omega
  have HP := Lib.hid hP; clear hP
  have HB := (Below.refl w.heap.size w).alloc (Nat.le_refl _) (basO ⟨size, m, sum, rng, last⟩)
  go_enter Try.func11, Try.ntmps11
  go_wp2
  go_ret
  exact ⟨rfl, HB⟩
set_option linter.unusedSimpArgs false in
set_option linter.unusedVariables false in
set_option maxHeartbeats 4000000 in
set_option maxRecDepth 100000 in
theorem rr15_z112 (size m sum rng last P st : Int) (h0 : ¬ size < 1) (h1 : ¬ 10 < size) (h2 : ¬ m < 0) (h3 : ¬ 25 < m) (h4 : ¬ last < -1000000) (h5 : ¬ 1000000 < last) (g1 : (m == 0) = false) (q1 : (size == 1) = true) (q2 : max 0 (m - 1) = st) (hP0 : 0 ≤ P ∧ P ≤ 250) (hst : 0 ≤ st ∧ st ≤ 25) (hP : m * size = P) (c0 : 0 - P * 1000000 ≤ sum) (c1 : sum ≤ P * 1000000) (c2 : ¬ 0 ≤ rng) (w : World) : Calls Try.prog 11 #[.agg #[.int .i64 size, .int .i64 m, .int .i64 sum, .int .i64 rng, .int .i64 last]] w fun e w' => e = .returned (.bool false) ∧ Below w.heap.size w w' := by
  have hw : wrap64 (m * size) = P := by rw [hP]; unfold wrap64; omega
  have c0b : -(P * 1000000) ≤ sum := by omega
  have HP := Lib.hid hP; clear hP
  have HB := (Below.refl w.heap.size w).alloc (Nat.le_refl _) (basO ⟨size, m, sum, rng, last⟩)
  go_enter Try.func11, Try.ntmps11
  go_wp2
  go_ret
  exact ⟨rfl, HB⟩
set_option linter.unusedSimpArgs false in
set_option linter.unusedVariables false in
set_option maxHeartbeats 4000000 in
set_option maxRecDepth 100000 in
theorem rr15_z113 (size m sum rng last P st : Int) (h0 : ¬ size < 1) (h1 : ¬ 10 < size) (h2 : ¬ m < 0) (h3 : ¬ 25 < m) (h4 : ¬ last < -1000000) (h5 : ¬ 1000000 < last) (g1 : (m == 0) = false) (q1 : (size == 1) = true) (q2 : max 0 (m - 1) = st) (hP0 : 0 ≤ P ∧ P ≤ 250) (hst : 0 ≤ st ∧ st ≤ 25) (hP : m * size = P) (c0 : 0 - P * 1000000 ≤ sum) (c1 : sum ≤ P * 1000000) (c2 : 0 ≤ rng) (c3 : ¬ rng ≤ 2000000 * st) (w : World) : Calls Try.prog 11 #[.agg #[.int .i64 size, .int .i64 m, .int .i64 sum, .int .i64 rng, .int .i64 last]] w fun e w' => e = .returned (.bool false) ∧ Below w.heap.size w w' := by
  have hw : wrap64 (m * size) = P := by rw [hP]; unfold wrap64; omega
  have c0b : -(P * 1000000) ≤ sum := by omega
  have HP := Lib.hid hP; clear hP
  have HB := (Below.refl w.heap.size w).alloc (Nat.le_refl _) (basO ⟨size, m, sum, rng, last⟩)
  go_enter Try.func11, Try.ntmps11
  go_wp2
  go_ret
  exact ⟨rfl, HB⟩
set_option linter.unusedSimpArgs false in
set_option linter.unusedVariables false in
set_option maxHeartbeats 4000000 in
set_option maxRecDepth 100000 in
theorem rr15_z114 (size m sum rng last P st : Int) (h0 : ¬ size < 1) (h1 : ¬ 10 < size) (h2 : ¬ m < 0) (h3 : ¬ 25 < m) (h4 : ¬ last < -1000000) (h5 : ¬ 1000000 < last) (g1 : (m == 0) = false) (q1 : (size == 1) = true) (q2 : max 0 (m - 1) = st) (hP0 : 0 ≤ P ∧ P ≤ 250) (hst : 0 ≤ st ∧ st ≤ 25) (hP : m * size = P) (c0 : 0 - P * 1000000 ≤ sum) (c1 : sum ≤ P * 1000000) (c2 : 0 ≤ rng) (c3 : rng ≤ 2000000 * st) (w : World) : Calls Try.prog 11 #[.agg #[.int .i64 size, .int .i64 m, .int .i64 sum, .int .i64 rng, .int .i64 last]] w fun e w' => e = .returned (.bool true) ∧ Below w.heap.size w w' := by
  have hw : wrap64 (m * size) = P := by rw [hP]; unfold wrap64; omega
  have c0b : -(P * 1000000) ≤ sum := by omega
  have HP := Lib.hid hP; clear hP
  have HB := (Below.refl w.heap.size w).alloc (Nat.le_refl _) (basO ⟨size, m, sum, rng, last⟩)
  go_enter Try.func11, Try.ntmps11
  go_wp2
  go_ret
  exact ⟨rfl, HB⟩
set_option linter.unusedSimpArgs false in
set_option linter.unusedVariables false in
set_option maxHeartbeats 4000000 in
set_option maxRecDepth 100000 in
theorem rr15_z100 (size m sum rng last P : Int) (h0 : ¬ size < 1) (h1 : ¬ 10 < size) (h2 : ¬ m < 0) (h3 : ¬ 25 < m) (h4 : ¬ last < -1000000) (h5 : ¬ 1000000 < last) (g1 : (m == 0) = false) (q1 : (size == 1) = false) (hP0 : 0 ≤ P ∧ P ≤ 250) (hP : m * size = P)  (c0 : ¬ 0 - P * 1000000 ≤ sum) (w : World) : Calls Try.prog 11 #[.agg #[.int .i64 size, .int .i64 m, .int .i64 sum, .int .i64 rng, .int .i64 last]] w fun e w' => e = .returned (.bool false) ∧ Below w.heap.size w w' := by
  have hw : wrap64 (m * size) = P := by rw [hP]; unfold wrap64; omega
  have c0b : ¬ -(P * 1000000) ≤ sum := by omega
  have HP := Lib.hid hP; clear hP
  have HB := (Below.refl w.heap.size w).alloc (Nat.le_refl _) (basO ⟨size, m, sum, rng, last⟩)
  go_enter Try.func11, Try.ntmps11
  go_wp2
  go_ret
  exact ⟨rfl, HB⟩
set_option linter.unusedSimpArgs false in
set_option linter.unusedVariables false in
set_option maxHeartbeats 4000000 in
set_option maxRecDepth 100000 in
theorem rr15_z101 (size m sum rng last P : Int) (h0 : ¬ size < 1) (h1 : ¬ 10 < size) (h2 : ¬ m < 0) (h3 : ¬ 25 < m) (h4 : ¬ last < -1000000) (h5 : ¬ 1000000 < last) (g1 : (m == 0) = false) (q1 : (size == 1) = false) (hP0 : 0 ≤ P ∧ P ≤ 250) (hP : m * size = P) (c0 : 0 - P * 1000000 ≤ sum) (c1 : ¬ sum ≤ P * 1000000) (w : World) : Calls Try.prog 11 #[.agg #[.int .i64 size, .int .i64 m, .int .i64 sum, .int .i64 rng, .int .i64 last]] w fun e w' => e = .returned (.bool false) ∧ Below w.heap.size w w' := by
  have hw : wrap64 (m * size) = P := by rw [hP]; unfold wrap64; omega
  have c0b : -(P * 1000000) ≤ sum := by omega
  have HP := Lib.hid hP; clear hP
  have HB := (Below.refl w.heap.size w).alloc (Nat.le_refl _) (basO ⟨size, m, sum, rng, last⟩)
  go_enter Try.func11, Try.ntmps11
  go_wp2
  go_ret
  exact ⟨rfl, HB⟩
set_option linter.unusedSimpArgs false in
set_option linter.unusedVariables false in
set_option maxHeartbeats 4000000 in
set_option maxRecDepth 100000 in
theorem rr15_z102 (size m sum rng last P : Int) (h0 : ¬ size < 1) (h1 : ¬ 10 < size) (h2 : ¬ m < 0) (h3 : ¬ 25 < m) (h4 : ¬ last < -1000000) (h5 : ¬ 1000000 < last) (g1 : (m == 0) = false) (q1 : (size == 1) = false) (hP0 : 0 ≤ P ∧ P ≤ 250) (hP : m * size = P) (c0 : 0 - P * 1000000 ≤ sum) (c1 : sum ≤ P * 1000000) (c2 : ¬ 0 ≤ rng) (w : World) : Calls Try.prog 11 #[.agg #[.int .i64 size, .int .i64 m, .int .i64 sum, .int .i64 rng, .int .i64 last]] w fun e w' => e = .returned (.bool false) ∧ Below w.heap.size w w' := by
  have hw : wrap64 (m * size) = P := by rw [hP]; unfold wrap64; omega
  have c0b : -(P * 1000000) ≤ sum := by omega
  have HP := Lib.hid hP; clear hP
  have HB := (Below.refl w.heap.size w).alloc (Nat.le_refl _) (basO ⟨size, m, sum, rng, last⟩)
  go_enter Try.func11, Try.ntmps11
  go_wp2
  go_ret
  exact ⟨rfl, HB⟩
set_option linter.unusedSimpArgs false in
set_option linter.unusedVariables false in
set_option maxHeartbeats 4000000 in
set_option maxRecDepth 100000 in
theorem rr15_z103 (size m sum rng last P : Int) (h0 : ¬ size < 1) (h1 : ¬ 10 < size) (h2 : ¬ m < 0) (h3 : ¬ 25 < m) (h4 : ¬ last < -1000000) (h5 : ¬ 1000000 < last) (g1 : (m == 0) = false) (q1 : (size == 1) = false) (hP0 : 0 ≤ P ∧ P ≤ 250) (hP : m * size = P) (c0 : 0 - P * 1000000 ≤ sum) (c1 : sum ≤ P * 1000000) (c2 : 0 ≤ rng) (c3 : ¬ rng ≤ 2000000 * m) (w : World) : Calls Try.prog 11 #[.agg #[.int .i64 size, .int .i64 m, .int .i64 sum, .int .i64 rng, .int .i64 last]] w fun e w' => e = .returned (.bool false) ∧ Below w.heap.size w w' := by
  have hw : wrap64 (m * size) = P := by rw [hP]; unfold wrap64; omega
  have c0b : -(P * 1000000) ≤ sum := by omega
  have HP := Lib.hid hP; clear hP
  have HB := (Below.refl w.heap.size w).alloc (Nat.le_refl _) (basO ⟨size, m, sum, rng, last⟩)
  go_enter Try.func11, Try.ntmps11
  go_wp2
  go_ret
  exact ⟨rfl, HB⟩
set_option linter.unusedSimpArgs false in
set_option linter.unusedVariables false in
set_option maxHeartbeats 4000000 in
set_option maxRecDepth 100000 in
theorem rr15_z104 (size m sum rng last P : Int) (h0 : ¬ size < 1) (h1 : ¬ 10 < size) (h2 : ¬ m < 0) (h3 : ¬ 25 < m) (h4 : ¬ last < -1000000) (h5 : ¬ 1000000 < last) (g1 : (m == 0) = false) (q1 : (size == 1) = false) (hP0 : 0 ≤ P ∧ P ≤ 250) (hP : m * size = P) (c0 : 0 - P * 1000000 ≤ sum) (c1 : sum ≤ P * 1000000) (c2 : 0 ≤ rng) (c3 : rng ≤ 2000000 * m) (w : World) : Calls Try.prog 11 #[.agg #[.int .i64 size, .int .i64 m, .int .i64 sum, .int .i64 rng, .int .i64 last]] w fun e w' => e = .returned (.bool true) ∧ Below w.heap.size w w' := by
  have hw : wrap64 (m * size) = P := by rw [hP]; unfold wrap64; omega
  have c0b : -(P * 1000000) ≤ sum := by omega
  have HP := Lib.hid hP; clear hP
  have HB := (Below.refl w.heap.size w).alloc (Nat.le_refl _) (basO ⟨size, m, sum, rng, last⟩)
  go_enter Try.func11, Try.ntmps11
  go_wp2
  go_ret
  exact ⟨rfl, HB⟩
theorem rright15_any (b : Bas) (w : World) : Calls Try.prog 11 #[basV b] w fun e w' => e = .returned (.bool (basB b)) ∧ Below w.heap.size w w' := by
  obtain ⟨size, m, sum, rng, last⟩ := b
  have no : ¬ basOk ⟨size, m, sum, rng, last⟩ → basB ⟨size, m, sum, rng, last⟩ = false := fun h => decide_eq_false h
  have unf : basOk ⟨size, m, sum, rng, last⟩ ↔ (1 ≤ size ∧ size ≤ 10 ∧ 0 ≤ m ∧ m ≤ 25 ∧ -1000000 ≤ last ∧ last ≤ 1000000 ∧ (m = 0 → last = 0)) ∧ (0 - m * size * 1000000 ≤ sum ∧ sum ≤ m * size * 1000000) ∧ (0 ≤ rng ∧ rng ≤ 2000000 * (if size = 1 then max 0 (m - 1) else m)) := Iff.rfl
  by_cases h0 : size < 1
  · rw [no (fun h => by have := unf.1 h; omega)]
    exact rr15_0 size m sum rng last h0 w
  by_cases h1 : 10 < size
  · rw [no (fun h => by have := unf.1 h; omega)]
    exact rr15_1 size m sum rng last h0 h1 w
  by_cases h2 : m < 0
  · rw [no (fun h => by have := unf.1 h; omega)]
    exact rr15_2 size m sum rng last h0 h1 h2 w
  by_cases h3 : 25 < m
  · rw [no (fun h => by have := unf.1 h; omega)]
    exact rr15_3 size m sum rng last h0 h1 h2 h3 w
  by_cases h4 : last < -1000000
  · rw [no (fun h => by have := unf.1 h; omega)]
    exact rr15_4 size m sum rng last h0 h1 h2 h3 h4 w
  by_cases h5 : 1000000 < last
  · rw [no (fun h => by have := unf.1 h; omega)]
    exact rr15_5 size m sum rng last h0 h1 h2 h3 h4 h5 w
  have hP0 : 0 ≤ m * size ∧ m * size ≤ 250 := by
    have h1 := Int.mul_le_mul (show m ≤ 25 by omega) (show size ≤ 10 by omega) (by omega) (by omega)
    exact ⟨Int.mul_nonneg (by omega) (by omega), by omega⟩
  have hst : 0 ≤ max 0 (m - 1) ∧ max 0 (m - 1) ≤ 25 := by omega
  obtain ⟨P, hP⟩ : ∃ P, m * size = P := ⟨_, rfl⟩
  obtain ⟨st, q2⟩ : ∃ st, max 0 (m - 1) = st := ⟨_, rfl⟩
  rw [hP] at unf hP0
  rw [q2] at hst unf
  by_cases z1 : m = 0
  · have g1 : (m == 0) = true := by rw [z1]; rfl
    by_cases z2 : last = 0
    · have g2 : (last == 0) = true := by rw [z2]; rfl
      by_cases q : size = 1
      · have q1 : (size == 1) = true := by rw [q]; rfl
        rw [if_pos q] at unf
        rcases Classical.em (0 - P * 1000000 ≤ sum) with c0 | c0
        rotate_left
        · rw [no (fun h => by have := unf.1 h; omega)]; exact rr15_z010 size m sum rng last P st h0 h1 h2 h3 h4 h5 g1 g2 q1 q2 hP0 hst hP c0 w
        rcases Classical.em (sum ≤ P * 1000000) with c1 | c1
        rotate_left
        · rw [no (fun h => by have := unf.1 h; omega)]; exact rr15_z011 size m sum rng last P st h0 h1 h2 h3 h4 h5 g1 g2 q1 q2 hP0 hst hP c0 c1 w
        rcases Classical.em (0 ≤ rng) with c2 | c2
        rotate_left
        · rw [no (fun h => by have := unf.1 h; omega)]; exact rr15_z012 size m sum rng last P st h0 h1 h2 h3 h4 h5 g1 g2 q1 q2 hP0 hst hP c0 c1 c2 w
        rcases Classical.em (rng ≤ 2000000 * st) with c3 | c3
        rotate_left
        · rw [no (fun h => by have := unf.1 h; omega)]; exact rr15_z013 size m sum rng last P st h0 h1 h2 h3 h4 h5 g1 g2 q1 q2 hP0 hst hP c0 c1 c2 c3 w
        rw [show basB ⟨size, m, sum, rng, last⟩ = true from decide_eq_true (unf.2 (by omega))]
        exact rr15_z014 size m sum rng last P st h0 h1 h2 h3 h4 h5 g1 g2 q1 q2 hP0 hst hP c0 c1 c2 c3 w
      · have q1 : (size == 1) = false := beq_false_of_ne q
        rw [if_neg q] at unf
        rcases Classical.em (0 - P * 1000000 ≤ sum) with c0 | c0
        rotate_left
        · rw [no (fun h => by have := unf.1 h; omega)]; exact rr15_z000 size m sum rng last P h0 h1 h2 h3 h4 h5 g1 g2 q1 hP0 hP c0 w
        rcases Classical.em (sum ≤ P * 1000000) with c1 | c1
        rotate_left
        · rw [no (fun h => by have := unf.1 h; omega)]; exact rr15_z001 size m sum rng last P h0 h1 h2 h3 h4 h5 g1 g2 q1 hP0 hP c0 c1 w
        rcases Classical.em (0 ≤ rng) with c2 | c2
        rotate_left
        · rw [no (fun h => by have := unf.1 h; omega)]; exact rr15_z002 size m sum rng last P h0 h1 h2 h3 h4 h5 g1 g2 q1 hP0 hP c0 c1 c2 w
        rcases Classical.em (rng ≤ 2000000 * m) with c3 | c3
        rotate_left
        · rw [no (fun h => by have := unf.1 h; omega)]; exact rr15_z003 size m sum rng last P h0 h1 h2 h3 h4 h5 g1 g2 q1 hP0 hP c0 c1 c2 c3 w
        rw [show basB ⟨size, m, sum, rng, last⟩ = true from decide_eq_true (unf.2 (by omega))]
        exact rr15_z004 size m sum rng last P h0 h1 h2 h3 h4 h5 g1 g2 q1 hP0 hP c0 c1 c2 c3 w
    · have g2 : (last == 0) = false := beq_false_of_ne z2
      rw [no (fun h => by have := unf.1 h; omega)]
      exact rr15_6 size m sum rng last h0 h1 h2 h3 h4 h5 g1 g2 w
  · have g1 : (m == 0) = false := beq_false_of_ne z1
    by_cases q : size = 1
    · have q1 : (size == 1) = true := by rw [q]; rfl
      rw [if_pos q] at unf
      rcases Classical.em (0 - P * 1000000 ≤ sum) with c0 | c0
      rotate_left
      · rw [no (fun h => by have := unf.1 h; omega)]; exact rr15_z110 size m sum rng last P st h0 h1 h2 h3 h4 h5 g1 q1 q2 hP0 hst hP c0 w
      rcases Classical.em (sum ≤ P * 1000000) with c1 | c1
      rotate_left
      · rw [no (fun h => by have := unf.1 h; omega)]; exact rr15_z111 size m sum rng last P st h0 h1 h2 h3 h4 h5 g1 q1 q2 hP0 hst hP c0 c1 w
      rcases Classical.em (0 ≤ rng) with c2 | c2
      rotate_left
      · rw [no (fun h => by have := unf.1 h; omega)]; exact rr15_z112 size m sum rng last P st h0 h1 h2 h3 h4 h5 g1 q1 q2 hP0 hst hP c0 c1 c2 w
      rcases Classical.em (rng ≤ 2000000 * st) with c3 | c3
      rotate_left
      · rw [no (fun h => by have := unf.1 h; omega)]; exact rr15_z113 size m sum rng last P st h0 h1 h2 h3 h4 h5 g1 q1 q2 hP0 hst hP c0 c1 c2 c3 w
      rw [show basB ⟨size, m, sum, rng, last⟩ = true from decide_eq_true (unf.2 (by omega))]
      exact rr15_z114 size m sum rng last P st h0 h1 h2 h3 h4 h5 g1 q1 q2 hP0 hst hP c0 c1 c2 c3 w
    · have q1 : (size == 1) = false := beq_false_of_ne q
      rw [if_neg q] at unf
      rcases Classical.em (0 - P * 1000000 ≤ sum) with c0 | c0
      rotate_left
      · rw [no (fun h => by have := unf.1 h; omega)]; exact rr15_z100 size m sum rng last P h0 h1 h2 h3 h4 h5 g1 q1 hP0 hP c0 w
      rcases Classical.em (sum ≤ P * 1000000) with c1 | c1
      rotate_left
      · rw [no (fun h => by have := unf.1 h; omega)]; exact rr15_z101 size m sum rng last P h0 h1 h2 h3 h4 h5 g1 q1 hP0 hP c0 c1 w
      rcases Classical.em (0 ≤ rng) with c2 | c2
      rotate_left
      · rw [no (fun h => by have := unf.1 h; omega)]; exact rr15_z102 size m sum rng last P h0 h1 h2 h3 h4 h5 g1 q1 hP0 hP c0 c1 c2 w
      rcases Classical.em (rng ≤ 2000000 * m) with c3 | c3
      rotate_left
      · rw [no (fun h => by have := unf.1 h; omega)]; exact rr15_z103 size m sum rng last P h0 h1 h2 h3 h4 h5 g1 q1 hP0 hP c0 c1 c2 c3 w
      rw [show basB ⟨size, m, sum, rng, last⟩ = true from decide_eq_true (unf.2 (by omega))]
      exact rr15_z104 size m sum rng last P h0 h1 h2 h3 h4 h5 g1 q1 hP0 hP c0 c1 c2 c3 w
/-! ### Row, Sum -/
set_option linter.unusedSimpArgs false in
set_option linter.unusedVariables false in
set_option maxHeartbeats 4000000 in
set_option maxRecDepth 100000 in
theorem rrow15_any (b : Bas) (l : List Int) (v : Value) (w : World) (hr : ReadsI w v l) : Calls Try.prog 13 #[basV b, v] w fun e w' => e = .returned (.bool (rowB b l)) ∧ Below w.heap.size w w' := by
  obtain ⟨size, m, sum, rng, last⟩ := b
  have hb := (Below.refl w.heap.size w).alloc (Nat.le_refl _) (basO ⟨size, m, sum, rng, last⟩)
  have HI := Lib.hid (rin_any l v _ (hr.below hb))
  have HB := Lib.hid hb
  obtain ⟨ao, cap, rfl, _⟩ := hr
  unfold rowB
  dsimp only
  obtain ⟨X, hX⟩ : ∃ X, inB l = X := ⟨_, rfl⟩
  obtain ⟨n, hn⟩ : ∃ n, l.length = n := ⟨_, rfl⟩
  rw [hX] at HI
  rw [hn] at HI
  rw [hX, hn]
  clear hX hn hb
  by_cases h : (n : Int) = size
  · have g : ((n : Int) == size) = true := beq_iff_eq.2 h
    rw [decide_eq_true h, Bool.true_and]
    clear h
    go_enter Try.func13, Try.ntmps13
    go_wp2_with fail
    refine HI.out.mono ?_
    rintro e w2 ⟨rfl, rfl⟩
    go_wp2
    go_ret
    exact ⟨rfl, HB.out⟩
  · have g : ((n : Int) == size) = false := beq_false_of_ne h
    rw [decide_eq_false h, Bool.false_and]
    clear h
    go_enter Try.func13, Try.ntmps13
    go_wp2
    go_ret
    exact ⟨rfl, HB.out⟩
set_option linter.unusedSimpArgs false in
set_option linter.unusedVariables false in
set_option maxHeartbeats 4000000 in
set_option maxRecDepth 100000 in
theorem rsum15_any (b : Bas) (s : Int) (hb : 1 ≤ b.size ∧ b.size ≤ 10) (w : World) : Calls Try.prog 17 #[basV b, .int .i64 s] w fun e w' => e = .returned (.bool (sumB b s)) ∧ Below w.heap.size w w' := by
  obtain ⟨size, m, sum, rng, last⟩ := b
  have HB := (Below.refl w.heap.size w).alloc (Nat.le_refl _) (basO ⟨size, m, sum, rng, last⟩)
  unfold sumB
  dsimp only at hb ⊢
  by_cases h1 : -1000000 * size ≤ s
  · by_cases h2 : s ≤ 1000000 * size
    · rw [decide_eq_true ⟨h1, h2⟩]
      go_enter Try.func17, Try.ntmps17
      go_wp2
      go_ret
      exact ⟨rfl, HB⟩
    · rw [decide_eq_false (fun h => h2 h.2)]
      go_enter Try.func17, Try.ntmps17
      go_wp2
      go_ret
      exact ⟨rfl, HB⟩
  · rw [decide_eq_false (fun h => h1 h.1)]
    go_enter Try.func17, Try.ntmps17
    go_wp2
    go_ret
    exact ⟨rfl, HB⟩
end Go.Proofs.Ytfafkdbflmennaa
