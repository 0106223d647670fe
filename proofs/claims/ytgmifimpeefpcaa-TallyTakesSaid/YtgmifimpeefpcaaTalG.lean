/- tally's map of drawings; its small functions. -/
import Derived.Test.YtgmifimpeefpcaaTalE
import Derived.Test.YtgmifimpeefpcaaMapF
namespace Go.Proofs.Ytgmifimpeefpcaa
open Go.RowKit

abbrev dFun (f : FuncId) : Value := .func (.func f) #[] #[]
def dEs : Array MapEntry := #[⟨.int .i64 2, dFun 26, 0⟩, ⟨.int .i64 3, dFun 27, 1⟩, ⟨.int .i64 4, dFun 28, 2⟩, ⟨.int .i64 5, dFun 28, 3⟩]
theorem dIns (w : World) (es : Array MapEntry) (c : Nat) (k : Int) (v : Value) (hf : Instr.findNow (.int .i64) (.int .i64 k) es.toList 0 = some none) :
    (Instr.mapUpdate 51 (.map (some w.heap.size)) (.int .i64 k) v).run Try.prog (w.alloc (.map es c)) = .ok () (w.alloc (.map (es.push ⟨.int .i64 k, v, c⟩) (c + 1))) :=
  lit_insert (P := Try.prog) Try.underlying51 Try.underlying3 w es c k v hf
set_option maxHeartbeats 4000000 in
set_option maxRecDepth 100000 in
theorem draw_any (w : World) : Calls Try.prog 20 #[] w fun e w' => e = .returned (.map (some w.heap.size)) ∧ w' = w.alloc (.map dEs 4) := by
  have hmm := @run_makeMap Try.prog
  have h1 := dIns w #[] 0 2 (dFun 26) (by rfl)
  have h2 := dIns w #[⟨.int .i64 2, dFun 26, 0⟩] 1 3 (dFun 27) (by rfl)
  have h3 := dIns w #[⟨.int .i64 2, dFun 26, 0⟩, ⟨.int .i64 3, dFun 27, 1⟩] 2 4 (dFun 28) (by rfl)
  have h4 := dIns w #[⟨.int .i64 2, dFun 26, 0⟩, ⟨.int .i64 3, dFun 27, 1⟩, ⟨.int .i64 4, dFun 28, 2⟩] 3 5 (dFun 28) (by rfl)
  simp only [dFun, List.push_toArray, List.cons_append, List.nil_append] at h1 h2 h3 h4
  go_enter Try.func20, Try.ntmps20
  go_wp2
  go_ret
  exact ⟨rfl, rfl⟩
theorem draw_at (W : World) : Calls Try.prog 20 #[] W fun e w' => e = .returned (.map (some W.heap.size)) ∧ w'.heap[W.heap.size]? = some (.map dEs 4) ∧ Below W.heap.size W w' :=
  (draw_any W).mono fun _ _ ⟨h1, h2⟩ => ⟨h1, h2 ▸ heap_alloc_new W _, h2 ▸ (Below.refl _ _).alloc (Nat.le_refl _) _⟩
theorem dLook (k : Int) {i : Nat} {v : Value} (hf : Instr.findNow (.int .i64) (.int .i64 k) dEs.toList 0 = some (some (i, v))) (W : World) (b : Nat) (hb : W.heap[b]? = some (.map dEs 4)) (ok : Bool) :
    (Instr.lookup 51 (.map (some b)) (.int .i64 k) ok).run Try.prog W = .ok (if ok then .tuple #[v, .bool true] else v) W :=
  lit_look (P := Try.prog) Try.underlying51 Try.underlying3 hb k hf ok
theorem dZero (W : World) : (zeroValue 49).run Try.prog W = .ok .nilFunc W := by kernel_rfl
theorem dNone (k : Int) (hf : Instr.findNow (.int .i64) (.int .i64 k) dEs.toList 0 = some none) (W : World) (b : Nat) (hb : W.heap[b]? = some (.map dEs 4)) (ok : Bool) :
    (Instr.lookup 51 (.map (some b)) (.int .i64 k) ok).run Try.prog W = .ok (if ok then .tuple #[.nilFunc, .bool false] else .nilFunc) W :=
  lit_none (P := Try.prog) Try.underlying51 Try.underlying3 hb k (dZero W) hf ok
theorem dFind_not {k : Int} (h : ¬ (2 ≤ k ∧ k ≤ 5)) : Instr.findNow (.int .i64) (.int .i64 k) dEs.toList 0 = some none := by
  have h2 := beq_false_of_ne (show k ≠ 2 by omega)
  have h3 := beq_false_of_ne (show k ≠ 3 by omega)
  have h4 := beq_false_of_ne (show k ≠ 4 by omega)
  have h5 := beq_false_of_ne (show k ≠ 5 by omega)
  simp [dEs, Instr.findNow, Instr.sameNow, h2, h3, h4, h5]
/-- What stands in the map at a kind. -/
theorem dFind {k : Int} (h : 2 ≤ k ∧ k ≤ 5) : ∃ i, Instr.findNow (.int .i64) (.int .i64 k) dEs.toList 0 = some (some (i, dFun (if k = 2 then 26 else if k = 3 then 27 else 28))) := by
  obtain rfl | rfl | rfl | rfl : k = 2 ∨ k = 3 ∨ k = 4 ∨ k = 5 := by omega
  · exact ⟨0, by rfl⟩
  · exact ⟨1, by rfl⟩
  · exact ⟨2, by rfl⟩
  · exact ⟨3, by rfl⟩
/-! ### Small functions -/
set_option linter.unusedSimpArgs false in
set_option linter.unusedVariables false in
set_option maxHeartbeats 8000000 in
set_option maxRecDepth 100000 in
theorem mostu_0 (k : Int) (g : (k == 4) = true) (w : World) : Calls Try.prog 21 #[.int .i64 k] w fun e w' => e = .returned (.int .i64 1) ∧ w' = w := by
  go_enter Try.func21, Try.ntmps21
  go_wp2
  go_ret
  exact ⟨rfl, rfl⟩
set_option linter.unusedSimpArgs false in
set_option linter.unusedVariables false in
set_option maxHeartbeats 8000000 in
set_option maxRecDepth 100000 in
theorem mostu_1 (k : Int) (g : (k == 4) = false) (w : World) : Calls Try.prog 21 #[.int .i64 k] w fun e w' => e = .returned (.int .i64 1000) ∧ w' = w := by
  go_enter Try.func21, Try.ntmps21
  go_wp2
  go_ret
  exact ⟨rfl, rfl⟩
def mostU (k : Int) : Int := if k = 4 then 1 else 1000
theorem mostu_any (k : Int) (W : World) : Calls Try.prog 21 #[.int .i64 k] W fun e w' => e = .returned (.int .i64 (mostU k)) ∧ Below W.heap.size W w' := by
  unfold mostU
  by_cases h : k = 4
  · rw [if_pos h]; exact below16 (mostu_0 k (beq_iff_eq.2 h) W)
  · rw [if_neg h]; exact below16 (mostu_1 k (beq_false_of_ne h) W)
set_option linter.unusedSimpArgs false in
set_option linter.unusedVariables false in
set_option maxHeartbeats 8000000 in
set_option maxRecDepth 100000 in
theorem grt_0 (kind size m sum : Int) (g : (kind == 2) = true) (w : World) : Calls Try.prog 22 #[.agg #[.int .i64 kind, .int .i64 size, .int .i64 m, .int .i64 sum]] w fun e w' => e = .returned (.int .i64 size) ∧ Below w.heap.size w w' := by
  obtain ⟨w2, hw2⟩ : ∃ w2, w.alloc (.cells #[.int .i64 kind, .int .i64 size, .int .i64 m, .int .i64 sum] 23) = w2 := ⟨_, rfl⟩
  have HB2 := Lib.hid (show Below w.heap.size w w2 by rw [← hw2]; exact (Below.refl _ _).alloc (Nat.le_refl _) _)
  have HV2 := Lib.hid (show Has w2 w.heap.size [.int .i64 kind, .int .i64 size, .int .i64 m, .int .i64 sum] 23 by rw [← hw2]; exact Has.new w _ _)
  have HW2 := Lib.hid hw2
  clear hw2
  have hbase := Nat.le_refl w.heap.size
  go_enter Try.func22, Try.ntmps22
  go_upto_region 1 with fail
  rw [HW2.out]
  have qb0_0 : w2.cell? ⟨w.heap.size, 0, none⟩ = some (.int .i64 kind) := HV2.out.cell 0
  have qb1_0 : w2.cell? ⟨w.heap.size, 1, none⟩ = some (.int .i64 size) := HV2.out.cell 1
  have qb2_0 : w2.cell? ⟨w.heap.size, 2, none⟩ = some (.int .i64 m) := HV2.out.cell 2
  have qb3_0 : w2.cell? ⟨w.heap.size, 3, none⟩ = some (.int .i64 sum) := HV2.out.cell 3
  have lb_0 : w.heap.size < w2.heap.size := HV2.out.lt
  go_wp2
  go_ret
  exact ⟨rfl, HB2.out⟩
set_option linter.unusedSimpArgs false in
set_option linter.unusedVariables false in
set_option maxHeartbeats 8000000 in
set_option maxRecDepth 100000 in
theorem grt_1 (kind size m sum : Int) (g : (kind == 2) = false) (g1 : (kind == 3) = true) (w : World) : Calls Try.prog 22 #[.agg #[.int .i64 kind, .int .i64 size, .int .i64 m, .int .i64 sum]] w fun e w' => e = .returned (.int .i64 size) ∧ Below w.heap.size w w' := by
  obtain ⟨w2, hw2⟩ : ∃ w2, w.alloc (.cells #[.int .i64 kind, .int .i64 size, .int .i64 m, .int .i64 sum] 23) = w2 := ⟨_, rfl⟩
  have HB2 := Lib.hid (show Below w.heap.size w w2 by rw [← hw2]; exact (Below.refl _ _).alloc (Nat.le_refl _) _)
  have HV2 := Lib.hid (show Has w2 w.heap.size [.int .i64 kind, .int .i64 size, .int .i64 m, .int .i64 sum] 23 by rw [← hw2]; exact Has.new w _ _)
  have HW2 := Lib.hid hw2
  clear hw2
  have hbase := Nat.le_refl w.heap.size
  go_enter Try.func22, Try.ntmps22
  go_upto_region 1 with fail
  rw [HW2.out]
  have qb0_0 : w2.cell? ⟨w.heap.size, 0, none⟩ = some (.int .i64 kind) := HV2.out.cell 0
  have qb1_0 : w2.cell? ⟨w.heap.size, 1, none⟩ = some (.int .i64 size) := HV2.out.cell 1
  have qb2_0 : w2.cell? ⟨w.heap.size, 2, none⟩ = some (.int .i64 m) := HV2.out.cell 2
  have qb3_0 : w2.cell? ⟨w.heap.size, 3, none⟩ = some (.int .i64 sum) := HV2.out.cell 3
  have lb_0 : w.heap.size < w2.heap.size := HV2.out.lt
  go_wp2
  go_ret
  exact ⟨rfl, HB2.out⟩
set_option linter.unusedSimpArgs false in
set_option linter.unusedVariables false in
set_option maxHeartbeats 8000000 in
set_option maxRecDepth 100000 in
theorem grt_2 (kind size m sum : Int) (g : (kind == 2) = false) (g1 : (kind == 3) = false) (w : World) : Calls Try.prog 22 #[.agg #[.int .i64 kind, .int .i64 size, .int .i64 m, .int .i64 sum]] w fun e w' => e = .returned (.int .i64 1000000) ∧ Below w.heap.size w w' := by
  obtain ⟨w2, hw2⟩ : ∃ w2, w.alloc (.cells #[.int .i64 kind, .int .i64 size, .int .i64 m, .int .i64 sum] 23) = w2 := ⟨_, rfl⟩
  have HB2 := Lib.hid (show Below w.heap.size w w2 by rw [← hw2]; exact (Below.refl _ _).alloc (Nat.le_refl _) _)
  have HV2 := Lib.hid (show Has w2 w.heap.size [.int .i64 kind, .int .i64 size, .int .i64 m, .int .i64 sum] 23 by rw [← hw2]; exact Has.new w _ _)
  have HW2 := Lib.hid hw2
  clear hw2
  have hbase := Nat.le_refl w.heap.size
  go_enter Try.func22, Try.ntmps22
  go_upto_region 1 with fail
  rw [HW2.out]
  have qb0_0 : w2.cell? ⟨w.heap.size, 0, none⟩ = some (.int .i64 kind) := HV2.out.cell 0
  have qb1_0 : w2.cell? ⟨w.heap.size, 1, none⟩ = some (.int .i64 size) := HV2.out.cell 1
  have qb2_0 : w2.cell? ⟨w.heap.size, 2, none⟩ = some (.int .i64 m) := HV2.out.cell 2
  have qb3_0 : w2.cell? ⟨w.heap.size, 3, none⟩ = some (.int .i64 sum) := HV2.out.cell 3
  have lb_0 : w.heap.size < w2.heap.size := HV2.out.lt
  go_wp2
  go_ret
  exact ⟨rfl, HB2.out⟩
theorem grt_any (t : Tal) (h : 2 ≤ t.kind) (w : World) : Calls Try.prog 22 #[talV t] w fun e w' => e = .returned (.int .i64 (mostT t)) ∧ Below w.heap.size w w' := by
  unfold mostT
  by_cases h3 : t.kind ≤ 3
  · rw [if_pos h3]
    by_cases h2 : t.kind = 2
    · exact grt_0 _ _ _ _ (beq_iff_eq.2 h2) w
    · exact grt_1 _ _ _ _ (beq_false_of_ne h2) (beq_iff_eq.2 (by omega)) w
  · rw [if_neg h3]; exact grt_2 _ _ _ _ (beq_false_of_ne (by omega)) (beq_false_of_ne (by omega)) w
set_option linter.unusedSimpArgs false in
set_option linter.unusedVariables false in
set_option maxHeartbeats 8000000 in
set_option maxRecDepth 100000 in
theorem isc_0 (kind size m sum d : Int) (h : ¬ 0 ≤ d) (w : World) : Calls Try.prog 19 #[.agg #[.int .i64 kind, .int .i64 size, .int .i64 m, .int .i64 sum], .int .i64 d] w fun e w' => e = .returned (.bool false) ∧ Below w.heap.size w w' := by
  obtain ⟨w2, hw2⟩ : ∃ w2, w.alloc (.cells #[.int .i64 kind, .int .i64 size, .int .i64 m, .int .i64 sum] 23) = w2 := ⟨_, rfl⟩
  have HB2 := Lib.hid (show Below w.heap.size w w2 by rw [← hw2]; exact (Below.refl _ _).alloc (Nat.le_refl _) _)
  have HV2 := Lib.hid (show Has w2 w.heap.size [.int .i64 kind, .int .i64 size, .int .i64 m, .int .i64 sum] 23 by rw [← hw2]; exact Has.new w _ _)
  have HW2 := Lib.hid hw2
  clear hw2
  have hbase := Nat.le_refl w.heap.size
  go_enter Try.func19, Try.ntmps19
  go_upto_region 1 with fail
  rw [HW2.out]
  have qb0_0 : w2.cell? ⟨w.heap.size, 0, none⟩ = some (.int .i64 kind) := HV2.out.cell 0
  have qb1_0 : w2.cell? ⟨w.heap.size, 1, none⟩ = some (.int .i64 size) := HV2.out.cell 1
  have qb2_0 : w2.cell? ⟨w.heap.size, 2, none⟩ = some (.int .i64 m) := HV2.out.cell 2
  have qb3_0 : w2.cell? ⟨w.heap.size, 3, none⟩ = some (.int .i64 sum) := HV2.out.cell 3
  have lb_0 : w.heap.size < w2.heap.size := HV2.out.lt
  go_wp2
  go_ret
  exact ⟨rfl, HB2.out⟩
set_option linter.unusedSimpArgs false in
set_option linter.unusedVariables false in
set_option maxHeartbeats 8000000 in
set_option maxRecDepth 100000 in
theorem isc_1 (kind size m sum d M : Int) (D : Bool) (w : World) (mm : (∀ W, Calls Try.prog 22 #[.agg #[.int .i64 kind, .int .i64 size, .int .i64 m, .int .i64 sum]] W fun e w' => e = .returned (.int .i64 M) ∧ Below W.heap.size W w')) (h : 0 ≤ d) (hD : decide (d ≤ M) = D) : Calls Try.prog 19 #[.agg #[.int .i64 kind, .int .i64 size, .int .i64 m, .int .i64 sum], .int .i64 d] w fun e w' => e = .returned (.bool D) ∧ Below w.heap.size w w' := by
  have MM := Lib.hid mm
  clear mm
  obtain ⟨w2, hw2⟩ : ∃ w2, w.alloc (.cells #[.int .i64 kind, .int .i64 size, .int .i64 m, .int .i64 sum] 23) = w2 := ⟨_, rfl⟩
  have HB2 := Lib.hid (show Below w.heap.size w w2 by rw [← hw2]; exact (Below.refl _ _).alloc (Nat.le_refl _) _)
  have HV2 := Lib.hid (show Has w2 w.heap.size [.int .i64 kind, .int .i64 size, .int .i64 m, .int .i64 sum] 23 by rw [← hw2]; exact Has.new w _ _)
  have HW2 := Lib.hid hw2
  clear hw2
  have hbase := Nat.le_refl w.heap.size
  go_enter Try.func19, Try.ntmps19
  go_upto_region 1 with fail
  rw [HW2.out]
  have qb0_0 : w2.cell? ⟨w.heap.size, 0, none⟩ = some (.int .i64 kind) := HV2.out.cell 0
  have qb1_0 : w2.cell? ⟨w.heap.size, 1, none⟩ = some (.int .i64 size) := HV2.out.cell 1
  have qb2_0 : w2.cell? ⟨w.heap.size, 2, none⟩ = some (.int .i64 m) := HV2.out.cell 2
  have qb3_0 : w2.cell? ⟨w.heap.size, 3, none⟩ = some (.int .i64 sum) := HV2.out.cell 3
  have lb_0 : w.heap.size < w2.heap.size := HV2.out.lt
  have hcz1 := MM.out w2
  go_wp2_with fail
  refine hcz1.mono ?_
  rintro e wz1 ⟨rfl, kz1⟩
  clear hcz1 qb0_0 qb1_0 qb2_0 qb3_0 lb_0
  have HBz1 := Lib.hid (HB2.out.trans (kz1.mono (Nat.le_trans hbase HB2.out.size)))
  have Hbz1 := Lib.hid (HV2.out.call kz1)
  clear kz1
  go_wp2
  go_ret
  exact ⟨rfl, HBz1.out⟩
theorem isc_any (t : Tal) (h2 : 2 ≤ t.kind) (d : Int) (w : World) : Calls Try.prog 19 #[talV t, .int .i64 d] w fun e w' => e = .returned (.bool (cntB t d)) ∧ Below w.heap.size w w' := by
  unfold cntB
  by_cases h : 0 ≤ d
  · exact isc_1 _ _ _ _ d _ _ w (fun W => grt_any t h2 W) h (decide_eq_decide.2 (by omega))
  · rw [decide_eq_false (by omega)]; exact isc_0 _ _ _ _ d h w
set_option linter.unusedSimpArgs false in
set_option linter.unusedVariables false in
set_option maxHeartbeats 8000000 in
set_option maxRecDepth 100000 in
theorem units_any (kind size m sum A : Int) (e1 : wrap64 (m * size) = A) (w : World) : Calls Try.prog 34 #[.agg #[.int .i64 kind, .int .i64 size, .int .i64 m, .int .i64 sum]] w fun e w' => e = .returned (.int .i64 A) ∧ Below w.heap.size w w' := by
  subst e1
  obtain ⟨w2, hw2⟩ : ∃ w2, w.alloc (.cells #[.int .i64 kind, .int .i64 size, .int .i64 m, .int .i64 sum] 23) = w2 := ⟨_, rfl⟩
  have HB2 := Lib.hid (show Below w.heap.size w w2 by rw [← hw2]; exact (Below.refl _ _).alloc (Nat.le_refl _) _)
  have HV2 := Lib.hid (show Has w2 w.heap.size [.int .i64 kind, .int .i64 size, .int .i64 m, .int .i64 sum] 23 by rw [← hw2]; exact Has.new w _ _)
  have HW2 := Lib.hid hw2
  clear hw2
  have hbase := Nat.le_refl w.heap.size
  go_enter Try.func34, Try.ntmps34
  go_upto_region 1 with fail
  rw [HW2.out]
  have qb0_0 : w2.cell? ⟨w.heap.size, 0, none⟩ = some (.int .i64 kind) := HV2.out.cell 0
  have qb1_0 : w2.cell? ⟨w.heap.size, 1, none⟩ = some (.int .i64 size) := HV2.out.cell 1
  have qb2_0 : w2.cell? ⟨w.heap.size, 2, none⟩ = some (.int .i64 m) := HV2.out.cell 2
  have qb3_0 : w2.cell? ⟨w.heap.size, 3, none⟩ = some (.int .i64 sum) := HV2.out.cell 3
  have lb_0 : w.heap.size < w2.heap.size := HV2.out.lt
  go_wp2
  go_ret
  exact ⟨rfl, HB2.out⟩
end Go.Proofs.Ytgmifimpeefpcaa
