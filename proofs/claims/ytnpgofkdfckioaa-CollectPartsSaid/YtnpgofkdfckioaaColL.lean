/- collect.New, Flush. -/
import Derived.Test.YtnpgofkdfckioaaColK
namespace Go.Proofs.Ytnpgofkdfckioaa
open Go.RowKit

theorem gright_empty (s lo hi : Int) : grightB ⟨s, lo, hi, []⟩ = sizesB s lo hi := by
  unfold grightB
  rw [show ([] : List Int).all (fitsB ⟨s, lo, hi, []⟩) = true from rfl, Bool.true_and]
  cases h : sizesB s lo hi
  · rfl
  · have h2 : 1 ≤ s ∧ s ≤ 10 ∧ -1000000 ≤ lo ∧ hi ≤ 1000000 ∧ lo < hi := of_decide_eq_true h
    rw [Bool.true_and]
    exact decide_eq_true (by show ((0 : Nat) : Int) < s; omega)
/-- A group's cells are stored into a block of four. -/
theorem Has.put4 {w : World} {b : Nat} {a0 a1 a2 a3 : Value} (h : Has w b [a0, a1, a2, a3] 24) (c0 c1 c2 c3 : Value) : Has ((((w.setCell ⟨b, 0, none⟩ c0).setCell ⟨b, 1, none⟩ c1).setCell ⟨b, 2, none⟩ c2).setCell ⟨b, 3, none⟩ c3) b [c0, c1, c2, c3] 24 :=
  (((h.set 0 c0).set 1 c1).set 2 c2).set 3 c3
theorem Below.put4 {B b : Nat} {x y : World} (h : Below B x y) (hb : B ≤ b) (c0 c1 c2 c3 : Value) : Below B x ((((y.setCell ⟨b, 0, none⟩ c0).setCell ⟨b, 1, none⟩ c1).setCell ⟨b, 2, none⟩ c2).setCell ⟨b, 3, none⟩ c3) :=
  (((h.setCell (p := ⟨b, 0, none⟩) hb c0).setCell (p := ⟨b, 1, none⟩) hb c1).setCell (p := ⟨b, 2, none⟩) hb c2).setCell (p := ⟨b, 3, none⟩) hb c3
theorem Has.put4O {w : World} {b k : Nat} {cs : List Value} {T : TypeId} (h : Has w k cs T) (hk : k ≠ b) (c0 c1 c2 c3 : Value) : Has ((((w.setCell ⟨b, 0, none⟩ c0).setCell ⟨b, 1, none⟩ c1).setCell ⟨b, 2, none⟩ c2).setCell ⟨b, 3, none⟩ c3) k cs T :=
  (((h.other (p := ⟨b, 0, none⟩) hk c0).other (p := ⟨b, 1, none⟩) hk c1).other (p := ⟨b, 2, none⟩) hk c2).other (p := ⟨b, 3, none⟩) hk c3
theorem put4_block (w : World) (b k : Nat) (hk : k ≠ b) (c0 c1 c2 c3 : Value) : ((((w.setCell ⟨b, 0, none⟩ c0).setCell ⟨b, 1, none⟩ c1).setCell ⟨b, 2, none⟩ c2).setCell ⟨b, 3, none⟩ c3).heap[k]? = w.heap[k]? :=
  (Below.heap_setCell _ ⟨b, 3, none⟩ c3 k hk).trans ((Below.heap_setCell _ ⟨b, 2, none⟩ c2 k hk).trans ((Below.heap_setCell _ ⟨b, 1, none⟩ c1 k hk).trans (Below.heap_setCell _ ⟨b, 0, none⟩ c0 k hk)))
set_option maxRecDepth 100000 in
theorem new_ok (s lo hi : Int) (w : World) (h : sizesB s lo hi = true) :
    Calls Try.prog 8 #[.int .i64 s, .int .i64 lo, .int .i64 hi] w fun e w' => e = .returned (.tuple #[.agg #[.int .i64 s, .int .i64 lo, .int .i64 hi, .slice none 0 0], .int .i64 0]) ∧ Below w.heap.size w w' := by
  have hb2 := ((Below.refl w.heap.size w).alloc (Nat.le_refl _) (.cells #[.int .i64 0, .int .i64 0, .int .i64 0, .slice none 0 0] 24)).alloc (by simp) (.cells #[.int .i64 s, .int .i64 lo, .int .i64 hi, .slice none 0 0] 24)
  have hs2 : ((w.alloc (.cells #[.int .i64 0, .int .i64 0, .int .i64 0, .slice none 0 0] 24)).alloc (.cells #[.int .i64 s, .int .i64 lo, .int .i64 hi, .slice none 0 0] 24)).heap.size = w.heap.size + 2 := by simp
  have hz := (Has.new w [.int .i64 0, .int .i64 0, .int .i64 0, .slice none 0 0] 24).alloc (.cells #[.int .i64 s, .int .i64 lo, .int .i64 hi, .slice none 0 0] 24)
  have hg := Has.new (w.alloc (.cells #[.int .i64 0, .int .i64 0, .int .i64 0, .slice none 0 0] 24)) [.int .i64 s, .int .i64 lo, .int .i64 hi, .slice none 0 0] 24
  rw [show (w.alloc (.cells #[.int .i64 0, .int .i64 0, .int .i64 0, .slice none 0 0] 24)).heap.size = w.heap.size + 1 by simp] at hg
  have hrt := right10_any s lo hi [] (.slice none 0 0) _ (ReadsI.nil ((w.alloc (.cells #[.int .i64 0, .int .i64 0, .int .i64 0, .slice none 0 0] 24)).alloc (.cells #[.int .i64 s, .int .i64 lo, .int .i64 hi, .slice none 0 0] 24)))
  rw [gright_empty, h] at hrt
  have HZ := Lib.hid hz
  have HG := Lib.hid hg
  have HB := Lib.hid hb2
  have HS := Lib.hid hs2
  clear hz hg hb2 hs2 h
  go_enter Try.func8, Try.ntmps8
  go_wp2_with fail
  refine hrt.mono ?_
  rintro e w3 ⟨rfl, k3⟩
  have xH := HZ.out.call k3
  have gH := HG.out.call k3
  have hb3 := HB.out.trans (k3.mono HB.out.size)
  have hs3 := k3.size
  rw [HS.out] at hs3
  have x0 : w3.cell? ⟨w.heap.size, 0, none⟩ = some (.int .i64 0) := xH.cell 0
  have x1 : w3.cell? ⟨w.heap.size, 1, none⟩ = some (.int .i64 0) := xH.cell 1
  have x2 : w3.cell? ⟨w.heap.size, 2, none⟩ = some (.int .i64 0) := xH.cell 2
  have x3 : w3.cell? ⟨w.heap.size, 3, none⟩ = some (.slice none 0 0) := xH.cell 3
  have xf0 : w3.frozen? ⟨w.heap.size, 0, none⟩ = false := xH.frozen 0
  have xf1 : w3.frozen? ⟨w.heap.size, 1, none⟩ = false := xH.frozen 1
  have xf2 : w3.frozen? ⟨w.heap.size, 2, none⟩ = false := xH.frozen 2
  have xf3 : w3.frozen? ⟨w.heap.size, 3, none⟩ = false := xH.frozen 3
  have g0 : w3.cell? ⟨w.heap.size + 1, 0, none⟩ = some (.int .i64 s) := gH.cell 0
  have g1 : w3.cell? ⟨w.heap.size + 1, 1, none⟩ = some (.int .i64 lo) := gH.cell 1
  have g2 : w3.cell? ⟨w.heap.size + 1, 2, none⟩ = some (.int .i64 hi) := gH.cell 2
  have g3 : w3.cell? ⟨w.heap.size + 1, 3, none⟩ = some (.slice none 0 0) := gH.cell 3
  have gf0 : w3.frozen? ⟨w.heap.size + 1, 0, none⟩ = false := gH.frozen 0
  have gf1 : w3.frozen? ⟨w.heap.size + 1, 1, none⟩ = false := gH.frozen 1
  have gf2 : w3.frozen? ⟨w.heap.size + 1, 2, none⟩ = false := gH.frozen 2
  have gf3 : w3.frozen? ⟨w.heap.size + 1, 3, none⟩ = false := gH.frozen 3
  have HR := Lib.hid (xH.put4 (.int .i64 s) (.int .i64 lo) (.int .i64 hi) (.slice none 0 0))
  have HB3 := Lib.hid (Below.put4 hb3 (Nat.le_refl _) (.int .i64 s) (.int .i64 lo) (.int .i64 hi) (.slice none 0 0))
  clear hrt k3 xH gH hb3
  go_wp2
  (try simp only [Exit.inBlock, Exit.then])
  exact bodyPost_ret (res_cell1 Try.results8 rfl (load4 HR.out)) rfl ⟨rfl, HB3.out⟩
set_option maxRecDepth 100000 in
theorem new_no (s lo hi : Int) (w : World) (h : sizesB s lo hi = false) :
    Calls Try.prog 8 #[.int .i64 s, .int .i64 lo, .int .i64 hi] w fun e w' => e = .returned (.tuple #[.agg #[.int .i64 0, .int .i64 0, .int .i64 0, .slice none 0 0], .int .i64 1]) ∧ Below w.heap.size w w' := by
  have hb2 := ((Below.refl w.heap.size w).alloc (Nat.le_refl _) (.cells #[.int .i64 0, .int .i64 0, .int .i64 0, .slice none 0 0] 24)).alloc (by simp) (.cells #[.int .i64 s, .int .i64 lo, .int .i64 hi, .slice none 0 0] 24)
  have hs2 : ((w.alloc (.cells #[.int .i64 0, .int .i64 0, .int .i64 0, .slice none 0 0] 24)).alloc (.cells #[.int .i64 s, .int .i64 lo, .int .i64 hi, .slice none 0 0] 24)).heap.size = w.heap.size + 2 := by simp
  have hz := (Has.new w [.int .i64 0, .int .i64 0, .int .i64 0, .slice none 0 0] 24).alloc (.cells #[.int .i64 s, .int .i64 lo, .int .i64 hi, .slice none 0 0] 24)
  have hg := Has.new (w.alloc (.cells #[.int .i64 0, .int .i64 0, .int .i64 0, .slice none 0 0] 24)) [.int .i64 s, .int .i64 lo, .int .i64 hi, .slice none 0 0] 24
  rw [show (w.alloc (.cells #[.int .i64 0, .int .i64 0, .int .i64 0, .slice none 0 0] 24)).heap.size = w.heap.size + 1 by simp] at hg
  have hrt := right10_any s lo hi [] (.slice none 0 0) _ (ReadsI.nil ((w.alloc (.cells #[.int .i64 0, .int .i64 0, .int .i64 0, .slice none 0 0] 24)).alloc (.cells #[.int .i64 s, .int .i64 lo, .int .i64 hi, .slice none 0 0] 24)))
  rw [gright_empty, h] at hrt
  have HZ := Lib.hid hz
  have HG := Lib.hid hg
  have HB := Lib.hid hb2
  have HS := Lib.hid hs2
  clear hz hg hb2 hs2 h
  go_enter Try.func8, Try.ntmps8
  go_wp2_with fail
  refine hrt.mono ?_
  rintro e w3 ⟨rfl, k3⟩
  have xH := HZ.out.call k3
  have gH := HG.out.call k3
  have hb3 := HB.out.trans (k3.mono HB.out.size)
  have hs3 := k3.size
  rw [HS.out] at hs3
  have x0 : w3.cell? ⟨w.heap.size, 0, none⟩ = some (.int .i64 0) := xH.cell 0
  have x1 : w3.cell? ⟨w.heap.size, 1, none⟩ = some (.int .i64 0) := xH.cell 1
  have x2 : w3.cell? ⟨w.heap.size, 2, none⟩ = some (.int .i64 0) := xH.cell 2
  have x3 : w3.cell? ⟨w.heap.size, 3, none⟩ = some (.slice none 0 0) := xH.cell 3
  have xf0 : w3.frozen? ⟨w.heap.size, 0, none⟩ = false := xH.frozen 0
  have xf1 : w3.frozen? ⟨w.heap.size, 1, none⟩ = false := xH.frozen 1
  have xf2 : w3.frozen? ⟨w.heap.size, 2, none⟩ = false := xH.frozen 2
  have xf3 : w3.frozen? ⟨w.heap.size, 3, none⟩ = false := xH.frozen 3
  have HR := Lib.hid (xH.put4 (.int .i64 0) (.int .i64 0) (.int .i64 0) (.slice none 0 0))
  have HB3 := Lib.hid (Below.put4 hb3 (Nat.le_refl _) (.int .i64 0) (.int .i64 0) (.int .i64 0) (.slice none 0 0))
  clear hrt k3 xH gH hb3
  go_wp2
  (try simp only [Exit.inBlock, Exit.then])
  exact bodyPost_ret (res_cell1 Try.results8 rfl (load4 HR.out)) rfl ⟨rfl, HB3.out⟩
set_option maxRecDepth 100000 in
theorem flush_ok (s lo hi : Int) (xs : List Int) (v : Value) (w : World) (hr : ReadsI w v xs) (h : grightB ⟨s, lo, hi, xs⟩ = true) :
    Calls Try.prog 10 #[.agg #[.int .i64 s, .int .i64 lo, .int .i64 hi, v]] w fun e w' => e = .returned (.tuple #[.agg #[.int .i64 s, .int .i64 lo, .int .i64 hi, .slice none 0 0], .int .i64 (xs.length : Nat), .int .i64 0]) ∧ Below w.heap.size w w' := by
  obtain ⟨ao, cap, rfl, hlc, hcm, -⟩ := id hr
  unfold maxLen at hcm
  obtain ⟨n, hn⟩ : ∃ n, xs.length = n := ⟨_, rfl⟩
  rw [hn] at hlc hr ⊢
  have hb2 := ((Below.refl w.heap.size w).alloc (Nat.le_refl _) (.cells #[.int .i64 s, .int .i64 lo, .int .i64 hi, .slice ao n cap] 24)).alloc (by simp) (.cells #[.int .i64 0, .int .i64 0, .int .i64 0, .slice none 0 0] 24)
  have hs2 : ((w.alloc (.cells #[.int .i64 s, .int .i64 lo, .int .i64 hi, .slice ao n cap] 24)).alloc (.cells #[.int .i64 0, .int .i64 0, .int .i64 0, .slice none 0 0] 24)).heap.size = w.heap.size + 2 := by simp
  have hg := (Has.new w [.int .i64 s, .int .i64 lo, .int .i64 hi, .slice ao n cap] 24).alloc (.cells #[.int .i64 0, .int .i64 0, .int .i64 0, .slice none 0 0] 24)
  have hz := Has.new (w.alloc (.cells #[.int .i64 s, .int .i64 lo, .int .i64 hi, .slice ao n cap] 24)) [.int .i64 0, .int .i64 0, .int .i64 0, .slice none 0 0] 24
  rw [show (w.alloc (.cells #[.int .i64 s, .int .i64 lo, .int .i64 hi, .slice ao n cap] 24)).heap.size = w.heap.size + 1 by simp] at hz
  have hrt := right10_any s lo hi xs (.slice ao n cap) _ (hr.below hb2)
  rw [h] at hrt
  have HZ := Lib.hid hz
  have HG := Lib.hid hg
  have HB := Lib.hid hb2
  have HS := Lib.hid hs2
  clear hz hg hb2 hs2 h hr hn
  go_enter Try.func10, Try.ntmps10
  go_wp2_with fail
  refine hrt.mono ?_
  rintro e w3 ⟨rfl, k3⟩
  have xH := HZ.out.call k3
  have gH := HG.out.call k3
  have hb3 := HB.out.trans (k3.mono HB.out.size)
  have hs3 := k3.size
  rw [HS.out] at hs3
  have x0 : w3.cell? ⟨w.heap.size + 1, 0, none⟩ = some (.int .i64 0) := xH.cell 0
  have x1 : w3.cell? ⟨w.heap.size + 1, 1, none⟩ = some (.int .i64 0) := xH.cell 1
  have x2 : w3.cell? ⟨w.heap.size + 1, 2, none⟩ = some (.int .i64 0) := xH.cell 2
  have x3 : w3.cell? ⟨w.heap.size + 1, 3, none⟩ = some (.slice none 0 0) := xH.cell 3
  have xf0 : w3.frozen? ⟨w.heap.size + 1, 0, none⟩ = false := xH.frozen 0
  have xf1 : w3.frozen? ⟨w.heap.size + 1, 1, none⟩ = false := xH.frozen 1
  have xf2 : w3.frozen? ⟨w.heap.size + 1, 2, none⟩ = false := xH.frozen 2
  have xf3 : w3.frozen? ⟨w.heap.size + 1, 3, none⟩ = false := xH.frozen 3
  have g0 : w3.cell? ⟨w.heap.size, 0, none⟩ = some (.int .i64 s) := gH.cell 0
  have g1 : w3.cell? ⟨w.heap.size, 1, none⟩ = some (.int .i64 lo) := gH.cell 1
  have g2 : w3.cell? ⟨w.heap.size, 2, none⟩ = some (.int .i64 hi) := gH.cell 2
  have g3 : w3.cell? ⟨w.heap.size, 3, none⟩ = some (.slice ao n cap) := gH.cell 3
  have gf0 : w3.frozen? ⟨w.heap.size, 0, none⟩ = false := gH.frozen 0
  have gf1 : w3.frozen? ⟨w.heap.size, 1, none⟩ = false := gH.frozen 1
  have gf2 : w3.frozen? ⟨w.heap.size, 2, none⟩ = false := gH.frozen 2
  have gf3 : w3.frozen? ⟨w.heap.size, 3, none⟩ = false := gH.frozen 3
  have HR := Lib.hid ((xH.other (p := ⟨w.heap.size, 3, none⟩) (by dsimp only; omega) (.slice none 0 0)).put4 (.int .i64 s) (.int .i64 lo) (.int .i64 hi) (.slice none 0 0))
  have HB3 := Lib.hid (Below.put4 (b := w.heap.size + 1) (hb3.setCell (p := ⟨w.heap.size, 3, none⟩) (Nat.le_refl _) (.slice none 0 0)) (Nat.le_add_right _ 1) (.int .i64 s) (.int .i64 lo) (.int .i64 hi) (.slice none 0 0))
  clear hrt k3 xH gH hb3
  go_wp2
  (try simp only [Exit.inBlock, Exit.then])
  exact bodyPost_ret (res_cell2 Try.results10 rfl (load4 HR.out)) rfl ⟨rfl, HB3.out⟩
set_option maxRecDepth 100000 in
theorem flush_no (s lo hi : Int) (xs : List Int) (v : Value) (w : World) (hr : ReadsI w v xs) (h : grightB ⟨s, lo, hi, xs⟩ = false) :
    Calls Try.prog 10 #[.agg #[.int .i64 s, .int .i64 lo, .int .i64 hi, v]] w fun e w' => e = .returned (.tuple #[.agg #[.int .i64 0, .int .i64 0, .int .i64 0, .slice none 0 0], .int .i64 0, .int .i64 1]) ∧ Below w.heap.size w w' := by
  obtain ⟨ao, cap, rfl, hlc, hcm, -⟩ := id hr
  unfold maxLen at hcm
  obtain ⟨n, hn⟩ : ∃ n, xs.length = n := ⟨_, rfl⟩
  rw [hn] at hlc hr ⊢
  have hb2 := ((Below.refl w.heap.size w).alloc (Nat.le_refl _) (.cells #[.int .i64 s, .int .i64 lo, .int .i64 hi, .slice ao n cap] 24)).alloc (by simp) (.cells #[.int .i64 0, .int .i64 0, .int .i64 0, .slice none 0 0] 24)
  have hs2 : ((w.alloc (.cells #[.int .i64 s, .int .i64 lo, .int .i64 hi, .slice ao n cap] 24)).alloc (.cells #[.int .i64 0, .int .i64 0, .int .i64 0, .slice none 0 0] 24)).heap.size = w.heap.size + 2 := by simp
  have hg := (Has.new w [.int .i64 s, .int .i64 lo, .int .i64 hi, .slice ao n cap] 24).alloc (.cells #[.int .i64 0, .int .i64 0, .int .i64 0, .slice none 0 0] 24)
  have hz := Has.new (w.alloc (.cells #[.int .i64 s, .int .i64 lo, .int .i64 hi, .slice ao n cap] 24)) [.int .i64 0, .int .i64 0, .int .i64 0, .slice none 0 0] 24
  rw [show (w.alloc (.cells #[.int .i64 s, .int .i64 lo, .int .i64 hi, .slice ao n cap] 24)).heap.size = w.heap.size + 1 by simp] at hz
  have hrt := right10_any s lo hi xs (.slice ao n cap) _ (hr.below hb2)
  rw [h] at hrt
  have HZ := Lib.hid hz
  have HG := Lib.hid hg
  have HB := Lib.hid hb2
  have HS := Lib.hid hs2
  clear hz hg hb2 hs2 h hr hn
  go_enter Try.func10, Try.ntmps10
  go_wp2_with fail
  refine hrt.mono ?_
  rintro e w3 ⟨rfl, k3⟩
  have xH := HZ.out.call k3
  have gH := HG.out.call k3
  have hb3 := HB.out.trans (k3.mono HB.out.size)
  have hs3 := k3.size
  rw [HS.out] at hs3
  have x0 : w3.cell? ⟨w.heap.size + 1, 0, none⟩ = some (.int .i64 0) := xH.cell 0
  have x1 : w3.cell? ⟨w.heap.size + 1, 1, none⟩ = some (.int .i64 0) := xH.cell 1
  have x2 : w3.cell? ⟨w.heap.size + 1, 2, none⟩ = some (.int .i64 0) := xH.cell 2
  have x3 : w3.cell? ⟨w.heap.size + 1, 3, none⟩ = some (.slice none 0 0) := xH.cell 3
  have xf0 : w3.frozen? ⟨w.heap.size + 1, 0, none⟩ = false := xH.frozen 0
  have xf1 : w3.frozen? ⟨w.heap.size + 1, 1, none⟩ = false := xH.frozen 1
  have xf2 : w3.frozen? ⟨w.heap.size + 1, 2, none⟩ = false := xH.frozen 2
  have xf3 : w3.frozen? ⟨w.heap.size + 1, 3, none⟩ = false := xH.frozen 3
  have HR := Lib.hid (xH.put4 (.int .i64 0) (.int .i64 0) (.int .i64 0) (.slice none 0 0))
  have HB3 := Lib.hid (Below.put4 (b := w.heap.size + 1) hb3 (Nat.le_add_right _ 1) (.int .i64 0) (.int .i64 0) (.int .i64 0) (.slice none 0 0))
  clear hrt k3 xH gH hb3
  go_wp2
  (try simp only [Exit.inBlock, Exit.then])
  exact bodyPost_ret (res_cell2 Try.results10 rfl (load4 HR.out)) rfl ⟨rfl, HB3.out⟩
end Go.Proofs.Ytnpgofkdfckioaa
