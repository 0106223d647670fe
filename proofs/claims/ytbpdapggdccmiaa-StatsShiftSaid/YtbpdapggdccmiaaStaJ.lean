/- stats: Right, where the numbers' bounds hold; Spread, Join. -/
import Derived.Test.YtbpdapggdccmiaaStaI
namespace Go.Proofs.Ytbpdapggdccmiaa
open Go.RowKit

set_option linter.unusedSimpArgs false in
set_option linter.unusedVariables false in
set_option maxHeartbeats 4000000 in
set_option maxRecDepth 100000 in
theorem right_f (n z h o l g : Int) (w : World) (heq : ∀ w, (Op.equalIn 10000 27 (.agg #[.int .i64 n, .int .i64 z, .int .u64 (h : Int), .int .u64 (o : Int), .int .i64 l, .int .i64 g]) (.agg #[.int .i64 0, .int .i64 0, .int .u64 0, .int .u64 0, .int .i64 0, .int .i64 0])).run Try.prog w = .ok false w)
    (c : 1 ≤ n) (d : n ≤ 1000000000) (e : l ≤ g) (h4 : goodI l = true) (h5 : goodI g = true) (P1 P2 : Int) (hv1 : wrap64 (n * l) = P1) (hv2 : wrap64 (n * g) = P2) (hw1 : IntKind.i64.wrap (n * l) = P1) (hw2 : IntKind.i64.wrap (n * g) = P2) (ca : z < P1) :
    Calls Try.prog 10 #[.agg #[.int .i64 n, .int .i64 z, .int .u64 (h : Int), .int .u64 (o : Int), .int .i64 l, .int .i64 g]] w fun e w' => e = .returned (.bool false) ∧ Below w.heap.size w w' := by
  have HBB := Lib.hid ((Below.refl w.heap.size w).alloc (Nat.le_refl _) (.cells #[.int .i64 n, .int .i64 z, .int .u64 (h : Int), .int .u64 (o : Int), .int .i64 l, .int .i64 g] 27))
  have HX := Lib.hid (Has.new w [.int .i64 n, .int .i64 z, .int .u64 (h : Int), .int .u64 (o : Int), .int .i64 l, .int .i64 g] 27)
  have HV := Lib.hid (And.intro (And.intro hv1 hv2) (And.intro hw1 hw2))
  have n1 : ¬ n < 1 := by omega
  have n2 : ¬ 1000000000 < n := by omega
  have n3 : ¬ g < l := by omega
  clear c d e
  have HD := Lib.hid (And.intro (decide_eq_true ca : decide (z < P1) = true) trivial)
  clear ca
  clear hv1 hv2 hw1 hw2
  go_enter Try.func10, Try.ntmps10
  go_upto_region 5 with fail
  go_cut [32] (fun s wx => s = .bool false ∧ wx = w.alloc (.cells #[.int .i64 n, .int .i64 z, .int .u64 (h : Int), .int .u64 (o : Int), .int .i64 l, .int .i64 g] 27))
  case first =>
    go_wp2_with (refine (isSample_any _ _).mono ?_; rintro e wi ⟨rfl, rfl⟩)
    go_meet
    exact ⟨rfl, rfl⟩
  case rest =>
    obtain ⟨rfl, rfl⟩ := hcut
    obtain ⟨⟨hv1, hv2⟩, hw1, hw2⟩ := HV.out
    clear h4 h5
    obtain ⟨d1, -⟩ := HD.out
    go_wp2
    go_ret
    exact ⟨rfl, HBB.out⟩
set_option linter.unusedSimpArgs false in
set_option linter.unusedVariables false in
set_option maxHeartbeats 4000000 in
set_option maxRecDepth 100000 in
theorem right_g (n z h o l g : Int) (w : World) (heq : ∀ w, (Op.equalIn 10000 27 (.agg #[.int .i64 n, .int .i64 z, .int .u64 (h : Int), .int .u64 (o : Int), .int .i64 l, .int .i64 g]) (.agg #[.int .i64 0, .int .i64 0, .int .u64 0, .int .u64 0, .int .i64 0, .int .i64 0])).run Try.prog w = .ok false w)
    (c : 1 ≤ n) (d : n ≤ 1000000000) (e : l ≤ g) (h4 : goodI l = true) (h5 : goodI g = true) (P1 P2 : Int) (hv1 : wrap64 (n * l) = P1) (hv2 : wrap64 (n * g) = P2) (hw1 : IntKind.i64.wrap (n * l) = P1) (hw2 : IntKind.i64.wrap (n * g) = P2) (ca : ¬ z < P1) (cb : P2 < z) :
    Calls Try.prog 10 #[.agg #[.int .i64 n, .int .i64 z, .int .u64 (h : Int), .int .u64 (o : Int), .int .i64 l, .int .i64 g]] w fun e w' => e = .returned (.bool false) ∧ Below w.heap.size w w' := by
  have HBB := Lib.hid ((Below.refl w.heap.size w).alloc (Nat.le_refl _) (.cells #[.int .i64 n, .int .i64 z, .int .u64 (h : Int), .int .u64 (o : Int), .int .i64 l, .int .i64 g] 27))
  have HX := Lib.hid (Has.new w [.int .i64 n, .int .i64 z, .int .u64 (h : Int), .int .u64 (o : Int), .int .i64 l, .int .i64 g] 27)
  have HV := Lib.hid (And.intro (And.intro hv1 hv2) (And.intro hw1 hw2))
  have n1 : ¬ n < 1 := by omega
  have n2 : ¬ 1000000000 < n := by omega
  have n3 : ¬ g < l := by omega
  clear c d e
  have HD := Lib.hid (And.intro (decide_eq_false ca : decide (z < P1) = false) (decide_eq_true cb : decide (P2 < z) = true))
  clear ca cb
  clear hv1 hv2 hw1 hw2
  go_enter Try.func10, Try.ntmps10
  go_upto_region 5 with fail
  go_cut [32] (fun s wx => s = .bool false ∧ wx = w.alloc (.cells #[.int .i64 n, .int .i64 z, .int .u64 (h : Int), .int .u64 (o : Int), .int .i64 l, .int .i64 g] 27))
  case first =>
    go_wp2_with (refine (isSample_any _ _).mono ?_; rintro e wi ⟨rfl, rfl⟩)
    go_meet
    exact ⟨rfl, rfl⟩
  case rest =>
    obtain ⟨rfl, rfl⟩ := hcut
    obtain ⟨⟨hv1, hv2⟩, hw1, hw2⟩ := HV.out
    clear h4 h5
    obtain ⟨d1, d2⟩ := HD.out
    go_wp2
    go_ret
    exact ⟨rfl, HBB.out⟩
set_option linter.unusedSimpArgs false in
set_option linter.unusedVariables false in
set_option maxHeartbeats 4000000 in
set_option maxRecDepth 100000 in
theorem right_h (n z h o l g : Int) (w : World) (heq : ∀ w, (Op.equalIn 10000 27 (.agg #[.int .i64 n, .int .i64 z, .int .u64 (h : Int), .int .u64 (o : Int), .int .i64 l, .int .i64 g]) (.agg #[.int .i64 0, .int .i64 0, .int .u64 0, .int .u64 0, .int .i64 0, .int .i64 0])).run Try.prog w = .ok false w)
    (c : 1 ≤ n) (d : n ≤ 1000000000) (e : l ≤ g) (h4 : goodI l = true) (h5 : goodI g = true) (P1 P2 : Int) (hv1 : wrap64 (n * l) = P1) (hv2 : wrap64 (n * g) = P2) (hw1 : IntKind.i64.wrap (n * l) = P1) (hw2 : IntKind.i64.wrap (n * g) = P2) (ca : ¬ z < P1) (cb : ¬ P2 < z) (nh no : Int) (hvm : IntKind.u64.wrap n = n)
    (mp : ∀ w, Calls Try.prog 20 #[.int .u64 n, .int .u64 1000000000000] w fun e w' => e = .returned (.agg #[.int .u64 nh, .int .u64 no]) ∧ Below w.heap.size w w')
    (ml : ∀ w, Calls Try.prog 26 #[.agg #[.int .u64 nh, .int .u64 no], .agg #[.int .u64 h, .int .u64 o]] w fun e w' => e = .returned (.bool true) ∧ Below w.heap.size w w') :
    Calls Try.prog 10 #[.agg #[.int .i64 n, .int .i64 z, .int .u64 (h : Int), .int .u64 (o : Int), .int .i64 l, .int .i64 g]] w fun e w' => e = .returned (.bool false) ∧ Below w.heap.size w w' := by
  have HBB := Lib.hid ((Below.refl w.heap.size w).alloc (Nat.le_refl _) (.cells #[.int .i64 n, .int .i64 z, .int .u64 (h : Int), .int .u64 (o : Int), .int .i64 l, .int .i64 g] 27))
  have HX := Lib.hid (Has.new w [.int .i64 n, .int .i64 z, .int .u64 (h : Int), .int .u64 (o : Int), .int .i64 l, .int .i64 g] 27)
  have HV := Lib.hid (And.intro (And.intro hv1 hv2) (And.intro hw1 hw2))
  have n1 : ¬ n < 1 := by omega
  have n2 : ¬ 1000000000 < n := by omega
  have n3 : ¬ g < l := by omega
  clear c d e
  have HD := Lib.hid (And.intro (decide_eq_false ca : decide (z < P1) = false) (decide_eq_false cb : decide (P2 < z) = false))
  clear ca cb
  clear hv1 hv2 hw1 hw2
  go_enter Try.func10, Try.ntmps10
  go_upto_region 5 with fail
  go_cut [32] (fun s wx => s = .bool false ∧ wx = w.alloc (.cells #[.int .i64 n, .int .i64 z, .int .u64 (h : Int), .int .u64 (o : Int), .int .i64 l, .int .i64 g] 27))
  case first =>
    go_wp2_with (refine (isSample_any _ _).mono ?_; rintro e wi ⟨rfl, rfl⟩)
    go_meet
    exact ⟨rfl, rfl⟩
  case rest =>
    obtain ⟨rfl, rfl⟩ := hcut
    obtain ⟨⟨hv1, hv2⟩, hw1, hw2⟩ := HV.out
    clear h4 h5
    obtain ⟨d1, d2⟩ := HD.out
    go_upto_region 9 with fail
    clear hv1 hv2 hw1 hw2 d1 d2
    go_region_held3 (fun W => W.cell? ⟨w.heap.size, 0, none⟩ = some (.int .i64 n) ∧ W.cell? ⟨w.heap.size, 1, none⟩ = some (.int .i64 z) ∧ W.cell? ⟨w.heap.size, 2, none⟩ = some (.int .u64 (h : Int)) ∧ W.cell? ⟨w.heap.size, 3, none⟩ = some (.int .u64 (o : Int)) ∧ W.cell? ⟨w.heap.size, 4, none⟩ = some (.int .i64 l) ∧ W.cell? ⟨w.heap.size, 5, none⟩ = some (.int .i64 g)) (first | exact ⟨yx20, yx21, yx22, yx23, yx24, yx25⟩ | exact ⟨yx10, yx11, yx12, yx13, yx14, yx15⟩ | simp [go_sem, *]) (first | (go_at_call 20; refine (mp _).mono ?_; rintro e wr1 ⟨rfl, kr1⟩; (have HBr1 := Lib.hid (show Below w.heap.size w wr1 by first | exact (HBB.out).trans (kr1.mono (by have := HBB.out.size; first | omega | (simp; omega) | simp)) | exact (Below.drew (HBB.out)).trans (kr1.mono (by have := HBB.out.size; first | omega | (simp; omega) | simp)) | exact (Below.drew (Below.drew (HBB.out))).trans (kr1.mono (by have := HBB.out.size; first | omega | (simp; omega) | simp)) | exact (Below.drew (Below.drew (Below.drew (HBB.out)))).trans (kr1.mono (by have := HBB.out.size; first | omega | (simp; omega) | simp)))); (have Hxr1 := Lib.hid (show Has wr1 (w.heap.size) [.int .i64 n, .int .i64 z, .int .u64 (h : Int), .int .u64 (o : Int), .int .i64 l, .int .i64 g] 27 from HX.out.step kr1 rfl)); (have yx10 : wr1.cell? ⟨w.heap.size, 0, none⟩ = some (.int .i64 n) := Hxr1.out.cell 0); (have yx11 : wr1.cell? ⟨w.heap.size, 1, none⟩ = some (.int .i64 z) := Hxr1.out.cell 1); (have yx12 : wr1.cell? ⟨w.heap.size, 2, none⟩ = some (.int .u64 (h : Int)) := Hxr1.out.cell 2); (have yx13 : wr1.cell? ⟨w.heap.size, 3, none⟩ = some (.int .u64 (o : Int)) := Hxr1.out.cell 3); (have yx14 : wr1.cell? ⟨w.heap.size, 4, none⟩ = some (.int .i64 l) := Hxr1.out.cell 4); (have yx15 : wr1.cell? ⟨w.heap.size, 5, none⟩ = some (.int .i64 g) := Hxr1.out.cell 5); (have lx1 : w.heap.size < wr1.heap.size := Hxr1.out.lt)) | (go_at_call 26; refine (ml _).mono ?_; rintro e wr2 ⟨rfl, kr2⟩; (have HBr2 := Lib.hid (show Below w.heap.size w wr2 by first | exact (HBr1.out).trans (kr2.mono (by have := HBr1.out.size; first | omega | (simp; omega) | simp)) | exact (Below.drew (HBr1.out)).trans (kr2.mono (by have := HBr1.out.size; first | omega | (simp; omega) | simp)) | exact (Below.drew (Below.drew (HBr1.out))).trans (kr2.mono (by have := HBr1.out.size; first | omega | (simp; omega) | simp)) | exact (Below.drew (Below.drew (Below.drew (HBr1.out)))).trans (kr2.mono (by have := HBr1.out.size; first | omega | (simp; omega) | simp)))); (have Hxr2 := Lib.hid (show Has wr2 (w.heap.size) [.int .i64 n, .int .i64 z, .int .u64 (h : Int), .int .u64 (o : Int), .int .i64 l, .int .i64 g] 27 from Hxr1.out.step kr2 rfl)); (have yx20 : wr2.cell? ⟨w.heap.size, 0, none⟩ = some (.int .i64 n) := Hxr2.out.cell 0); (have yx21 : wr2.cell? ⟨w.heap.size, 1, none⟩ = some (.int .i64 z) := Hxr2.out.cell 1); (have yx22 : wr2.cell? ⟨w.heap.size, 2, none⟩ = some (.int .u64 (h : Int)) := Hxr2.out.cell 2); (have yx23 : wr2.cell? ⟨w.heap.size, 3, none⟩ = some (.int .u64 (o : Int)) := Hxr2.out.cell 3); (have yx24 : wr2.cell? ⟨w.heap.size, 4, none⟩ = some (.int .i64 l) := Hxr2.out.cell 4); (have yx25 : wr2.cell? ⟨w.heap.size, 5, none⟩ = some (.int .i64 g) := Hxr2.out.cell 5); (have lx2 : w.heap.size < wr2.heap.size := Hxr2.out.lt)))
    go_wp2
    go_ret
    exact ⟨rfl, HBr2.out⟩
set_option linter.unusedSimpArgs false in
set_option linter.unusedVariables false in
set_option maxHeartbeats 4000000 in
set_option maxRecDepth 100000 in
theorem right_i (n z h o l g : Int) (w : World) (heq : ∀ w, (Op.equalIn 10000 27 (.agg #[.int .i64 n, .int .i64 z, .int .u64 (h : Int), .int .u64 (o : Int), .int .i64 l, .int .i64 g]) (.agg #[.int .i64 0, .int .i64 0, .int .u64 0, .int .u64 0, .int .i64 0, .int .i64 0])).run Try.prog w = .ok false w)
    (c : 1 ≤ n) (d : n ≤ 1000000000) (e : l ≤ g) (h4 : goodI l = true) (h5 : goodI g = true) (P1 P2 : Int) (hv1 : wrap64 (n * l) = P1) (hv2 : wrap64 (n * g) = P2) (hw1 : IntKind.i64.wrap (n * l) = P1) (hw2 : IntKind.i64.wrap (n * g) = P2) (ca : ¬ z < P1) (cb : ¬ P2 < z) (nh no : Int) (hvm : IntKind.u64.wrap n = n)
    (mp : ∀ w, Calls Try.prog 20 #[.int .u64 n, .int .u64 1000000000000] w fun e w' => e = .returned (.agg #[.int .u64 nh, .int .u64 no]) ∧ Below w.heap.size w w')
    (ml : ∀ w, Calls Try.prog 26 #[.agg #[.int .u64 nh, .int .u64 no], .agg #[.int .u64 h, .int .u64 o]] w fun e w' => e = .returned (.bool false) ∧ Below w.heap.size w w')
    (dh dl : Int) (Y : Bool) (hap : ∀ w, Calls Try.prog 24 #[.agg #[.int .i64 n, .int .i64 z, .int .u64 (h : Int), .int .u64 (o : Int), .int .i64 l, .int .i64 g]] w fun e w' => e = .returned (.tuple #[.agg #[.int .u64 dh, .int .u64 dl], .bool Y]) ∧ Below w.heap.size w w') :
    Calls Try.prog 10 #[.agg #[.int .i64 n, .int .i64 z, .int .u64 (h : Int), .int .u64 (o : Int), .int .i64 l, .int .i64 g]] w fun e w' => e = .returned (.bool (!Y)) ∧ Below w.heap.size w w' := by
  have HBB := Lib.hid ((Below.refl w.heap.size w).alloc (Nat.le_refl _) (.cells #[.int .i64 n, .int .i64 z, .int .u64 (h : Int), .int .u64 (o : Int), .int .i64 l, .int .i64 g] 27))
  have HX := Lib.hid (Has.new w [.int .i64 n, .int .i64 z, .int .u64 (h : Int), .int .u64 (o : Int), .int .i64 l, .int .i64 g] 27)
  have HV := Lib.hid (And.intro (And.intro hv1 hv2) (And.intro hw1 hw2))
  have n1 : ¬ n < 1 := by omega
  have n2 : ¬ 1000000000 < n := by omega
  have n3 : ¬ g < l := by omega
  clear c d e
  have HD := Lib.hid (And.intro (decide_eq_false ca : decide (z < P1) = false) (decide_eq_false cb : decide (P2 < z) = false))
  clear ca cb
  clear hv1 hv2 hw1 hw2
  go_enter Try.func10, Try.ntmps10
  go_upto_region 5 with fail
  go_cut [32] (fun s wx => s = .bool false ∧ wx = w.alloc (.cells #[.int .i64 n, .int .i64 z, .int .u64 (h : Int), .int .u64 (o : Int), .int .i64 l, .int .i64 g] 27))
  case first =>
    go_wp2_with (refine (isSample_any _ _).mono ?_; rintro e wi ⟨rfl, rfl⟩)
    go_meet
    exact ⟨rfl, rfl⟩
  case rest =>
    obtain ⟨rfl, rfl⟩ := hcut
    obtain ⟨⟨hv1, hv2⟩, hw1, hw2⟩ := HV.out
    clear h4 h5
    obtain ⟨d1, d2⟩ := HD.out
    go_upto_region 9 with fail
    clear hv1 hv2 hw1 hw2 d1 d2
    go_region_held3 (fun W => W.cell? ⟨w.heap.size, 0, none⟩ = some (.int .i64 n) ∧ W.cell? ⟨w.heap.size, 1, none⟩ = some (.int .i64 z) ∧ W.cell? ⟨w.heap.size, 2, none⟩ = some (.int .u64 (h : Int)) ∧ W.cell? ⟨w.heap.size, 3, none⟩ = some (.int .u64 (o : Int)) ∧ W.cell? ⟨w.heap.size, 4, none⟩ = some (.int .i64 l) ∧ W.cell? ⟨w.heap.size, 5, none⟩ = some (.int .i64 g)) (first | exact ⟨yx20, yx21, yx22, yx23, yx24, yx25⟩ | exact ⟨yx10, yx11, yx12, yx13, yx14, yx15⟩ | simp [go_sem, *]) (first | (go_at_call 20; refine (mp _).mono ?_; rintro e wr1 ⟨rfl, kr1⟩; (have HBr1 := Lib.hid (show Below w.heap.size w wr1 by first | exact (HBB.out).trans (kr1.mono (by have := HBB.out.size; first | omega | (simp; omega) | simp)) | exact (Below.drew (HBB.out)).trans (kr1.mono (by have := HBB.out.size; first | omega | (simp; omega) | simp)) | exact (Below.drew (Below.drew (HBB.out))).trans (kr1.mono (by have := HBB.out.size; first | omega | (simp; omega) | simp)) | exact (Below.drew (Below.drew (Below.drew (HBB.out)))).trans (kr1.mono (by have := HBB.out.size; first | omega | (simp; omega) | simp)))); (have Hxr1 := Lib.hid (show Has wr1 (w.heap.size) [.int .i64 n, .int .i64 z, .int .u64 (h : Int), .int .u64 (o : Int), .int .i64 l, .int .i64 g] 27 from HX.out.step kr1 rfl)); (have yx10 : wr1.cell? ⟨w.heap.size, 0, none⟩ = some (.int .i64 n) := Hxr1.out.cell 0); (have yx11 : wr1.cell? ⟨w.heap.size, 1, none⟩ = some (.int .i64 z) := Hxr1.out.cell 1); (have yx12 : wr1.cell? ⟨w.heap.size, 2, none⟩ = some (.int .u64 (h : Int)) := Hxr1.out.cell 2); (have yx13 : wr1.cell? ⟨w.heap.size, 3, none⟩ = some (.int .u64 (o : Int)) := Hxr1.out.cell 3); (have yx14 : wr1.cell? ⟨w.heap.size, 4, none⟩ = some (.int .i64 l) := Hxr1.out.cell 4); (have yx15 : wr1.cell? ⟨w.heap.size, 5, none⟩ = some (.int .i64 g) := Hxr1.out.cell 5); (have lx1 : w.heap.size < wr1.heap.size := Hxr1.out.lt)) | (go_at_call 26; refine (ml _).mono ?_; rintro e wr2 ⟨rfl, kr2⟩; (have HBr2 := Lib.hid (show Below w.heap.size w wr2 by first | exact (HBr1.out).trans (kr2.mono (by have := HBr1.out.size; first | omega | (simp; omega) | simp)) | exact (Below.drew (HBr1.out)).trans (kr2.mono (by have := HBr1.out.size; first | omega | (simp; omega) | simp)) | exact (Below.drew (Below.drew (HBr1.out))).trans (kr2.mono (by have := HBr1.out.size; first | omega | (simp; omega) | simp)) | exact (Below.drew (Below.drew (Below.drew (HBr1.out)))).trans (kr2.mono (by have := HBr1.out.size; first | omega | (simp; omega) | simp)))); (have Hxr2 := Lib.hid (show Has wr2 (w.heap.size) [.int .i64 n, .int .i64 z, .int .u64 (h : Int), .int .u64 (o : Int), .int .i64 l, .int .i64 g] 27 from Hxr1.out.step kr2 rfl)); (have yx20 : wr2.cell? ⟨w.heap.size, 0, none⟩ = some (.int .i64 n) := Hxr2.out.cell 0); (have yx21 : wr2.cell? ⟨w.heap.size, 1, none⟩ = some (.int .i64 z) := Hxr2.out.cell 1); (have yx22 : wr2.cell? ⟨w.heap.size, 2, none⟩ = some (.int .u64 (h : Int)) := Hxr2.out.cell 2); (have yx23 : wr2.cell? ⟨w.heap.size, 3, none⟩ = some (.int .u64 (o : Int)) := Hxr2.out.cell 3); (have yx24 : wr2.cell? ⟨w.heap.size, 4, none⟩ = some (.int .i64 l) := Hxr2.out.cell 4); (have yx25 : wr2.cell? ⟨w.heap.size, 5, none⟩ = some (.int .i64 g) := Hxr2.out.cell 5); (have lx2 : w.heap.size < wr2.heap.size := Hxr2.out.lt)))
    go_upto_region 11 with fail
    have hap2 := hap wr2
    clear kr1 kr2
    go_wp2_with fail
    refine hap2.mono ?_
    rintro e w4 ⟨rfl, k4⟩
    have HB4 := Lib.hid (HBr2.out.trans (k4.mono HBr2.out.size))
    clear hap2
    go_wp2
    go_ret
    exact ⟨rfl, HB4.out.alloc HB4.out.size _⟩
theorem right11_any (s : Sta) (hq : s.sq < M128) (w : World) :
    Calls Try.prog 10 #[staV s] w fun e w' => e = .returned (.bool (staB s)) ∧ Below w.heap.size w w' := by
  have heq := eqStaZ s
  by_cases hz : staZ s
  · rw [staB_z hz]
    rw [decide_eq_true hz] at heq
    exact right_z _ _ _ _ _ _ w heq
  · have hXE : staB s = decide (staOk s) := staB_of hz
    rw [decide_eq_false hz] at heq
    have HNO := fun (h : ¬ staOk s) => hXE.trans (decide_eq_false h)
    obtain ⟨n, z, q, l, g⟩ := s
    unfold staV at heq ⊢
    dsimp only at heq hq ⊢
    by_cases h1 : 1 ≤ n
    · by_cases h2 : n ≤ 1000000000
      · by_cases h3 : l ≤ g
        · cases h4 : goodI l with
          | true =>
            cases h5 : goodI g with
            | true =>
              have h4' := (of_decide_eq_true h4).1
              have h5' := (of_decide_eq_true h5).2
              obtain ⟨m, rfl⟩ : ∃ m : Nat, n = (m : Int) := ⟨n.toNat, by omega⟩
              have k1 := Int.mul_nonneg (show 0 ≤ (m : Int) by omega) (show 0 ≤ l + 1000000 by omega)
              have k2 := Int.mul_nonneg (show 0 ≤ (m : Int) by omega) (show 0 ≤ 1000000 - l by omega)
              have k3 := Int.mul_nonneg (show 0 ≤ (m : Int) by omega) (show 0 ≤ g + 1000000 by omega)
              have k4 := Int.mul_nonneg (show 0 ≤ (m : Int) by omega) (show 0 ≤ 1000000 - g by omega)
              rw [Int.mul_add] at k1 k3
              rw [Int.mul_sub] at k2 k4
              obtain ⟨P1, hP1⟩ : ∃ P, (m : Int) * l = P := ⟨_, rfl⟩
              obtain ⟨P2, hP2⟩ : ∃ P, (m : Int) * g = P := ⟨_, rfl⟩
              rw [hP1] at k1 k2
              rw [hP2] at k3 k4
              have hw1 : IntKind.i64.wrap ((m : Int) * l) = P1 := by rw [hP1, IntKind.wrap_i64]; omega
              have hw2 : IntKind.i64.wrap ((m : Int) * g) = P2 := by rw [hP2, IntKind.wrap_i64]; omega
              have hv1 : wrap64 ((m : Int) * l) = P1 := by rw [hP1]; unfold wrap64; omega
              have hv2 : wrap64 ((m : Int) * g) = P2 := by rw [hP2]; unfold wrap64; omega
              have hm2 : m ≤ 1000000000 := by omega
              have HOK : staOk ⟨(m : Int), z, q, l, g⟩ ↔ (P1 ≤ z ∧ z ≤ P2 ∧ (q : Int) ≤ (m : Int) * 1000000000000) ∧ z * z ≤ (m : Int) * (q : Int) := by
                unfold staOk
                dsimp only
                rw [hP1, hP2]
                exact ⟨fun h => h.2, fun h => ⟨⟨by omega, by omega, h3, h4', h5'⟩, h⟩⟩
              by_cases ca : z < P1
              · rw [HNO (fun h => by have := (HOK.1 h).1.1; omega)]
                exact right_f _ _ _ _ _ _ w heq h1 h2 h3 h4 h5 P1 P2 hv1 hv2 hw1 hw2 ca
              · by_cases cb : P2 < z
                · rw [HNO (fun h => by have := (HOK.1 h).1.2.1; omega)]
                  exact right_g _ _ _ _ _ _ w heq h1 h2 h3 h4 h5 P1 P2 hv1 hv2 hw1 hw2 ca cb
                · have hvm : IntKind.u64.wrap (m : Int) = (m : Int) := by rw [IntKind.wrap_u64]; omega
                  have mp := fun w => (mul_any m 1000000000000 (by unfold B64; omega) (by unfold B64; omega) w).mono fun e w' h => (⟨h.1, h.2 ▸ (Below.refl _ _).alloc (Nat.le_refl _) _⟩ : e = _ ∧ Below w.heap.size w w')
                  have ml := fun w => less_num (m * 1000000000000) q (by unfold M128; omega) hq w
                  have hNN : ((m * 1000000000000 : Nat) : Int) = (m : Int) * 1000000000000 := by omega
                  obtain ⟨N, hN⟩ : ∃ N, m * 1000000000000 = N := ⟨_, rfl⟩
                  rw [hN] at mp ml hNN
                  by_cases cc : N < q
                  · rw [show ltW N q = true from decide_eq_true cc] at ml
                    rw [HNO (fun h => by have := (HOK.1 h).1.2.2; omega)]
                    exact right_h _ _ _ _ _ _ w heq h1 h2 h3 h4 h5 P1 P2 hv1 hv2 hw1 hw2 ca cb _ _ hvm mp ml
                  · rw [show ltW N q = false from decide_eq_false cc] at ml
                    have hq3 : (q : Int) ≤ (m : Int) * 1000000000000 := by omega
                    have hq4 : q ≤ 1000000000000000000000 := by omega
                    have hzz := sq_nonneg' z
                    have hcast : ((m * q : Nat) : Int) = (m : Int) * (q : Int) := Int.natCast_mul _ _
                    have hap := fun w => apart_any ⟨(m : Int), z, q, l, g⟩ m rfl hm2 (by dsimp only; omega) (by dsimp only; omega) hq4 w
                    have hE : staB ⟨(m : Int), z, q, l, g⟩ = !(ltW (m * q) (z * z).toNat) := by
                      rw [hXE]
                      unfold ltW
                      rw [← decide_not]
                      refine decide_eq_decide.2 ⟨fun h => ?_, fun h => HOK.2 ⟨⟨by omega, by omega, hq3⟩, by omega⟩⟩
                      have := (HOK.1 h).2
                      omega
                    rw [hE]
                    exact right_i _ _ _ _ _ _ w heq h1 h2 h3 h4 h5 P1 P2 hv1 hv2 hw1 hw2 ca cb _ _ hvm mp ml _ _ _ hap
            | false =>
              have h5n : ¬ (-1000000 ≤ g ∧ g ≤ 1000000) := of_decide_eq_false h5
              rw [HNO (fun h => by have := h.1; dsimp only at this; omega)]
              exact right_e _ _ _ _ _ _ w heq h1 h2 h3 h4 h5
          | false =>
            have h4n : ¬ (-1000000 ≤ l ∧ l ≤ 1000000) := of_decide_eq_false h4
            rw [HNO (fun h => by have := h.1; dsimp only at this; omega)]
            exact right_d _ _ _ _ _ _ w heq h1 h2 h3 h4
        · rw [HNO (fun h => by have := h.1; dsimp only at this; omega)]
          exact right_c _ _ _ _ _ _ w heq h1 h2 (by omega)
      · rw [HNO (fun h => by have := h.1; dsimp only at this; omega)]
        exact right_b _ _ _ _ _ _ w heq h1 (by omega)
    · rw [HNO (fun h => by have := h.1; dsimp only at this; omega)]
      exact right_a _ _ _ _ _ _ w heq (by omega)
end Go.Proofs.Ytbpdapggdccmiaa
