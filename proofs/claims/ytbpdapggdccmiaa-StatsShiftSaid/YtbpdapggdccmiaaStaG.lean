/- stats: isSample, square, one, both. -/
import Derived.Test.YtbpdapggdccmiaaStaE
import Derived.Test.YtbpdapggdccmiaaWTimes
import Derived.Test.YtbpdapggdccmiaaWAdd
namespace Go.Proofs.Ytbpdapggdccmiaa
open Go.RowKit

def goodI (x : Int) : Bool := decide (-1000000 ≤ x ∧ x ≤ 1000000)
set_option maxRecDepth 100000 in
theorem isSample_any (x : Int) (w : World) :
    Calls Try.prog 25 #[.int .i64 x] w fun e w' => e = .returned (.bool (goodI x)) ∧ w = w' := by
  unfold goodI
  by_cases h1 : -1000000 ≤ x
  · by_cases h2 : x ≤ 1000000
    · rw [decide_eq_true ⟨h1, h2⟩]
      go_enter Try.func25, Try.ntmps25
      go_wp2
      go_ret
      exact ⟨rfl, rfl⟩
    · rw [decide_eq_false (fun h => h2 h.2)]
      go_enter Try.func25, Try.ntmps25
      go_wp2
      go_ret
      exact ⟨rfl, rfl⟩
  · rw [decide_eq_false (fun h => h1 h.1)]
    go_enter Try.func25, Try.ntmps25
    go_wp2
    go_ret
    exact ⟨rfl, rfl⟩
theorem square_core (x : Int) (a n : Nat) (w : World) (hmax : wrap64 (-x) = -x) (hm : (-x < x ∧ x = (a : Int)) ∨ (x < -x ∧ -x = (a : Int)) ∨ (x = 0 ∧ a = 0)) (hv : IntKind.u64.wrap (a : Int) = (a : Int))
    (m : ∀ w, Calls Try.prog 20 #[.int .u64 (a : Int), .int .u64 (a : Int)] w fun e w' => e = .returned (.agg #[.int .u64 (hi n : Nat), .int .u64 (lo n : Nat)]) ∧ Below w.heap.size w w') :
    Calls Try.prog 41 #[.int .i64 x] w fun e w' => e = .returned (.agg #[.int .u64 (hi n : Nat), .int .u64 (lo n : Nat)]) ∧ Below w.heap.size w w' := by
  have M := Lib.hid m
  have hz := Has.new w [.int .u64 0, .int .u64 0] 25
  have hb := (Below.refl w.heap.size w).alloc (Nat.le_refl _) (.cells #[.int .u64 0, .int .u64 0] 25)
  have HZ := Lib.hid hz
  have HB := Lib.hid hb
  have hs : (w.alloc (.cells #[.int .u64 0, .int .u64 0] 25)).heap.size = w.heap.size + 1 := by simp
  have hp1 := m (w.alloc (.cells #[.int .u64 0, .int .u64 0] 25))
  clear hz hb m
  rcases hm with ⟨g1, h⟩ | ⟨g1, h⟩ | ⟨h1, h2⟩
  · have g2 : ¬ x < -x := by omega
    have g3 : ¬ x ≤ -x := by omega
    have g4 : -x ≤ x := by omega
    have g5 : ¬ -x = x := by omega
    have hv2 : IntKind.u64.wrap x = (a : Int) := by rw [h]; exact hv
    have HM := Lib.hid (show max x (-x) = x by omega)
    clear h
    go_enter Try.func41, Try.ntmps41
    go_wp2_with fail
    refine hp1.mono ?_
    rintro e w2 ⟨rfl, k2⟩
    have zH := HZ.out.call k2
    have hb2 := HB.out.trans (k2.mono (by rw [hs]; omega))
    have z0 : w2.cell? ⟨w.heap.size, 0, none⟩ = some (.int .u64 0) := zH.cell 0
    have z1 : w2.cell? ⟨w.heap.size, 1, none⟩ = some (.int .u64 0) := zH.cell 1
    have f0 : w2.frozen? ⟨w.heap.size, 0, none⟩ = false := zH.frozen 0
    have f1 : w2.frozen? ⟨w.heap.size, 1, none⟩ = false := zH.frozen 1
    have HR := Lib.hid ((zH.set 0 (.int .u64 (hi n : Nat))).set 1 (.int .u64 (lo n : Nat)))
    have HB2 := Lib.hid ((hb2.setCell (p := ⟨w.heap.size, 0, none⟩) (Nat.le_refl _) (.int .u64 (hi n : Nat))).setCell (p := ⟨w.heap.size, 1, none⟩) (Nat.le_refl _) (.int .u64 (lo n : Nat)))
    clear hp1 k2 zH hb2
    go_wp2
    (try simp only [Exit.inBlock, Exit.then])
    exact bodyPost_ret (resW Try.results41 rfl (loadW2 HR.out)) rfl ⟨rfl, HB2.out⟩
  · have g2 : ¬ -x < x := by omega
    have g3 : ¬ -x ≤ x := by omega
    have g4 : x ≤ -x := by omega
    have g5 : ¬ -x = x := by omega
    have hv2 : IntKind.u64.wrap (-x) = (a : Int) := by rw [h]; exact hv
    clear h
    go_enter Try.func41, Try.ntmps41
    go_wp2_with fail
    refine hp1.mono ?_
    rintro e w2 ⟨rfl, k2⟩
    have zH := HZ.out.call k2
    have hb2 := HB.out.trans (k2.mono (by rw [hs]; omega))
    have z0 : w2.cell? ⟨w.heap.size, 0, none⟩ = some (.int .u64 0) := zH.cell 0
    have z1 : w2.cell? ⟨w.heap.size, 1, none⟩ = some (.int .u64 0) := zH.cell 1
    have f0 : w2.frozen? ⟨w.heap.size, 0, none⟩ = false := zH.frozen 0
    have f1 : w2.frozen? ⟨w.heap.size, 1, none⟩ = false := zH.frozen 1
    have HR := Lib.hid ((zH.set 0 (.int .u64 (hi n : Nat))).set 1 (.int .u64 (lo n : Nat)))
    have HB2 := Lib.hid ((hb2.setCell (p := ⟨w.heap.size, 0, none⟩) (Nat.le_refl _) (.int .u64 (hi n : Nat))).setCell (p := ⟨w.heap.size, 1, none⟩) (Nat.le_refl _) (.int .u64 (lo n : Nat)))
    clear hp1 k2 zH hb2
    go_wp2
    (try simp only [Exit.inBlock, Exit.then])
    exact bodyPost_ret (resW Try.results41 rfl (loadW2 HR.out)) rfl ⟨rfl, HB2.out⟩
  · subst h1 h2
    have hv2 : IntKind.u64.wrap 0 = 0 := hv
    go_enter Try.func41, Try.ntmps41
    go_wp2_with fail
    refine hp1.mono ?_
    rintro e w2 ⟨rfl, k2⟩
    have zH := HZ.out.call k2
    have hb2 := HB.out.trans (k2.mono (by rw [hs]; omega))
    have z0 : w2.cell? ⟨w.heap.size, 0, none⟩ = some (.int .u64 0) := zH.cell 0
    have z1 : w2.cell? ⟨w.heap.size, 1, none⟩ = some (.int .u64 0) := zH.cell 1
    have f0 : w2.frozen? ⟨w.heap.size, 0, none⟩ = false := zH.frozen 0
    have f1 : w2.frozen? ⟨w.heap.size, 1, none⟩ = false := zH.frozen 1
    have HR := Lib.hid ((zH.set 0 (.int .u64 (hi n : Nat))).set 1 (.int .u64 (lo n : Nat)))
    have HB2 := Lib.hid ((hb2.setCell (p := ⟨w.heap.size, 0, none⟩) (Nat.le_refl _) (.int .u64 (hi n : Nat))).setCell (p := ⟨w.heap.size, 1, none⟩) (Nat.le_refl _) (.int .u64 (lo n : Nat)))
    clear hp1 k2 zH hb2
    go_wp2
    (try simp only [Exit.inBlock, Exit.then])
    exact bodyPost_ret (resW Try.results41 rfl (loadW2 HR.out)) rfl ⟨rfl, HB2.out⟩
theorem square_any (x : Int) (h1 : -1000000000000000 ≤ x) (h2 : x ≤ 1000000000000000) (w : World) :
    Calls Try.prog 41 #[.int .i64 x] w fun e w' => e = .returned (.agg #[.int .u64 (hi (x * x).toNat : Nat), .int .u64 (lo (x * x).toNat : Nat)]) ∧ Below w.heap.size w w' := by
  have e : (x * x).toNat = x.natAbs * x.natAbs := by
    have h := Int.natAbs_mul_self (a := x)
    omega
  rw [e]
  refine square_core x x.natAbs _ w (by unfold wrap64; omega) ?_ ?_ fun w => (mul_any x.natAbs x.natAbs (by unfold B64; omega) (by unfold B64; omega) w).mono fun e w' h => ⟨h.1, h.2 ▸ (Below.refl _ _).alloc (Nat.le_refl _) _⟩
  · rcases Int.lt_trichotomy x 0 with c | c | c
    · exact .inr (.inl ⟨by omega, by omega⟩)
    · exact .inr (.inr ⟨c, by omega⟩)
    · exact .inl ⟨by omega, by omega⟩
  · rw [IntKind.wrap_u64]; omega
set_option maxHeartbeats 2000000 in
set_option maxRecDepth 100000 in
theorem one_any (x : Int) (h1 : -1000000 ≤ x) (h2 : x ≤ 1000000) (w : World) :
    Calls Try.prog 39 #[.int .i64 x] w fun e w' => e = .returned (staV ⟨1, x, (x * x).toNat, x, x⟩) ∧ Below w.heap.size w w' := by
  unfold staV
  dsimp only
  have hp := fun w => square_any x (by omega) (by omega) w
  generalize (x * x).toNat = n at hp ⊢
  have hz := Has.new w [.int .i64 0, .int .i64 0, .int .u64 0, .int .u64 0, .int .i64 0, .int .i64 0] 27
  have hb := (Below.refl w.heap.size w).alloc (Nat.le_refl _) (.cells #[.int .i64 0, .int .i64 0, .int .u64 0, .int .u64 0, .int .i64 0, .int .i64 0] 27)
  have hs : (w.alloc (.cells #[.int .i64 0, .int .i64 0, .int .u64 0, .int .u64 0, .int .i64 0, .int .i64 0] 27)).heap.size = w.heap.size + 1 := by simp
  have hp1 := hp (w.alloc (.cells #[.int .i64 0, .int .i64 0, .int .u64 0, .int .u64 0, .int .i64 0, .int .i64 0] 27))
  have HZ := Lib.hid hz
  have HB := Lib.hid hb
  clear hz hb hp
  go_enter Try.func39, Try.ntmps39
  go_wp2_with fail
  refine hp1.mono ?_
  rintro e w2 ⟨rfl, k2⟩
  have zH := HZ.out.call k2
  have hb2 := HB.out.trans (k2.mono (by rw [hs]; omega))
  have z0 : w2.cell? ⟨w.heap.size, 0, none⟩ = some (.int .i64 0) := zH.cell 0
  have f0 : w2.frozen? ⟨w.heap.size, 0, none⟩ = false := zH.frozen 0
  have z1 : w2.cell? ⟨w.heap.size, 1, none⟩ = some (.int .i64 0) := zH.cell 1
  have f1 : w2.frozen? ⟨w.heap.size, 1, none⟩ = false := zH.frozen 1
  have z2 : w2.cell? ⟨w.heap.size, 2, none⟩ = some (.int .u64 0) := zH.cell 2
  have f2 : w2.frozen? ⟨w.heap.size, 2, none⟩ = false := zH.frozen 2
  have z3 : w2.cell? ⟨w.heap.size, 3, none⟩ = some (.int .u64 0) := zH.cell 3
  have f3 : w2.frozen? ⟨w.heap.size, 3, none⟩ = false := zH.frozen 3
  have z4 : w2.cell? ⟨w.heap.size, 4, none⟩ = some (.int .i64 0) := zH.cell 4
  have f4 : w2.frozen? ⟨w.heap.size, 4, none⟩ = false := zH.frozen 4
  have z5 : w2.cell? ⟨w.heap.size, 5, none⟩ = some (.int .i64 0) := zH.cell 5
  have f5 : w2.frozen? ⟨w.heap.size, 5, none⟩ = false := zH.frozen 5
  have HP := Lib.hid (zH.put6 (.int .i64 1) (.int .i64 x) (.int .u64 (hi n : Nat)) (.int .u64 (lo n : Nat)) (.int .i64 x) (.int .i64 x))
  have HBP := Lib.hid (Below.put6 (b := w.heap.size) hb2 (Nat.le_refl _) (.int .i64 1) (.int .i64 x) (.int .u64 (hi n : Nat)) (.int .u64 (lo n : Nat)) (.int .i64 x) (.int .i64 x))
  clear hp1 k2 zH hb2
  go_wp2
  (try simp only [Exit.inBlock, Exit.then])
  exact bodyPost_ret (resW Try.results39 rfl (load6 HP.out)) rfl ⟨rfl, HBP.out⟩
set_option linter.unusedSimpArgs false in
set_option maxHeartbeats 2000000 in
set_option maxRecDepth 100000 in
theorem both_any (a b : Sta) (hn : IsInt (a.n + b.n)) (hz : IsInt (a.sum + b.sum)) (hq : a.sq + b.sq < M128) (w : World) :
    Calls Try.prog 23 #[staV a, staV b] w fun e w' => e = .returned (staV (joinS a b)) ∧ Below w.heap.size w w' := by
  obtain ⟨n1, z1, q1, l1, g1⟩ := a
  obtain ⟨n2, z2, q2, l2, g2⟩ := b
  unfold joinS
  dsimp only at hn hz hq ⊢
  obtain ⟨w3, hw3⟩ : ∃ w3, ((w.alloc (.cells #[.int .i64 n1, .int .i64 z1, .int .u64 (hi q1 : Nat), .int .u64 (lo q1 : Nat), .int .i64 l1, .int .i64 g1] 27)).alloc (.cells #[.int .i64 n2, .int .i64 z2, .int .u64 (hi q2 : Nat), .int .u64 (lo q2 : Nat), .int .i64 l2, .int .i64 g2] 27)).alloc (.cells #[.int .i64 0, .int .i64 0, .int .u64 0, .int .u64 0, .int .i64 0, .int .i64 0] 27) = w3 := ⟨_, rfl⟩
  have hs3 : w3.heap.size = w.heap.size + 3 := by rw [← hw3]; simp
  have HB3 := Lib.hid (show Below w.heap.size w w3 by rw [← hw3]; exact (((Below.refl _ _).alloc (Nat.le_refl _) _).alloc (by simp) _).alloc (by simp; omega) _)
  have HX1 := Lib.hid (show Has w3 w.heap.size [.int .i64 n1, .int .i64 z1, .int .u64 (hi q1 : Nat), .int .u64 (lo q1 : Nat), .int .i64 l1, .int .i64 g1] 27 by rw [← hw3]; exact ((Has.new w _ _).alloc _).alloc _)
  have HX2 := Lib.hid (show Has w3 (w.heap.size + 1) [.int .i64 n2, .int .i64 z2, .int .u64 (hi q2 : Nat), .int .u64 (lo q2 : Nat), .int .i64 l2, .int .i64 g2] 27 by
    have := (Has.new (w.alloc (.cells #[.int .i64 n1, .int .i64 z1, .int .u64 (hi q1 : Nat), .int .u64 (lo q1 : Nat), .int .i64 l1, .int .i64 g1] 27)) [.int .i64 n2, .int .i64 z2, .int .u64 (hi q2 : Nat), .int .u64 (lo q2 : Nat), .int .i64 l2, .int .i64 g2] 27).alloc (.cells #[.int .i64 0, .int .i64 0, .int .u64 0, .int .u64 0, .int .i64 0, .int .i64 0] 27)
    rw [show (w.alloc (.cells #[.int .i64 n1, .int .i64 z1, .int .u64 (hi q1 : Nat), .int .u64 (lo q1 : Nat), .int .i64 l1, .int .i64 g1] 27)).heap.size = w.heap.size + 1 by simp] at this
    rw [← hw3]; exact this)
  have HX3 := Lib.hid (show Has w3 (w.heap.size + 2) [.int .i64 0, .int .i64 0, .int .u64 0, .int .u64 0, .int .i64 0, .int .i64 0] 27 by
    have := Has.new ((w.alloc (.cells #[.int .i64 n1, .int .i64 z1, .int .u64 (hi q1 : Nat), .int .u64 (lo q1 : Nat), .int .i64 l1, .int .i64 g1] 27)).alloc (.cells #[.int .i64 n2, .int .i64 z2, .int .u64 (hi q2 : Nat), .int .u64 (lo q2 : Nat), .int .i64 l2, .int .i64 g2] 27)) [.int .i64 0, .int .i64 0, .int .u64 0, .int .u64 0, .int .i64 0, .int .i64 0] 27
    rw [show ((w.alloc (.cells #[.int .i64 n1, .int .i64 z1, .int .u64 (hi q1 : Nat), .int .u64 (lo q1 : Nat), .int .i64 l1, .int .i64 g1] 27)).alloc (.cells #[.int .i64 n2, .int .i64 z2, .int .u64 (hi q2 : Nat), .int .u64 (lo q2 : Nat), .int .i64 l2, .int .i64 g2] 27)).heap.size = w.heap.size + 2 by simp] at this
    rw [← hw3]; exact this)
  have HW3 := Lib.hid hw3
  have x10 : w3.cell? ⟨w.heap.size, 0, none⟩ = some (.int .i64 n1) := HX1.out.cell 0
  have x11 : w3.cell? ⟨w.heap.size, 1, none⟩ = some (.int .i64 z1) := HX1.out.cell 1
  have x12 : w3.cell? ⟨w.heap.size, 2, none⟩ = some (.int .u64 (hi q1 : Nat)) := HX1.out.cell 2
  have x13 : w3.cell? ⟨w.heap.size, 3, none⟩ = some (.int .u64 (lo q1 : Nat)) := HX1.out.cell 3
  have x14 : w3.cell? ⟨w.heap.size, 4, none⟩ = some (.int .i64 l1) := HX1.out.cell 4
  have x15 : w3.cell? ⟨w.heap.size, 5, none⟩ = some (.int .i64 g1) := HX1.out.cell 5
  have x20 : w3.cell? ⟨w.heap.size + 1, 0, none⟩ = some (.int .i64 n2) := HX2.out.cell 0
  have x21 : w3.cell? ⟨w.heap.size + 1, 1, none⟩ = some (.int .i64 z2) := HX2.out.cell 1
  have x22 : w3.cell? ⟨w.heap.size + 1, 2, none⟩ = some (.int .u64 (hi q2 : Nat)) := HX2.out.cell 2
  have x23 : w3.cell? ⟨w.heap.size + 1, 3, none⟩ = some (.int .u64 (lo q2 : Nat)) := HX2.out.cell 3
  have x24 : w3.cell? ⟨w.heap.size + 1, 4, none⟩ = some (.int .i64 l2) := HX2.out.cell 4
  have x25 : w3.cell? ⟨w.heap.size + 1, 5, none⟩ = some (.int .i64 g2) := HX2.out.cell 5
  have hlt : w.heap.size < w3.heap.size := by omega
  have hlt1 : w.heap.size + 1 < w3.heap.size := by omega
  have hlt2 : w.heap.size + 2 < w3.heap.size := by omega
  clear hw3 hs3
  by_cases h1 : n1 = 0
  · rw [if_pos h1]
    have e1 : (n1 == 0) = true := beq_iff_eq.2 h1
    clear h1
    have r0 : w3.cell? ⟨w.heap.size + 2, 0, none⟩ = some (.int .i64 0) := HX3.out.cell 0
    have f0 : w3.frozen? ⟨w.heap.size + 2, 0, none⟩ = false := HX3.out.frozen 0
    have r1 : w3.cell? ⟨w.heap.size + 2, 1, none⟩ = some (.int .i64 0) := HX3.out.cell 1
    have f1 : w3.frozen? ⟨w.heap.size + 2, 1, none⟩ = false := HX3.out.frozen 1
    have r2 : w3.cell? ⟨w.heap.size + 2, 2, none⟩ = some (.int .u64 0) := HX3.out.cell 2
    have f2 : w3.frozen? ⟨w.heap.size + 2, 2, none⟩ = false := HX3.out.frozen 2
    have r3 : w3.cell? ⟨w.heap.size + 2, 3, none⟩ = some (.int .u64 0) := HX3.out.cell 3
    have f3 : w3.frozen? ⟨w.heap.size + 2, 3, none⟩ = false := HX3.out.frozen 3
    have r4 : w3.cell? ⟨w.heap.size + 2, 4, none⟩ = some (.int .i64 0) := HX3.out.cell 4
    have f4 : w3.frozen? ⟨w.heap.size + 2, 4, none⟩ = false := HX3.out.frozen 4
    have r5 : w3.cell? ⟨w.heap.size + 2, 5, none⟩ = some (.int .i64 0) := HX3.out.cell 5
    have f5 : w3.frozen? ⟨w.heap.size + 2, 5, none⟩ = false := HX3.out.frozen 5
    have HP := Lib.hid (HX3.out.put6 (.int .i64 n2) (.int .i64 z2) (.int .u64 (hi q2 : Nat)) (.int .u64 (lo q2 : Nat)) (.int .i64 l2) (.int .i64 g2))
    have HBP := Lib.hid (Below.put6 (b := w.heap.size + 2) HB3.out (Nat.le_add_right _ 2) (.int .i64 n2) (.int .i64 z2) (.int .u64 (hi q2 : Nat)) (.int .u64 (lo q2 : Nat)) (.int .i64 l2) (.int .i64 g2))
    unfold staV
    go_enter Try.func23, Try.ntmps23
    go_upto_region 1 with fail
    rw [HW3.out]
    go_wp2
    (try simp only [Exit.inBlock, Exit.then])
    exact bodyPost_ret (resW Try.results23 rfl (load6 HP.out)) rfl ⟨rfl, HBP.out⟩
  · rw [if_neg h1]
    have e1 : (n1 == 0) = false := beq_false_of_ne h1
    by_cases h2 : n2 = 0
    · rw [if_pos h2]
      have e2 : (n2 == 0) = true := beq_iff_eq.2 h2
      clear h1 h2
      have r0 : w3.cell? ⟨w.heap.size + 2, 0, none⟩ = some (.int .i64 0) := HX3.out.cell 0
      have f0 : w3.frozen? ⟨w.heap.size + 2, 0, none⟩ = false := HX3.out.frozen 0
      have r1 : w3.cell? ⟨w.heap.size + 2, 1, none⟩ = some (.int .i64 0) := HX3.out.cell 1
      have f1 : w3.frozen? ⟨w.heap.size + 2, 1, none⟩ = false := HX3.out.frozen 1
      have r2 : w3.cell? ⟨w.heap.size + 2, 2, none⟩ = some (.int .u64 0) := HX3.out.cell 2
      have f2 : w3.frozen? ⟨w.heap.size + 2, 2, none⟩ = false := HX3.out.frozen 2
      have r3 : w3.cell? ⟨w.heap.size + 2, 3, none⟩ = some (.int .u64 0) := HX3.out.cell 3
      have f3 : w3.frozen? ⟨w.heap.size + 2, 3, none⟩ = false := HX3.out.frozen 3
      have r4 : w3.cell? ⟨w.heap.size + 2, 4, none⟩ = some (.int .i64 0) := HX3.out.cell 4
      have f4 : w3.frozen? ⟨w.heap.size + 2, 4, none⟩ = false := HX3.out.frozen 4
      have r5 : w3.cell? ⟨w.heap.size + 2, 5, none⟩ = some (.int .i64 0) := HX3.out.cell 5
      have f5 : w3.frozen? ⟨w.heap.size + 2, 5, none⟩ = false := HX3.out.frozen 5
      have HP := Lib.hid (HX3.out.put6 (.int .i64 n1) (.int .i64 z1) (.int .u64 (hi q1 : Nat)) (.int .u64 (lo q1 : Nat)) (.int .i64 l1) (.int .i64 g1))
      have HBP := Lib.hid (Below.put6 (b := w.heap.size + 2) HB3.out (Nat.le_add_right _ 2) (.int .i64 n1) (.int .i64 z1) (.int .u64 (hi q1 : Nat)) (.int .u64 (lo q1 : Nat)) (.int .i64 l1) (.int .i64 g1))
      unfold staV
      go_enter Try.func23, Try.ntmps23
      go_upto_region 1 with fail
      rw [HW3.out]
      go_wp2
      (try simp only [Exit.inBlock, Exit.then])
      exact bodyPost_ret (resW Try.results23 rfl (load6 HP.out)) rfl ⟨rfl, HBP.out⟩
    · rw [if_neg h2]
      have e2 : (n2 == 0) = false := beq_false_of_ne h2
      have mad := fun w => add_num q1 q2 w
      rw [addW_fit _ _ hq] at mad
      unfold IsInt at hn hz
      have hn1 := hn.1
      have hn2 := hn.2
      have hz1 := hz.1
      have hz2 := hz.2
      obtain ⟨N, hN⟩ : ∃ N, n1 + n2 = N := ⟨_, rfl⟩
      obtain ⟨Zs, hZ⟩ : ∃ Zs, z1 + z2 = Zs := ⟨_, rfl⟩
      have hwn : wrap64 (n1 + n2) = N := by rw [hN]; unfold wrap64; omega
      have hwz : wrap64 (z1 + z2) = Zs := by rw [hZ]; unfold wrap64; omega
      rw [hN, hZ]
      clear hN hZ hn1 hn2 hz1 hz2 hn hz
      generalize q1 + q2 = d at mad ⊢
      have hmd := mad w3
      clear h1 h2 mad hq
      unfold staV
      go_enter Try.func23, Try.ntmps23
      go_upto_region 1 with fail
      rw [HW3.out]
      go_wp2_with fail
      refine hmd.mono ?_
      rintro e w4 ⟨rfl, k4⟩
      have hk4 := k4.size
      have HB4 := Lib.hid (HB3.out.trans (k4.mono (by omega)))
      have HY1 := Lib.hid (HX1.out.call k4)
      have HY2 := Lib.hid (HX2.out.call k4)
      have HY3 := Lib.hid (HX3.out.call k4)
      clear hmd k4 x10 x11 x12 x13 x14 x15 x20 x21 x22 x23 x24 x25
      obtain ⟨w5, hw5⟩ : ∃ w5, w4.alloc (.cells #[.int .u64 (hi d : Nat), .int .u64 (lo d : Nat)] 25) = w5 := ⟨_, rfl⟩
      have hs5 : w5.heap.size = w4.heap.size + 1 := by rw [← hw5]; simp
      have HB5 := Lib.hid (show Below w.heap.size w w5 by rw [← hw5]; exact HB4.out.alloc (by omega) _)
      have HV1 := Lib.hid (show Has w5 w.heap.size [.int .i64 n1, .int .i64 z1, .int .u64 (hi q1 : Nat), .int .u64 (lo q1 : Nat), .int .i64 l1, .int .i64 g1] 27 by rw [← hw5]; exact HY1.out.alloc _)
      have HV2 := Lib.hid (show Has w5 (w.heap.size + 1) [.int .i64 n2, .int .i64 z2, .int .u64 (hi q2 : Nat), .int .u64 (lo q2 : Nat), .int .i64 l2, .int .i64 g2] 27 by rw [← hw5]; exact HY2.out.alloc _)
      have HV3 := Lib.hid (show Has w5 (w.heap.size + 2) [.int .i64 0, .int .i64 0, .int .u64 0, .int .u64 0, .int .i64 0, .int .i64 0] 27 by rw [← hw5]; exact HY3.out.alloc _)
      have HVD := Lib.hid (show Has w5 w4.heap.size [.int .u64 (hi d : Nat), .int .u64 (lo d : Nat)] 25 by rw [← hw5]; exact Has.new _ _ _)
      have HW5 := Lib.hid hw5
      have hl6 : w.heap.size + 2 < w4.heap.size := by omega
      clear hw5 hs5
      go_upto_region 6 with fail
      rw [HW5.out]
      have y10 : w5.cell? ⟨w.heap.size, 0, none⟩ = some (.int .i64 n1) := HV1.out.cell 0
      have y11 : w5.cell? ⟨w.heap.size, 1, none⟩ = some (.int .i64 z1) := HV1.out.cell 1
      have y12 : w5.cell? ⟨w.heap.size, 2, none⟩ = some (.int .u64 (hi q1 : Nat)) := HV1.out.cell 2
      have y13 : w5.cell? ⟨w.heap.size, 3, none⟩ = some (.int .u64 (lo q1 : Nat)) := HV1.out.cell 3
      have y14 : w5.cell? ⟨w.heap.size, 4, none⟩ = some (.int .i64 l1) := HV1.out.cell 4
      have y15 : w5.cell? ⟨w.heap.size, 5, none⟩ = some (.int .i64 g1) := HV1.out.cell 5
      have y20 : w5.cell? ⟨w.heap.size + 1, 0, none⟩ = some (.int .i64 n2) := HV2.out.cell 0
      have y21 : w5.cell? ⟨w.heap.size + 1, 1, none⟩ = some (.int .i64 z2) := HV2.out.cell 1
      have y22 : w5.cell? ⟨w.heap.size + 1, 2, none⟩ = some (.int .u64 (hi q2 : Nat)) := HV2.out.cell 2
      have y23 : w5.cell? ⟨w.heap.size + 1, 3, none⟩ = some (.int .u64 (lo q2 : Nat)) := HV2.out.cell 3
      have y24 : w5.cell? ⟨w.heap.size + 1, 4, none⟩ = some (.int .i64 l2) := HV2.out.cell 4
      have y25 : w5.cell? ⟨w.heap.size + 1, 5, none⟩ = some (.int .i64 g2) := HV2.out.cell 5
      have yd0 : w5.cell? ⟨w4.heap.size, 0, none⟩ = some (.int .u64 (hi d : Nat)) := HVD.out.cell 0
      have yd1 : w5.cell? ⟨w4.heap.size, 1, none⟩ = some (.int .u64 (lo d : Nat)) := HVD.out.cell 1
      have r0 : w5.cell? ⟨w.heap.size + 2, 0, none⟩ = some (.int .i64 0) := HV3.out.cell 0
      have f0 : w5.frozen? ⟨w.heap.size + 2, 0, none⟩ = false := HV3.out.frozen 0
      have r1 : w5.cell? ⟨w.heap.size + 2, 1, none⟩ = some (.int .i64 0) := HV3.out.cell 1
      have f1 : w5.frozen? ⟨w.heap.size + 2, 1, none⟩ = false := HV3.out.frozen 1
      have r2 : w5.cell? ⟨w.heap.size + 2, 2, none⟩ = some (.int .u64 0) := HV3.out.cell 2
      have f2 : w5.frozen? ⟨w.heap.size + 2, 2, none⟩ = false := HV3.out.frozen 2
      have r3 : w5.cell? ⟨w.heap.size + 2, 3, none⟩ = some (.int .u64 0) := HV3.out.cell 3
      have f3 : w5.frozen? ⟨w.heap.size + 2, 3, none⟩ = false := HV3.out.frozen 3
      have r4 : w5.cell? ⟨w.heap.size + 2, 4, none⟩ = some (.int .i64 0) := HV3.out.cell 4
      have f4 : w5.frozen? ⟨w.heap.size + 2, 4, none⟩ = false := HV3.out.frozen 4
      have r5 : w5.cell? ⟨w.heap.size + 2, 5, none⟩ = some (.int .i64 0) := HV3.out.cell 5
      have f5 : w5.frozen? ⟨w.heap.size + 2, 5, none⟩ = false := HV3.out.frozen 5
      rcases Int.lt_trichotomy l1 l2 with hl | hl | hl
      · have M1 : min l1 l2 = l1 := Int.min_eq_left (by omega)
        have a1 : ¬ l2 < l1 := by omega
        have a2 : ¬ l2 ≤ l1 := by omega
        have a3 : l1 ≤ l2 := by omega
        rcases Int.lt_trichotomy g1 g2 with hg | hg | hg
        · have M2 : max g1 g2 = g2 := Int.max_eq_right (by omega)
          have b1 : ¬ g2 < g1 := by omega
          have b2 : ¬ g2 ≤ g1 := by omega
          have b3 : g1 ≤ g2 := by omega
          have HP := Lib.hid (HV3.out.put6 (.int .i64 N) (.int .i64 Zs) (.int .u64 (hi d : Nat)) (.int .u64 (lo d : Nat)) (.int .i64 l1) (.int .i64 g2))
          have HBP := Lib.hid (Below.put6 (b := w.heap.size + 2) HB5.out (Nat.le_add_right _ 2) (.int .i64 N) (.int .i64 Zs) (.int .u64 (hi d : Nat)) (.int .u64 (lo d : Nat)) (.int .i64 l1) (.int .i64 g2))
          have HM1 := Lib.hid M1
          have HM2 := Lib.hid M2
          clear M1 M2
          go_wp2
          (try simp only [Exit.inBlock, Exit.then])
          exact bodyPost_ret (resW Try.results23 rfl (load6 HP.out)) rfl ⟨by first | rfl | (rw [HM1.out, HM2.out]) | (rw [HM1.out]) | (rw [HM2.out]), HBP.out⟩
        · subst hg
          have M2 : max g1 g1 = g1 := Int.max_self g1
          have HP := Lib.hid (HV3.out.put6 (.int .i64 N) (.int .i64 Zs) (.int .u64 (hi d : Nat)) (.int .u64 (lo d : Nat)) (.int .i64 l1) (.int .i64 g1))
          have HBP := Lib.hid (Below.put6 (b := w.heap.size + 2) HB5.out (Nat.le_add_right _ 2) (.int .i64 N) (.int .i64 Zs) (.int .u64 (hi d : Nat)) (.int .u64 (lo d : Nat)) (.int .i64 l1) (.int .i64 g1))
          have HM1 := Lib.hid M1
          have HM2 := Lib.hid M2
          clear M1 M2
          go_wp2
          (try simp only [Exit.inBlock, Exit.then])
          exact bodyPost_ret (resW Try.results23 rfl (load6 HP.out)) rfl ⟨by first | rfl | (rw [HM1.out, HM2.out]) | (rw [HM1.out]) | (rw [HM2.out]), HBP.out⟩
        · have M2 : max g1 g2 = g1 := Int.max_eq_left (by omega)
          have b1 : ¬ g1 < g2 := by omega
          have b2 : ¬ g1 ≤ g2 := by omega
          have b3 : g2 ≤ g1 := by omega
          have HP := Lib.hid (HV3.out.put6 (.int .i64 N) (.int .i64 Zs) (.int .u64 (hi d : Nat)) (.int .u64 (lo d : Nat)) (.int .i64 l1) (.int .i64 g1))
          have HBP := Lib.hid (Below.put6 (b := w.heap.size + 2) HB5.out (Nat.le_add_right _ 2) (.int .i64 N) (.int .i64 Zs) (.int .u64 (hi d : Nat)) (.int .u64 (lo d : Nat)) (.int .i64 l1) (.int .i64 g1))
          have HM1 := Lib.hid M1
          have HM2 := Lib.hid M2
          clear M1 M2
          go_wp2
          (try simp only [Exit.inBlock, Exit.then])
          exact bodyPost_ret (resW Try.results23 rfl (load6 HP.out)) rfl ⟨by first | rfl | (rw [HM1.out, HM2.out]) | (rw [HM1.out]) | (rw [HM2.out]), HBP.out⟩
      · subst hl
        have M1 : min l1 l1 = l1 := Int.min_self l1
        rcases Int.lt_trichotomy g1 g2 with hg | hg | hg
        · have M2 : max g1 g2 = g2 := Int.max_eq_right (by omega)
          have b1 : ¬ g2 < g1 := by omega
          have b2 : ¬ g2 ≤ g1 := by omega
          have b3 : g1 ≤ g2 := by omega
          have HP := Lib.hid (HV3.out.put6 (.int .i64 N) (.int .i64 Zs) (.int .u64 (hi d : Nat)) (.int .u64 (lo d : Nat)) (.int .i64 l1) (.int .i64 g2))
          have HBP := Lib.hid (Below.put6 (b := w.heap.size + 2) HB5.out (Nat.le_add_right _ 2) (.int .i64 N) (.int .i64 Zs) (.int .u64 (hi d : Nat)) (.int .u64 (lo d : Nat)) (.int .i64 l1) (.int .i64 g2))
          have HM1 := Lib.hid M1
          have HM2 := Lib.hid M2
          clear M1 M2
          go_wp2
          (try simp only [Exit.inBlock, Exit.then])
          exact bodyPost_ret (resW Try.results23 rfl (load6 HP.out)) rfl ⟨by first | rfl | (rw [HM1.out, HM2.out]) | (rw [HM1.out]) | (rw [HM2.out]), HBP.out⟩
        · subst hg
          have M2 : max g1 g1 = g1 := Int.max_self g1
          have HP := Lib.hid (HV3.out.put6 (.int .i64 N) (.int .i64 Zs) (.int .u64 (hi d : Nat)) (.int .u64 (lo d : Nat)) (.int .i64 l1) (.int .i64 g1))
          have HBP := Lib.hid (Below.put6 (b := w.heap.size + 2) HB5.out (Nat.le_add_right _ 2) (.int .i64 N) (.int .i64 Zs) (.int .u64 (hi d : Nat)) (.int .u64 (lo d : Nat)) (.int .i64 l1) (.int .i64 g1))
          have HM1 := Lib.hid M1
          have HM2 := Lib.hid M2
          clear M1 M2
          go_wp2
          (try simp only [Exit.inBlock, Exit.then])
          exact bodyPost_ret (resW Try.results23 rfl (load6 HP.out)) rfl ⟨by first | rfl | (rw [HM1.out, HM2.out]) | (rw [HM1.out]) | (rw [HM2.out]), HBP.out⟩
        · have M2 : max g1 g2 = g1 := Int.max_eq_left (by omega)
          have b1 : ¬ g1 < g2 := by omega
          have b2 : ¬ g1 ≤ g2 := by omega
          have b3 : g2 ≤ g1 := by omega
          have HP := Lib.hid (HV3.out.put6 (.int .i64 N) (.int .i64 Zs) (.int .u64 (hi d : Nat)) (.int .u64 (lo d : Nat)) (.int .i64 l1) (.int .i64 g1))
          have HBP := Lib.hid (Below.put6 (b := w.heap.size + 2) HB5.out (Nat.le_add_right _ 2) (.int .i64 N) (.int .i64 Zs) (.int .u64 (hi d : Nat)) (.int .u64 (lo d : Nat)) (.int .i64 l1) (.int .i64 g1))
          have HM1 := Lib.hid M1
          have HM2 := Lib.hid M2
          clear M1 M2
          go_wp2
          (try simp only [Exit.inBlock, Exit.then])
          exact bodyPost_ret (resW Try.results23 rfl (load6 HP.out)) rfl ⟨by first | rfl | (rw [HM1.out, HM2.out]) | (rw [HM1.out]) | (rw [HM2.out]), HBP.out⟩
      · have M1 : min l1 l2 = l2 := Int.min_eq_right (by omega)
        have a1 : ¬ l1 < l2 := by omega
        have a2 : ¬ l1 ≤ l2 := by omega
        have a3 : l2 ≤ l1 := by omega
        rcases Int.lt_trichotomy g1 g2 with hg | hg | hg
        · have M2 : max g1 g2 = g2 := Int.max_eq_right (by omega)
          have b1 : ¬ g2 < g1 := by omega
          have b2 : ¬ g2 ≤ g1 := by omega
          have b3 : g1 ≤ g2 := by omega
          have HP := Lib.hid (HV3.out.put6 (.int .i64 N) (.int .i64 Zs) (.int .u64 (hi d : Nat)) (.int .u64 (lo d : Nat)) (.int .i64 l2) (.int .i64 g2))
          have HBP := Lib.hid (Below.put6 (b := w.heap.size + 2) HB5.out (Nat.le_add_right _ 2) (.int .i64 N) (.int .i64 Zs) (.int .u64 (hi d : Nat)) (.int .u64 (lo d : Nat)) (.int .i64 l2) (.int .i64 g2))
          have HM1 := Lib.hid M1
          have HM2 := Lib.hid M2
          clear M1 M2
          go_wp2
          (try simp only [Exit.inBlock, Exit.then])
          exact bodyPost_ret (resW Try.results23 rfl (load6 HP.out)) rfl ⟨by first | rfl | (rw [HM1.out, HM2.out]) | (rw [HM1.out]) | (rw [HM2.out]), HBP.out⟩
        · subst hg
          have M2 : max g1 g1 = g1 := Int.max_self g1
          have HP := Lib.hid (HV3.out.put6 (.int .i64 N) (.int .i64 Zs) (.int .u64 (hi d : Nat)) (.int .u64 (lo d : Nat)) (.int .i64 l2) (.int .i64 g1))
          have HBP := Lib.hid (Below.put6 (b := w.heap.size + 2) HB5.out (Nat.le_add_right _ 2) (.int .i64 N) (.int .i64 Zs) (.int .u64 (hi d : Nat)) (.int .u64 (lo d : Nat)) (.int .i64 l2) (.int .i64 g1))
          have HM1 := Lib.hid M1
          have HM2 := Lib.hid M2
          clear M1 M2
          go_wp2
          (try simp only [Exit.inBlock, Exit.then])
          exact bodyPost_ret (resW Try.results23 rfl (load6 HP.out)) rfl ⟨by first | rfl | (rw [HM1.out, HM2.out]) | (rw [HM1.out]) | (rw [HM2.out]), HBP.out⟩
        · have M2 : max g1 g2 = g1 := Int.max_eq_left (by omega)
          have b1 : ¬ g1 < g2 := by omega
          have b2 : ¬ g1 ≤ g2 := by omega
          have b3 : g2 ≤ g1 := by omega
          have HP := Lib.hid (HV3.out.put6 (.int .i64 N) (.int .i64 Zs) (.int .u64 (hi d : Nat)) (.int .u64 (lo d : Nat)) (.int .i64 l2) (.int .i64 g1))
          have HBP := Lib.hid (Below.put6 (b := w.heap.size + 2) HB5.out (Nat.le_add_right _ 2) (.int .i64 N) (.int .i64 Zs) (.int .u64 (hi d : Nat)) (.int .u64 (lo d : Nat)) (.int .i64 l2) (.int .i64 g1))
          have HM1 := Lib.hid M1
          have HM2 := Lib.hid M2
          clear M1 M2
          go_wp2
          (try simp only [Exit.inBlock, Exit.then])
          exact bodyPost_ret (resW Try.results23 rfl (load6 HP.out)) rfl ⟨by first | rfl | (rw [HM1.out, HM2.out]) | (rw [HM1.out]) | (rw [HM2.out]), HBP.out⟩
end Go.Proofs.Ytbpdapggdccmiaa
