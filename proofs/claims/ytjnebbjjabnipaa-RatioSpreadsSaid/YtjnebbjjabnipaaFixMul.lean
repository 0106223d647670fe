/- fix.Mul: the product if it is an int, else ErrOver. -/
import Derived.Test.YtjnebbjjabnipaaFixS
import Derived.Test.YtjnebbjjabnipaaGen
namespace Go.Proofs.Ytjnebbjjabnipaa
open Go.RowKit

theorem fixMul_any (x y : Nat) (hx : x < B64) (hy : y < B64) (w : World) :
    Calls Try.prog 42 #[.int .u64 (x : Nat), .int .u64 (y : Nat)] w fun e w' => e = .returned (.agg #[.int .u64 (hi (x * y) : Nat), .int .u64 (lo (x * y) : Nat)]) ∧ Below w.heap.size w w' :=
  (mul_any x y hx hy w).mono fun e w' h => ⟨h.1, by rw [← h.2]; exact (Below.refl _ _).alloc (Nat.le_refl _) _⟩
theorem fmul_ok (a b : Int) (p q x y n : Nat) (X Y : Bool) (z : Int) (w : World) (cp : w.cell? ⟨p, 0, none⟩ = some (.int .i64 a)) (cq : w.cell? ⟨q, 0, none⟩ = some (.int .i64 b)) (hX : decide (a < 0) = X) (hY : decide (b < 0) = Y)
    (m1 : ∀ w, Calls Try.prog 43 #[.int .i64 a] w fun e w' => e = .returned (.int .u64 (x : Nat)) ∧ Below w.heap.size w w')
    (m2 : ∀ w, Calls Try.prog 43 #[.int .i64 b] w fun e w' => e = .returned (.int .u64 (y : Nat)) ∧ Below w.heap.size w w')
    (m3 : ∀ w, Calls Try.prog 42 #[.int .u64 (x : Nat), .int .u64 (y : Nat)] w fun e w' => e = .returned (.agg #[.int .u64 (hi n : Nat), .int .u64 (lo n : Nat)]) ∧ Below w.heap.size w w')
    (m4 : ∀ w, Calls Try.prog 41 #[.bool (!(X == Y)), .agg #[.int .u64 (hi n : Nat), .int .u64 (lo n : Nat)]] w fun e w' => e = .returned (.int .i64 z) ∧ Below w.heap.size w w') :
    Calls Try.prog 40 #[.pointer (some ⟨p, 0, none⟩), .pointer (some ⟨q, 0, none⟩)] w fun e w' => e = .returned (.int .i64 z) ∧ Below w.heap.size w w' := by
  have M1 := Lib.hid m1; have M2 := Lib.hid m2; have M3 := Lib.hid m3; have M4 := Lib.hid m4
  clear m1 m2 m3 m4
  have zp := lt_of_cell cp
  have zq := lt_of_cell cq
  go_enter Try.func40, Try.ntmps40
  go_upto_region 1 with fail
  have hok : OwnOk (fun w' => w'.cell? ⟨p, 0, none⟩ = some (.int .i64 a) ∧ w'.cell? ⟨q, 0, none⟩ = some (.int .i64 b) ∧ Hid (Below w.heap.size w w')) w.heap.size [] := own0_ok (fun w1 w2 h hb => ⟨(hb.cell (p := ⟨p, 0, none⟩) zp).trans h.1, (hb.cell (p := ⟨q, 0, none⟩) zq).trans h.2.1, Lib.hid (h.2.2.out.trans hb)⟩)
  have hfit : ∀ i, (∀ e ∈ ([] : List Ent), e.x ≠ i ∧ e.s ≠ i) → Fit (fun w' => w'.cell? ⟨p, 0, none⟩ = some (.int .i64 a) ∧ w'.cell? ⟨q, 0, none⟩ = some (.int .i64 b) ∧ Hid (Below w.heap.size w w')) (Sof (fun w' => w'.cell? ⟨p, 0, none⟩ = some (.int .i64 a) ∧ w'.cell? ⟨q, 0, none⟩ = some (.int .i64 b) ∧ Hid (Below w.heap.size w w')) w.heap.size []) i := fun i hi => sof_fit hok.st hok.loc hi
  have HOK := Lib.hid hok; have HF := Lib.hid hfit; clear hok hfit
  refine wp_region_ab (S0 := (fun w' => w'.cell? ⟨p, 0, none⟩ = some (.int .i64 a) ∧ w'.cell? ⟨q, 0, none⟩ = some (.int .i64 b) ∧ Hid (Below w.heap.size w w'))) w.heap.size [] (by kernel_rfl) ⟨cp, cq, Lib.hid ((Below.refl _ _).drew)⟩ (Nat.le_refl _) (by simp) ?_
  clear cp cq zp zq
  refine abTake 0 (some 3) (v := ?_) rfl rfl (by kernel_rfl) (by kernel_rfl) (by kernel_rfl) (fun _ _ _ h => h) (HF.out _ (by simp)) (by rfl) ?_ ?_
  rotate_left 1
  · (intro w hSw; (try dsimp only at hSw); go_simp; try with_reducible rfl)
  simp only [Act.put, List.setIfInBounds_toArray, List.set_cons_zero, List.set_cons_succ]
  refine abTake 1 (some 4) (v := ?_) rfl rfl (by kernel_rfl) (by kernel_rfl) (by kernel_rfl) (fun _ _ _ h => h) (HF.out _ (by simp)) (by rfl) ?_ ?_
  rotate_left 1
  · (intro w hSw; (try dsimp only at hSw); go_simp; try with_reducible rfl)
  simp only [Act.put, List.setIfInBounds_toArray, List.set_cons_zero, List.set_cons_succ]
  refine abTake 2 (some 5) (v := ?_) rfl rfl (by kernel_rfl) (by kernel_rfl) (by kernel_rfl) (fun _ _ _ h => h) (HF.out _ (by simp)) (by rfl) ?_ ?_
  rotate_left 1
  · (intro w hSw; (try dsimp only at hSw); go_simp; try with_reducible rfl)
  simp only [Act.put, List.setIfInBounds_toArray, List.set_cons_zero, List.set_cons_succ]
  refine abTake 3 (some 6) (v := ?_) rfl rfl (by kernel_rfl) (by kernel_rfl) (by kernel_rfl) (fun _ _ _ h => h) (HF.out _ (by simp)) (by rfl) ?_ ?_
  rotate_left 1
  · (intro w hSw; (try dsimp only at hSw); go_simp; try with_reducible rfl)
  simp only [Act.put, List.setIfInBounds_toArray, List.set_cons_zero, List.set_cons_succ]
  refine abTake 4 (some 7) (v := ?_) rfl rfl (by kernel_rfl) (by kernel_rfl) (by kernel_rfl) (fun _ _ _ h => h) (HF.out _ (by simp)) (by rfl) ?_ ?_
  rotate_left 1
  · (intro w hSw; (try dsimp only at hSw); go_simp; try with_reducible rfl)
  simp only [Act.put, List.setIfInBounds_toArray, List.set_cons_zero, List.set_cons_succ]
  refine abTake 5 (some 8) (v := ?_) rfl rfl (by kernel_rfl) (by kernel_rfl) (by kernel_rfl) (fun _ _ _ h => h) (HF.out _ (by simp)) (by rfl) ?_ ?_
  rotate_left 1
  · (intro w hSw; (try dsimp only at hSw); go_simp; try with_reducible rfl)
  simp only [Act.put, List.setIfInBounds_toArray, List.set_cons_zero, List.set_cons_succ]
  refine abCall 6 (some 9) rfl rfl (by kernel_rfl) (by kernel_rfl) (by kernel_rfl) (fun _ _ _ h => h) (HF.out _ (by simp)) (by rfl) ?_ (fun w hSw => M1.out w) ?_
  · (intro w hSw; (try dsimp only at hSw); go_simp; try with_reducible rfl)
  simp only [Act.put, List.setIfInBounds_toArray, List.set_cons_zero, List.set_cons_succ]
  refine abTake 7 (some 10) (v := ?_) rfl rfl (by kernel_rfl) (by kernel_rfl) (by kernel_rfl) (fun _ _ _ h => h) (HF.out _ (by simp)) (by rfl) ?_ ?_
  rotate_left 1
  · (intro w hSw; (try dsimp only at hSw); go_simp; try with_reducible rfl)
  simp only [Act.put, List.setIfInBounds_toArray, List.set_cons_zero, List.set_cons_succ]
  refine abCall 8 (some 11) rfl rfl (by kernel_rfl) (by kernel_rfl) (by kernel_rfl) (fun _ _ _ h => h) (HF.out _ (by simp)) (by rfl) ?_ (fun w hSw => M2.out w) ?_
  · (intro w hSw; (try dsimp only at hSw); go_simp; try with_reducible rfl)
  simp only [Act.put, List.setIfInBounds_toArray, List.set_cons_zero, List.set_cons_succ]
  refine abCall 9 (some 12) rfl rfl (by kernel_rfl) (by kernel_rfl) (by kernel_rfl) (fun _ _ _ h => h) (HF.out _ (by simp)) (by rfl) ?_ (fun w hSw => M3.out w) ?_
  · (intro w hSw; (try dsimp only at hSw); go_simp; try with_reducible rfl)
  simp only [Act.put, List.setIfInBounds_toArray, List.set_cons_zero, List.set_cons_succ]
  refine abCall 10 (some 13) rfl rfl (by kernel_rfl) (by kernel_rfl) (by kernel_rfl) (fun _ _ _ h => h) (HF.out _ (by simp)) (by rfl) ?_ (fun w hSw => M4.out w) ?_
  · (intro w hSw; (try dsimp only at hSw); go_simp; try with_reducible rfl)
  simp only [Act.put, List.setIfInBounds_toArray, List.set_cons_zero, List.set_cons_succ]
  refine abTake 11 (some 2) (v := ?_) rfl rfl (by kernel_rfl) (by kernel_rfl) (by kernel_rfl) (fun _ _ _ h => h) (HF.out _ (by simp)) (by rfl) ?_ ?_
  rotate_left 1
  · (intro w hSw; (try dsimp only at hSw); go_simp; try with_reducible rfl)
  simp only [Act.put, List.setIfInBounds_toArray, List.set_cons_zero, List.set_cons_succ]
  refine abDone (by kernel_rfl) ?_ _
  rintro w1 ⟨⟨_, _, hk⟩, _⟩
  go_wp2_with fail
  go_ret
  exact ⟨rfl, hk.out⟩
theorem fmul_no (a b : Int) (p q x y n : Nat) (X Y : Bool) (w : World) (cp : w.cell? ⟨p, 0, none⟩ = some (.int .i64 a)) (cq : w.cell? ⟨q, 0, none⟩ = some (.int .i64 b)) (hX : decide (a < 0) = X) (hY : decide (b < 0) = Y)
    (m1 : ∀ w, Calls Try.prog 43 #[.int .i64 a] w fun e w' => e = .returned (.int .u64 (x : Nat)) ∧ Below w.heap.size w w')
    (m2 : ∀ w, Calls Try.prog 43 #[.int .i64 b] w fun e w' => e = .returned (.int .u64 (y : Nat)) ∧ Below w.heap.size w w')
    (m3 : ∀ w, Calls Try.prog 42 #[.int .u64 (x : Nat), .int .u64 (y : Nat)] w fun e w' => e = .returned (.agg #[.int .u64 (hi n : Nat), .int .u64 (lo n : Nat)]) ∧ Below w.heap.size w w')
    (m4 : ∀ w, Calls Try.prog 41 #[.bool (!(X == Y)), .agg #[.int .u64 (hi n : Nat), .int .u64 (lo n : Nat)]] w fun e w' => e = gaveUp 5 ∧ Below w.heap.size w w') :
    Calls Try.prog 40 #[.pointer (some ⟨p, 0, none⟩), .pointer (some ⟨q, 0, none⟩)] w fun e w' => e = gaveUp 5 ∧ Below w.heap.size w w' := by
  have M1 := Lib.hid m1; have M2 := Lib.hid m2; have M3 := Lib.hid m3; have M4 := Lib.hid m4
  clear m1 m2 m3 m4
  have zp := lt_of_cell cp
  have zq := lt_of_cell cq
  go_enter Try.func40, Try.ntmps40
  go_upto_region 1 with fail
  have hok : OwnOk (fun w' => w'.cell? ⟨p, 0, none⟩ = some (.int .i64 a) ∧ w'.cell? ⟨q, 0, none⟩ = some (.int .i64 b) ∧ Hid (Below w.heap.size w w')) w.heap.size [] := own0_ok (fun w1 w2 h hb => ⟨(hb.cell (p := ⟨p, 0, none⟩) zp).trans h.1, (hb.cell (p := ⟨q, 0, none⟩) zq).trans h.2.1, Lib.hid (h.2.2.out.trans hb)⟩)
  have hfit : ∀ i, (∀ e ∈ ([] : List Ent), e.x ≠ i ∧ e.s ≠ i) → Fit (fun w' => w'.cell? ⟨p, 0, none⟩ = some (.int .i64 a) ∧ w'.cell? ⟨q, 0, none⟩ = some (.int .i64 b) ∧ Hid (Below w.heap.size w w')) (Sof (fun w' => w'.cell? ⟨p, 0, none⟩ = some (.int .i64 a) ∧ w'.cell? ⟨q, 0, none⟩ = some (.int .i64 b) ∧ Hid (Below w.heap.size w w')) w.heap.size []) i := fun i hi => sof_fit hok.st hok.loc hi
  have HOK := Lib.hid hok; have HF := Lib.hid hfit; clear hok hfit
  refine wp_region_ab (S0 := (fun w' => w'.cell? ⟨p, 0, none⟩ = some (.int .i64 a) ∧ w'.cell? ⟨q, 0, none⟩ = some (.int .i64 b) ∧ Hid (Below w.heap.size w w'))) w.heap.size [] (by kernel_rfl) ⟨cp, cq, Lib.hid ((Below.refl _ _).drew)⟩ (Nat.le_refl _) (by simp) ?_
  clear cp cq zp zq
  refine abTake 0 (some 3) (v := ?_) rfl rfl (by kernel_rfl) (by kernel_rfl) (by kernel_rfl) (fun _ _ _ h => h) (HF.out _ (by simp)) (by rfl) ?_ ?_
  rotate_left 1
  · (intro w hSw; (try dsimp only at hSw); go_simp; try with_reducible rfl)
  simp only [Act.put, List.setIfInBounds_toArray, List.set_cons_zero, List.set_cons_succ]
  refine abTake 1 (some 4) (v := ?_) rfl rfl (by kernel_rfl) (by kernel_rfl) (by kernel_rfl) (fun _ _ _ h => h) (HF.out _ (by simp)) (by rfl) ?_ ?_
  rotate_left 1
  · (intro w hSw; (try dsimp only at hSw); go_simp; try with_reducible rfl)
  simp only [Act.put, List.setIfInBounds_toArray, List.set_cons_zero, List.set_cons_succ]
  refine abTake 2 (some 5) (v := ?_) rfl rfl (by kernel_rfl) (by kernel_rfl) (by kernel_rfl) (fun _ _ _ h => h) (HF.out _ (by simp)) (by rfl) ?_ ?_
  rotate_left 1
  · (intro w hSw; (try dsimp only at hSw); go_simp; try with_reducible rfl)
  simp only [Act.put, List.setIfInBounds_toArray, List.set_cons_zero, List.set_cons_succ]
  refine abTake 3 (some 6) (v := ?_) rfl rfl (by kernel_rfl) (by kernel_rfl) (by kernel_rfl) (fun _ _ _ h => h) (HF.out _ (by simp)) (by rfl) ?_ ?_
  rotate_left 1
  · (intro w hSw; (try dsimp only at hSw); go_simp; try with_reducible rfl)
  simp only [Act.put, List.setIfInBounds_toArray, List.set_cons_zero, List.set_cons_succ]
  refine abTake 4 (some 7) (v := ?_) rfl rfl (by kernel_rfl) (by kernel_rfl) (by kernel_rfl) (fun _ _ _ h => h) (HF.out _ (by simp)) (by rfl) ?_ ?_
  rotate_left 1
  · (intro w hSw; (try dsimp only at hSw); go_simp; try with_reducible rfl)
  simp only [Act.put, List.setIfInBounds_toArray, List.set_cons_zero, List.set_cons_succ]
  refine abTake 5 (some 8) (v := ?_) rfl rfl (by kernel_rfl) (by kernel_rfl) (by kernel_rfl) (fun _ _ _ h => h) (HF.out _ (by simp)) (by rfl) ?_ ?_
  rotate_left 1
  · (intro w hSw; (try dsimp only at hSw); go_simp; try with_reducible rfl)
  simp only [Act.put, List.setIfInBounds_toArray, List.set_cons_zero, List.set_cons_succ]
  refine abCall 6 (some 9) rfl rfl (by kernel_rfl) (by kernel_rfl) (by kernel_rfl) (fun _ _ _ h => h) (HF.out _ (by simp)) (by rfl) ?_ (fun w hSw => M1.out w) ?_
  · (intro w hSw; (try dsimp only at hSw); go_simp; try with_reducible rfl)
  simp only [Act.put, List.setIfInBounds_toArray, List.set_cons_zero, List.set_cons_succ]
  refine abTake 7 (some 10) (v := ?_) rfl rfl (by kernel_rfl) (by kernel_rfl) (by kernel_rfl) (fun _ _ _ h => h) (HF.out _ (by simp)) (by rfl) ?_ ?_
  rotate_left 1
  · (intro w hSw; (try dsimp only at hSw); go_simp; try with_reducible rfl)
  simp only [Act.put, List.setIfInBounds_toArray, List.set_cons_zero, List.set_cons_succ]
  refine abCall 8 (some 11) rfl rfl (by kernel_rfl) (by kernel_rfl) (by kernel_rfl) (fun _ _ _ h => h) (HF.out _ (by simp)) (by rfl) ?_ (fun w hSw => M2.out w) ?_
  · (intro w hSw; (try dsimp only at hSw); go_simp; try with_reducible rfl)
  simp only [Act.put, List.setIfInBounds_toArray, List.set_cons_zero, List.set_cons_succ]
  refine abCall 9 (some 12) rfl rfl (by kernel_rfl) (by kernel_rfl) (by kernel_rfl) (fun _ _ _ h => h) (HF.out _ (by simp)) (by rfl) ?_ (fun w hSw => M3.out w) ?_
  · (intro w hSw; (try dsimp only at hSw); go_simp; try with_reducible rfl)
  simp only [Act.put, List.setIfInBounds_toArray, List.set_cons_zero, List.set_cons_succ]
  refine abGives 10 rfl (by kernel_rfl) (by rfl) ?_ (fun w hSw => (M4.out w).mono (fun e w1 h => ⟨_, h.1, rfl, rfl, hSw.2.2.out.trans (h.2.mono hSw.2.2.out.size)⟩))
  · (intro w hSw; (try dsimp only at hSw); go_simp; try with_reducible rfl)

theorem fmul_work (a b : Int) (p q : Nat) (ha : IsInt a) (hb : IsInt b) (w : World) (cp : w.cell? ⟨p, 0, none⟩ = some (.int .i64 a)) (cq : w.cell? ⟨q, 0, none⟩ = some (.int .i64 b)) :
    Calls Try.prog 40 #[.pointer (some ⟨p, 0, none⟩), .pointer (some ⟨q, 0, none⟩)] w fun e w' => e = told (a * b) ∧ Below w.heap.size w w' := by
  have e : sgn (decide (a < 0) != decide (b < 0)) (a.natAbs * b.natAbs) = a * b := by rw [← sgn_mul, sgn_abs, sgn_abs]
  have s1 : ∀ w, Calls Try.prog 43 #[.int .i64 a] w fun e w' => e = .returned (.int .u64 (a.natAbs : Nat)) ∧ Below w.heap.size w w' := fun w => (size_any a ha w).mono fun e w' h => ⟨h.1, by rw [h.2]; exact Below.refl _ _⟩
  have s2 : ∀ w, Calls Try.prog 43 #[.int .i64 b] w fun e w' => e = .returned (.int .u64 (b.natAbs : Nat)) ∧ Below w.heap.size w w' := fun w => (size_any b hb w).mono fun e w' h => ⟨h.1, by rw [h.2]; exact Below.refl _ _⟩
  have hm := fun w => fixMul_any a.natAbs b.natAbs (natAbs_B ha) (natAbs_B hb) w
  have hw := fun w => fixWhole_any (decide (a < 0) != decide (b < 0)) (a.natAbs * b.natAbs) (prod_fit ha hb) w
  rw [e] at hw
  have hb : (decide (a < 0) != decide (b < 0)) = !(decide (a < 0) == decide (b < 0)) := rfl
  rw [hb] at hw
  by_cases h : IsInt (a * b)
  · rw [told_ok h] at hw ⊢
    exact fmul_ok a b p q _ _ _ _ _ _ w cp cq rfl rfl s1 s2 hm hw
  · rw [told_no h] at hw ⊢
    exact fmul_no a b p q _ _ _ _ _ w cp cq rfl rfl s1 s2 hm hw
theorem fmul_any (a b : Int) (ha : IsInt a) (hb : IsInt b) (w : World) :
    Calls Try.prog 22 #[.int .i64 a, .int .i64 b] w fun e w' => e = .returned (.tuple #[.int .i64 (ans (a * b)), .int .i64 (err (a * b))]) ∧ Below w.heap.size w w' := by
  have hk := attempt_told 40 #[.pointer (some ⟨w.heap.size, 0, none⟩), .pointer (some ⟨w.heap.size + 1, 0, none⟩)] (a * b) ((w.alloc (.cells #[.int .i64 a] 3)).alloc (.cells #[.int .i64 b] 3)) (enters_of Try.func40 (by kernel_rfl) rfl)
    (fun w1 hb1 => fmul_work a b _ _ ha hb w1 (((IBox.new _ _ _).alloc _).call hb1).c ((IBox.newAt (by simp)).call hb1).c)
  obtain ⟨x, hx⟩ : ∃ x, ans (a * b) = x := ⟨_, rfl⟩
  obtain ⟨y, hy⟩ : ∃ y, err (a * b) = y := ⟨_, rfl⟩
  rw [hx, hy] at hk ⊢
  have HK := Lib.hid hk
  clear hk hx hy ha hb
  have hmf : ∀ (fn : Fn) (first cap : Array Value) (w : World), (Instr.makeFunc fn first cap).run Try.prog w = .ok (.func fn first cap) w := fun _ _ _ _ => rfl
  go_enter Try.func22, Try.ntmps22
  go_wp2_with fail
  refine HK.out.mono ?_
  rintro e w1 ⟨rfl, hb1⟩
  have HW := Lib.hid ((((Below.refl w.heap.size w).alloc (Nat.le_refl _) _).alloc (by simp) _).trans (hb1.mono (by simp; omega)))
  clear hb1
  go_wp2_with fail
  go_ret2
  exact ⟨rfl, HW.out⟩
end Go.Proofs.Ytjnebbjjabnipaa
