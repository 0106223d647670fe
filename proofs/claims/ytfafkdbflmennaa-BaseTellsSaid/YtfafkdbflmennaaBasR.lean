/- slices.Max, slices.Min; both charts' rangeOf and measure; base.New. -/
import Derived.Test.YtfafkdbflmennaaBasQ
namespace Go.Proofs.Ytfafkdbflmennaa
open Go.RowKit

def MaxRel (l : List Int) (n : Nat) (w : World) (x i : Value) (wr : World) : Prop := ∃ k : Nat, 1 ≤ k ∧ k ≤ n ∧ i = .int .i64 (k : Nat) ∧ x = .int .i64 (lmax (l.take k)) ∧ w = wr
theorem lmax_step {l : List Int} {k : Nat} {x : Int} (hk : 1 ≤ k) (hx : l[k]? = some x) : lmax (l.take (k + 1)) = max (lmax (l.take k)) x := by
  have hl : k < l.length := (List.getElem?_eq_some_iff.1 hx).1
  rw [List.take_add_one, hx]
  exact lmax_append (by intro h; have := congrArg List.length h; rw [List.length_take, List.length_nil] at this; omega) (by simp)
theorem lmax_first {l : List Int} {x : Int} (hx : l[0]? = some x) : lmax (l.take 1) = x := by
  cases l with
  | nil => cases hx
  | cons y l => simp only [List.getElem?_cons_zero, Option.some.injEq] at hx; subst hx; rfl
set_option linter.unusedSimpArgs false in
set_option linter.unusedVariables false in
set_option maxHeartbeats 8000000 in
set_option maxRecDepth 100000 in
theorem Max_core (l : List Int) (ao : Option Addr) (n cap : Nat) (w : World) (hn : l.length = n) (h1 : 1 ≤ n) (hn2 : n ≤ 100000) (hr : ReadsI w (.slice ao n cap) l) :
    Calls Try.prog 98 #[.slice ao n cap] w fun e w' => e = .returned (.int .i64 (lmax l)) ∧ w = w' := by
  obtain ⟨V, hV⟩ : ∃ V, lmax l = V := ⟨_, rfl⟩
  rw [hV]
  have HV := Lib.hid hV
  obtain ⟨x0, hx0⟩ : ∃ x, l[0]? = some x := ⟨_, List.getElem?_eq_getElem (by omega)⟩
  obtain ⟨b, off, hao, hbl, hc0⟩ := hr.spot hx0
  rw [Nat.add_zero] at hc0
  have HX0 := Lib.hid (lmax_first hx0)
  have HR := Lib.hid hr; have HN := Lib.hid hn
  subst hao
  have hnn : ¬ ((n : Int) < 1) := by omega
  have hn0 : (0 : Int) < (n : Int) := by omega
  clear hV hr hn hx0
  go_enter Try.func98, Try.ntmps98
  go_wp2
  go_loopw [3, 4] (MaxRel l n w) (fun _ i _ => n - (intOf i).toNat)
  case atStart => exact ⟨1, Nat.le_refl _, h1, rfl, by rw [HX0.out], rfl⟩
  case round =>
    obtain ⟨j, hj1, hj, rfl, rfl, rfl⟩ := hrel
    clear hc0 hnn hn0 HX0
    by_cases hl : j < n
    · obtain ⟨x, hx⟩ : ∃ x, l[j]? = some x := ⟨_, List.getElem?_eq_getElem (by rw [HN.out]; omega)⟩
      obtain ⟨b', off', hao, _, hc⟩ := HR.out.spot hx
      injection hao with hao
      injection hao with e1 e2 _
      subst e1 e2
      have hjz : (j : Int) < (n : Int) := by omega
      have hjx : 0 ≤ (j : Int) ∧ (j : Int) < (n : Int) := by omega
      have HQ := Lib.hid (lmax_step hj1 hx)
      obtain ⟨M, hM⟩ : ∃ M, lmax (l.take j) = M := ⟨_, rfl⟩
      rw [hM] at HQ ⊢
      clear hM hx
      go_wp2
      go_roundw
      case rel => exact ⟨j + 1, by omega, by omega, by first | rfl | go_num, by rw [HQ.out], rfl⟩
      case measure => simp [intOf]; omega
    · obtain rfl : j = n := by omega
      have HM := Lib.hid (show lmax (l.take j) = V by rw [← HV.out, List.take_of_length_le (by rw [HN.out]; exact Nat.le_refl _)])
      rw [HM.out]
      clear hj hl
      go_wp2
      go_ret
      exact ⟨rfl, rfl⟩
theorem Max_any (l : List Int) (v : Value) (w : World) (h1 : 1 ≤ l.length) (hn2 : l.length ≤ 100000) (hr : ReadsI w v l) :
    Calls Try.prog 98 #[v] w fun e w' => e = .returned (.int .i64 (lmax l)) ∧ w = w' := by
  obtain ⟨ao, cap, rfl⟩ := hr.shape
  exact Max_core l ao _ cap w rfl h1 hn2 hr
def MinRel (l : List Int) (n : Nat) (w : World) (x i : Value) (wr : World) : Prop := ∃ k : Nat, 1 ≤ k ∧ k ≤ n ∧ i = .int .i64 (k : Nat) ∧ x = .int .i64 (lmin (l.take k)) ∧ w = wr
theorem lmin_step {l : List Int} {k : Nat} {x : Int} (hk : 1 ≤ k) (hx : l[k]? = some x) : lmin (l.take (k + 1)) = min (lmin (l.take k)) x := by
  have hl : k < l.length := (List.getElem?_eq_some_iff.1 hx).1
  rw [List.take_add_one, hx]
  exact lmin_append (by intro h; have := congrArg List.length h; rw [List.length_take, List.length_nil] at this; omega) (by simp)
theorem lmin_first {l : List Int} {x : Int} (hx : l[0]? = some x) : lmin (l.take 1) = x := by
  cases l with
  | nil => cases hx
  | cons y l => simp only [List.getElem?_cons_zero, Option.some.injEq] at hx; subst hx; rfl
set_option linter.unusedSimpArgs false in
set_option linter.unusedVariables false in
set_option maxHeartbeats 8000000 in
set_option maxRecDepth 100000 in
theorem Min_core (l : List Int) (ao : Option Addr) (n cap : Nat) (w : World) (hn : l.length = n) (h1 : 1 ≤ n) (hn2 : n ≤ 100000) (hr : ReadsI w (.slice ao n cap) l) :
    Calls Try.prog 99 #[.slice ao n cap] w fun e w' => e = .returned (.int .i64 (lmin l)) ∧ w = w' := by
  obtain ⟨V, hV⟩ : ∃ V, lmin l = V := ⟨_, rfl⟩
  rw [hV]
  have HV := Lib.hid hV
  obtain ⟨x0, hx0⟩ : ∃ x, l[0]? = some x := ⟨_, List.getElem?_eq_getElem (by omega)⟩
  obtain ⟨b, off, hao, hbl, hc0⟩ := hr.spot hx0
  rw [Nat.add_zero] at hc0
  have HX0 := Lib.hid (lmin_first hx0)
  have HR := Lib.hid hr; have HN := Lib.hid hn
  subst hao
  have hnn : ¬ ((n : Int) < 1) := by omega
  have hn0 : (0 : Int) < (n : Int) := by omega
  clear hV hr hn hx0
  go_enter Try.func99, Try.ntmps99
  go_wp2
  go_loopw [3, 4] (MinRel l n w) (fun _ i _ => n - (intOf i).toNat)
  case atStart => exact ⟨1, Nat.le_refl _, h1, rfl, by rw [HX0.out], rfl⟩
  case round =>
    obtain ⟨j, hj1, hj, rfl, rfl, rfl⟩ := hrel
    clear hc0 hnn hn0 HX0
    by_cases hl : j < n
    · obtain ⟨x, hx⟩ : ∃ x, l[j]? = some x := ⟨_, List.getElem?_eq_getElem (by rw [HN.out]; omega)⟩
      obtain ⟨b', off', hao, _, hc⟩ := HR.out.spot hx
      injection hao with hao
      injection hao with e1 e2 _
      subst e1 e2
      have hjz : (j : Int) < (n : Int) := by omega
      have hjx : 0 ≤ (j : Int) ∧ (j : Int) < (n : Int) := by omega
      have HQ := Lib.hid (lmin_step hj1 hx)
      obtain ⟨M, hM⟩ : ∃ M, lmin (l.take j) = M := ⟨_, rfl⟩
      rw [hM] at HQ ⊢
      clear hM hx
      go_wp2
      go_roundw
      case rel => exact ⟨j + 1, by omega, by omega, by first | rfl | go_num, by rw [HQ.out], rfl⟩
      case measure => simp [intOf]; omega
    · obtain rfl : j = n := by omega
      have HM := Lib.hid (show lmin (l.take j) = V by rw [← HV.out, List.take_of_length_le (by rw [HN.out]; exact Nat.le_refl _)])
      rw [HM.out]
      clear hj hl
      go_wp2
      go_ret
      exact ⟨rfl, rfl⟩
theorem Min_any (l : List Int) (v : Value) (w : World) (h1 : 1 ≤ l.length) (hn2 : l.length ≤ 100000) (hr : ReadsI w v l) :
    Calls Try.prog 99 #[v] w fun e w' => e = .returned (.int .i64 (lmin l)) ∧ w = w' := by
  obtain ⟨ao, cap, rfl⟩ := hr.shape
  exact Min_core l ao _ cap w rfl h1 hn2 hr
set_option linter.unusedSimpArgs false in
set_option linter.unusedVariables false in
set_option maxHeartbeats 8000000 in
set_option maxRecDepth 100000 in
theorem rangeOf_2 (size m sum rng last H L R : Int) (l : List Int) (v : Value) (w : World) (hr : ReadsI w v l) (h1 : 1 ≤ l.length) (hn : l.length ≤ 100000) (hH : lmax l = H) (hL : lmin l = L) (hR : IntKind.i64.wrap (H - L) = R) :
    Calls Try.prog 95 #[.agg #[.int .i64 size, .int .i64 m, .int .i64 sum, .int .i64 rng, .int .i64 last], v] w fun e w' => e = .returned (.int .i64 R) ∧ Below w.heap.size w w' := by
  have HM := Lib.hid (fun (W : World) (hW : Below w.heap.size w W) => hH ▸ Max_any l v W h1 hn (hr.below hW))
  have HN := Lib.hid (fun (W : World) (hW : Below w.heap.size w W) => hL ▸ Min_any l v W h1 hn (hr.below hW))
  obtain ⟨ao, cap, rfl⟩ := hr.shape
  clear hr h1 hn hH hL
  obtain ⟨w2, hw2⟩ : ∃ w2, w.alloc (.cells #[.int .i64 size, .int .i64 m, .int .i64 sum, .int .i64 rng, .int .i64 last] 75) = w2 := ⟨_, rfl⟩
  have HB2 := Lib.hid (show Below w.heap.size w w2 by rw [← hw2]; exact (Below.refl _ _).alloc (Nat.le_refl _) _)
  have HV2 := Lib.hid (show Has w2 w.heap.size [.int .i64 size, .int .i64 m, .int .i64 sum, .int .i64 rng, .int .i64 last] 75 by rw [← hw2]; exact Has.new w _ _)
  have HW2 := Lib.hid hw2
  clear hw2
  have hbase := Nat.le_refl w.heap.size
  go_enter Try.func95, Try.ntmps95
  go_upto_region 1 with fail
  rw [HW2.out]
  go_wp2_with fail
  refine (HM.out w2 HB2.out).mono ?_
  rintro e w3 ⟨rfl, rfl⟩
  go_wp2_with fail
  refine (HN.out w2 HB2.out).mono ?_
  rintro e w3 ⟨rfl, rfl⟩
  go_wp2
  go_ret
  exact ⟨rfl, HB2.out⟩
set_option linter.unusedSimpArgs false in
set_option linter.unusedVariables false in
set_option maxHeartbeats 8000000 in
set_option maxRecDepth 100000 in
theorem rangeOf_1z (size sum rng last : Int) (v : Value) (w : World) :
    Calls Try.prog 91 #[.agg #[.int .i64 size, .int .i64 0, .int .i64 sum, .int .i64 rng, .int .i64 last], v] w fun e w' => e = .returned (.int .i64 0) ∧ Below w.heap.size w w' := by
  obtain ⟨w2, hw2⟩ : ∃ w2, w.alloc (.cells #[.int .i64 size, .int .i64 0, .int .i64 sum, .int .i64 rng, .int .i64 last] 74) = w2 := ⟨_, rfl⟩
  have HB2 := Lib.hid (show Below w.heap.size w w2 by rw [← hw2]; exact (Below.refl _ _).alloc (Nat.le_refl _) _)
  have HV2 := Lib.hid (show Has w2 w.heap.size [.int .i64 size, .int .i64 0, .int .i64 sum, .int .i64 rng, .int .i64 last] 74 by rw [← hw2]; exact Has.new w _ _)
  have HW2 := Lib.hid hw2
  clear hw2
  have hbase := Nat.le_refl w.heap.size
  go_enter Try.func91, Try.ntmps91
  go_upto_region 1 with fail
  rw [HW2.out]
  have qb0_0 : w2.cell? ⟨w.heap.size, 0, none⟩ = some (.int .i64 size) := HV2.out.cell 0
  have qb1_0 : w2.cell? ⟨w.heap.size, 1, none⟩ = some (.int .i64 0) := HV2.out.cell 1
  have qb2_0 : w2.cell? ⟨w.heap.size, 2, none⟩ = some (.int .i64 sum) := HV2.out.cell 2
  have qb3_0 : w2.cell? ⟨w.heap.size, 3, none⟩ = some (.int .i64 rng) := HV2.out.cell 3
  have qb4_0 : w2.cell? ⟨w.heap.size, 4, none⟩ = some (.int .i64 last) := HV2.out.cell 4
  have lb_0 : w.heap.size < w2.heap.size := HV2.out.lt
  go_wp2
  go_ret
  exact ⟨rfl, HB2.out⟩
set_option linter.unusedSimpArgs false in
set_option linter.unusedVariables false in
set_option maxHeartbeats 8000000 in
set_option maxRecDepth 100000 in
theorem rangeOf_1 (size m sum rng last x D E R : Int) (l : List Int) (v : Value) (w : World) (hr : ReadsI w v l) (hm : (m == 0) = false) (h1 : l.length ≠ 0) (hx : l.getD 0 0 = x) (hD : IntKind.i64.wrap (x - last) = D) (hE : IntKind.i64.wrap (last - x) = E) (hR : max D E = R) :
    Calls Try.prog 91 #[.agg #[.int .i64 size, .int .i64 m, .int .i64 sum, .int .i64 rng, .int .i64 last], v] w fun e w' => e = .returned (.int .i64 R) ∧ Below w.heap.size w w' := by
  have HRW := Lib.hid (fun (W : World) (hW : Below w.heap.size w W) => hr.below hW)
  obtain ⟨ao, cap, rfl⟩ := hr.shape
  have HX : Hid (l[0]? = some x) := Lib.hid (by rw [← hx, List.getD_eq_getElem?_getD, List.getElem?_eq_getElem (by omega)]; rfl)
  obtain ⟨n, hn⟩ : ∃ n, l.length = n := ⟨_, rfl⟩
  rw [hn] at h1 HRW ⊢
  have hn0 : 0 ≤ (0 : Int) ∧ (0 : Int) < (n : Int) := by omega
  clear hr hx hn h1
  obtain ⟨w3, hw3⟩ : ∃ w3, w.alloc (.cells #[.int .i64 size, .int .i64 m, .int .i64 sum, .int .i64 rng, .int .i64 last] 74) = w3 := ⟨_, rfl⟩
  obtain ⟨b, off, hao, hbl, hc⟩ := (HRW.out w3 (by rw [← hw3]; exact (Below.refl _ _).alloc (Nat.le_refl _) _)).spot HX.out
  rw [Nat.add_zero] at hc
  subst hao
  skip
  have HB2 := Lib.hid (show Below w.heap.size w w3 by rw [← hw3]; exact (Below.refl _ _).alloc (Nat.le_refl _) _)
  have HV2 := Lib.hid (show Has w3 w.heap.size [.int .i64 size, .int .i64 m, .int .i64 sum, .int .i64 rng, .int .i64 last] 74 by rw [← hw3]; exact Has.new w _ _)
  have HW2 := Lib.hid hw3
  clear hw3
  have hbase := Nat.le_refl w.heap.size
  go_enter Try.func91, Try.ntmps91
  go_upto_region 1 with fail
  rw [HW2.out]
  have qb0_0 : w3.cell? ⟨w.heap.size, 0, none⟩ = some (.int .i64 size) := HV2.out.cell 0
  have qb1_0 : w3.cell? ⟨w.heap.size, 1, none⟩ = some (.int .i64 m) := HV2.out.cell 1
  have qb2_0 : w3.cell? ⟨w.heap.size, 2, none⟩ = some (.int .i64 sum) := HV2.out.cell 2
  have qb3_0 : w3.cell? ⟨w.heap.size, 3, none⟩ = some (.int .i64 rng) := HV2.out.cell 3
  have qb4_0 : w3.cell? ⟨w.heap.size, 4, none⟩ = some (.int .i64 last) := HV2.out.cell 4
  have lb_0 : w.heap.size < w3.heap.size := HV2.out.lt
  go_upto_region 3 with fail
  have e1 := hD; have e2 := hE; have e3 := hR
  go_region
  all_goals (go_wp2; go_ret; exact ⟨rfl, HB2.out.drew⟩)
set_option linter.unusedSimpArgs false in
set_option linter.unusedVariables false in
set_option maxHeartbeats 8000000 in
set_option maxRecDepth 100000 in
theorem measure_2 (size m sum rng last f X Y : Int) (w : World) (mf : (∀ W, Calls Try.prog 30 #[.int .i64 0, .int .i64 size] W fun e w' => e = .returned (.int .i64 f) ∧ Below W.heap.size W w')) (e1 : IntKind.i64.wrap (f * rng) = X) (e2 : IntKind.i64.wrap (X * size) = Y) :
    Calls Try.prog 94 #[.agg #[.int .i64 size, .int .i64 m, .int .i64 sum, .int .i64 rng, .int .i64 last]] w fun e w' => e = .returned (.tuple #[.int .i64 30000, .int .i64 Y]) ∧ Below w.heap.size w w' := by
  have MF := Lib.hid mf
  clear mf
  obtain ⟨w2, hw2⟩ : ∃ w2, w.alloc (.cells #[.int .i64 size, .int .i64 m, .int .i64 sum, .int .i64 rng, .int .i64 last] 75) = w2 := ⟨_, rfl⟩
  have HB2 := Lib.hid (show Below w.heap.size w w2 by rw [← hw2]; exact (Below.refl _ _).alloc (Nat.le_refl _) _)
  have HV2 := Lib.hid (show Has w2 w.heap.size [.int .i64 size, .int .i64 m, .int .i64 sum, .int .i64 rng, .int .i64 last] 75 by rw [← hw2]; exact Has.new w _ _)
  have HW2 := Lib.hid hw2
  clear hw2
  have hbase := Nat.le_refl w.heap.size
  go_enter Try.func94, Try.ntmps94
  go_upto_region 1 with fail
  rw [HW2.out]
  refine wp_region_held_drew (S := (fun W' => W'.cell? ⟨w.heap.size, 0, none⟩ = some (.int .i64 size) ∧ W'.cell? ⟨w.heap.size, 1, none⟩ = some (.int .i64 m) ∧ W'.cell? ⟨w.heap.size, 2, none⟩ = some (.int .i64 sum) ∧ W'.cell? ⟨w.heap.size, 3, none⟩ = some (.int .i64 rng) ∧ W'.cell? ⟨w.heap.size, 4, none⟩ = some (.int .i64 last))) (by kernel_rfl) ⟨HV2.out.cell 0, HV2.out.cell 1, HV2.out.cell 2, HV2.out.cell 3, HV2.out.cell 4⟩ (fun hHeld => ?_)
  refine regTake 0 (some 4) (v := ?_) rfl rfl (by kernel_rfl) (by kernel_rfl) (by kernel_rfl) (fun _ _ _ h => h) (by rfl) hHeld ?_ ?_
  rotate_left 1
  · (intro w hSw; (try dsimp only at hSw); go_simp; try with_reducible rfl)
  simp only [Act.put, List.setIfInBounds_toArray, List.set_cons_zero, List.set_cons_succ]
  refine regTake 1 (some 5) (v := ?_) rfl rfl (by kernel_rfl) (by kernel_rfl) (by kernel_rfl) (fun _ _ _ h => h) (by rfl) hHeld ?_ ?_
  rotate_left 1
  · (intro w hSw; (try dsimp only at hSw); go_simp; try with_reducible rfl)
  simp only [Act.put, List.setIfInBounds_toArray, List.set_cons_zero, List.set_cons_succ]
  refine regTake 3 (some 7) (v := ?_) rfl rfl (by kernel_rfl) (by kernel_rfl) (by kernel_rfl) (fun _ _ _ h => h) (by rfl) hHeld ?_ ?_
  rotate_left 1
  · (intro w hSw; (try dsimp only at hSw); go_simp; try with_reducible rfl)
  simp only [Act.put, List.setIfInBounds_toArray, List.set_cons_zero, List.set_cons_succ]
  refine regTake 4 (some 8) (v := ?_) rfl rfl (by kernel_rfl) (by kernel_rfl) (by kernel_rfl) (fun _ _ _ h => h) (by rfl) hHeld ?_ ?_
  rotate_left 1
  · (intro w hSw; (try dsimp only at hSw); go_simp; try with_reducible rfl)
  simp only [Act.put, List.setIfInBounds_toArray, List.set_cons_zero, List.set_cons_succ]
  refine regTake 6 (some 10) (v := ?_) rfl rfl (by kernel_rfl) (by kernel_rfl) (by kernel_rfl) (fun _ _ _ h => h) (by rfl) hHeld ?_ ?_
  rotate_left 1
  · (intro w hSw; (try dsimp only at hSw); go_simp; try with_reducible rfl)
  simp only [Act.put, List.setIfInBounds_toArray, List.set_cons_zero, List.set_cons_succ]
  refine regTake 7 (some 11) (v := ?_) rfl rfl (by kernel_rfl) (by kernel_rfl) (by kernel_rfl) (fun _ _ _ h => h) (by rfl) hHeld ?_ ?_
  rotate_left 1
  · (intro w hSw; (try dsimp only at hSw); go_simp; try with_reducible rfl)
  simp only [Act.put, List.setIfInBounds_toArray, List.set_cons_zero, List.set_cons_succ]
  refine regCall 2 (some 6) (f := 30) (args := ?_) rfl rfl (by kernel_rfl) (by rfl) ?_ ?_
  rotate_left 1
  · (go_simp; try with_reducible rfl)
  refine (MF.out _).mono ?_
  rintro e wx2 ⟨rfl, kg1⟩
  refine ⟨_, rfl, ⟨(HV2.out.step kg1 rfl).cell 0, (HV2.out.step kg1 rfl).cell 1, (HV2.out.step kg1 rfl).cell 2, (HV2.out.step kg1 rfl).cell 3, (HV2.out.step kg1 rfl).cell 4⟩, fun hHeld => ?_⟩
  simp only [Act.put, List.setIfInBounds_toArray, List.set_cons_zero, List.set_cons_succ]
  have HBg1 := Lib.hid ((HB2.out.drew).trans (kg1.mono (Nat.le_trans hbase (HB2.out.drew).size)))
  have Hbg1 := Lib.hid (HV2.out.step kg1 rfl)
  clear kg1
  refine regTake 5 (some 9) (v := ?_) rfl rfl (by kernel_rfl) (by kernel_rfl) (by kernel_rfl) (fun _ _ _ h => h) (by rfl) hHeld ?_ ?_
  rotate_left 1
  · (intro w hSw; (try dsimp only at hSw); go_simp; try with_reducible rfl)
  simp only [Act.put, List.setIfInBounds_toArray, List.set_cons_zero, List.set_cons_succ]
  refine regTake 8 (some 12) (v := ?_) rfl rfl (by kernel_rfl) (by kernel_rfl) (by kernel_rfl) (fun _ _ _ h => h) (by rfl) hHeld ?_ ?_
  rotate_left 1
  · (intro w hSw; (try dsimp only at hSw); go_simp; try with_reducible rfl)
  simp only [Act.put, List.setIfInBounds_toArray, List.set_cons_zero, List.set_cons_succ]
  refine regTake 9 (some 2) (v := ?_) rfl rfl (by kernel_rfl) (by kernel_rfl) (by kernel_rfl) (fun _ _ _ h => h) (by rfl) hHeld ?_ ?_
  rotate_left 1
  · (intro w hSw; (try dsimp only at hSw); go_simp; try with_reducible rfl)
  simp only [Act.put, List.setIfInBounds_toArray, List.set_cons_zero, List.set_cons_succ]
  refine regTake 10 (some 3) (v := ?_) rfl rfl (by kernel_rfl) (by kernel_rfl) (by kernel_rfl) (fun _ _ _ h => h) (by rfl) hHeld ?_ ?_
  rotate_left 1
  · (intro w hSw; (try dsimp only at hSw); go_simp; try with_reducible rfl)
  simp only [Act.put, List.setIfInBounds_toArray, List.set_cons_zero, List.set_cons_succ]
  refine wpAnyH_done (by kernel_rfl) ?_ _
  clear hHeld
  go_wp2
  go_ret2
  exact ⟨rfl, HBg1.out⟩
set_option linter.unusedSimpArgs false in
set_option linter.unusedVariables false in
set_option maxHeartbeats 8000000 in
set_option maxRecDepth 100000 in
theorem measure_1 (size m sum rng last f R X Y Z : Int) (w : World) (mw : (∀ W, Calls Try.prog 93 #[.agg #[.int .i64 size, .int .i64 m, .int .i64 sum, .int .i64 rng, .int .i64 last]] W fun e w' => e = .returned (.int .i64 2) ∧ Below W.heap.size W w')) (mf : (∀ W, Calls Try.prog 30 #[.int .i64 3, .int .i64 2] W fun e w' => e = .returned (.int .i64 f) ∧ Below W.heap.size W w')) (mr : (∀ W, Calls Try.prog 92 #[.agg #[.int .i64 size, .int .i64 m, .int .i64 sum, .int .i64 rng, .int .i64 last]] W fun e w' => e = .returned (.int .i64 R) ∧ Below W.heap.size W w')) (e1 : IntKind.i64.wrap (f * R) = X) (e2 : IntKind.i64.wrap (10000 * m) = Y) (e3 : IntKind.i64.wrap (Y * rng) = Z) :
    Calls Try.prog 90 #[.agg #[.int .i64 size, .int .i64 m, .int .i64 sum, .int .i64 rng, .int .i64 last]] w fun e w' => e = .returned (.tuple #[.int .i64 X, .int .i64 Z]) ∧ Below w.heap.size w w' := by
  have MF := Lib.hid mf; have MW := Lib.hid mw; have MR := Lib.hid mr
  clear mf mw mr
  obtain ⟨w2, hw2⟩ : ∃ w2, w.alloc (.cells #[.int .i64 size, .int .i64 m, .int .i64 sum, .int .i64 rng, .int .i64 last] 74) = w2 := ⟨_, rfl⟩
  have HB2 := Lib.hid (show Below w.heap.size w w2 by rw [← hw2]; exact (Below.refl _ _).alloc (Nat.le_refl _) _)
  have HV2 := Lib.hid (show Has w2 w.heap.size [.int .i64 size, .int .i64 m, .int .i64 sum, .int .i64 rng, .int .i64 last] 74 by rw [← hw2]; exact Has.new w _ _)
  have HW2 := Lib.hid hw2
  clear hw2
  have hbase := Nat.le_refl w.heap.size
  go_enter Try.func90, Try.ntmps90
  go_upto_region 1 with fail
  rw [HW2.out]
  refine wp_region_held_drew (S := (fun W' => W'.cell? ⟨w.heap.size, 0, none⟩ = some (.int .i64 size) ∧ W'.cell? ⟨w.heap.size, 1, none⟩ = some (.int .i64 m) ∧ W'.cell? ⟨w.heap.size, 2, none⟩ = some (.int .i64 sum) ∧ W'.cell? ⟨w.heap.size, 3, none⟩ = some (.int .i64 rng) ∧ W'.cell? ⟨w.heap.size, 4, none⟩ = some (.int .i64 last))) (by kernel_rfl) ⟨HV2.out.cell 0, HV2.out.cell 1, HV2.out.cell 2, HV2.out.cell 3, HV2.out.cell 4⟩ (fun hHeld => ?_)
  refine regTake 0 (some 4) (v := ?_) rfl rfl (by kernel_rfl) (by kernel_rfl) (by kernel_rfl) (fun _ _ _ h => h) (by rfl) hHeld ?_ ?_
  rotate_left 1
  · (intro w hSw; (try dsimp only at hSw); go_simp; try with_reducible rfl)
  simp only [Act.put, List.setIfInBounds_toArray, List.set_cons_zero, List.set_cons_succ]
  refine regTake 3 (some 7) (v := ?_) rfl rfl (by kernel_rfl) (by kernel_rfl) (by kernel_rfl) (fun _ _ _ h => h) (by rfl) hHeld ?_ ?_
  rotate_left 1
  · (intro w hSw; (try dsimp only at hSw); go_simp; try with_reducible rfl)
  simp only [Act.put, List.setIfInBounds_toArray, List.set_cons_zero, List.set_cons_succ]
  refine regTake 6 (some 10) (v := ?_) rfl rfl (by kernel_rfl) (by kernel_rfl) (by kernel_rfl) (fun _ _ _ h => h) (by rfl) hHeld ?_ ?_
  rotate_left 1
  · (intro w hSw; (try dsimp only at hSw); go_simp; try with_reducible rfl)
  simp only [Act.put, List.setIfInBounds_toArray, List.set_cons_zero, List.set_cons_succ]
  refine regTake 7 (some 11) (v := ?_) rfl rfl (by kernel_rfl) (by kernel_rfl) (by kernel_rfl) (fun _ _ _ h => h) (by rfl) hHeld ?_ ?_
  rotate_left 1
  · (intro w hSw; (try dsimp only at hSw); go_simp; try with_reducible rfl)
  simp only [Act.put, List.setIfInBounds_toArray, List.set_cons_zero, List.set_cons_succ]
  refine regTake 8 (some 12) (v := ?_) rfl rfl (by kernel_rfl) (by kernel_rfl) (by kernel_rfl) (fun _ _ _ h => h) (by rfl) hHeld ?_ ?_
  rotate_left 1
  · (intro w hSw; (try dsimp only at hSw); go_simp; try with_reducible rfl)
  simp only [Act.put, List.setIfInBounds_toArray, List.set_cons_zero, List.set_cons_succ]
  refine regTake 9 (some 13) (v := ?_) rfl rfl (by kernel_rfl) (by kernel_rfl) (by kernel_rfl) (fun _ _ _ h => h) (by rfl) hHeld ?_ ?_
  rotate_left 1
  · (intro w hSw; (try dsimp only at hSw); go_simp; try with_reducible rfl)
  simp only [Act.put, List.setIfInBounds_toArray, List.set_cons_zero, List.set_cons_succ]
  refine regTake 10 (some 14) (v := ?_) rfl rfl (by kernel_rfl) (by kernel_rfl) (by kernel_rfl) (fun _ _ _ h => h) (by rfl) hHeld ?_ ?_
  rotate_left 1
  · (intro w hSw; (try dsimp only at hSw); go_simp; try with_reducible rfl)
  simp only [Act.put, List.setIfInBounds_toArray, List.set_cons_zero, List.set_cons_succ]
  refine regTake 11 (some 15) (v := ?_) rfl rfl (by kernel_rfl) (by kernel_rfl) (by kernel_rfl) (fun _ _ _ h => h) (by rfl) hHeld ?_ ?_
  rotate_left 1
  · (intro w hSw; (try dsimp only at hSw); go_simp; try with_reducible rfl)
  simp only [Act.put, List.setIfInBounds_toArray, List.set_cons_zero, List.set_cons_succ]
  refine regCall 1 (some 5) (f := 93) (args := ?_) rfl rfl (by kernel_rfl) (by rfl) ?_ ?_
  rotate_left 1
  · (go_simp; try with_reducible rfl)
  refine (MW.out _).mono ?_
  rintro e wx1 ⟨rfl, kg1⟩
  refine ⟨_, rfl, ⟨(HV2.out.step kg1 rfl).cell 0, (HV2.out.step kg1 rfl).cell 1, (HV2.out.step kg1 rfl).cell 2, (HV2.out.step kg1 rfl).cell 3, (HV2.out.step kg1 rfl).cell 4⟩, fun hHeld => ?_⟩
  simp only [Act.put, List.setIfInBounds_toArray, List.set_cons_zero, List.set_cons_succ]
  have HBg1 := Lib.hid ((HB2.out.drew).trans (kg1.mono (Nat.le_trans hbase (HB2.out.drew).size)))
  have Hbg1 := Lib.hid (HV2.out.step kg1 rfl)
  clear kg1
  refine regCall 2 (some 6) (f := 30) (args := ?_) rfl rfl (by kernel_rfl) (by rfl) ?_ ?_
  rotate_left 1
  · (go_simp; try with_reducible rfl)
  refine (MF.out _).mono ?_
  rintro e wx2 ⟨rfl, kg2⟩
  refine ⟨_, rfl, ⟨(Hbg1.out.step kg2 rfl).cell 0, (Hbg1.out.step kg2 rfl).cell 1, (Hbg1.out.step kg2 rfl).cell 2, (Hbg1.out.step kg2 rfl).cell 3, (Hbg1.out.step kg2 rfl).cell 4⟩, fun hHeld => ?_⟩
  simp only [Act.put, List.setIfInBounds_toArray, List.set_cons_zero, List.set_cons_succ]
  have HBg2 := Lib.hid ((HBg1.out).trans (kg2.mono (Nat.le_trans hbase (HBg1.out).size)))
  have Hbg2 := Lib.hid (Hbg1.out.step kg2 rfl)
  clear kg2
  refine regCall 4 (some 8) (f := 92) (args := ?_) rfl rfl (by kernel_rfl) (by rfl) ?_ ?_
  rotate_left 1
  · (go_simp; try with_reducible rfl)
  refine (MR.out _).mono ?_
  rintro e wx4 ⟨rfl, kg3⟩
  refine ⟨_, rfl, ⟨(Hbg2.out.step kg3 rfl).cell 0, (Hbg2.out.step kg3 rfl).cell 1, (Hbg2.out.step kg3 rfl).cell 2, (Hbg2.out.step kg3 rfl).cell 3, (Hbg2.out.step kg3 rfl).cell 4⟩, fun hHeld => ?_⟩
  simp only [Act.put, List.setIfInBounds_toArray, List.set_cons_zero, List.set_cons_succ]
  have HBg3 := Lib.hid ((HBg2.out).trans (kg3.mono (Nat.le_trans hbase (HBg2.out).size)))
  have Hbg3 := Lib.hid (Hbg2.out.step kg3 rfl)
  clear kg3
  refine regTake 5 (some 9) (v := ?_) rfl rfl (by kernel_rfl) (by kernel_rfl) (by kernel_rfl) (fun _ _ _ h => h) (by rfl) hHeld ?_ ?_
  rotate_left 1
  · (intro w hSw; (try dsimp only at hSw); go_simp; try with_reducible rfl)
  simp only [Act.put, List.setIfInBounds_toArray, List.set_cons_zero, List.set_cons_succ]
  refine regTake 12 (some 2) (v := ?_) rfl rfl (by kernel_rfl) (by kernel_rfl) (by kernel_rfl) (fun _ _ _ h => h) (by rfl) hHeld ?_ ?_
  rotate_left 1
  · (intro w hSw; (try dsimp only at hSw); go_simp; try with_reducible rfl)
  simp only [Act.put, List.setIfInBounds_toArray, List.set_cons_zero, List.set_cons_succ]
  refine regTake 13 (some 3) (v := ?_) rfl rfl (by kernel_rfl) (by kernel_rfl) (by kernel_rfl) (fun _ _ _ h => h) (by rfl) hHeld ?_ ?_
  rotate_left 1
  · (intro w hSw; (try dsimp only at hSw); go_simp; try with_reducible rfl)
  simp only [Act.put, List.setIfInBounds_toArray, List.set_cons_zero, List.set_cons_succ]
  refine wpAnyH_done (by kernel_rfl) ?_ _
  clear hHeld
  go_wp2
  go_ret2
  exact ⟨rfl, HBg3.out⟩
set_option linter.unusedSimpArgs false in
set_option linter.unusedVariables false in
set_option maxHeartbeats 8000000 in
set_option maxRecDepth 100000 in
theorem new15_0 (n : Int) (h : 1 ≤ n ∧ n ≤ 10) (w : World) : Calls Try.prog 8 #[.int .i64 n] w fun e w' => e = .returned (.tuple #[.agg #[.int .i64 n, .int .i64 0, .int .i64 0, .int .i64 0, .int .i64 0], .int .i64 0]) ∧ Below w.heap.size w w' := by
  have ms := fun W => bsize_any n W
  rw [show sizB n = true from decide_eq_true h] at ms
  have MS := Lib.hid ms
  clear ms h
  obtain ⟨w2, hw2⟩ : ∃ w2, w.alloc (.cells #[.int .i64 0, .int .i64 0, .int .i64 0, .int .i64 0, .int .i64 0] 23) = w2 := ⟨_, rfl⟩
  have HB2 := Lib.hid (show Below w.heap.size w w2 by rw [← hw2]; exact (Below.refl _ _).alloc (Nat.le_refl _) _)
  have HV2 := Lib.hid (show Has w2 w.heap.size [.int .i64 0, .int .i64 0, .int .i64 0, .int .i64 0, .int .i64 0] 23 by rw [← hw2]; exact Has.new w _ _)
  have HW2 := Lib.hid hw2
  clear hw2
  have hbase := Nat.le_refl w.heap.size
  go_enter Try.func8, Try.ntmps8
  go_upto_region 1 with fail
  rw [HW2.out]
  go_wp2_with fail
  refine (MS.out _).mono ?_
  rintro e w3 ⟨rfl, rfl⟩
  have HP := Lib.hid (HV2.out.put5B (.int .i64 n) (.int .i64 0) (.int .i64 0) (.int .i64 0) (.int .i64 0))
  have HQ := Lib.hid (Below.put5B HB2.out (b := w.heap.size) (Nat.le_refl _) (.int .i64 n) (.int .i64 0) (.int .i64 0) (.int .i64 0) (.int .i64 0))
  have c0 := HV2.out.cell 0; have c1 := HV2.out.cell 1; have c2 := HV2.out.cell 2; have c3 := HV2.out.cell 3; have c4 := HV2.out.cell 4
  simp only [List.getElem?_cons_zero, List.getElem?_cons_succ] at c0 c1 c2 c3 c4
  have f0 := HV2.out.frozen 0; have f1 := HV2.out.frozen 1; have f2 := HV2.out.frozen 2; have f3 := HV2.out.frozen 3; have f4 := HV2.out.frozen 4
  have hlt := HV2.out.lt
  go_wp2_with fail
  (try simp only [Exit.inBlock, Exit.then])
  exact bodyPost_ret (results_cell_tmp rfl rfl (loadBas HP.out)) rfl ⟨rfl, HQ.out⟩
set_option linter.unusedSimpArgs false in
set_option linter.unusedVariables false in
set_option maxHeartbeats 8000000 in
set_option maxRecDepth 100000 in
theorem new15_1 (n : Int) (h : ¬ (1 ≤ n ∧ n ≤ 10)) (w : World) : Calls Try.prog 8 #[.int .i64 n] w fun e w' => e = .returned (.tuple #[.agg #[.int .i64 0, .int .i64 0, .int .i64 0, .int .i64 0, .int .i64 0], .int .i64 1]) ∧ Below w.heap.size w w' := by
  have ms := fun W => bsize_any n W
  rw [show sizB n = false from decide_eq_false h] at ms
  have MS := Lib.hid ms
  clear ms h
  obtain ⟨w2, hw2⟩ : ∃ w2, w.alloc (.cells #[.int .i64 0, .int .i64 0, .int .i64 0, .int .i64 0, .int .i64 0] 23) = w2 := ⟨_, rfl⟩
  have HB2 := Lib.hid (show Below w.heap.size w w2 by rw [← hw2]; exact (Below.refl _ _).alloc (Nat.le_refl _) _)
  have HV2 := Lib.hid (show Has w2 w.heap.size [.int .i64 0, .int .i64 0, .int .i64 0, .int .i64 0, .int .i64 0] 23 by rw [← hw2]; exact Has.new w _ _)
  have HW2 := Lib.hid hw2
  clear hw2
  have hbase := Nat.le_refl w.heap.size
  go_enter Try.func8, Try.ntmps8
  go_upto_region 1 with fail
  rw [HW2.out]
  go_wp2_with fail
  refine (MS.out _).mono ?_
  rintro e w3 ⟨rfl, rfl⟩
  have HP := Lib.hid (HV2.out.put5B (.int .i64 0) (.int .i64 0) (.int .i64 0) (.int .i64 0) (.int .i64 0))
  have HQ := Lib.hid (Below.put5B HB2.out (b := w.heap.size) (Nat.le_refl _) (.int .i64 0) (.int .i64 0) (.int .i64 0) (.int .i64 0) (.int .i64 0))
  have c0 := HV2.out.cell 0; have c1 := HV2.out.cell 1; have c2 := HV2.out.cell 2; have c3 := HV2.out.cell 3; have c4 := HV2.out.cell 4
  simp only [List.getElem?_cons_zero, List.getElem?_cons_succ] at c0 c1 c2 c3 c4
  have f0 := HV2.out.frozen 0; have f1 := HV2.out.frozen 1; have f2 := HV2.out.frozen 2; have f3 := HV2.out.frozen 3; have f4 := HV2.out.frozen 4
  have hlt := HV2.out.lt
  go_wp2_with fail
  (try simp only [Exit.inBlock, Exit.then])
  exact bodyPost_ret (results_cell_tmp rfl rfl (loadBas HP.out)) rfl ⟨rfl, HQ.out⟩
theorem new15_any (n : Int) (w : World) : Calls Try.prog 8 #[.int .i64 n] w fun e w' => e = .returned (.tuple #[basV (newA n), .int .i64 (newE n)]) ∧ Below w.heap.size w w' := by
  unfold newA newE
  by_cases h : 1 ≤ n ∧ n ≤ 10
  · rw [if_pos h, if_pos h]; exact new15_0 n h w
  · rw [if_neg h, if_neg h]; exact new15_1 n h w
end Go.Proofs.Ytfafkdbflmennaa
