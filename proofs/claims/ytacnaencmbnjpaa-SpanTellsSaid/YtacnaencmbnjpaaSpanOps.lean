/- span.Add, Sub, Mul, Div, Join: as the numbers say; nothing that was in memory before is changed. -/
import Derived.Test.YtacnaencmbnjpaaEnds
namespace Go.Proofs.Ytacnaencmbnjpaa
open Go.RowKit

/-- From lo to hi if both are ints, else ErrOver; ErrArg if a span may not be. -/
def oLo (a b c d lo hi : Int) : Int := if a ≤ b ∧ c ≤ d then rLo lo hi else 0
def oHi (a b c d lo hi : Int) : Int := if a ≤ b ∧ c ≤ d then rHi lo hi else 0
def oErr (a b c d lo hi : Int) : Int := if a ≤ b ∧ c ≤ d then rErr lo hi else 1
theorem oLo_r {a b c d lo hi : Int} (h : a ≤ b ∧ c ≤ d) : oLo a b c d lo hi = rLo lo hi := if_pos h
theorem oHi_r {a b c d lo hi : Int} (h : a ≤ b ∧ c ≤ d) : oHi a b c d lo hi = rHi lo hi := if_pos h
theorem oErr_r {a b c d lo hi : Int} (h : a ≤ b ∧ c ≤ d) : oErr a b c d lo hi = rErr lo hi := if_pos h
theorem oLo_n {a b c d lo hi : Int} (h : ¬ (a ≤ b ∧ c ≤ d)) : oLo a b c d lo hi = 0 := if_neg h
theorem oHi_n {a b c d lo hi : Int} (h : ¬ (a ≤ b ∧ c ≤ d)) : oHi a b c d lo hi = 0 := if_neg h
theorem oErr_n {a b c d lo hi : Int} (h : ¬ (a ≤ b ∧ c ≤ d)) : oErr a b c d lo hi = 1 := if_neg h
theorem zOf_at (F : Nat → Int → Int → Int) (a b c d : Int) (j i : Nat) (hi : i < 4) : zOf F a b c d (4 * j + i) = F j (cX a b i) (cY c d i) := by
  unfold zOf
  rw [show (4 * j + i) / 4 = j by omega, show (4 * j + i) % 4 = i by omega]
theorem cX_is (a b : Int) (i : Nat) : cX a b i = a ∨ cX a b i = b := by unfold cX; split <;> simp
theorem cY_is (c d : Int) (i : Nat) : cY c d i = c ∨ cY c d i = d := by unfold cY; split <;> simp

theorem ends_num (n : Nat) (hn : n ≤ 2) (K : Nat → Nat) (F : Nat → Int → Int → Int) (a b c d lo hi : Int)
    (he : ∀ j, j < n → ∀ args w, (callFunc (K j) args).run Try.prog w = .ok (.enter (K j) args) w)
    (hc : ∀ j, j < n → ∀ x y, (x = a ∨ x = b) → (y = c ∨ y = d) → a ≤ b ∧ c ≤ d → ∀ w, Calls Try.prog (K j) #[.agg #[.int .i64 x, .int .i64 y]] w fun en w' => en = .returned (.tuple #[.int .i64 (ans (F j x y)), .int .i64 (err (F j x y))]) ∧ Below w.heap.size w w')
    (hE : Ends (zOf F a b c d) (4 * n) lo hi) (p : Nat) (w : World) (hk : ∀ j, j < n → w.cell? ⟨p, j, none⟩ = some (.func (.func (K j)) #[] #[])) :
    Calls Try.prog 32 #[.agg #[.int .i64 a, .int .i64 b], .agg #[.int .i64 c, .int .i64 d], .slice (some ⟨p, 0, none⟩) n n] w fun en w' => en = .returned (.tuple #[.agg #[.int .i64 (oLo a b c d lo hi), .int .i64 (oHi a b c d lo hi)], .int .i64 (oErr a b c d lo hi)]) ∧ Below w.heap.size w w' := by
  by_cases h : a ≤ b ∧ c ≤ d
  · rw [oLo_r h, oHi_r h, oErr_r h]
    refine ends_core a b c d p n w h.1 h.2 hn (zOf F a b c d) K hk he (fun j hj i hi w => ?_) _ _ _ (fun hz => ?_) (fun i hi' hz => ?_)
    · rw [zOf_at _ _ _ _ _ _ _ hi]
      exact hc j hj _ _ (cX_is a b i) (cY_is c d i) h w
    · have k := hE.ints.1 hz
      rw [rLo_ok k, rHi_ok k, rErr_ok k]
      exact ⟨(hE.mn k).symm, (hE.mx k).symm, rfl⟩
    · have k : ¬ (IsInt lo ∧ IsInt hi) := fun k => hz (hE.ints.2 k i hi')
      exact ⟨rLo_no k, rHi_no k, rErr_no k⟩
  · rw [oLo_n h, oHi_n h, oErr_n h]
    by_cases h1 : a ≤ b
    · exact ends_arg2 a b c d p n w h1 (fun k => h ⟨h1, k⟩)
    · exact ends_arg1 a b c d p n w h1

theorem enters_sum : ∀ args w, (callFunc 33 args).run Try.prog w = .ok (.enter 33 args) w := enters_of Try.func33 (by kernel_rfl) rfl
theorem enters_rest : ∀ args w, (callFunc 34 args).run Try.prog w = .ok (.enter 34 args) w := enters_of Try.func34 (by kernel_rfl) rfl
theorem enters_product : ∀ args w, (callFunc 38 args).run Try.prog w = .ok (.enter 38 args) w := enters_of Try.func38 (by kernel_rfl) rfl
theorem enters_down : ∀ args w, (callFunc 39 args).run Try.prog w = .ok (.enter 39 args) w := enters_of Try.func39 (by kernel_rfl) rfl
theorem enters_up : ∀ args w, (callFunc 40 args).run Try.prog w = .ok (.enter 40 args) w := enters_of Try.func40 (by kernel_rfl) rfl
theorem sadd_core (a b c d x y z : Int) (w : World)
    (m1 : ∀ p w, w.cell? ⟨p, 0, none⟩ = some (.func (.func 33) #[] #[]) → Calls Try.prog 32 #[.agg #[.int .i64 a, .int .i64 b], .agg #[.int .i64 c, .int .i64 d], .slice (some ⟨p, 0, none⟩) 1 1] w fun en w' => en = .returned (.tuple #[.agg #[.int .i64 x, .int .i64 y], .int .i64 z]) ∧ Below w.heap.size w w') :
    Calls Try.prog 9 #[.agg #[.int .i64 a, .int .i64 b], .agg #[.int .i64 c, .int .i64 d]] w fun en w' => en = .returned (.tuple #[.agg #[.int .i64 x, .int .i64 y], .int .i64 z]) ∧ Below w.heap.size w w' := by
  have M1 := Lib.hid m1
  clear m1
  go_enter Try.func9, Try.ntmps9
  go_wp2_with fail
  refine (M1.out _ _ ((Blk.newAt (by simp)).cell rfl)).mono ?_
  rintro e w1 ⟨rfl, hb⟩
  have kr : Blk w1 (w.heap.size + 1 + 1) #[.int .i64 0, .int .i64 0] := ((Blk.newAt (by simp)).alloc _).call hb
  have kw : Below w.heap.size w w1 := (((((Below.refl w.heap.size w).alloc (Nat.le_refl _) _).alloc (by simp) _).alloc (by simp; omega) _).alloc (by simp; omega) _).trans (hb.mono (by simp; omega))
  have Br := Lib.hid kr
  have HW1 := Lib.hid kw
  clear hb kw kr
  have lr := Br.out.lt
  have cr0 : w1.cell? ⟨(w.heap.size + 1 + 1), 0, none⟩ = some (.int .i64 0) := Br.out.cell rfl
  have fr0 := Br.out.free 0
  have cr1 : w1.cell? ⟨(w.heap.size + 1 + 1), 1, none⟩ = some (.int .i64 0) := Br.out.cell rfl
  have fr1 := Br.out.free 1
  go_wp2_with fail
  exact bodyPost_ret (v := .tuple #[.agg #[.int .i64 x, .int .i64 y], .int .i64 z]) (by simp [results, Try.results9, go_sem, cr0, cr1]) rfl ⟨rfl, ((HW1.out.setCell (p := ⟨(w.heap.size + 1 + 1), 0, none⟩) (by have := Br.out.lt; have := HW1.out.size; (first | (simp; done) | (simp; omega) | omega)) _).setCell (p := ⟨(w.heap.size + 1 + 1), 1, none⟩) (by have := Br.out.lt; have := HW1.out.size; (first | (simp; done) | (simp; omega) | omega)) _)⟩
theorem sadd_any (a b c d : Int) (ha : IsInt a) (hb : IsInt b) (hc : IsInt c) (hd : IsInt d) (w : World) :
    Calls Try.prog 9 #[.agg #[.int .i64 a, .int .i64 b], .agg #[.int .i64 c, .int .i64 d]] w fun en w' => en = .returned (.tuple #[.agg #[.int .i64 (oLo a b c d (a + c) (b + d)), .int .i64 (oHi a b c d (a + c) (b + d))], .int .i64 (oErr a b c d (a + c) (b + d))]) ∧ Below w.heap.size w w' := by
  refine sadd_core a b c d _ _ _ w fun p w hk => ?_
  by_cases h : a ≤ b ∧ c ≤ d
  · refine ends_num 1 (by decide) (fun _ => 33) (fun _ x y => x + y) a b c d _ _ (fun _ _ => enters_sum) (fun j hj x y hx hy _ w => csum_any x y (by rcases hx with rfl | rfl <;> assumption) (by rcases hy with rfl | rfl <;> assumption) w) (ends_one _ a b c d _ _ (by show _ = min4 _ _ _ _; unfold min4; omega) (by show _ = max4 _ _ _ _; unfold max4; omega)) p w (fun j hj => ?_)
    obtain rfl : j = 0 := by omega
    exact hk
  · rw [oLo_n h, oHi_n h, oErr_n h]
    by_cases h1 : a ≤ b
    · exact ends_arg2 a b c d p 1 w h1 (fun k => h ⟨h1, k⟩)
    · exact ends_arg1 a b c d p 1 w h1
theorem ssub_core (a b c d x y z : Int) (w : World)
    (m1 : ∀ p w, w.cell? ⟨p, 0, none⟩ = some (.func (.func 34) #[] #[]) → Calls Try.prog 32 #[.agg #[.int .i64 a, .int .i64 b], .agg #[.int .i64 c, .int .i64 d], .slice (some ⟨p, 0, none⟩) 1 1] w fun en w' => en = .returned (.tuple #[.agg #[.int .i64 x, .int .i64 y], .int .i64 z]) ∧ Below w.heap.size w w') :
    Calls Try.prog 10 #[.agg #[.int .i64 a, .int .i64 b], .agg #[.int .i64 c, .int .i64 d]] w fun en w' => en = .returned (.tuple #[.agg #[.int .i64 x, .int .i64 y], .int .i64 z]) ∧ Below w.heap.size w w' := by
  have M1 := Lib.hid m1
  clear m1
  go_enter Try.func10, Try.ntmps10
  go_wp2_with fail
  refine (M1.out _ _ ((Blk.newAt (by simp)).cell rfl)).mono ?_
  rintro e w1 ⟨rfl, hb⟩
  have kr : Blk w1 (w.heap.size + 1 + 1) #[.int .i64 0, .int .i64 0] := ((Blk.newAt (by simp)).alloc _).call hb
  have kw : Below w.heap.size w w1 := (((((Below.refl w.heap.size w).alloc (Nat.le_refl _) _).alloc (by simp) _).alloc (by simp; omega) _).alloc (by simp; omega) _).trans (hb.mono (by simp; omega))
  have Br := Lib.hid kr
  have HW1 := Lib.hid kw
  clear hb kw kr
  have lr := Br.out.lt
  have cr0 : w1.cell? ⟨(w.heap.size + 1 + 1), 0, none⟩ = some (.int .i64 0) := Br.out.cell rfl
  have fr0 := Br.out.free 0
  have cr1 : w1.cell? ⟨(w.heap.size + 1 + 1), 1, none⟩ = some (.int .i64 0) := Br.out.cell rfl
  have fr1 := Br.out.free 1
  go_wp2_with fail
  exact bodyPost_ret (v := .tuple #[.agg #[.int .i64 x, .int .i64 y], .int .i64 z]) (by simp [results, Try.results10, go_sem, cr0, cr1]) rfl ⟨rfl, ((HW1.out.setCell (p := ⟨(w.heap.size + 1 + 1), 0, none⟩) (by have := Br.out.lt; have := HW1.out.size; (first | (simp; done) | (simp; omega) | omega)) _).setCell (p := ⟨(w.heap.size + 1 + 1), 1, none⟩) (by have := Br.out.lt; have := HW1.out.size; (first | (simp; done) | (simp; omega) | omega)) _)⟩
theorem ssub_any (a b c d : Int) (ha : IsInt a) (hb : IsInt b) (hc : IsInt c) (hd : IsInt d) (w : World) :
    Calls Try.prog 10 #[.agg #[.int .i64 a, .int .i64 b], .agg #[.int .i64 c, .int .i64 d]] w fun en w' => en = .returned (.tuple #[.agg #[.int .i64 (oLo a b c d (a - d) (b - c)), .int .i64 (oHi a b c d (a - d) (b - c))], .int .i64 (oErr a b c d (a - d) (b - c))]) ∧ Below w.heap.size w w' := by
  refine ssub_core a b c d _ _ _ w fun p w hk => ?_
  by_cases h : a ≤ b ∧ c ≤ d
  · refine ends_num 1 (by decide) (fun _ => 34) (fun _ x y => x - y) a b c d _ _ (fun _ _ => enters_rest) (fun j hj x y hx hy _ w => crest_any x y (by rcases hx with rfl | rfl <;> assumption) (by rcases hy with rfl | rfl <;> assumption) w) (ends_one _ a b c d _ _ (by show _ = min4 _ _ _ _; unfold min4; omega) (by show _ = max4 _ _ _ _; unfold max4; omega)) p w (fun j hj => ?_)
    obtain rfl : j = 0 := by omega
    exact hk
  · rw [oLo_n h, oHi_n h, oErr_n h]
    by_cases h1 : a ≤ b
    · exact ends_arg2 a b c d p 1 w h1 (fun k => h ⟨h1, k⟩)
    · exact ends_arg1 a b c d p 1 w h1
theorem smul_core (a b c d x y z : Int) (w : World)
    (m1 : ∀ p w, w.cell? ⟨p, 0, none⟩ = some (.func (.func 38) #[] #[]) → Calls Try.prog 32 #[.agg #[.int .i64 a, .int .i64 b], .agg #[.int .i64 c, .int .i64 d], .slice (some ⟨p, 0, none⟩) 1 1] w fun en w' => en = .returned (.tuple #[.agg #[.int .i64 x, .int .i64 y], .int .i64 z]) ∧ Below w.heap.size w w') :
    Calls Try.prog 19 #[.agg #[.int .i64 a, .int .i64 b], .agg #[.int .i64 c, .int .i64 d]] w fun en w' => en = .returned (.tuple #[.agg #[.int .i64 x, .int .i64 y], .int .i64 z]) ∧ Below w.heap.size w w' := by
  have M1 := Lib.hid m1
  clear m1
  go_enter Try.func19, Try.ntmps19
  go_wp2_with fail
  refine (M1.out _ _ ((Blk.newAt (by simp)).cell rfl)).mono ?_
  rintro e w1 ⟨rfl, hb⟩
  have kr : Blk w1 (w.heap.size + 1 + 1) #[.int .i64 0, .int .i64 0] := ((Blk.newAt (by simp)).alloc _).call hb
  have kw : Below w.heap.size w w1 := (((((Below.refl w.heap.size w).alloc (Nat.le_refl _) _).alloc (by simp) _).alloc (by simp; omega) _).alloc (by simp; omega) _).trans (hb.mono (by simp; omega))
  have Br := Lib.hid kr
  have HW1 := Lib.hid kw
  clear hb kw kr
  have lr := Br.out.lt
  have cr0 : w1.cell? ⟨(w.heap.size + 1 + 1), 0, none⟩ = some (.int .i64 0) := Br.out.cell rfl
  have fr0 := Br.out.free 0
  have cr1 : w1.cell? ⟨(w.heap.size + 1 + 1), 1, none⟩ = some (.int .i64 0) := Br.out.cell rfl
  have fr1 := Br.out.free 1
  go_wp2_with fail
  exact bodyPost_ret (v := .tuple #[.agg #[.int .i64 x, .int .i64 y], .int .i64 z]) (by simp [results, Try.results19, go_sem, cr0, cr1]) rfl ⟨rfl, ((HW1.out.setCell (p := ⟨(w.heap.size + 1 + 1), 0, none⟩) (by have := Br.out.lt; have := HW1.out.size; (first | (simp; done) | (simp; omega) | omega)) _).setCell (p := ⟨(w.heap.size + 1 + 1), 1, none⟩) (by have := Br.out.lt; have := HW1.out.size; (first | (simp; done) | (simp; omega) | omega)) _)⟩
theorem smul_any (a b c d : Int) (ha : IsInt a) (hb : IsInt b) (hc : IsInt c) (hd : IsInt d) (w : World) :
    Calls Try.prog 19 #[.agg #[.int .i64 a, .int .i64 b], .agg #[.int .i64 c, .int .i64 d]] w fun en w' => en = .returned (.tuple #[.agg #[.int .i64 (oLo a b c d (pLo a b c d) (pHi a b c d)), .int .i64 (oHi a b c d (pLo a b c d) (pHi a b c d))], .int .i64 (oErr a b c d (pLo a b c d) (pHi a b c d))]) ∧ Below w.heap.size w w' := by
  refine smul_core a b c d _ _ _ w fun p w hk => ?_
  refine ends_num 1 (by decide) (fun _ => 38) (fun _ x y => x * y) a b c d _ _ (fun _ _ => enters_product) (fun j hj x y hx hy _ w => cproduct_any x y (by rcases hx with rfl | rfl <;> assumption) (by rcases hy with rfl | rfl <;> assumption) w) (ends_one _ a b c d _ _ rfl rfl) p w (fun j hj => ?_)
  obtain rfl : j = 0 := by omega
  exact hk
theorem sdiv_zero (a b c d : Int) (w : World)
    (m2 : ∀ w, Calls Try.prog 11 #[.agg #[.int .i64 a, .int .i64 b]] w fun en w' => en = .returned (.bool true) ∧ Below w.heap.size w w')
    (m3 : ∀ w, Calls Try.prog 13 #[.agg #[.int .i64 c, .int .i64 d], .int .i64 0] w fun en w' => en = .returned (.bool true) ∧ Below w.heap.size w w') :
    Calls Try.prog 20 #[.agg #[.int .i64 a, .int .i64 b], .agg #[.int .i64 c, .int .i64 d]] w fun en w' => en = .returned (.tuple #[.agg #[.int .i64 0, .int .i64 0], .int .i64 4]) ∧ Below w.heap.size w w' := by
  have M2 := Lib.hid m2; have M3 := Lib.hid m3
  clear m2 m3
  go_enter Try.func20, Try.ntmps20
  go_wp2_with fail
  refine (M2.out _).mono ?_
  rintro e w1 ⟨rfl, hb⟩
  have ka : Blk w1 w.heap.size #[.int .i64 a, .int .i64 b] := (((Blk.new _ _ _).alloc _).alloc _).call hb
  have kc : Blk w1 (w.heap.size + 1) #[.int .i64 c, .int .i64 d] := ((Blk.newAt (by simp)).alloc _).call hb
  have kr : Blk w1 (w.heap.size + 1 + 1) #[.int .i64 0, .int .i64 0] := (Blk.newAt (by simp)).call hb
  have kw : Below w.heap.size w w1 := ((((Below.refl w.heap.size w).alloc (Nat.le_refl _) _).alloc (by simp) _).alloc (by simp; omega) _).trans (hb.mono (by simp; omega))
  have Ba := Lib.hid ka
  have Bc := Lib.hid kc
  have Br := Lib.hid kr
  have HW1 := Lib.hid kw
  clear hb kw ka kc kr
  have lc := Bc.out.lt
  have cc0 : w1.cell? ⟨(w.heap.size + 1), 0, none⟩ = some (.int .i64 c) := Bc.out.cell rfl
  have cc1 : w1.cell? ⟨(w.heap.size + 1), 1, none⟩ = some (.int .i64 d) := Bc.out.cell rfl
  go_wp2_with fail
  refine (M3.out _).mono ?_
  rintro e w2 ⟨rfl, hb⟩
  have kr : Blk w2 (w.heap.size + 1 + 1) #[.int .i64 0, .int .i64 0] := Br.out.call hb
  have kw : Below w.heap.size w w2 := HW1.out.trans (hb.mono HW1.out.size)
  clear lc cc0 cc1 Ba Bc Br HW1
  have Br := Lib.hid kr
  have HW2 := Lib.hid kw
  clear hb kw kr
  have lr := Br.out.lt
  have cr0 : w2.cell? ⟨(w.heap.size + 1 + 1), 0, none⟩ = some (.int .i64 0) := Br.out.cell rfl
  have fr0 := Br.out.free 0
  have cr1 : w2.cell? ⟨(w.heap.size + 1 + 1), 1, none⟩ = some (.int .i64 0) := Br.out.cell rfl
  have fr1 := Br.out.free 1
  go_wp2_with fail
  exact bodyPost_ret (v := .tuple #[.agg #[.int .i64 0, .int .i64 0], .int .i64 4]) (by simp [results, Try.results20, go_sem, cr0, cr1]) rfl ⟨rfl, ((HW2.out.setCell (p := ⟨(w.heap.size + 1 + 1), 0, none⟩) (by have := Br.out.lt; have := HW2.out.size; (first | (simp; done) | (simp; omega) | omega)) _).setCell (p := ⟨(w.heap.size + 1 + 1), 1, none⟩) (by have := Br.out.lt; have := HW2.out.size; (first | (simp; done) | (simp; omega) | omega)) _)⟩
theorem sdiv_arg (a b c d x y z : Int) (w : World)
    (m2 : ∀ w, Calls Try.prog 11 #[.agg #[.int .i64 a, .int .i64 b]] w fun en w' => en = .returned (.bool false) ∧ Below w.heap.size w w')
    (m1 : ∀ p w, w.cell? ⟨p, 0, none⟩ = some (.func (.func 39) #[] #[]) → w.cell? ⟨p, 1, none⟩ = some (.func (.func 40) #[] #[]) → Calls Try.prog 32 #[.agg #[.int .i64 a, .int .i64 b], .agg #[.int .i64 c, .int .i64 d], .slice (some ⟨p, 0, none⟩) 2 2] w fun en w' => en = .returned (.tuple #[.agg #[.int .i64 x, .int .i64 y], .int .i64 z]) ∧ Below w.heap.size w w') :
    Calls Try.prog 20 #[.agg #[.int .i64 a, .int .i64 b], .agg #[.int .i64 c, .int .i64 d]] w fun en w' => en = .returned (.tuple #[.agg #[.int .i64 x, .int .i64 y], .int .i64 z]) ∧ Below w.heap.size w w' := by
  have M1 := Lib.hid m1; have M2 := Lib.hid m2
  clear m1 m2
  go_enter Try.func20, Try.ntmps20
  go_wp2_with fail
  refine (M2.out _).mono ?_
  rintro e w1 ⟨rfl, hb⟩
  have ka : Blk w1 w.heap.size #[.int .i64 a, .int .i64 b] := (((Blk.new _ _ _).alloc _).alloc _).call hb
  have kc : Blk w1 (w.heap.size + 1) #[.int .i64 c, .int .i64 d] := ((Blk.newAt (by simp)).alloc _).call hb
  have kr : Blk w1 (w.heap.size + 1 + 1) #[.int .i64 0, .int .i64 0] := (Blk.newAt (by simp)).call hb
  have kw : Below w.heap.size w w1 := ((((Below.refl w.heap.size w).alloc (Nat.le_refl _) _).alloc (by simp) _).alloc (by simp; omega) _).trans (hb.mono (by simp; omega))
  have Ba := Lib.hid ka
  have Bc := Lib.hid kc
  have Br := Lib.hid kr
  have HW1 := Lib.hid kw
  clear hb kw ka kc kr
  have la := Ba.out.lt
  have ca0 : w1.cell? ⟨w.heap.size, 0, none⟩ = some (.int .i64 a) := Ba.out.cell rfl
  have ca1 : w1.cell? ⟨w.heap.size, 1, none⟩ = some (.int .i64 b) := Ba.out.cell rfl
  have lc := Bc.out.lt
  have cc0 : w1.cell? ⟨(w.heap.size + 1), 0, none⟩ = some (.int .i64 c) := Bc.out.cell rfl
  have cc1 : w1.cell? ⟨(w.heap.size + 1), 1, none⟩ = some (.int .i64 d) := Bc.out.cell rfl
  go_wp2_with fail
  refine (M1.out _ _ ((Blk.newAt (by simp)).cell rfl) ((Blk.newAt (by simp)).cell rfl)).mono ?_
  rintro e w2 ⟨rfl, hb⟩
  have kr : Blk w2 (w.heap.size + 1 + 1) #[.int .i64 0, .int .i64 0] := (Br.out.alloc _).call hb
  have kw : Below w.heap.size w w2 := (HW1.out.alloc HW1.out.size _).trans (hb.mono (by have := HW1.out.size; simp; omega))
  clear la ca0 ca1 lc cc0 cc1 Ba Bc Br HW1
  have Br := Lib.hid kr
  have HW2 := Lib.hid kw
  clear hb kw kr
  have lr := Br.out.lt
  have cr0 : w2.cell? ⟨(w.heap.size + 1 + 1), 0, none⟩ = some (.int .i64 0) := Br.out.cell rfl
  have fr0 := Br.out.free 0
  have cr1 : w2.cell? ⟨(w.heap.size + 1 + 1), 1, none⟩ = some (.int .i64 0) := Br.out.cell rfl
  have fr1 := Br.out.free 1
  go_wp2_with fail
  exact bodyPost_ret (v := .tuple #[.agg #[.int .i64 x, .int .i64 y], .int .i64 z]) (by simp [results, Try.results20, go_sem, cr0, cr1]) rfl ⟨rfl, ((HW2.out.setCell (p := ⟨(w.heap.size + 1 + 1), 0, none⟩) (by have := Br.out.lt; have := HW2.out.size; (first | (simp; done) | (simp; omega) | omega)) _).setCell (p := ⟨(w.heap.size + 1 + 1), 1, none⟩) (by have := Br.out.lt; have := HW2.out.size; (first | (simp; done) | (simp; omega) | omega)) _)⟩
theorem sdiv_ok (a b c d x y z : Int) (w : World)
    (m2 : ∀ w, Calls Try.prog 11 #[.agg #[.int .i64 a, .int .i64 b]] w fun en w' => en = .returned (.bool true) ∧ Below w.heap.size w w')
    (m3 : ∀ w, Calls Try.prog 13 #[.agg #[.int .i64 c, .int .i64 d], .int .i64 0] w fun en w' => en = .returned (.bool false) ∧ Below w.heap.size w w')
    (m1 : ∀ p w, w.cell? ⟨p, 0, none⟩ = some (.func (.func 39) #[] #[]) → w.cell? ⟨p, 1, none⟩ = some (.func (.func 40) #[] #[]) → Calls Try.prog 32 #[.agg #[.int .i64 a, .int .i64 b], .agg #[.int .i64 c, .int .i64 d], .slice (some ⟨p, 0, none⟩) 2 2] w fun en w' => en = .returned (.tuple #[.agg #[.int .i64 x, .int .i64 y], .int .i64 z]) ∧ Below w.heap.size w w') :
    Calls Try.prog 20 #[.agg #[.int .i64 a, .int .i64 b], .agg #[.int .i64 c, .int .i64 d]] w fun en w' => en = .returned (.tuple #[.agg #[.int .i64 x, .int .i64 y], .int .i64 z]) ∧ Below w.heap.size w w' := by
  have M1 := Lib.hid m1; have M2 := Lib.hid m2; have M3 := Lib.hid m3
  clear m1 m2 m3
  go_enter Try.func20, Try.ntmps20
  go_wp2_with fail
  refine (M2.out _).mono ?_
  rintro e w1 ⟨rfl, hb⟩
  have ka : Blk w1 w.heap.size #[.int .i64 a, .int .i64 b] := (((Blk.new _ _ _).alloc _).alloc _).call hb
  have kc : Blk w1 (w.heap.size + 1) #[.int .i64 c, .int .i64 d] := ((Blk.newAt (by simp)).alloc _).call hb
  have kr : Blk w1 (w.heap.size + 1 + 1) #[.int .i64 0, .int .i64 0] := (Blk.newAt (by simp)).call hb
  have kw : Below w.heap.size w w1 := ((((Below.refl w.heap.size w).alloc (Nat.le_refl _) _).alloc (by simp) _).alloc (by simp; omega) _).trans (hb.mono (by simp; omega))
  have Ba := Lib.hid ka
  have Bc := Lib.hid kc
  have Br := Lib.hid kr
  have HW1 := Lib.hid kw
  clear hb kw ka kc kr
  have lc := Bc.out.lt
  have cc0 : w1.cell? ⟨(w.heap.size + 1), 0, none⟩ = some (.int .i64 c) := Bc.out.cell rfl
  have cc1 : w1.cell? ⟨(w.heap.size + 1), 1, none⟩ = some (.int .i64 d) := Bc.out.cell rfl
  go_wp2_with fail
  refine (M3.out _).mono ?_
  rintro e w2 ⟨rfl, hb⟩
  have ka : Blk w2 w.heap.size #[.int .i64 a, .int .i64 b] := Ba.out.call hb
  have kc : Blk w2 (w.heap.size + 1) #[.int .i64 c, .int .i64 d] := Bc.out.call hb
  have kr : Blk w2 (w.heap.size + 1 + 1) #[.int .i64 0, .int .i64 0] := Br.out.call hb
  have kw : Below w.heap.size w w2 := HW1.out.trans (hb.mono HW1.out.size)
  clear lc cc0 cc1 Ba Bc Br HW1
  have Ba := Lib.hid ka
  have Bc := Lib.hid kc
  have Br := Lib.hid kr
  have HW2 := Lib.hid kw
  clear hb kw ka kc kr
  have la := Ba.out.lt
  have ca0 : w2.cell? ⟨w.heap.size, 0, none⟩ = some (.int .i64 a) := Ba.out.cell rfl
  have ca1 : w2.cell? ⟨w.heap.size, 1, none⟩ = some (.int .i64 b) := Ba.out.cell rfl
  have lc := Bc.out.lt
  have cc0 : w2.cell? ⟨(w.heap.size + 1), 0, none⟩ = some (.int .i64 c) := Bc.out.cell rfl
  have cc1 : w2.cell? ⟨(w.heap.size + 1), 1, none⟩ = some (.int .i64 d) := Bc.out.cell rfl
  go_wp2_with fail
  refine (M1.out _ _ ((Blk.newAt (by simp)).cell rfl) ((Blk.newAt (by simp)).cell rfl)).mono ?_
  rintro e w3 ⟨rfl, hb⟩
  have kr : Blk w3 (w.heap.size + 1 + 1) #[.int .i64 0, .int .i64 0] := (Br.out.alloc _).call hb
  have kw : Below w.heap.size w w3 := (HW2.out.alloc HW2.out.size _).trans (hb.mono (by have := HW2.out.size; simp; omega))
  clear la ca0 ca1 lc cc0 cc1 Ba Bc Br HW2
  have Br := Lib.hid kr
  have HW3 := Lib.hid kw
  clear hb kw kr
  have lr := Br.out.lt
  have cr0 : w3.cell? ⟨(w.heap.size + 1 + 1), 0, none⟩ = some (.int .i64 0) := Br.out.cell rfl
  have fr0 := Br.out.free 0
  have cr1 : w3.cell? ⟨(w.heap.size + 1 + 1), 1, none⟩ = some (.int .i64 0) := Br.out.cell rfl
  have fr1 := Br.out.free 1
  go_wp2_with fail
  exact bodyPost_ret (v := .tuple #[.agg #[.int .i64 x, .int .i64 y], .int .i64 z]) (by simp [results, Try.results20, go_sem, cr0, cr1]) rfl ⟨rfl, ((HW3.out.setCell (p := ⟨(w.heap.size + 1 + 1), 0, none⟩) (by have := Br.out.lt; have := HW3.out.size; (first | (simp; done) | (simp; omega) | omega)) _).setCell (p := ⟨(w.heap.size + 1 + 1), 1, none⟩) (by have := Br.out.lt; have := HW3.out.size; (first | (simp; done) | (simp; omega) | omega)) _)⟩
/-- Div, where b has no 0, or a may not be. -/
theorem sdiv_any (a b c d : Int) (ha : IsInt a) (hb : IsInt b) (hc : IsInt c) (hd : IsInt d) (h0 : ¬ (c ≤ 0 ∧ 0 ≤ d)) (w : World) :
    Calls Try.prog 20 #[.agg #[.int .i64 a, .int .i64 b], .agg #[.int .i64 c, .int .i64 d]] w fun en w' => en = .returned (.tuple #[.agg #[.int .i64 (oLo a b c d (qLo a b c d) (qHi a b c d)), .int .i64 (oHi a b c d (qLo a b c d) (qHi a b c d))], .int .i64 (oErr a b c d (qLo a b c d) (qHi a b c d))]) ∧ Below w.heap.size w w' := by
  have hE := fun p (w : World) (hk1 : w.cell? ⟨p, 0, none⟩ = some (.func (.func 39) #[] #[])) (hk2 : w.cell? ⟨p, 1, none⟩ = some (.func (.func 40) #[] #[])) => ends_num 2 (by decide) (fun j => if j = 0 then 39 else 40) (fun j x y => if j = 0 then dn x y else up' x y) a b c d (qLo a b c d) (qHi a b c d)
    (fun j _ args w => by
      by_cases c : j = 0
      · simp only [c, if_true]; exact enters_down args w
      · simp only [c, if_false]; exact enters_up args w)
    (fun j _ x y hx hy hr w => by
      have ix : IsInt x := by rcases hx with rfl | rfl <;> assumption
      have iy : IsInt y := by rcases hy with rfl | rfl <;> assumption
      have ny : y ≠ 0 := by rcases hy with rfl | rfl <;> omega
      by_cases c : j = 0
      · simp only [c, if_true]; exact cdown_any x y ix iy ny w
      · simp only [c, if_false]; exact cup_any x y ix iy ny w)
    (ends_two (fun j x y => if j = 0 then dn x y else up' x y) a b c d _ _ (fun x y => by simp only [if_true]; exact dn_le_up x y) rfl rfl) p w
    (fun j hj => by
      rcases (by omega : j = 0 ∨ j = 1) with rfl | rfl
      · exact hk1
      · exact hk2)
  by_cases h : a ≤ b
  · exact sdiv_ok a b c d _ _ _ w (fun w => by have := right_any a b w; rwa [decide_eq_true h] at this) (fun w => by have := has_any c d 0 w; rwa [decide_eq_false h0] at this) hE
  · exact sdiv_arg a b c d _ _ _ w (fun w => by have := right_any a b w; rwa [decide_eq_false h] at this) hE
theorem sdiv_no (a b c d : Int) (h : ¬ a ≤ b) (w : World) :
    Calls Try.prog 20 #[.agg #[.int .i64 a, .int .i64 b], .agg #[.int .i64 c, .int .i64 d]] w fun en w' => en = .returned (.tuple #[.agg #[.int .i64 0, .int .i64 0], .int .i64 1]) ∧ Below w.heap.size w w' := by
  exact sdiv_arg a b c d _ _ _ w (fun w => by have := right_any a b w; rwa [decide_eq_false h] at this) (fun p w _ _ => ends_arg1 a b c d p 2 w h)
theorem sdiv_by0 (a b c d : Int) (h : a ≤ b) (h0 : c ≤ 0 ∧ 0 ≤ d) (w : World) :
    Calls Try.prog 20 #[.agg #[.int .i64 a, .int .i64 b], .agg #[.int .i64 c, .int .i64 d]] w fun en w' => en = .returned (.tuple #[.agg #[.int .i64 0, .int .i64 0], .int .i64 4]) ∧ Below w.heap.size w w' := by
  exact sdiv_zero a b c d w (fun w => by have := right_any a b w; rwa [decide_eq_true h] at this) (fun w => by have := has_any c d 0 w; rwa [decide_eq_true h0] at this)
theorem join_ok (a b c d : Int) (w : World)
    (m1 : ∀ w, Calls Try.prog 11 #[.agg #[.int .i64 a, .int .i64 b]] w fun en w' => en = .returned (.bool true) ∧ Below w.heap.size w w')
    (m2 : ∀ w, Calls Try.prog 11 #[.agg #[.int .i64 c, .int .i64 d]] w fun en w' => en = .returned (.bool true) ∧ Below w.heap.size w w') :
    Calls Try.prog 8 #[.agg #[.int .i64 a, .int .i64 b], .agg #[.int .i64 c, .int .i64 d]] w fun en w' => en = .returned (.tuple #[.agg #[.int .i64 (min a c), .int .i64 (max b d)], .int .i64 0]) ∧ Below w.heap.size w w' := by
  have M1 := Lib.hid m1; have M2 := Lib.hid m2
  clear m1 m2
  go_enter Try.func8, Try.ntmps8
  go_wp2_with fail
  refine (M1.out _).mono ?_
  rintro e w1 ⟨rfl, hb⟩
  have ka : Blk w1 w.heap.size #[.int .i64 a, .int .i64 b] := (((Blk.new _ _ _).alloc _).alloc _).call hb
  have kc : Blk w1 (w.heap.size + 1) #[.int .i64 c, .int .i64 d] := ((Blk.newAt (by simp)).alloc _).call hb
  have kr : Blk w1 (w.heap.size + 1 + 1) #[.int .i64 0, .int .i64 0] := (Blk.newAt (by simp)).call hb
  have kw : Below w.heap.size w w1 := ((((Below.refl w.heap.size w).alloc (Nat.le_refl _) _).alloc (by simp) _).alloc (by simp; omega) _).trans (hb.mono (by simp; omega))
  have Ba := Lib.hid ka
  have Bc := Lib.hid kc
  have Br := Lib.hid kr
  have HW1 := Lib.hid kw
  clear hb kw ka kc kr
  have lc := Bc.out.lt
  have cc0 : w1.cell? ⟨(w.heap.size + 1), 0, none⟩ = some (.int .i64 c) := Bc.out.cell rfl
  have cc1 : w1.cell? ⟨(w.heap.size + 1), 1, none⟩ = some (.int .i64 d) := Bc.out.cell rfl
  go_wp2_with fail
  refine (M2.out _).mono ?_
  rintro e w2 ⟨rfl, hb⟩
  have ka : Blk w2 w.heap.size #[.int .i64 a, .int .i64 b] := Ba.out.call hb
  have kc : Blk w2 (w.heap.size + 1) #[.int .i64 c, .int .i64 d] := Bc.out.call hb
  have kr : Blk w2 (w.heap.size + 1 + 1) #[.int .i64 0, .int .i64 0] := Br.out.call hb
  have kw : Below w.heap.size w w2 := HW1.out.trans (hb.mono HW1.out.size)
  clear lc cc0 cc1 Ba Bc Br HW1
  have Ba := Lib.hid ka
  have Bc := Lib.hid kc
  have Br := Lib.hid kr
  have HW2 := Lib.hid kw
  clear hb kw ka kc kr
  have lr := Br.out.lt
  have cr0 : w2.cell? ⟨(w.heap.size + 1 + 1), 0, none⟩ = some (.int .i64 0) := Br.out.cell rfl
  have fr0 := Br.out.free 0
  have cr1 : w2.cell? ⟨(w.heap.size + 1 + 1), 1, none⟩ = some (.int .i64 0) := Br.out.cell rfl
  have fr1 := Br.out.free 1
  have la := Ba.out.lt
  have ca0 : w2.cell? ⟨w.heap.size, 0, none⟩ = some (.int .i64 a) := Ba.out.cell rfl
  have ca1 : w2.cell? ⟨w.heap.size, 1, none⟩ = some (.int .i64 b) := Ba.out.cell rfl
  have lc := Bc.out.lt
  have cc0 : w2.cell? ⟨(w.heap.size + 1), 0, none⟩ = some (.int .i64 c) := Bc.out.cell rfl
  have cc1 : w2.cell? ⟨(w.heap.size + 1), 1, none⟩ = some (.int .i64 d) := Bc.out.cell rfl
  go_wp2_with fail
  exact bodyPost_ret (v := .tuple #[.agg #[.int .i64 (min a c), .int .i64 (max b d)], .int .i64 0]) (by simp [results, Try.results8, go_sem, cr0, cr1]) rfl ⟨rfl, ((HW2.out.setCell (p := ⟨(w.heap.size + 1 + 1), 0, none⟩) (by have := Ba.out.lt; have := Bc.out.lt; have := Br.out.lt; have := HW2.out.size; (first | (simp; done) | (simp; omega) | omega)) _).setCell (p := ⟨(w.heap.size + 1 + 1), 1, none⟩) (by have := Ba.out.lt; have := Bc.out.lt; have := Br.out.lt; have := HW2.out.size; (first | (simp; done) | (simp; omega) | omega)) _)⟩
theorem join_no1 (a b c d : Int) (w : World)
    (m1 : ∀ w, Calls Try.prog 11 #[.agg #[.int .i64 a, .int .i64 b]] w fun en w' => en = .returned (.bool false) ∧ Below w.heap.size w w') :
    Calls Try.prog 8 #[.agg #[.int .i64 a, .int .i64 b], .agg #[.int .i64 c, .int .i64 d]] w fun en w' => en = .returned (.tuple #[.agg #[.int .i64 0, .int .i64 0], .int .i64 1]) ∧ Below w.heap.size w w' := by
  have M1 := Lib.hid m1
  clear m1
  go_enter Try.func8, Try.ntmps8
  go_wp2_with fail
  refine (M1.out _).mono ?_
  rintro e w1 ⟨rfl, hb⟩
  have ka : Blk w1 w.heap.size #[.int .i64 a, .int .i64 b] := (((Blk.new _ _ _).alloc _).alloc _).call hb
  have kc : Blk w1 (w.heap.size + 1) #[.int .i64 c, .int .i64 d] := ((Blk.newAt (by simp)).alloc _).call hb
  have kr : Blk w1 (w.heap.size + 1 + 1) #[.int .i64 0, .int .i64 0] := (Blk.newAt (by simp)).call hb
  have kw : Below w.heap.size w w1 := ((((Below.refl w.heap.size w).alloc (Nat.le_refl _) _).alloc (by simp) _).alloc (by simp; omega) _).trans (hb.mono (by simp; omega))
  have Ba := Lib.hid ka
  have Bc := Lib.hid kc
  have Br := Lib.hid kr
  have HW1 := Lib.hid kw
  clear hb kw ka kc kr
  have lr := Br.out.lt
  have cr0 : w1.cell? ⟨(w.heap.size + 1 + 1), 0, none⟩ = some (.int .i64 0) := Br.out.cell rfl
  have fr0 := Br.out.free 0
  have cr1 : w1.cell? ⟨(w.heap.size + 1 + 1), 1, none⟩ = some (.int .i64 0) := Br.out.cell rfl
  have fr1 := Br.out.free 1
  go_wp2_with fail
  exact bodyPost_ret (v := .tuple #[.agg #[.int .i64 0, .int .i64 0], .int .i64 1]) (by simp [results, Try.results8, go_sem, cr0, cr1]) rfl ⟨rfl, ((HW1.out.setCell (p := ⟨(w.heap.size + 1 + 1), 0, none⟩) (by have := Ba.out.lt; have := Bc.out.lt; have := Br.out.lt; have := HW1.out.size; (first | (simp; done) | (simp; omega) | omega)) _).setCell (p := ⟨(w.heap.size + 1 + 1), 1, none⟩) (by have := Ba.out.lt; have := Bc.out.lt; have := Br.out.lt; have := HW1.out.size; (first | (simp; done) | (simp; omega) | omega)) _)⟩
theorem join_no2 (a b c d : Int) (w : World)
    (m1 : ∀ w, Calls Try.prog 11 #[.agg #[.int .i64 a, .int .i64 b]] w fun en w' => en = .returned (.bool true) ∧ Below w.heap.size w w')
    (m2 : ∀ w, Calls Try.prog 11 #[.agg #[.int .i64 c, .int .i64 d]] w fun en w' => en = .returned (.bool false) ∧ Below w.heap.size w w') :
    Calls Try.prog 8 #[.agg #[.int .i64 a, .int .i64 b], .agg #[.int .i64 c, .int .i64 d]] w fun en w' => en = .returned (.tuple #[.agg #[.int .i64 0, .int .i64 0], .int .i64 1]) ∧ Below w.heap.size w w' := by
  have M1 := Lib.hid m1; have M2 := Lib.hid m2
  clear m1 m2
  go_enter Try.func8, Try.ntmps8
  go_wp2_with fail
  refine (M1.out _).mono ?_
  rintro e w1 ⟨rfl, hb⟩
  have ka : Blk w1 w.heap.size #[.int .i64 a, .int .i64 b] := (((Blk.new _ _ _).alloc _).alloc _).call hb
  have kc : Blk w1 (w.heap.size + 1) #[.int .i64 c, .int .i64 d] := ((Blk.newAt (by simp)).alloc _).call hb
  have kr : Blk w1 (w.heap.size + 1 + 1) #[.int .i64 0, .int .i64 0] := (Blk.newAt (by simp)).call hb
  have kw : Below w.heap.size w w1 := ((((Below.refl w.heap.size w).alloc (Nat.le_refl _) _).alloc (by simp) _).alloc (by simp; omega) _).trans (hb.mono (by simp; omega))
  have Ba := Lib.hid ka
  have Bc := Lib.hid kc
  have Br := Lib.hid kr
  have HW1 := Lib.hid kw
  clear hb kw ka kc kr
  have lc := Bc.out.lt
  have cc0 : w1.cell? ⟨(w.heap.size + 1), 0, none⟩ = some (.int .i64 c) := Bc.out.cell rfl
  have cc1 : w1.cell? ⟨(w.heap.size + 1), 1, none⟩ = some (.int .i64 d) := Bc.out.cell rfl
  go_wp2_with fail
  refine (M2.out _).mono ?_
  rintro e w2 ⟨rfl, hb⟩
  have ka : Blk w2 w.heap.size #[.int .i64 a, .int .i64 b] := Ba.out.call hb
  have kc : Blk w2 (w.heap.size + 1) #[.int .i64 c, .int .i64 d] := Bc.out.call hb
  have kr : Blk w2 (w.heap.size + 1 + 1) #[.int .i64 0, .int .i64 0] := Br.out.call hb
  have kw : Below w.heap.size w w2 := HW1.out.trans (hb.mono HW1.out.size)
  clear lc cc0 cc1 Ba Bc Br HW1
  have Ba := Lib.hid ka
  have Bc := Lib.hid kc
  have Br := Lib.hid kr
  have HW2 := Lib.hid kw
  clear hb kw ka kc kr
  have lr := Br.out.lt
  have cr0 : w2.cell? ⟨(w.heap.size + 1 + 1), 0, none⟩ = some (.int .i64 0) := Br.out.cell rfl
  have fr0 := Br.out.free 0
  have cr1 : w2.cell? ⟨(w.heap.size + 1 + 1), 1, none⟩ = some (.int .i64 0) := Br.out.cell rfl
  have fr1 := Br.out.free 1
  go_wp2_with fail
  exact bodyPost_ret (v := .tuple #[.agg #[.int .i64 0, .int .i64 0], .int .i64 1]) (by simp [results, Try.results8, go_sem, cr0, cr1]) rfl ⟨rfl, ((HW2.out.setCell (p := ⟨(w.heap.size + 1 + 1), 0, none⟩) (by have := Ba.out.lt; have := Bc.out.lt; have := Br.out.lt; have := HW2.out.size; (first | (simp; done) | (simp; omega) | omega)) _).setCell (p := ⟨(w.heap.size + 1 + 1), 1, none⟩) (by have := Ba.out.lt; have := Bc.out.lt; have := Br.out.lt; have := HW2.out.size; (first | (simp; done) | (simp; omega) | omega)) _)⟩
def jLo (a b c d : Int) : Int := if a ≤ b ∧ c ≤ d then min a c else 0
def jHi (a b c d : Int) : Int := if a ≤ b ∧ c ≤ d then max b d else 0
def jErr (a b c d : Int) : Int := if a ≤ b ∧ c ≤ d then 0 else 1
theorem join_any (a b c d : Int) (w : World) :
    Calls Try.prog 8 #[.agg #[.int .i64 a, .int .i64 b], .agg #[.int .i64 c, .int .i64 d]] w fun en w' => en = .returned (.tuple #[.agg #[.int .i64 (jLo a b c d), .int .i64 (jHi a b c d)], .int .i64 (jErr a b c d)]) ∧ Below w.heap.size w w' := by
  by_cases h : a ≤ b ∧ c ≤ d
  · have e1 : jLo a b c d = min a c := if_pos h
    have e2 : jHi a b c d = max b d := if_pos h
    have e3 : jErr a b c d = 0 := if_pos h
    rw [e1, e2, e3]
    exact join_ok a b c d w (fun w => by have := right_any a b w; rwa [decide_eq_true h.1] at this) (fun w => by have := right_any c d w; rwa [decide_eq_true h.2] at this)
  · rw [show jLo a b c d = 0 from if_neg h, show jHi a b c d = 0 from if_neg h, show jErr a b c d = 1 from if_neg h]
    by_cases h1 : a ≤ b
    · exact join_no2 a b c d w (fun w => by have := right_any a b w; rwa [decide_eq_true h1] at this) (fun w => by have := right_any c d w; rwa [decide_eq_false (fun k => h ⟨h1, k⟩)] at this)
    · exact join_no1 a b c d w (fun w => by have := right_any a b w; rwa [decide_eq_false h1] at this)
end Go.Proofs.Ytacnaencmbnjpaa
