/- Rows of rows that are filled; nelson's Tell, Exact. -/
import Derived.Test.YtjonpcpcokapkaaNelPg
import Derived.Test.YtjonpcpcokapkaaNelH
import Derived.Lib.SliceRun
import Derived.Lib.MinMax
import Derived.Test.YtjonpcpcokapkaaNelPl
/- slices.Clone of ints; nelson's Push. -/
namespace Go.Proofs.Ytjonpcpcokapkaa
open Go.RowKit

set_option linter.unusedSimpArgs false in
set_option maxHeartbeats 4000000 in
set_option maxRecDepth 100000 in
theorem clone_any (xs : List Int) (v : Value) (w : World) (hl : xs.length ≤ 1000) (hr : ReadsI w v xs) :
    Calls Try.prog 29 #[v] w fun e w' => ∃ v', e = .returned v' ∧ IRow w.heap.size v' xs w' ∧ Below w.heap.size w w' := by
  obtain ⟨ao, cap, rfl⟩ := hr.shape
  cases ao with
  | none =>
    have hx : xs = [] := by
      cases xs with
      | nil => rfl
      | cons y ys =>
        obtain ⟨ao1, cap1, e, h2, h3, h4⟩ := hr
        injection e with e1 e2 e3
        obtain ⟨b, off, e4, _⟩ := h4 0 (by simp)
        rw [← e1] at e4
        cases e4
    subst hx
    clear hr hl
    have h0 := Lib.hid (IRow.nil w.heap.size w)
    have hb := Lib.hid (Below.refl w.heap.size w)
    have hq : ∀ (W : World) (a : Option Addr) (n c : Nat), (binOp .eql 22 (.slice a n c) (.slice none 0 0)).run Try.prog W = .ok (.bool a.isNone) W := fun W a n c => Lib.run_eql_slice_nil W _ _ a n c 0 0 Try.underlying22
    go_enter Try.func29, Try.ntmps29
    go_wp2
    go_ret
    exact ⟨_, rfl, h0.out, hb.out⟩
  | some ad =>
    have HR := Lib.hid (hr.below ((Below.refl w.heap.size w).alloc (Nat.le_refl _) (.cells #[] 3)))
    have HO := Lib.hid (IRow.made w)
    have HB := Lib.hid ((Below.refl w.heap.size w).alloc (Nat.le_refl _) (.cells #[] 3))
    have HL := Lib.hid hl
    obtain ⟨n, hn⟩ : ∃ n, xs.length = n := ⟨_, rfl⟩
    rw [hn] at HR ⊢
    clear hr hl hn
    have hq : ∀ (W : World) (a : Option Addr) (n c : Nat), (binOp .eql 22 (.slice a n c) (.slice none 0 0)).run Try.prog W = .ok (.bool a.isNone) W := fun W a n c => Lib.run_eql_slice_nil W _ _ a n c 0 0 Try.underlying22
    go_enter Try.func29, Try.ntmps29
    go_wp2_with (at_builtin; refine wpList_append_ints rfl (.tmp 5) (.tmp 6) rfl w.heap.size _ [] xs rfl HO.out (some ad) n cap rfl HR.out (by have := HL.out; simp; omega) (by simp) ?_)
    intro v' w2 g1 g2
    have HQ := Lib.hid (show IRow w.heap.size v' xs w2 from g1)
    have HBQ := Lib.hid (show Below w.heap.size w w2 from HB.out.grown g2 (by simp) (fun k hk => (HO.out.lt' k hk).1))
    clear g1 g2
    go_wp2
    go_ret
    exact ⟨_, rfl, HQ.out, HBQ.out⟩
set_option linter.unusedSimpArgs false in
set_option linter.unusedVariables false in
set_option maxHeartbeats 4000000 in
set_option maxRecDepth 100000 in
theorem push_no (l : List Int) (m : Int) (v : Value) (w : World) (hl : l.length ≤ 1000) (hr : ReadsI w v l) (h : (masksB l && maskB m) = false) :
    Calls Try.prog 14 #[v, .int .i64 m] w fun e w' => e = .returned (.tuple #[.slice none 0 0, .int .i64 1]) ∧ w = w' := by
  have HM := Lib.hid (mayBe_any l v w (by omega) hr)
  have HN := Lib.hid (fun W => noMask_any m W)
  obtain ⟨ao, cap, rfl⟩ := hr.shape
  obtain ⟨n, hn⟩ : ∃ n, l.length = n := ⟨_, rfl⟩
  rw [hn] at HM ⊢
  cases hM : masksB l with
  | false =>
    rw [hM] at HM
    clear hM h hr hn
    go_enter Try.func14, Try.ntmps14
    go_wp2_with fail
    refine HM.out.mono ?_
    rintro e w2 ⟨rfl, rfl⟩
    go_wp2
    go_ret2
    exact ⟨rfl, rfl⟩
  | true =>
    rw [hM] at HM h
    rw [Bool.true_and] at h
    rw [h] at HN
    clear hM h hr hn
    go_enter Try.func14, Try.ntmps14
    go_wp2_with fail
    refine HM.out.mono ?_
    rintro e w2 ⟨rfl, rfl⟩
    go_wp2_with fail
    refine (HN.out _).mono ?_
    rintro e w3 ⟨rfl, rfl⟩
    go_wp2
    go_ret2
    exact ⟨rfl, rfl⟩
set_option linter.unusedSimpArgs false in
set_option linter.unusedVariables false in
set_option maxHeartbeats 4000000 in
set_option maxRecDepth 100000 in
theorem push_ok (l : List Int) (m : Int) (v : Value) (w : World) (hr : ReadsI w v l) (hM : masksB l = true) (hm : maskB m = true) :
    Calls Try.prog 14 #[v, .int .i64 m] w fun e w' => ∃ v', e = .returned (.tuple #[v', .int .i64 0]) ∧ ReadsI w' v' (pushN l m) ∧ Below w.heap.size w w' := by
  have h15 := (masksB_ok hM).2
  have HM := Lib.hid (mayBe_any l v w (by omega) hr)
  have HN := Lib.hid (fun W => noMask_any m W)
  rw [hM] at HM
  rw [hm] at HN
  obtain ⟨ao, cap, rfl, hcap, _⟩ := id hr
  obtain ⟨k, hk⟩ : ∃ k, l.length + 1 - 15 = k := ⟨_, rfl⟩
  obtain ⟨ao2, hsl, hrd⟩ := slice_lo ao l.length cap k (by omega) hcap
  have hrd1 := hrd w l hr
  have HC := Lib.hid (clone_any (l.drop k) _ w (by rw [List.length_drop]; omega) hrd1)
  have HP := Lib.hid (show l.drop k ++ [m] = pushN l m by
    unfold pushN
    split
    · rw [show k = 0 by omega]; rfl
    · rw [show k = 1 by omega])
  have HLD := Lib.hid (show (l.drop k).length ≤ 1000 by rw [List.length_drop]; omega)
  obtain ⟨n, hn⟩ : ∃ n, l.length = n := ⟨_, rfl⟩
  rw [hn] at HM HC hsl hk h15 ⊢
  have hmx : max (0 : Int) ((n : Int) + 1 - 15) = (k : Int) := by omega
  have hsl2 := fun W => hsl W
  obtain ⟨n2, hn2⟩ : ∃ n2, n - k = n2 := ⟨_, rfl⟩
  obtain ⟨c2, hc2⟩ : ∃ c2, cap - k = c2 := ⟨_, rfl⟩
  rw [hn2, hc2] at hsl2 HC
  clear hM hm hr hcap hsl hrd hrd1 hn hk hn2 hc2
  go_enter Try.func14, Try.ntmps14
  go_wp2_with fail
  refine HM.out.mono ?_
  rintro e w2 ⟨rfl, rfl⟩
  go_wp2_with fail
  refine (HN.out _).mono ?_
  rintro e w3 ⟨rfl, rfl⟩
  go_wp2_with fail
  refine HC.out.mono ?_
  rintro e w4 ⟨v4, rfl, hi4, k4⟩
  have HI4 := Lib.hid hi4; have HK4 := Lib.hid k4
  have HO := Lib.hid (ReadsI.one w4 m)
  have HIA := Lib.hid (hi4.alloc (.cells #[.int .i64 m] 3))
  have hsa : (w4.alloc (.cells #[.int .i64 m] 3)).heap.size = w4.heap.size + 1 := by simp
  have HSA := Lib.hid hsa
  clear hi4 k4 hsa
  go_wp2_with (at_builtin; refine wpList_append_ints rfl (.tmp 22) (.tmp 24) rfl w.heap.size _ _ [m] rfl HIA.out (some ⟨w4.heap.size, 0, none⟩) 1 1 rfl HO.out (by have := HLD.out; rw [List.length_singleton]; omega) (by have := HK4.out.size; rw [HSA.out]; omega) ?_)
  intro v' w5 g1 g2
  have HQ := Lib.hid (show ReadsI w5 v' (pushN l m) by rw [← HP.out]; exact IRow.reads g1)
  have HB := Lib.hid (show Below w.heap.size w w5 from (HK4.out.alloc HK4.out.size (.cells #[.int .i64 m] 3)).grown g2 (by have := HK4.out.size; rw [HSA.out]; omega) (fun k hk => (HIA.out.lt' k hk).1))
  clear g1 g2
  go_wp2
  go_ret2
  exact ⟨v', rfl, HQ.out, HB.out⟩
end Go.Proofs.Ytjonpcpcokapkaa

/- Rows of rows that are filled; nelson's Tell, Exact. -/
namespace Go.Proofs.Ytjonpcpcokapkaa
open Go.RowKit

theorem infoRow : ((Try.prog).info? 22).map (fun i => (i.zero, i.size, i.bytes)) = some (some (.slice none 0 0), 1, 24) := by kernel_rfl
theorem make_rows (n : Nat) (hc : n ≤ 1000) (w : World) : (Instr.makeSlice 46 (.int .i64 (n : Int)) (.int .i64 (n : Int))).run Try.prog w = .ok (.slice (some ⟨w.heap.size, 0, none⟩) n n) (w.alloc (.cells (List.replicate n (Value.slice none 0 0)).toArray 22)) := by
  obtain ⟨i, hi, h0, h1, h2⟩ := info_parts infoRow
  have := run_make (P := Try.prog) w 46 22 i (.slice none 0 0) Try.underlying46 hi h0 .i64 .i64 (n : Int) (n : Int) (by omega) (by omega) (by rw [h2]; omega) (by omega)
  rw [this, h1]
  simp only [Int.toNat_natCast, Nat.mul_one]
  congr 3
  have := toList_madeCells_one (.slice none 0 0) n
  rw [← this]
  rfl
theorem IRow.one (w : World) (x : Int) : IRow w.heap.size (.slice (some ⟨w.heap.size, 0, none⟩) 1 1) [x] (w.alloc (.cells #[.int .i64 x] 3)) :=
  ⟨rfl, .inr ⟨w.heap.size, 1, _, rfl, Nat.le_refl _, heap_alloc_new w _, Nat.le_refl _, by unfold maxLen; omega, rfl, rfl⟩⟩
/-- The first j rows of a slice of rows are there. -/
def PtsI (f : Int → List Int) (ms : List Int) (w : World) (j : Nat) (wr : World) : Prop :=
  ∃ vs : List Value, Has wr (w.heap.size + 1) vs 22 ∧ vs.length = ms.length ∧ ∀ i m, i < j → ms[i]? = some m → ∃ u, vs[i]? = some u ∧ IRow (w.heap.size + 2) u (f m) wr
theorem PtsI.below {f : Int → List Int} {ms : List Int} {w wr w' : World} {j : Nat} (h : PtsI f ms w j wr) (hb : Below wr.heap.size wr w') : PtsI f ms w j w' := by
  obtain ⟨vs, h1, h2, h3⟩ := h
  refine ⟨vs, h1.call hb, h2, fun i m hi hm => ?_⟩
  obtain ⟨u, h4, h5⟩ := h3 i m hi hm
  exact ⟨u, h4, h5.below hb⟩
theorem PtsI.step {f : Int → List Int} {ms : List Int} {w wr : World} {j : Nat} (h : PtsI f ms w j wr) {m : Int} (hm : ms[j]? = some m) {u : Value} (hu : IRow (w.heap.size + 2) u (f m) wr) : PtsI f ms w (j + 1) (wr.setCell ⟨w.heap.size + 1, j, none⟩ u) := by
  obtain ⟨vs, h1, h2, h3⟩ := h
  have fr : ∀ (v : Value) (l : List Int), IRow (w.heap.size + 2) v l wr → IRow (w.heap.size + 2) v l (wr.setCell ⟨w.heap.size + 1, j, none⟩ u) := fun v l hv => hv.frame fun k hk _ => Below.heap_setCell _ _ _ _ (by dsimp only; omega)
  have hj : j < vs.length := by rw [h2]; exact (List.getElem?_eq_some_iff.1 hm).1
  refine ⟨vs.set j u, h1.set j u, by rw [List.length_set]; exact h2, fun i x hi hx => ?_⟩
  by_cases c : i = j
  · subst c
    rw [hm] at hx
    injection hx with hx
    subst hx
    exact ⟨u, by rw [List.getElem?_set_self hj], fr _ _ hu⟩
  · obtain ⟨v, h4, h5⟩ := h3 i x (by omega) hx
    exact ⟨v, by rw [List.getElem?_set_ne (by omega)]; exact h4, fr _ _ h5⟩
theorem PtsI.cell {f : Int → List Int} {ms : List Int} {w wr : World} {j : Nat} (h : PtsI f ms w j wr) (hj : j < ms.length) : (∃ u, wr.cell? ⟨w.heap.size + 1, j, none⟩ = some u) ∧ wr.frozen? ⟨w.heap.size + 1, j, none⟩ = false ∧ w.heap.size + 1 < wr.heap.size := by
  obtain ⟨vs, h1, h2, _⟩ := h
  exact ⟨⟨_, (h1.cell j).trans (List.getElem?_eq_getElem (by rw [h2]; exact hj))⟩, h1.frozen j, h1.lt⟩
theorem PtsI.lt {f : Int → List Int} {ms : List Int} {w wr : World} {j : Nat} (h : PtsI f ms w j wr) : w.heap.size + 1 < wr.heap.size := by
  obtain ⟨vs, h1, _⟩ := h
  exact h1.lt
theorem PtsI.reads {f : Int → List Int} {ms : List Int} {w wr : World} (h : PtsI f ms w ms.length wr) (hn : ms.length ≤ 1000) : ReadsR wr (.slice (some ⟨w.heap.size + 1, 0, none⟩) ms.length ms.length) (ms.map f) := by
  obtain ⟨vs, h1, h2, h3⟩ := h
  refine ⟨_, ms.length, by rw [List.length_map], by rw [List.length_map]; exact Nat.le_refl _, by unfold maxLen; omega, fun i hi => ?_⟩
  rw [List.length_map] at hi
  obtain ⟨u, h4, h5⟩ := h3 i _ hi (List.getElem?_eq_getElem hi)
  refine ⟨w.heap.size + 1, 0, u, rfl, h1.lt, by rw [Nat.zero_add, h1.cell]; exact h4, ?_⟩
  rw [List.getD_eq_getElem?_getD, List.getElem?_map, List.getElem?_eq_getElem hi]
  exact h5.reads
theorem PtsI.start (f : Int → List Int) (ms : List Int) (w w1 : World) (n : Nat) (hn : ms.length = n) (hs : w1.heap.size = w.heap.size + 1) : PtsI f ms w 0 (w1.alloc (.cells (List.replicate n (Value.slice none 0 0)).toArray 22)) := by
  have h := Has.new w1 (List.replicate n (Value.slice none 0 0)) 22
  rw [hs] at h
  exact ⟨_, h, by rw [List.length_replicate, hn], fun i m hi => absurd hi (Nat.not_lt_zero _)⟩
/-! ### Tell -/
def TelI (ms : List Int) (w : World) (y : Value) (wr : World) : Prop :=
  ∃ j : Nat, j ≤ ms.length ∧ y = .int .i64 (j : Nat) ∧ PtsI classesN ms w j wr ∧ Has wr w.heap.size [.int .i64 0, .int .i64 0, .int .i64 0, .int .i64 0, .int .i64 0, .int .i64 0, .int .i64 0, .int .i64 0] 31 ∧ Below w.heap.size w wr
set_option linter.unusedSimpArgs false in
set_option linter.unusedVariables false in
set_option maxHeartbeats 8000000 in
set_option maxRecDepth 100000 in
theorem tellT_no (ms : List Int) (v : Value) (w : World) (hl : ms.length ≤ 1000) (hr : ReadsI w v ms) (h : masksB ms = false) :
    Calls Try.prog 13 #[v] w fun e w' => e = .returned (.tuple #[.agg #[.int .i64 0, .int .i64 0, .int .i64 0, .int .i64 0, .int .i64 0, .int .i64 0, .int .i64 0, .int .i64 0], .int .i64 1]) ∧ Below w.heap.size w w' := by
  have hb2 : Below w.heap.size w (w.alloc (.cells #[.int .i64 0, .int .i64 0, .int .i64 0, .int .i64 0, .int .i64 0, .int .i64 0, .int .i64 0, .int .i64 0] 31)) := (Below.refl _ _).alloc (Nat.le_refl _) _
  have HM := Lib.hid (mayBe_any ms v _ (by omega) (hr.below hb2))
  rw [h] at HM
  have HB := Lib.hid hb2
  clear hb2 h hr hl
  go_enter Try.func13, Try.ntmps13
  go_wp2_with fail
  refine HM.out.mono ?_
  rintro e w3 ⟨rfl, rfl⟩
  go_wp2
  exact bodyPost_ret (results_cell_tmp rfl rfl (run_loadVar_mid _ _ _ 31 [.int .i64 0, .int .i64 0, .int .i64 0, .int .i64 0, .int .i64 0, .int .i64 0, .int .i64 0, .int .i64 0] _ (Has.new w [.int .i64 0, .int .i64 0, .int .i64 0, .int .i64 0, .int .i64 0, .int .i64 0, .int .i64 0, .int .i64 0] 31).range Try.underlying31 rfl size8)) rfl ⟨rfl, HB.out⟩
set_option linter.unusedSimpArgs false in
set_option linter.unusedVariables false in
set_option maxHeartbeats 8000000 in
set_option maxRecDepth 100000 in
theorem tellT_core (T : Nat → Int) (ms : List Int) (ao : Option Addr) (n cap : Nat) (hn : ms.length = n) (hn1 : n ≤ 1000) (w : World) (hr : ReadsI w (.slice ao n cap) ms) (h : masksB ms = true)
    (hT : ∀ W v, ReadsR W v (ms.map classesN) → Calls Try.prog 25 #[v] W fun e w' => e = .returned (.agg (telC T 8).toArray) ∧ Below W.heap.size W w') :
    Calls Try.prog 13 #[.slice ao n cap] w fun e w' => e = .returned (.tuple #[.agg (telC T 8).toArray, .int .i64 0]) ∧ Below w.heap.size w w' := by
  obtain ⟨w2, hw2⟩ : ∃ w2, w.alloc (.cells #[.int .i64 0, .int .i64 0, .int .i64 0, .int .i64 0, .int .i64 0, .int .i64 0, .int .i64 0, .int .i64 0] 31) = w2 := ⟨_, rfl⟩
  have hb2 : Below w.heap.size w w2 := by rw [← hw2]; exact (Below.refl _ _).alloc (Nat.le_refl _) _
  have hx2 : Has w2 w.heap.size [.int .i64 0, .int .i64 0, .int .i64 0, .int .i64 0, .int .i64 0, .int .i64 0, .int .i64 0, .int .i64 0] 31 := by rw [← hw2]; exact Has.new w _ _
  have hs2 : w2.heap.size = w.heap.size + 1 := by rw [← hw2]; simp
  have HM := Lib.hid (mayBe_any ms _ w2 (by omega) (hr.below hb2))
  rw [h] at HM
  have hmk := make_rows n hn1 w2
  rw [hs2] at hmk
  obtain ⟨w3, hw3⟩ : ∃ w3, w2.alloc (.cells (List.replicate n (Value.slice none 0 0)).toArray 22) = w3 := ⟨_, rfl⟩
  have k3 : Below w2.heap.size w2 w3 := by rw [← hw3]; exact (Below.refl _ _).alloc (Nat.le_refl _) _
  have HST := Lib.hid (show TelI ms w (.int .i64 0) w3 from ⟨0, Nat.zero_le _, rfl, by rw [← hw3]; exact PtsI.start classesN ms w w2 n hn hs2, hx2.call k3, hb2.trans (k3.mono hb2.size)⟩)
  rw [hw3] at hmk
  obtain ⟨L, hLd⟩ : ∃ L, L = telC T 8 := ⟨_, rfl⟩
  have s7 : ((Try.prog).info? 31).map (·.size) = some L.length := by rw [hLd]; exact size8
  have hO1 : L.toArray.all (·.oneCell') = true := by rw [hLd]; exact telC_one T 8
  have hLl : L.length = 8 := by rw [hLd]; rfl
  rw [← hLd] at hT ⊢
  have S7 := Lib.hid s7; have HO := Lib.hid hO1; have HLL := Lib.hid hLl
  have HR := Lib.hid hr; have MT := Lib.hid hT; have HN := Lib.hid hn
  have HW2 := Lib.hid hw2
  clear hw2 hb2 h hr hx2 hs2 k3 hw3 hT hn hLd s7 hO1 hLl
  go_enter Try.func13, Try.ntmps13
  go_upto_region 1 with fail
  rw [HW2.out]
  go_wp2_with fail
  refine HM.out.mono ?_
  rintro e w3 ⟨rfl, rfl⟩
  go_wp2
  clear hmk
  go_loopw [16] (TelI ms w) (fun y _ => n - (intOf y).toNat)
  case atStart => exact HST.out
  case round =>
    obtain ⟨j, hj, rfl, hp, hx, hb⟩ := hrel
    have HP := Lib.hid hp; have HX := Lib.hid hx; have HB := Lib.hid hb
    rw [HN.out] at hj
    by_cases hl : j < n
    · obtain ⟨m, hm⟩ : ∃ m, ms[j]? = some m := ⟨_, List.getElem?_eq_getElem (by rw [HN.out]; exact hl)⟩
      obtain ⟨b, off, hao, hbl, hc⟩ := (HR.out.below hb).spot hm
      subst hao
      have HM := Lib.hid hm
      have HC := Lib.hid (classesOf_any m wr)
      have hjz : (j : Int) < (n : Int) := by omega
      have hjx : 0 ≤ (j : Int) ∧ (j : Int) < (n : Int) := by omega
      clear hp hx hb hm hj
      go_wp2_with fail
      refine HC.out.mono ?_
      rintro e w6 ⟨v', rfl, hi6, k6⟩
      have hp6 := HP.out.below k6
      have hi6' := hi6.mono (B' := w.heap.size + 2) HP.out.lt
      have HQ := Lib.hid (show TelI ms w (.int .i64 ((j : Int) + 1)) (w6.setCell ⟨w.heap.size + 1, j, none⟩ v') from ⟨j + 1, by rw [HN.out]; omega, by first | rfl | go_num, hp6.step HM.out hi6', (HX.out.call k6).other (by dsimp only; omega) _, (HB.out.trans (k6.mono HB.out.size)).setCell (by dsimp only; omega) _⟩)
      obtain ⟨⟨u0, hu0⟩, hf0, hl0⟩ := hp6.cell (by rw [HN.out]; exact hl)
      obtain ⟨a6, c6, hv6⟩ := hi6.reads.shape
      obtain ⟨n6, hn6⟩ : ∃ n6, (classesN m).length = n6 := ⟨_, rfl⟩
      rw [hn6] at hv6
      subst hv6
      clear hp6 hi6 hi6' k6 hc hbl hn6 hl
      go_wp2
      go_roundw
      case rel => exact HQ.out
      case measure => simp [intOf]; omega
    · obtain rfl : j = n := by omega
      have hrd : ReadsR wr (.slice (some ⟨w.heap.size + 1, 0, none⟩) j j) (ms.map classesN) := by
        have := (show PtsI classesN ms w ms.length wr by rw [HN.out]; exact hp).reads (by rw [HN.out]; exact hn1)
        rwa [HN.out] at this
      have HT := Lib.hid (MT.out wr _ hrd)
      clear hp hx hb hj hrd hl
      go_wp2_with fail
      refine HT.out.mono ?_
      rintro e w6 ⟨rfl, k6⟩
      have HX6 := Lib.hid (HX.out.call k6)
      have HB6 := Lib.hid (HB.out.trans (k6.mono HB.out.size))
      have HTh := Lib.hid (show w6.there w.heap.size 0 L.toArray.size from HX6.out.midThere 0 _ (by rw [List.size_toArray, HLL.out]; decide))
      have hN : Has (w6.setCells w.heap.size 0 L) w.heap.size L 31 := HX6.out.sets _ (by rw [HLL.out]; rfl)
      have HBl := Lib.hid (show Below w.heap.size w (w6.setCells w.heap.size 0 L) from Below.sets HB6.out (Nat.le_refl _) _ _)
      have hL0 : (loadVar 31 ⟨w.heap.size, 0, none⟩).run Try.prog (w6.setCells w.heap.size 0 L) = .ok (.agg L.toArray) (w6.setCells w.heap.size 0 L) := run_loadVar_mid _ _ _ _ _ _ hN.range Try.underlying31 rfl S7.out
      have HL0 := Lib.hid hL0
      clear k6 hN hL0
      go_wp2_with (refine wpList_store_mid rfl 31 _ _ rfl w.heap.size 0 L.toArray rfl rfl HTh.out S7.out HO.out ?_)
      exact bodyPost_ret (results_cell_tmp rfl rfl HL0.out) rfl ⟨rfl, HBl.out⟩
/-! ### Exact -/
def ExcI (l : List Int) (w : World) (y : Value) (wr : World) : Prop :=
  ∃ j : Nat, j ≤ l.length ∧ y = .int .i64 (j : Nat) ∧ PtsI (fun c => [c]) l w j wr ∧ Has wr w.heap.size [.bool false, .bool false, .bool false, .bool false, .bool false, .bool false, .bool false, .bool false] 24 ∧ Below w.heap.size w wr
def ExcJ (X : Nat → Bool) (w : World) (hb : Nat) (y : Value) (wr : World) : Prop :=
  ∃ i : Nat, i ≤ 8 ∧ y = .int .i64 (i : Nat) ∧ Has wr w.heap.size (exaC X 0) 24 ∧ Has wr hb (exaC X i) 24 ∧ Below w.heap.size w wr
theorem exactT_no1 (l : List Int) (v : Value) (w : World) (hr : ReadsI w v l) (h : 15 < l.length) :
    Calls Try.prog 9 #[v] w fun e w' => e = .returned (.tuple #[.agg #[.bool false, .bool false, .bool false, .bool false, .bool false, .bool false, .bool false, .bool false], .int .i64 1]) ∧ Below w.heap.size w w' := by
  have hb2 : Below w.heap.size w (w.alloc (.cells #[.bool false, .bool false, .bool false, .bool false, .bool false, .bool false, .bool false, .bool false] 24)) := (Below.refl _ _).alloc (Nat.le_refl _) _
  have HB := Lib.hid hb2
  obtain ⟨ao, cap, rfl⟩ := hr.shape
  obtain ⟨n, hn⟩ : ∃ n, l.length = n := ⟨_, rfl⟩
  rw [hn] at h ⊢
  have g : 15 < (n : Int) := by omega
  clear hb2 h hr hn
  go_enter Try.func9, Try.ntmps9
  go_wp2
  exact bodyPost_ret (results_cell_tmp rfl rfl (run_loadVar_mid _ _ _ 24 [.bool false, .bool false, .bool false, .bool false, .bool false, .bool false, .bool false, .bool false] _ (Has.new w [.bool false, .bool false, .bool false, .bool false, .bool false, .bool false, .bool false, .bool false] 24).range Try.underlying24 rfl size8b)) rfl ⟨rfl, HB.out⟩
theorem exactT_no2 (l : List Int) (v : Value) (w : World) (hr : ReadsI w v l) (h : l.length ≤ 15) (h2 : l.all clsB = false) :
    Calls Try.prog 9 #[v] w fun e w' => e = .returned (.tuple #[.agg #[.bool false, .bool false, .bool false, .bool false, .bool false, .bool false, .bool false, .bool false], .int .i64 1]) ∧ Below w.heap.size w w' := by
  have hb2 : Below w.heap.size w (w.alloc (.cells #[.bool false, .bool false, .bool false, .bool false, .bool false, .bool false, .bool false, .bool false] 24)) := (Below.refl _ _).alloc (Nat.le_refl _) _
  have HM := Lib.hid (contf_any _ _ notClass l v _ (by omega) (hr.below hb2))
  rw [h2] at HM
  have HB := Lib.hid hb2
  obtain ⟨ao, cap, rfl⟩ := hr.shape
  obtain ⟨n, hn⟩ : ∃ n, l.length = n := ⟨_, rfl⟩
  rw [hn] at h HM ⊢
  have g : ¬ 15 < (n : Int) := by omega
  clear hb2 h hr hn h2
  go_enter Try.func9, Try.ntmps9
  go_wp2_with fail
  refine HM.out.mono ?_
  rintro e w3 ⟨rfl, rfl⟩
  go_wp2
  exact bodyPost_ret (results_cell_tmp rfl rfl (run_loadVar_mid _ _ _ 24 [.bool false, .bool false, .bool false, .bool false, .bool false, .bool false, .bool false, .bool false] _ (Has.new w [.bool false, .bool false, .bool false, .bool false, .bool false, .bool false, .bool false, .bool false] 24).range Try.underlying24 rfl size8b)) rfl ⟨rfl, HB.out⟩
set_option linter.unusedSimpArgs false in
set_option linter.unusedVariables false in
set_option maxHeartbeats 8000000 in
set_option maxRecDepth 100000 in
theorem exactT_core (T : Nat → Int) (l : List Int) (ao : Option Addr) (n cap : Nat) (hn : l.length = n) (h15 : n ≤ 15) (w : World) (hr : ReadsI w (.slice ao n cap) l) (h : l.all clsB = true)
    (hT : ∀ W v, ReadsR W v (l.map fun c => [c]) → Calls Try.prog 25 #[v] W fun e w' => e = .returned (.agg (telC T 8).toArray) ∧ Below W.heap.size W w') :
    Calls Try.prog 9 #[.slice ao n cap] w fun e w' => e = .returned (.tuple #[.agg (exaC (fun r => T r == 2) 8).toArray, .int .i64 0]) ∧ Below w.heap.size w w' := by
  obtain ⟨X, hX⟩ : ∃ X : Nat → Bool, (fun r => T r == 2) = X := ⟨_, rfl⟩
  rw [hX]
  have hXr : ∀ r, (T r == 2) = X r := fun r => by rw [← hX]
  have HX := Lib.hid hXr
  obtain ⟨w2, hw2⟩ : ∃ w2, w.alloc (.cells #[.bool false, .bool false, .bool false, .bool false, .bool false, .bool false, .bool false, .bool false] 24) = w2 := ⟨_, rfl⟩
  have hb2 : Below w.heap.size w w2 := by rw [← hw2]; exact (Below.refl _ _).alloc (Nat.le_refl _) _
  have hx2 : Has w2 w.heap.size [.bool false, .bool false, .bool false, .bool false, .bool false, .bool false, .bool false, .bool false] 24 := by rw [← hw2]; exact Has.new w _ _
  have hs2 : w2.heap.size = w.heap.size + 1 := by rw [← hw2]; simp
  have HM := Lib.hid (contf_any _ _ notClass l _ w2 (by omega) (hr.below hb2))
  rw [h] at HM
  have hmk := make_rows n (by omega) w2
  rw [hs2] at hmk
  obtain ⟨w3, hw3⟩ : ∃ w3, w2.alloc (.cells (List.replicate n (Value.slice none 0 0)).toArray 22) = w3 := ⟨_, rfl⟩
  have k3 : Below w2.heap.size w2 w3 := by rw [← hw3]; exact (Below.refl _ _).alloc (Nat.le_refl _) _
  have HST := Lib.hid (show ExcI l w (.int .i64 0) w3 from ⟨0, Nat.zero_le _, rfl, by rw [← hw3]; exact PtsI.start _ l w w2 n hn hs2, hx2.call k3, hb2.trans (k3.mono hb2.size)⟩)
  rw [hw3] at hmk
  obtain ⟨TV, hTV⟩ : ∃ V, Value.agg (telC T 8).toArray = V := ⟨_, rfl⟩
  rw [hTV] at hT
  have HTV := Lib.hid hTV
  obtain ⟨L, hLd⟩ : ∃ L, L = exaC X 8 := ⟨_, rfl⟩
  have s7 : ((Try.prog).info? 24).map (·.size) = some L.length := by rw [hLd]; exact size8b
  have hO1 : L.toArray.all (·.oneCell') = true := by rw [hLd]; exact exaC_one X 8
  have hLl : L.length = 8 := by rw [hLd]; rfl
  rw [← hLd]
  have S7 := Lib.hid s7; have HO := Lib.hid hO1; have HLL := Lib.hid hLl; have HLD := Lib.hid hLd
  have HR := Lib.hid hr; have MT := Lib.hid hT; have HN := Lib.hid hn
  have HW2 := Lib.hid hw2
  have g15 : ¬ 15 < (n : Int) := by omega
  clear hw2 hb2 h hr hx2 hs2 k3 hw3 hT hn hLd s7 hO1 hLl hX hXr hTV
  go_enter Try.func9, Try.ntmps9
  go_upto_region 1 with fail
  rw [HW2.out]
  go_wp2_with fail
  refine HM.out.mono ?_
  rintro e w3 ⟨rfl, rfl⟩
  go_wp2
  clear hmk g15
  go_loopw [23] (ExcI l w) (fun y _ => n - (intOf y).toNat)
  case atStart => exact HST.out
  case round =>
    obtain ⟨j, hj, rfl, hp, hx, hb⟩ := hrel
    have HP := Lib.hid hp; have HX1 := Lib.hid hx; have HB := Lib.hid hb
    rw [HN.out] at hj
    by_cases hl : j < n
    · obtain ⟨c, hc⟩ : ∃ c, l[j]? = some c := ⟨_, List.getElem?_eq_getElem (by rw [HN.out]; exact hl)⟩
      obtain ⟨b, off, hao, hbl, hcc⟩ := (HR.out.below hb).spot hc
      subst hao
      have hjz : (j : Int) < (n : Int) := by omega
      have hjx : 0 ≤ (j : Int) ∧ (j : Int) < (n : Int) := by omega
      have k6 : Below wr.heap.size wr (wr.alloc (.cells #[.int .i64 c] 3)) := (Below.refl _ _).alloc (Nat.le_refl _) _
      have hp6 := HP.out.below k6
      have hi6' := (IRow.one wr c).mono (B' := w.heap.size + 2) HP.out.lt
      have HQ := Lib.hid (show ExcI l w (.int .i64 ((j : Int) + 1)) ((wr.alloc (.cells #[.int .i64 c] 3)).setCell ⟨w.heap.size + 1, j, none⟩ (.slice (some ⟨wr.heap.size, 0, none⟩) 1 1)) from ⟨j + 1, by rw [HN.out]; omega, by first | rfl | go_num, hp6.step hc hi6', (HX1.out.call k6).other (by dsimp only; omega) _, (HB.out.trans (k6.mono HB.out.size)).setCell (by dsimp only; omega) _⟩)
      obtain ⟨⟨u0, hu0⟩, hf0, hl0⟩ := hp.cell (by rw [HN.out]; exact hl)
      have HSW := Lib.hid (World.setCell_alloc_past (w := wr) (.cells #[.int .i64 c] 3) (w.heap.size + 1) j (.slice (some ⟨wr.heap.size, 0, none⟩) 1 1) hl0)
      clear hp6 hi6' k6 hp hx hb hc hj
      go_wp2
      go_roundw
      case rel => rw [← HSW.out]; exact HQ.out
      case measure => simp [intOf]; omega
    · obtain rfl : j = n := by omega
      have hrd : ReadsR wr (.slice (some ⟨w.heap.size + 1, 0, none⟩) j j) (l.map fun c => [c]) := by
        have := (show PtsI (fun c => [c]) l w l.length wr by rw [HN.out]; exact hp).reads (by rw [HN.out]; omega)
        rwa [HN.out] at this
      obtain ⟨w8, hw8⟩ : ∃ w8, wr.alloc (.cells #[.bool false, .bool false, .bool false, .bool false, .bool false, .bool false, .bool false, .bool false] 24) = w8 := ⟨_, rfl⟩
      obtain ⟨hb8, hhb⟩ : ∃ b, wr.heap.size = b := ⟨_, rfl⟩
      have k8 : Below wr.heap.size wr w8 := by rw [← hw8]; exact (Below.refl _ _).alloc (Nat.le_refl _) _
      have HH8 := Lib.hid (show Has w8 hb8 (exaC X 0) 24 by rw [← hw8, ← hhb]; exact Has.new wr (exaC X 0) 24)
      have HR8 := Lib.hid (show Has w8 w.heap.size (exaC X 0) 24 from hx.call k8)
      have HB8 := Lib.hid (hb.trans (k8.mono hb.size))
      have HT := Lib.hid (MT.out w8 _ (hrd.below k8))
      have hlb : w.heap.size + 1 < hb8 := by rw [← hhb]; exact hp.lt
      have HLB := Lib.hid hlb
      have HW8 := Lib.hid hw8; have HHB := Lib.hid hhb
      clear hp hx hb hj hrd hl hw8 hhb k8 hlb HST HP HX1 HB
      go_upto_region 10 with fail
      rw [HW8.out]
      (try rw [HHB.out])
      go_wp2_with fail
      refine HT.out.mono ?_
      rintro e w9 ⟨rfl, k9⟩
      have hS := Lib.hid (show ExcJ X w hb8 (.int .i64 0) w9 from ⟨0, by omega, rfl, HR8.out.call k9, HH8.out.call k9, HB8.out.trans (k9.mono HB8.out.size)⟩)
      clear k9
      go_wp2
      obtain ⟨wr2, hwr2⟩ : ∃ W : World, W = wr := ⟨_, rfl⟩
      rw [← hwr2] at HW8 HHB
      clear hwr2
      go_loopw [36] (ExcJ X w hb8) (fun y _ => 8 - (intOf y).toNat)
      case atStart => exact hS.out
      case round =>
        obtain ⟨i, hi, rfl, hR, hA, hb⟩ := hrel
        have HR := Lib.hid hR
        have HA := Lib.hid hA
        have HW := Lib.hid hb
        clear hR hA hb
        by_cases h8 : i = 8
        · subst h8
          have hRg := HA.out.range
          have hTh := HR.out.midThere 0 8 (by simp [exaC])
          have hN := HR.out.sets L (by rw [HLL.out]; rfl)
          have hBl := Below.sets HW.out (Nat.le_refl w.heap.size) 0 L
          rw [← HLD.out] at hRg
          have HLO := Lib.hid (run_loadVar_mid (P := Try.prog) _ _ 0 24 L _ hN.range Try.underlying24 rfl S7.out)
          have HTh := Lib.hid (show wr.there w.heap.size 0 L.toArray.size from (show L.toArray.size = 8 from (List.size_toArray ..).trans HLL.out) ▸ hTh)
          have HG := Lib.hid hRg; have HBl := Lib.hid hBl
          clear hRg hTh hN hBl hi
          go_wp2_with (first | (refine wpList_load_mid rfl 24 _ rfl hb8 0 rfl L _ HG.out Try.underlying24 rfl S7.out ?_) | (refine wpList_store_mid rfl 24 _ _ rfl w.heap.size 0 L.toArray rfl rfl HTh.out S7.out HO.out ?_))
          exact bodyPost_ret (results_cell_tmp rfl rfl HLO.out) rfl ⟨rfl, HBl.out⟩
        · have hlt : (i : Int) < 8 := by omega
          have hib : i < 8 := by omega
          obtain ⟨x, hx⟩ : ∃ x, x = T (i + 1) := ⟨_, rfl⟩
          obtain ⟨y, hy⟩ : ∃ y, y = X (i + 1) := ⟨_, rfl⟩
          have hxy : (x == 2) = y := by rw [hx, hy]; exact HX.out (i + 1)
          have HS : Hid ((exaC X i).set i (.bool y) = exaC X (i + 1)) := Lib.hid (hy ▸ exaC_set X i hib)
          have hix : ∀ W, (Instr.index 31 TV (.int .i64 (i : Nat))).run Try.prog W = .ok (.int .i64 x) W := fun W => by rw [hx, ← HTV.out]; exact tel_at T i hib W
          obtain ⟨u, hu⟩ := exaC_some X i i hib
          have c0 : wr.cell? ⟨hb8, i, none⟩ = some (.bool u) := (HA.out.cell i).trans hu
          have f0 : wr.frozen? ⟨hb8, i, none⟩ = false := HA.out.frozen i
          have hal := HA.out.lt
          have HQ := Lib.hid (show ExcJ X w hb8 (.int .i64 ((i : Int) + 1)) (wr.setCell ⟨hb8, i, none⟩ (.bool y)) from ⟨i + 1, by omega, by first | rfl | go_num, HR.out.other (by have := HLB.out; dsimp only; omega) _, by rw [← HS.out]; exact HA.out.set i (.bool y), HW.out.setCell (by have := HLB.out; dsimp only; omega) _⟩)
          clear hx hy hu h8 hi
          go_wp2
          go_roundw
          case rel => exact HQ.out
          case measure => simp [intOf]; omega
end Go.Proofs.Ytjonpcpcokapkaa
