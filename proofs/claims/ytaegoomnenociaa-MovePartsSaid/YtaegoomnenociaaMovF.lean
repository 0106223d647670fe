/- move.Run where nothing is refused: the move and the steps, and where there would be too many samples. -/
import Derived.Test.YtaegoomnenociaaMovD
import Derived.Test.YtaegoomnenociaaMovE
import Derived.Test.YtaegoomnenociaaIn
import Derived.Shelf.Abstract
namespace Go.Proofs.Ytaegoomnenociaa
open Go.RowKit Go.Shelf

theorem make_none (n : Nat) (hc : n ≤ 100000) (w : World) : (Instr.makeSlice 24 (.int .i64 0) (.int .i64 (n : Int))).run Try.prog w = .ok (.slice (some ⟨w.heap.size, 0, none⟩) 0 n) (w.alloc (.cells (List.replicate n (Value.int .i64 0)).toArray 3)) := by
  obtain ⟨i, hi, h0, h1, h2⟩ := info_parts infoInt
  have := run_make (P := Try.prog) w 24 3 i (.int .i64 0) Try.underlying24 hi h0 .i64 .i64 0 (n : Int) (by omega) (by omega) (by rw [h2]; omega) (by omega)
  rw [this, h1]
  simp only [Int.toNat_natCast, Nat.mul_one, Int.toNat_zero]
  congr 3
  have := toList_madeCells_one (.int .i64 0) n
  rw [← this]
  rfl
/-- A row of ints at a known place, with room. -/
def IAt (B g n cap : Nat) (l : List Int) (w : World) : Prop := w.ownsRow B 3 1 (.slice (some ⟨g, 0, none⟩) n cap) n (intsV l)
theorem IAt.row {B g n cap : Nat} {l : List Int} {w : World} (h : IAt B g n cap l w) : n = l.length ∧ IRow B (.slice (some ⟨g, 0, none⟩) n cap) l w := by
  have h1 : (intsV l).length = n * 1 := h.1
  rw [intsV_len, Nat.mul_one] at h1
  subst h1
  exact ⟨rfl, h⟩
theorem IAt.frame {B g n cap : Nat} {l : List Int} {w w' : World} (h : IAt B g n cap l w) (e : w'.heap[g]? = w.heap[g]?) : IAt B g n cap l w' := by
  refine ⟨h.1, ?_⟩
  rcases h.2 with hn | ⟨g', cap', cur, h3, h4, h5, h6⟩
  · exact .inl hn
  · refine .inr ⟨g', cap', cur, h3, h4, ?_, h6⟩
    injection h3 with e1 _ _
    injection e1 with e1
    injection e1 with e1 _ _
    subst e1
    rw [e]
    exact h5
theorem IAt.lt {B g n cap : Nat} {l : List Int} {w : World} (h : IAt B g n cap l w) : g < w.heap.size := by
  have h0 : w.ownsRow B 3 1 (.slice (some ⟨g, 0, none⟩) n cap) n (intsV l) := h
  exact (h0.lt g rfl).2
theorem IAt.made (w : World) (n : Nat) (hn : n ≤ 100000) : IAt w.heap.size w.heap.size 0 n [] (w.alloc (.cells (List.replicate n (Value.int .i64 0)).toArray 3)) :=
  World.ownsRow_made w _ n (Nat.le_refl _) (by unfold maxLen; omega) (by simp)
theorem IAt.mono {B B' g n cap : Nat} {l : List Int} {w : World} (h : IAt B g n cap l w) (hb : B' ≤ B) : IAt B' g n cap l w := by
  refine ⟨h.1, ?_⟩
  rcases h.2 with hn | ⟨g', cap', cur, h3, h4, h5⟩
  · exact .inl hn
  · exact .inr ⟨g', cap', cur, h3, by omega, h5⟩
theorem Above.grown {D g : Nat} {x y z : World} (h : Above D x y) (hg : y.grownBy z (some g)) (hd : g < D) : Above D x z :=
  h.trans ⟨hg.size, fun k hk hx => hg.block k hx (fun e => by injection e with e; omega)⟩
theorem lastF_get : ∀ (a : Int) (l : List Int) (p : Nat), l.length = p + 1 → lastF a l = l.getD p 0
  | _, [], _, h => by cases h
  | a, [x], p, h => by
    have : p = 0 := by simpa using h.symm
    subst this
    rfl
  | a, x :: y :: r, p, h => by
    cases p with
    | zero => simp at h
    | succ p =>
      have := lastF_get x (y :: r) p (by simpa using h)
      show lastF x (y :: r) = (x :: y :: r).getD (p + 1) 0
      rw [this]
      rfl
theorem small_wrap {p : Nat} (h : p ≤ 1000) : wrap64 (p : Int) = (p : Int) := by unfold wrap64; omega
theorem small_pred {n p : Nat} (h : n = p + 1) : (n : Int) - 1 = (p : Int) := by omega
structure RunI (n : Nat) (N Z S : Int) (st : List Int) (ao : Option Addr) (cap b9 g bm : Nat) (w : World) (L : Int) (i : Nat) (W : World) : Prop where
  box9 : Has W b9 [.int .i64 (N + (n : Int)), .int .i64 Z, .int .i64 (S + sumI (st.take i))] 23
  box10 : Has W (g + 1) [.slice (some ⟨g, 0, none⟩) i n] 24
  row : IAt g g i n (st.take i) W
  bxm : Has W bm [.int .i64 N, .int .i64 L, .int .i64 S] 23
  bxl : Has W (bm + 1) [.slice ao n cap] 24
  res : Has W (w.heap.size + 1) [.int .i64 0, .int .i64 0, .int .i64 0] 23
  low : Below w.heap.size w W
theorem RunI.step {n : Nat} {N Z S : Int} {st : List Int} {ao : Option Addr} {cap b9 g bm : Nat} {w : World} {L : Int} {i : Nat} {X Y : World} {B : Nat} (h : RunI n N Z S st ao cap b9 g bm w L i X) (k : Below B X Y) (h9 : b9 < B) (h10 : g + 1 < B) (hm : bm + 1 < B) (hr : w.heap.size + 1 < B) : RunI n N Z S st ao cap b9 g bm w L i Y :=
  ⟨h.box9.below k h9, h.box10.below k h10, h.row.frame (k.block g (by omega)), h.bxm.below k (by omega), h.bxl.below k hm, h.res.below k hr, h.low.trans (k.mono (by omega))⟩
theorem RunI.call {n : Nat} {N Z S : Int} {st : List Int} {ao : Option Addr} {cap b9 g bm : Nat} {w : World} {L : Int} {i : Nat} {X Y : World} (h : RunI n N Z S st ao cap b9 g bm w L i X) (k : Below X.heap.size X Y) : RunI n N Z S st ao cap b9 g bm w L i Y :=
  h.step k h.box9.lt h.box10.lt h.bxl.lt h.res.lt
theorem Has.put {W : World} {b l : Nat} {cs : List Value} {T : TypeId} {r : Loop} (h : Has W b cs T) (o : Obj) (hl : W.heap[l]? = some (.loop r)) : Has (W.putObj l o) b cs T := by
  have hne : b ≠ l := by
    rintro rfl
    have h' : W.heap[b]? = _ := h
    rw [hl] at h'
    cases h'
  exact h.of (World.putObj_heap_other hne)
theorem stepsF_get : ∀ (a : Int) (l : List Int) (i : Nat), i < l.length → (stepsF a l).getD i 0 = distI ((a :: l).getD i 0) ((a :: l).getD (i + 1) 0)
  | _, [], i, h => by cases h
  | a, x :: r, 0, _ => rfl
  | a, x :: r, i + 1, h => by
    have := stepsF_get x r i (by simpa using h)
    show (stepsF x r).getD i 0 = distI ((x :: r).getD i 0) ((x :: r).getD (i + 1) 0)
    exact this
theorem full_in {m : Mov} {l : List Int} (hm : movOk m) (hl : inB l = true) {k : Nat} (hk : k < (fullM m l).length) : -1000000 ≤ (fullM m l).getD k 0 ∧ (fullM m l).getD k 0 ≤ 1000000 := by
  refine inB_get ?_ hk
  unfold fullM
  split
  · exact hl
  · show inB ([m.last] ++ l) = true
    rw [inB_append, inB_one, hl, Bool.and_true]
    exact decide_eq_true (movOk_last hm)
/-- The steps are those of neighbours. -/
theorem full_steps {m : Mov} {l : List Int} : (stepsM m l).length = (fullM m l).length - 1 ∧ ∀ i, i < (fullM m l).length - 1 → (stepsM m l).getD i 0 = distI ((fullM m l).getD i 0) ((fullM m l).getD (i + 1) 0) := by
  unfold stepsM fullM
  by_cases h : m.n = 0
  · rw [if_pos h, if_pos h]
    cases l with
    | nil => exact ⟨rfl, fun i hi => absurd hi (Nat.not_lt_zero _)⟩
    | cons x r => exact ⟨by simp [stepsF, stepsF_len], fun i hi => stepsF_get x r i (by simpa using hi)⟩
  · rw [if_neg h, if_neg h]
    exact ⟨by simp [stepsF_len], fun i hi => stepsF_get m.last l i (by simpa using hi)⟩
theorem inB_good {l : List Int} (h : ∀ i, i < l.length → goodI (l.getD i 0) = true) : inB l = true := inB_yes fun i hi => of_decide_eq_true (h i hi)
def OkRel (n : Nat) (w3 : World) (i : Value) (wr : World) : Prop := ∃ k : Nat, k ≤ n ∧ i = .int .i64 (k : Nat) ∧ wr = w3
set_option linter.unusedSimpArgs false in
set_option linter.unusedVariables false in
set_option maxHeartbeats 4000000 in
set_option maxRecDepth 100000 in
theorem run12_full (m : Mov) (l : List Int) (v : Value) (w : World) (hm : movB m = true) (hr : ReadsI w v l) (hg : ∀ i, i < l.length → goodI (l.getD i 0) = true) (hf : ¬ m.n + (l.length : Int) ≤ 1000000000) :
    Calls Try.prog 7 #[movV m, v] w fun e w' => ∃ v', e = .returned (.tuple #[movV mov0, v', .int .i64 11]) ∧ IRow w.heap.size v' [] w' ∧ Below w.heap.size w w' := by
  obtain ⟨ao, cap, rfl, hlc, hcm, -⟩ := id hr
  have hcm2 : cap ≤ 9223372036854775807 := by unfold maxLen at hcm; omega
  clear hcm
  obtain ⟨n, hn⟩ : ∃ n, l.length = n := ⟨_, rfl⟩
  rw [hn] at hlc hr hf ⊢
  obtain ⟨N, L, S⟩ := m
  dsimp only at hf
  have hri := fun W => right12_any N L S W
  rw [hm] at hri
  obtain ⟨w2, hw2⟩ : ∃ w2, (w.alloc (.cells #[.int .i64 N, .int .i64 L, .int .i64 S] 23)).alloc (.cells #[.int .i64 0, .int .i64 0, .int .i64 0] 23) = w2 := ⟨_, rfl⟩
  have HB2 := Lib.hid (show Below w.heap.size w w2 by rw [← hw2]; exact ((Below.refl _ _).alloc (Nat.le_refl _) _).alloc (by simp) _)
  have HA2 := Lib.hid (show Has w2 w.heap.size [.int .i64 N, .int .i64 L, .int .i64 S] 23 by rw [← hw2]; exact (Has.new w _ _).alloc _)
  have HZ2 := Lib.hid (show Has w2 (w.heap.size + 1) [.int .i64 0, .int .i64 0, .int .i64 0] 23 by
    have := Has.new (w.alloc (.cells #[.int .i64 N, .int .i64 L, .int .i64 S] 23)) [.int .i64 0, .int .i64 0, .int .i64 0] 23
    rw [show (w.alloc (.cells #[.int .i64 N, .int .i64 L, .int .i64 S] 23)).heap.size = w.heap.size + 1 by simp] at this
    rw [← hw2]; exact this)
  have HW2 := Lib.hid hw2
  have HN := Lib.hid hn
  have HR2 := Lib.hid (hr.below (show Below w.heap.size w w2 from HB2.out))
  have HRI := Lib.hid hri
  clear hw2 hri hr hn
  unfold movV mov0
  dsimp only
  have hNb := movOk_n (of_decide_eq_true (show decide (movOk _) = true from hm))
  dsimp only at hNb
  have HWN := Lib.hid (show wrap64 (1000000000 - N) = 1000000000 - N by unfold wrap64; omega)
  have HG := Lib.hid hg
  clear hg
  have hfl : 1000000000 - N < (n : Int) := by omega
  clear hf
  go_enter Try.func7, Try.ntmps7
  go_upto_region 1 with fail
  rw [HW2.out]
  have a0 : w2.cell? ⟨w.heap.size, 0, none⟩ = some (.int .i64 N) := HA2.out.cell 0
  have a1 : w2.cell? ⟨w.heap.size, 1, none⟩ = some (.int .i64 L) := HA2.out.cell 1
  have a2 : w2.cell? ⟨w.heap.size, 2, none⟩ = some (.int .i64 S) := HA2.out.cell 2
  have la := HA2.out.lt
  go_wp2_with fail
  refine (HRI.out _).mono ?_
  rintro e w3 ⟨rfl, k3⟩
  have HB3 := Lib.hid (HB2.out.trans (k3.mono HB2.out.size))
  have HA3 := Lib.hid (HA2.out.call k3)
  have HZ3 := Lib.hid (HZ2.out.call k3)
  have HR3 := Lib.hid (HR2.out.below k3)
  clear k3 a0 a1 a2 la
  go_wp2
  go_loopw [19] (OkRel n w3) (fun i _ => n - (intOf i).toNat)
  case atStart => exact ⟨0, Nat.zero_le _, rfl, rfl⟩
  case round =>
    obtain ⟨k, hk, rfl, rfl⟩ := hrel
    by_cases hl : k < n
    · obtain ⟨ao', cp', e0, -, -, hrd⟩ := HR3.out
      injection e0 with e1 e2 e3
      subst e1 e3
      obtain ⟨b, off, rfl, hlt, hc⟩ := hrd k (by rw [HN.out]; omega)
      have hkn : (k : Int) < (n : Int) := by omega
      have hgk := HG.out k (by rw [HN.out]; omega)
      obtain ⟨x, hx⟩ : ∃ x, l.getD k 0 = x := ⟨_, rfl⟩
      rw [hx] at hc hgk
      have hcall := isSample12_any x wr
      rw [hgk] at hcall
      have HCALL := Lib.hid hcall
      clear hrd e2 hx hgk hcall
      go_wp2_with fail
      refine HCALL.out.mono ?_
      rintro e w4 ⟨rfl, rfl⟩
      go_wp2
      go_roundw
      case rel => exact ⟨k + 1, by omega, by first | rfl | go_num, rfl⟩
      case measure => simp [intOf]; omega
    · obtain rfl : n = k := by omega
      have a0 : wr.cell? ⟨w.heap.size, 0, none⟩ = some (.int .i64 N) := HA3.out.cell 0
      have a1 : wr.cell? ⟨w.heap.size, 1, none⟩ = some (.int .i64 L) := HA3.out.cell 1
      have a2 : wr.cell? ⟨w.heap.size, 2, none⟩ = some (.int .i64 S) := HA3.out.cell 2
      have la := HA3.out.lt
      have lz := HZ3.out.lt
      have hwN := HWN.out
      have z0 : wr.cell? ⟨w.heap.size + 1, 0, none⟩ = some (.int .i64 0) := HZ3.out.cell 0
      have z1 : wr.cell? ⟨w.heap.size + 1, 1, none⟩ = some (.int .i64 0) := HZ3.out.cell 1
      have z2 : wr.cell? ⟨w.heap.size + 1, 2, none⟩ = some (.int .i64 0) := HZ3.out.cell 2
      have f0 : wr.frozen? ⟨w.heap.size + 1, 0, none⟩ = false := HZ3.out.frozen 0
      have f1 : wr.frozen? ⟨w.heap.size + 1, 1, none⟩ = false := HZ3.out.frozen 1
      have f2 : wr.frozen? ⟨w.heap.size + 1, 2, none⟩ = false := HZ3.out.frozen 2
      have HE := Lib.hid (HZ3.out.put3 (.int .i64 0) (.int .i64 0) (.int .i64 0))
      have HBE := Lib.hid (Below.put3 (b := w.heap.size + 1) HB3.out (by omega) (.int .i64 0) (.int .i64 0) (.int .i64 0))
      go_wp2
      (try simp only [Exit.inBlock, Exit.then])
      exact bodyPost_ret (res_cell2 Try.results7 rfl (loadM HE.out)) rfl ⟨_, rfl, IRow.nil _ _, HBE.out⟩
attribute [local go_sem] Oper.semAt_some
set_option linter.unusedSimpArgs false in
set_option linter.unusedVariables false in
set_option maxHeartbeats 4000000 in
set_option maxRecDepth 100000 in
theorem run12_ok (m : Mov) (l : List Int) (v : Value) (w : World) (hm : movB m = true) (hr : ReadsI w v l) (hg : ∀ i, i < l.length → goodI (l.getD i 0) = true) (hf : m.n + (l.length : Int) ≤ 1000000000) (hlen : l.length ≤ 1000) :
    Calls Try.prog 7 #[movV m, v] w fun e w' => ∃ v', e = .returned (.tuple #[movV (runM m l), v', .int .i64 0]) ∧ IRow w.heap.size v' (stepsM m l) w' ∧ Below w.heap.size w w' := by
  have hmv : movOk m := of_decide_eq_true hm
  have HIN := Lib.hid (inB_good hg)
  have hstb := stepsM_bounds hmv HIN.out
  have HSS := Lib.hid (show 0 ≤ m.sum ∧ m.sum ≤ 4000000000000000 by rcases hmv with ⟨_, _, h⟩ | ⟨h, _, h2⟩ <;> omega)
  obtain ⟨ao, cap, rfl, hlc, hcm, -⟩ := id hr
  have hcm2 : cap ≤ 9223372036854775807 := by unfold maxLen at hcm; omega
  clear hcm
  obtain ⟨n, hn⟩ : ∃ n, l.length = n := ⟨_, rfl⟩
  rw [hn] at hlc hr hf hlen ⊢
  obtain ⟨N, L, S⟩ := m
  dsimp only at hf
  obtain ⟨st, hst⟩ : ∃ st, stepsM ⟨N, L, S⟩ l = st := ⟨_, rfl⟩
  obtain ⟨Z, hZ⟩ : ∃ Z, lastF L l = Z := ⟨_, rfl⟩
  have hrun : runM ⟨N, L, S⟩ l = ⟨N + (n : Int), Z, S + sumI st⟩ := by unfold runM; rw [hst, hn, hZ]
  rw [hrun, hst]
  rw [hst] at hstb
  have HSB := Lib.hid hstb
  clear hstb
  dsimp only at HSS
  have HST := Lib.hid hst
  have HZL := Lib.hid hZ
  clear hst hZ hrun
  have hri := fun W => right12_any N L S W
  rw [hm] at hri
  obtain ⟨w2, hw2⟩ : ∃ w2, (w.alloc (.cells #[.int .i64 N, .int .i64 L, .int .i64 S] 23)).alloc (.cells #[.int .i64 0, .int .i64 0, .int .i64 0] 23) = w2 := ⟨_, rfl⟩
  have HB2 := Lib.hid (show Below w.heap.size w w2 by rw [← hw2]; exact ((Below.refl _ _).alloc (Nat.le_refl _) _).alloc (by simp) _)
  have HA2 := Lib.hid (show Has w2 w.heap.size [.int .i64 N, .int .i64 L, .int .i64 S] 23 by rw [← hw2]; exact (Has.new w _ _).alloc _)
  have HZ2 := Lib.hid (show Has w2 (w.heap.size + 1) [.int .i64 0, .int .i64 0, .int .i64 0] 23 by
    have := Has.new (w.alloc (.cells #[.int .i64 N, .int .i64 L, .int .i64 S] 23)) [.int .i64 0, .int .i64 0, .int .i64 0] 23
    rw [show (w.alloc (.cells #[.int .i64 N, .int .i64 L, .int .i64 S] 23)).heap.size = w.heap.size + 1 by simp] at this
    rw [← hw2]; exact this)
  have HW2 := Lib.hid hw2
  have HN := Lib.hid hn
  have HR2 := Lib.hid (hr.below (show Below w.heap.size w w2 from HB2.out))
  have HRI := Lib.hid hri
  have HR0 := Lib.hid hr
  clear hw2 hri hr hn
  unfold movV
  dsimp only
  have hNb := movOk_n (of_decide_eq_true (show decide (movOk _) = true from hm))
  dsimp only at hNb
  have HWN := Lib.hid (show wrap64 (1000000000 - N) = 1000000000 - N by unfold wrap64; omega)
  have HG := Lib.hid hg
  clear hg
  refine calls_of_marks Try.func7 rfl ?_
  simp only [Try.ntmps7, List.size_toArray, List.length_cons, List.length_nil, Nat.reduceAdd, Nat.reduceSub, Array.replicate_succ, Array.replicate_zero, List.push_toArray, List.append_toArray, List.nil_append, List.cons_append]
  go_upto_region 1 with fail
  rw [HW2.out]
  have a0 : w2.cell? ⟨w.heap.size, 0, none⟩ = some (.int .i64 N) := HA2.out.cell 0
  have a1 : w2.cell? ⟨w.heap.size, 1, none⟩ = some (.int .i64 L) := HA2.out.cell 1
  have a2 : w2.cell? ⟨w.heap.size, 2, none⟩ = some (.int .i64 S) := HA2.out.cell 2
  have la := HA2.out.lt
  go_wp2_with fail
  refine (HRI.out _).mono ?_
  rintro e w3 ⟨rfl, k3⟩
  have HB3 := Lib.hid (HB2.out.trans (k3.mono HB2.out.size))
  have HA3 := Lib.hid (HA2.out.call k3)
  have HZ3 := Lib.hid (HZ2.out.call k3)
  have HR3 := Lib.hid (HR2.out.below k3)
  clear k3 a0 a1 a2 la
  go_wp2
  go_loopw [19] (OkRel n w3) (fun i _ => n - (intOf i).toNat)
  case atStart => exact ⟨0, Nat.zero_le _, rfl, rfl⟩
  case round =>
    obtain ⟨k, hk, rfl, rfl⟩ := hrel
    by_cases hl : k < n
    · obtain ⟨ao', cp', e0, -, -, hrd⟩ := HR3.out
      injection e0 with e1 e2 e3
      subst e1 e3
      obtain ⟨b, off, rfl, hlt, hc⟩ := hrd k (by rw [HN.out]; omega)
      have hkn : (k : Int) < (n : Int) := by omega
      have hgk := HG.out k (by rw [HN.out]; omega)
      obtain ⟨x, hx⟩ : ∃ x, l.getD k 0 = x := ⟨_, rfl⟩
      rw [hx] at hc hgk
      have hcall := isSample12_any x wr
      rw [hgk] at hcall
      have HCALL := Lib.hid hcall
      clear hrd e2 hx hgk hcall
      go_wp2_with fail
      refine HCALL.out.mono ?_
      rintro e w4 ⟨rfl, rfl⟩
      go_wp2
      go_roundw
      case rel => exact ⟨k + 1, by omega, by first | rfl | go_num, rfl⟩
      case measure => simp [intOf]; omega
    · obtain rfl : n = k := by omega
      have a0 : wr.cell? ⟨w.heap.size, 0, none⟩ = some (.int .i64 N) := HA3.out.cell 0
      have a1 : wr.cell? ⟨w.heap.size, 1, none⟩ = some (.int .i64 L) := HA3.out.cell 1
      have a2 : wr.cell? ⟨w.heap.size, 2, none⟩ = some (.int .i64 S) := HA3.out.cell 2
      have la := HA3.out.lt
      have lz := HZ3.out.lt
      have hwN := HWN.out
      have hfl : ¬ 1000000000 - N < (n : Int) := by omega
      go_upto_region 11 with fail
      clear hwN
      have hwn : wrap64 (N + (n : Int)) = N + (n : Int) := by unfold wrap64; omega
      obtain ⟨w4, hw4⟩ : ∃ w4, wr.alloc (.cells #[.int .i64 (N + (n : Int)), .int .i64 L, .int .i64 S] 23) = w4 := ⟨_, rfl⟩
      have k4 : Below wr.heap.size wr w4 := by rw [← hw4]; exact (Below.refl _ _).alloc (Nat.le_refl _) _
      have s4 : w4.heap.size = wr.heap.size + 1 := by rw [← hw4]; simp
      have HT4 := Lib.hid (show Has w4 wr.heap.size [.int .i64 (N + (n : Int)), .int .i64 L, .int .i64 S] 23 by rw [← hw4]; exact Has.new wr _ _)
      have HA4 := Lib.hid (HA3.out.call k4)
      have HZ4 := Lib.hid (HZ3.out.call k4)
      have HR4 := Lib.hid (HR3.out.below k4)
      have HB4 := Lib.hid (HB3.out.trans (k4.mono HB3.out.size))
      have hb9 := HB3.out.size
      have HS4 := Lib.hid s4
      have HK4 := Lib.hid k4
      have HW4 := Lib.hid hw4
      clear k4 s4 hw4
      go_upto_if 47 with fail
      clear hwn
      rw [HW4.out]
      obtain ⟨D, hD⟩ : ∃ D : Bool, decide (0 < n) = D := ⟨_, rfl⟩
      rw [hD]
      have HD := Lib.hid hD
      clear hD
      clear a0 a1 a2 la lz
      go_cut [] from 48 to 54 (fun wx => Hid (Has wx wr.heap.size [.int .i64 (N + (n : Int)), .int .i64 Z, .int .i64 S] 23) ∧ Hid (Has wx w.heap.size [.int .i64 N, .int .i64 L, .int .i64 S] 23) ∧ Hid (Has wx (w.heap.size + 1) [.int .i64 0, .int .i64 0, .int .i64 0] 23) ∧ Hid (ReadsI wx (.slice ao n cap) l) ∧ Hid (Below w.heap.size w wx) ∧ Hid (wx.heap.size = wr.heap.size + 1))
      case first =>
        by_cases hn0 : n = 0
        · obtain rfl : D = false := by rw [← HD.out]; exact decide_eq_false (by omega)
          have hl0 : l = [] := List.eq_nil_of_length_eq_zero (by rw [HN.out]; exact hn0)
          have hlf : Z = L := by rw [← HZL.out, hl0]; rfl
          have HE := Lib.hid (show Has w4 wr.heap.size [.int .i64 (N + (n : Int)), .int .i64 Z, .int .i64 S] 23 by rw [hlf]; exact HT4.out)
          clear hl0 hlf hn0
          go_wp2_with fail
          go_meet
          exact ⟨HE, HA4, HZ4, HR4, HB4, HS4⟩
        · obtain rfl : D = true := by rw [← HD.out]; exact decide_eq_true (by omega)
          obtain ⟨p, hp⟩ : ∃ p, n = p + 1 := ⟨n - 1, by omega⟩
          have hlf := lastF_get L l p (by rw [HN.out]; exact hp)
          rw [HZL.out] at hlf
          obtain ⟨ao', cp', e0, -, -, hrd⟩ := HR4.out
          injection e0 with e1 e2 e3
          subst e1 e3
          obtain ⟨b, off, rfl, hlt, hc⟩ := hrd p (by rw [HN.out]; omega)
          rw [← hlf] at hc
          have g1 : (n : Int) - 1 = (p : Int) := small_pred hp
          have g2 : wrap64 (p : Int) = (p : Int) := small_wrap (by rw [hp] at hlen; exact Nat.le_of_succ_le hlen)
          have g4 : p < n := by rw [hp]; exact Nat.lt_succ_self p
          have t0 : w4.cell? ⟨wr.heap.size, 0, none⟩ = some (.int .i64 (N + (n : Int))) := HT4.out.cell 0
          have t1 : w4.cell? ⟨wr.heap.size, 1, none⟩ = some (.int .i64 L) := HT4.out.cell 1
          have t2 : w4.frozen? ⟨wr.heap.size, 1, none⟩ = false := HT4.out.frozen 1
          have t3 := HT4.out.lt
          have HE := Lib.hid (HT4.out.set 1 (.int .i64 Z))
          clear hrd e2 hlf hp hn0
          go_wp2_with fail
          go_meet
          have kk : Below wr.heap.size wr (w4.setCell ⟨wr.heap.size, 1, none⟩ (.int .i64 Z)) := HK4.out.setCell (p := ⟨wr.heap.size, 1, none⟩) (Nat.le_refl _) _
          exact ⟨HE, Lib.hid (HA3.out.call kk), Lib.hid (HZ3.out.call kk), Lib.hid (HR3.out.below kk), Lib.hid (HB4.out.setCell (p := ⟨wr.heap.size, 1, none⟩) hb9 _), Lib.hid (by have := HS4.out; simpa using this)⟩
      case rest =>
        obtain ⟨HT5, HA5, HZ5, HR5, HB5, HS5⟩ := hcut
        obtain ⟨zs, hzs⟩ : ∃ zs : List Value, zs = List.replicate n (Value.int .i64 0) := ⟨_, rfl⟩
        have hmk := fun W => make_none n (by omega) W
        rw [← hzs] at hmk
        obtain ⟨g, hg⟩ : ∃ g, wc.heap.size = g := ⟨_, rfl⟩
        have hsg : g = wr.heap.size + 1 := by rw [← hg]; exact HS5.out
        have hI6 : IAt g g 0 n [] (wc.alloc (.cells zs.toArray 3)) := by rw [hzs, ← hg]; exact IAt.made wc n (by omega)
        obtain ⟨w6, hw6⟩ : ∃ w6, (wc.alloc (.cells zs.toArray 3)).alloc (.cells #[.slice (some ⟨g, 0, none⟩) 0 n] 24) = w6 := ⟨_, rfl⟩
        have k6 : Below wc.heap.size wc w6 := by rw [← hw6]; exact ((Below.refl _ _).alloc (Nat.le_refl _) _).alloc (by simp) _
        have s6 : w6.heap.size = g + 2 := by rw [← hw6, ← hg]; simp
        have HI6 := Lib.hid (show IAt g g 0 n [] w6 from by rw [← hw6]; exact hI6.frame (Below.heap_alloc _ _ _ (by simp; omega)))
        have HP6 := Lib.hid (show Has w6 (g + 1) [.slice (some ⟨g, 0, none⟩) 0 n] 24 by
          have := Has.new (wc.alloc (.cells zs.toArray 3)) [.slice (some ⟨g, 0, none⟩) 0 n] 24
          rw [show (wc.alloc (.cells zs.toArray 3)).heap.size = g + 1 by simp [hg]] at this
          rw [← hw6]; exact this)
        have HT6 := Lib.hid (HT5.out.call k6)
        have HA6 := Lib.hid (HA5.out.call k6)
        have HZ6 := Lib.hid (HZ5.out.call k6)
        have HB6 := Lib.hid (HB5.out.trans (k6.mono HB5.out.size))
        have HG6 := Lib.hid hg
        have HW6 := Lib.hid hw6
        have HS6 := Lib.hid s6
        have HSG := Lib.hid hsg
        clear hI6 k6 s6 hsg hzs hw6
        have x0 : w6.cell? ⟨w.heap.size, 0, none⟩ = some (.int .i64 N) := HA6.out.cell 0
        have x1 : w6.cell? ⟨w.heap.size, 1, none⟩ = some (.int .i64 L) := HA6.out.cell 1
        have x2 : w6.cell? ⟨w.heap.size, 2, none⟩ = some (.int .i64 S) := HA6.out.cell 2
        have xl := HA6.out.lt
        go_upto_region 14 with fail
        go_upto_region 15 with fail
        rw [HW6.out]
        go_wp2_with (go_at_call 17; refine (neighbours_any _ _ _ _ _ _ _).mono ?_; rintro e w' ⟨rfl, rfl⟩)
        clear x0 x1 x2 xl
        obtain ⟨bm, hbm⟩ : ∃ bm, w6.heap.size = bm := ⟨_, rfl⟩
        rw [hbm]
        obtain ⟨W0, hW0⟩ : ∃ W0, (w6.alloc (.cells #[.int .i64 N, .int .i64 L, .int .i64 S] 23)).alloc (.cells #[.slice ao n cap] 24) = W0 := ⟨_, rfl⟩
        have sz0 : W0.heap.size = bm + 2 := by rw [← hW0, ← hbm]; simp
        have k0 : Below w6.heap.size w6 W0 := by rw [← hW0]; exact ((Below.refl _ _).alloc (Nat.le_refl _) _).alloc (by simp) _
        have hM0 : Has W0 bm [.int .i64 N, .int .i64 L, .int .i64 S] 23 := by rw [← hW0, ← hbm]; exact (Has.new w6 _ _).alloc _
        have hL0 : Has W0 (bm + 1) [.slice ao n cap] 24 := by
          have := Has.new (w6.alloc (.cells #[.int .i64 N, .int .i64 L, .int .i64 S] 23)) [.slice ao n cap] 24
          rw [show (w6.alloc (.cells #[.int .i64 N, .int .i64 L, .int .i64 S] 23)).heap.size = bm + 1 by simp [hbm]] at this
          rw [← hW0]; exact this
        have hsz6 : bm = g + 2 := by rw [← hbm]; exact HS6.out
        have hsg := HSG.out
        have hzr := HZ3.out.lt
        have hsq := nbr_seq ⟨N, L, S⟩ l ao cap bm (bm + 1) hNb.1
        rw [HN.out] at hsq
        have hI0 : RunI n N Z S st ao cap wr.heap.size g bm w L 0 W0 :=
          ⟨by rw [List.take_zero, sumI, Int.add_zero]; exact HT6.out.call k0, HP6.out.call k0, by rw [List.take_zero]; exact HI6.out.frame (k0.block _ (by omega)), hM0, hL0, HZ6.out.call k0, HB6.out.trans (k0.mono HB6.out.size)⟩
        have HW0 := Lib.hid hW0
        have HI0 := Lib.hid hI0
        have e1 : wr.heap.size < g := by omega
        have e2 : g + 1 < bm := by omega
        have e3 : bm + 2 ≤ W0.heap.size := by omega
        have e4 : W0.heap.size ≤ bm + 2 := by omega
        have e5 : w.heap.size + 1 < wr.heap.size := hzr
        have e6 : g < bm := by omega
        clear hM0 hL0 k0 hW0 hI0 sz0 hsz6 hsg hzr
        rw [HW0.out]
        refine wp_range (gf := 20) (lb := #[.pointer (some ⟨bm, 0, none⟩), .pointer (some ⟨bm + 1, 0, none⟩)]) rfl (enters_of Try.func20 (by kernel_rfl) rfl) hsq (fun _ => rfl)
          (fun i W => RunI n N Z S st ao cap wr.heap.size g bm w L i W) (fun _ _ => False)
          (fun i X Y h hxy => h.step hxy (by omega) (by omega) (by omega) (by omega))
          (fun _ _ _ h _ => h) (fun i X h => ⟨h.bxm, h.bxl, HR0.out.below h.low⟩) HI0.out
          (fun i a' W' => ∃ b11, bm + 2 ≤ b11 ∧ a' = { tmps := #[.agg #[.int .i64 N, .int .i64 L, .int .i64 S], .slice ao n cap, .pointer (some ⟨w.heap.size, 0, none⟩), undef, .pointer (some ⟨w.heap.size + 1, 0, none⟩), u5, u6, undef, u8, .pointer (some ⟨wr.heap.size, 0, none⟩), .pointer (some ⟨g + 1, 0, none⟩), .pointer (some ⟨b11, 0, none⟩), undef, .agg #[.int .i64 N, .int .i64 L, .int .i64 S], .bool true, .bool false, undef, .slice ao n cap, .int .i64 (n : Int), .int .i64 (n : Int), .bool false, u21, u22, u23, u24, u25, u26, u27, .pointer (some ⟨w.heap.size, 0, none⟩), .int .i64 N, .int .i64 (1000000000 - N), .slice ao n cap, .int .i64 (n : Int), .bool false, undef, .pointer (some ⟨w.heap.size, 0, none⟩), .int .i64 N, .slice ao n cap, .int .i64 (n : Int), .int .i64 (N + (n : Int)), .pointer (some ⟨w.heap.size, 1, none⟩), .int .i64 L, .pointer (some ⟨w.heap.size, 2, none⟩), .int .i64 S, .agg #[.int .i64 (N + (n : Int)), .int .i64 L, .int .i64 S], .slice ao n cap, .int .i64 (n : Int), .bool D, u48, u49, u50, u51, u52, u53, u54, .slice ao n cap, .int .i64 (n : Int), .slice (some ⟨g, 0, none⟩) 0 n, .agg #[.int .i64 N, .int .i64 L, .int .i64 S], .slice ao n cap, .func (.func 20) #[] #[.pointer (some ⟨bm, 0, none⟩), .pointer (some ⟨bm + 1, 0, none⟩)], .agg #[.int .i64 ((fullM ⟨N, L, S⟩ l).getD i 0), .int .i64 ((fullM ⟨N, L, S⟩ l).getD (i + 1) 0)], undef, undef, undef, undef, undef, undef, undef, undef, undef, undef, undef, undef, undef], defers := [] } ∧ Has W' b11 [.int .i64 ((fullM ⟨N, L, S⟩ l).getD i 0), .int .i64 ((fullM ⟨N, L, S⟩ l).getD (i + 1) 0)] 46)
          (fun i a' X l r o hl ⟨b11, h1, h2, h3⟩ => ⟨b11, h1, h2, h3.put o hl⟩)
          ?assign ?body ?done ?stop
        case assign =>
          rintro yl i W m K hi hIi hlt hK'
          unfold pairRow
          obtain ⟨A, hA⟩ : ∃ A, (fullM ⟨N, L, S⟩ l).getD i 0 = A := ⟨_, rfl⟩
          obtain ⟨B, hB⟩ : ∃ B, (fullM ⟨N, L, S⟩ l).getD (i + 1) 0 = B := ⟨_, rfl⟩
          rw [hA, hB] at hK' ⊢
          have HKK := Lib.hid hK'
          have HII := Lib.hid hIi
          clear hK' hIi hA hB
          gi_wp2
          exact HKK.out _ _ ((Above.refl _ _).alloc _) (HII.out.call ((Below.refl _ _).alloc (Nat.le_refl _) _)) ⟨W.heap.size, by omega, rfl, Has.new W _ _⟩
        case body =>
          rintro yl i a' W m hi hIi ⟨b11, hb11, rfl, hp11⟩ hlt
          obtain ⟨hcl, hcs⟩ := full_steps (m := ⟨N, L, S⟩) (l := l)
          rw [HST.out] at hcl hcs
          have hsg1 := hcs i hi
          have hAin := full_in hmv HIN.out (k := i) (by omega)
          have hBin := full_in hmv HIN.out (k := i + 1) (by omega)
          obtain ⟨A, hA⟩ : ∃ A, (fullM ⟨N, L, S⟩ l).getD i 0 = A := ⟨_, rfl⟩
          obtain ⟨B, hB⟩ : ∃ B, (fullM ⟨N, L, S⟩ l).getD (i + 1) 0 = B := ⟨_, rfl⟩
          rw [hA, hB] at hp11 hsg1 ⊢
          rw [hA] at hAin
          rw [hB] at hBin
          have hap := fun W => apart12_any A B hAin hBin W
          have hsb : 0 ≤ distI A B ∧ distI A B ≤ 2000000 := ⟨distI_nonneg _ _, distI_le hAin hBin⟩
          obtain ⟨s, hs⟩ : ∃ s, distI A B = s := ⟨_, rfl⟩
          rw [hs] at hap hsb hsg1
          have hsn := take_snoc (l := st) (k := i) (x := s) (by omega) hsg1
          have hin : i < n := by have := full_len ⟨N, L, S⟩ l; rw [HN.out] at this; split at this <;> omega
          have hsum : sumI (st.take (i + 1)) = sumI (st.take i) + s := by rw [hsn, sumI_append]; simp [sumI]
          have hsu := sumI_bounds (l := st.take i) fun x hx => HSB.out x (List.mem_of_mem_take hx)
          have hwr : wrap64 (S + sumI (st.take i) + s) = S + sumI (st.take i) + s := by
            have h1 : (st.take i).length ≤ 1000 := by rw [List.length_take]; omega
            have h2 := HSS.out
            unfold wrap64
            omega
          obtain ⟨acc, hacc⟩ : ∃ acc, st.take i = acc := ⟨_, rfl⟩
          obtain ⟨T, hT⟩ : ∃ T, S + sumI acc = T := ⟨_, rfl⟩
          have hIi' := hIi
          obtain ⟨i9, i10, irow, ixm, ixl, ires, ilow⟩ := hIi'
          rw [hacc] at i9 irow hsum hwr hsn
          rw [hT] at i9 hwr
          have hTs : S + sumI (st.take (i + 1)) = T + s := by rw [hsum, ← hT]; omega
          have HII := Lib.hid hIi
          have HAP := Lib.hid hap
          have HSN := Lib.hid hsn
          have HTS := Lib.hid hTs
          have y0 : W.cell? ⟨b11, 0, none⟩ = some (.int .i64 A) := hp11.cell 0
          have y1 : W.cell? ⟨b11, 1, none⟩ = some (.int .i64 B) := hp11.cell 1
          have yl1 := hp11.lt
          have H9 := Lib.hid i9
          have H10 := Lib.hid i10
          have HRW := Lib.hid irow
          clear i9 i10 irow ixm ixl ires ilow hcl hcs hsg1 hA hB hAin hBin hap hsb hs hsn hsum hsu hacc hT hTs hIi
          gi_wp2_with (fail)
          refine ⟨trivial, noDepth, (CallsIn.inRound yl (callsIn_wide.2 (HAP.out _))).mono ?_⟩
          rintro e w1 ⟨rfl, k1⟩
          have s1 := k1.size
          have H91 := Lib.hid (H9.out.call k1)
          have H101 := Lib.hid (H10.out.call k1)
          have HRW1 := Lib.hid (HRW.out.frame (k1.block g HRW.out.lt))
          have HK1 := Lib.hid k1
          have p0 : w1.cell? ⟨g + 1, 0, none⟩ = some (.slice (some ⟨g, 0, none⟩) i n) := H101.out.cell 0
          have pl := H101.out.lt
          clear y0 y1 yl1 k1 hp11
          obtain ⟨w2, hw2⟩ : ∃ w2, w1.alloc (.cells #[.int .i64 s] 3) = w2 := ⟨_, rfl⟩
          have k2 : Below w1.heap.size w1 w2 := by rw [← hw2]; exact (Below.refl _ _).alloc (Nat.le_refl _) _
          have HO := Lib.hid (fun j u (h : ([Value.int .i64 s] : List Value)[j]? = some u) => (by rw [← hw2]; exact int_at w1 s rfl 3 j u h : w2.cell? ((⟨w1.heap.size, 0, none⟩ : Addr).add j) = some u))
          have HRW2 := Lib.hid (HRW1.out.frame (k2.block g (HRW1.out.lt)))
          have HK2 := Lib.hid k2
          have HW2 := Lib.hid hw2
          obtain ⟨ii, hii, hi0, hi1, hi2⟩ := info_parts infoInt
          clear k2 hw2 hi0 hi2
          gi_wp2_with (gi_at_builtin; rw [HW2.out]; refine wpListIn_append_fits _ rfl (.tmp 64) (.tmp 66) 24 rfl g 3 ii 1 Try.underlying24 hii hi1 g i n (intsV acc) rfl HRW2.out ⟨w1.heap.size, 0, none⟩ 1 1 [.int .i64 s] rfl rfl HO.out (fun x hx => by simp at hx; subst hx; rfl) (by omega) ?_)
          intro w3 hr3 hg3
          have HRW3 := Lib.hid (show IAt g g (i + 1) n (st.take (i + 1)) w3 by
            rw [HSN.out]
            unfold IAt intsV
            rw [List.map_append]
            exact hr3)
          have H93 := Lib.hid (((H91.out.call HK2.out)).grown hg3 (by intro h; injection h with h; omega))
          have H103 := Lib.hid (((H101.out.call HK2.out)).grown hg3 (by intro h; injection h with h; omega))
          have HG3 := Lib.hid hg3
          have q0 : w3.cell? ⟨g + 1, 0, none⟩ = some (.slice (some ⟨g, 0, none⟩) i n) := H103.out.cell 0
          have q1 : w3.frozen? ⟨g + 1, 0, none⟩ = false := H103.out.frozen 0
          have r2 : w3.cell? ⟨wr.heap.size, 2, none⟩ = some (.int .i64 T) := H93.out.cell 2
          have r3 : w3.frozen? ⟨wr.heap.size, 2, none⟩ = false := H93.out.frozen 2
          have ne1 : wr.heap.size ≠ g + 1 := by omega
          have ne2 : g + 1 ≠ wr.heap.size := by omega
          have q2 := H103.out.lt
          have r4 := H93.out.lt
          clear hr3 hg3 p0 pl
          gi_wp2_with (fail)
          have hs2 := HK2.out.size
          have hAb : Above W0.heap.size W w3 := (((Above.refl _ _).of HK1.out).of HK2.out).grown HG3.out (by omega)
          have hall : RunI n N Z S st ao cap wr.heap.size g bm w L (i + 1) ((w3.setCell ⟨g + 1, 0, none⟩ (.slice (some ⟨g, 0, none⟩) (i + 1) n)).setCell ⟨wr.heap.size, 2, none⟩ (.int .i64 (T + s))) := by
            have hI2 := (HII.out.call HK1.out).call HK2.out
            have off : ∀ {b : Nat} {cs : List Value} {T' : TypeId}, Has w2 b cs T' → b ≠ g → b ≠ g + 1 → b ≠ wr.heap.size → Has ((w3.setCell ⟨g + 1, 0, none⟩ (.slice (some ⟨g, 0, none⟩) (i + 1) n)).setCell ⟨wr.heap.size, 2, none⟩ (.int .i64 (T + s))) b cs T' := fun h h1 h2 h3 =>
              ((h.grown HG3.out (fun e => by injection e with e; omega)).other (p := ⟨g + 1, 0, none⟩) h2 _).other (p := ⟨wr.heap.size, 2, none⟩) h3 _
            refine ⟨?_, ?_, ?_, ?_, ?_, ?_, ?_⟩
            · rw [HTS.out]
              exact (H93.out.other (p := ⟨g + 1, 0, none⟩) ne1 _).set 2 _
            · exact (H103.out.set 0 _).other (p := ⟨wr.heap.size, 2, none⟩) ne2 _
            · exact HRW3.out.frame ((Below.heap_setCell _ _ _ _ (by dsimp only; omega)).trans (Below.heap_setCell _ _ _ _ (by dsimp only; omega)))
            · exact off hI2.bxm (by omega) (by omega) (by omega)
            · exact off hI2.bxl (by omega) (by omega) (by omega)
            · exact off hI2.res (by have := HB6.out.size; omega) (by omega) (by omega)
            · exact (((hI2.low.grown HG3.out (by have := hI2.low.size; omega) (fun j hj => by injection hj with hj; omega)).setCell (p := ⟨g + 1, 0, none⟩) (by dsimp only; omega) _).setCell (p := ⟨wr.heap.size, 2, none⟩) (by dsimp only; omega) _)
          exact (show Above W0.heap.size W _ ∧ _ from ⟨(hAb.setCell (p := ⟨g + 1, 0, none⟩) (by dsimp only; omega) _).setCell (p := ⟨wr.heap.size, 2, none⟩) (by dsimp only; omega) _, hall⟩)
        case done =>
          rintro D' W hD' hI hdef
          obtain ⟨hcl, -⟩ := full_steps (m := ⟨N, L, S⟩) (l := l)
          rw [HST.out] at hcl
          rw [← hcl] at hI
          obtain ⟨i9, i10, irow, -, -, ires, ilow⟩ := hI
          rw [List.take_length] at i9 irow
          obtain ⟨C, hC⟩ : ∃ C, st.length = C := ⟨_, rfl⟩
          rw [hC] at i10 irow
          obtain ⟨T, hT⟩ : ∃ T, S + sumI st = T := ⟨_, rfl⟩
          rw [hT] at i9
          have t0 : W.cell? ⟨wr.heap.size, 0, none⟩ = some (.int .i64 (N + (n : Int))) := i9.cell 0
          have t1 : W.cell? ⟨wr.heap.size, 1, none⟩ = some (.int .i64 Z) := i9.cell 1
          have t2 : W.cell? ⟨wr.heap.size, 2, none⟩ = some (.int .i64 T) := i9.cell 2
          have tl := i9.lt
          have p0 : W.cell? ⟨g + 1, 0, none⟩ = some (.slice (some ⟨g, 0, none⟩) C n) := i10.cell 0
          have pl := i10.lt
          have z0 : W.cell? ⟨w.heap.size + 1, 0, none⟩ = some (.int .i64 0) := ires.cell 0
          have z1 : W.cell? ⟨w.heap.size + 1, 1, none⟩ = some (.int .i64 0) := ires.cell 1
          have z2 : W.cell? ⟨w.heap.size + 1, 2, none⟩ = some (.int .i64 0) := ires.cell 2
          have f0 : W.frozen? ⟨w.heap.size + 1, 0, none⟩ = false := ires.frozen 0
          have f1 : W.frozen? ⟨w.heap.size + 1, 1, none⟩ = false := ires.frozen 1
          have f2 : W.frozen? ⟨w.heap.size + 1, 2, none⟩ = false := ires.frozen 2
          have zl := ires.lt
          have HRS := Lib.hid (ires.put3 (.int .i64 (N + (n : Int))) (.int .i64 Z) (.int .i64 T))
          have HLW := Lib.hid (Below.put3 (b := w.heap.size + 1) ilow (by omega) (.int .i64 (N + (n : Int))) (.int .i64 Z) (.int .i64 T))
          have HRO := Lib.hid irow
          have HDF := Lib.hid hdef
          have HTT := Lib.hid hT
          clear i9 i10 irow ires ilow hcl hC hT hdef
          go_upto_region 20 with fail
          go_region
          all_goals go_wp2_with (fail)
          all_goals rw [HTT.out]
          all_goals refine (show bodyPostM _ _ _ _ _ .ret _ _ from post_mark (v := .tuple #[.agg #[.int .i64 (N + (n : Int)), .int .i64 Z, .int .i64 T], .slice (some ⟨g, 0, none⟩) C n, .int .i64 0]) ?hd ?hr ⟨_, rfl, ?hrow, ?hlow⟩)
          case hd => exact ((Below.heap_setCell _ _ _ _ (by dsimp only; omega)).trans ((Below.heap_setCell _ _ _ _ (by dsimp only; omega)).trans ((Below.heap_setCell _ _ _ _ (by dsimp only; omega)).trans HDF.out)))
          case hr => exact res_cell2 Try.results7 rfl (loadM ((HRS.out.of rfl).of (World.putObj_heap_other (by omega))))
          case hrow => exact (IAt.row (HRO.out.frame ((World.putObj_heap_other (by omega)).trans ((Below.heap_setCell _ _ _ _ (by dsimp only; omega)).trans ((Below.heap_setCell _ _ _ _ (by dsimp only; omega)).trans (Below.heap_setCell _ _ _ _ (by dsimp only; omega))))))).2.mono (by omega)
          case hlow => exact (HLW.out.drew).trans (below_putObj _ _ (by omega))
        case stop =>
          rintro D' tt W hD' hI hdef
          exact hI.elim
end Go.Proofs.Ytaegoomnenociaa
