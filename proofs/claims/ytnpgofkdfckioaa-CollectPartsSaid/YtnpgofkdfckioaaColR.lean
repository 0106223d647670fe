/- The reference's Feed. -/
import Derived.Test.YtnpgofkdfckioaaColQ
namespace Go.Proofs.Ytnpgofkdfckioaa
open Go.RowKit

theorem ReadsI.frame0 {w w' : World} {v : Value} {xs : List Int} (h : ReadsI w v xs) (hs : w.heap.size ≤ w'.heap.size) (hk : 0 < xs.length → ∀ k, v.ownBlock = some k → w'.heap[k]? = w.heap[k]?) : ReadsI w' v xs := by
  obtain ⟨ao, cap, rfl, h2, h3, h4⟩ := h
  refine ⟨ao, cap, rfl, h2, h3, fun i hi => ?_⟩
  obtain ⟨b, off, rfl, h6, h7⟩ := h4 i hi
  exact ⟨b, off, rfl, Nat.lt_of_lt_of_le h6 hs, (World.cell?_of_block (w := w) (hk (by omega) b rfl)).trans h7⟩
/-- Rows of the call's own, in a row of the call's own. -/
def OwnRows (B : Nat) (rv : Value) (w : World) (L : List (List Int)) : Prop :=
  ∃ vs : List Value, w.ownsRow B 22 1 rv L.length vs ∧ ∀ (i : Nat) (row : List Int), L[i]? = some row → ∃ u, vs[i]? = some u ∧ IRow B u row w
theorem own_irow {w : World} {B B' n : Nat} {v u : Value} {vs : List Value} {row : List Int} (h : w.ownsRow B 22 1 v n vs) (hu : IRow B' u row w) : u.ownBlock = none ∨ u.ownBlock ≠ v.ownBlock := by
  rcases hu.2 with ⟨rfl, _⟩ | ⟨g, cap, cur, rfl, _, hg, _⟩
  · exact .inl rfl
  · refine .inr fun e => ?_
    rcases h.2 with ⟨rfl, _⟩ | ⟨g', cap', cur', rfl, _, hg', _⟩
    · cases e
    · injection e with e
      have e2 : g = g' := e
      subst e2
      rw [hg] at hg'
      injection hg' with hg'
      injection hg' with _ hg' _
      exact absurd hg' (by decide)
theorem OwnRows.frame {B : Nat} {rv : Value} {w w' : World} {L : List (List Int)} (h : OwnRows B rv w L) (hk : ∀ k, B ≤ k → k < w.heap.size → w'.heap[k]? = w.heap[k]?) : OwnRows B rv w' L := by
  obtain ⟨vs, h1, h2⟩ := h
  refine ⟨vs, ⟨h1.1, ?_⟩, fun i row hi => ?_⟩
  · rcases h1.2 with hn | ⟨g, cap, cur, h3, h4, h5, h6⟩
    · exact .inl hn
    · exact .inr ⟨g, cap, cur, h3, h4, (hk g h4 (Array.getElem?_eq_some_iff.1 h5).1).trans h5, h6⟩
  · obtain ⟨u, h3, h4⟩ := h2 i row hi
    exact ⟨u, h3, h4.frame hk⟩
theorem OwnRows.below {B : Nat} {rv : Value} {w w' : World} {L : List (List Int)} (h : OwnRows B rv w L) (hb : Below w.heap.size w w') : OwnRows B rv w' L := h.frame fun k _ hk => hb.block k hk
theorem OwnRows.lt {B : Nat} {rv : Value} {w : World} {L : List (List Int)} (h : OwnRows B rv w L) : ∀ k, rv.ownBlock = some k → B ≤ k ∧ k < w.heap.size := by
  obtain ⟨vs, h1, _⟩ := h
  exact h1.lt
theorem OwnRows.reads {B : Nat} {rv : Value} {w : World} {L : List (List Int)} (h : OwnRows B rv w L) : ReadsR w rv L := by
  obtain ⟨vs, h2, h3⟩ := h
  rcases id h2.2 with ⟨rfl, h0⟩ | ⟨g, cap, cur, rfl, hb, hg, hn, hm, hs, ht⟩
  · have : L = [] := List.eq_nil_of_length_eq_zero h0
    subst this
    exact ReadsR.nil w
  · refine ⟨_, cap, rfl, hn, hm, fun i hi => ?_⟩
    obtain ⟨u, h4, h5⟩ := h3 i _ (List.getElem?_eq_getElem hi)
    have hc := h2.cells (g := g) rfl i _ h4
    have e : (⟨g, 0, none⟩ : Addr).add i = ⟨g, 0 + i, none⟩ := by unfold Addr.add; split <;> simp_all
    rw [e] at hc
    refine ⟨g, 0, u, rfl, (Array.getElem?_eq_some_iff.1 hg).1, hc, ?_⟩
    rw [List.getD_eq_getElem?_getD, List.getElem?_eq_getElem hi]
    exact h5.reads
theorem IRow.one {B : Nat} {u : Value} {row : List Int} {w : World} (h : IRow B u row w) : u.oneCell' = true := by
  rcases h.2 with ⟨rfl, _⟩ | ⟨g, cap, cur, rfl, _⟩ <;> rfl
/-- One row more. -/
theorem wpList_append_row {w : World} {ops : Array Oper} {rest : List Oper} {o : Oper} {a : Act} {Q : Exit → Act → World → Prop} (hgd : o.guard = none) (s x : Operand)
    (ho : o.op = .call { callee := .builtin .append, args := #[s, x], argTypes := #[42, 42] }) (B : Nat) (rv : Value) (L : List (List Int)) (hs : a.eval s = rv) (hown : OwnRows B rv w L)
    (ad : Addr) (c : Nat) (u : Value) (row : List Int) (hx : a.eval x = .slice (some ad) 1 c) (hz : w.cell? ad = some u) (hu : IRow B u row w) (hl : L.length ≤ 100000) (hB : B ≤ w.heap.size)
    (h : ∀ v' w', OwnRows B v' w' (L ++ [row]) → w.grownBy w' rv.ownBlock → wpList Try.prog ops Q rest (a.put o.dst v') w') : wpList Try.prog ops Q (o :: rest) a w := by
  obtain ⟨i0, hi, hz0, hz1, hz2⟩ := info_parts infoRow
  obtain ⟨vs, h1, h2⟩ := hown
  refine wpList_append_own w hgd s x 42 ho B 22 i0 (.slice none 0 0) 1 24 Try.underlying42 hi hz0 hz1 hz2 rfl (by decide) rv L.length vs hs h1 ad 1 c [u] hx rfl ?_ (fun q hq => by rw [List.mem_singleton.1 hq]; exact hu.one) (by unfold maxLen; omega) (by omega) hB ?_
  · intro j q hj
    cases j with
    | zero => cases hj; exact hz
    | succ j => cases hj
  · intro v' w' h3 h4 _
    have keep : ∀ q r, IRow B q r w → IRow B q r w' := fun q r hq => by
      have h0 : w.ownsRow B 3 1 q r.length (r.map (Value.int .i64)) := hq
      exact h0.kept h4 (own_irow h1 hq)
    refine h v' w' ⟨vs ++ [u], by rw [List.length_append]; exact h3, fun i r hi => ?_⟩ h4
    have hvl := h1.1
    rw [Nat.mul_one] at hvl
    rcases Nat.lt_or_ge i L.length with hl | hl
    · rw [List.getElem?_append_left hl] at hi
      obtain ⟨q, h5, h6⟩ := h2 i r hi
      exact ⟨q, by rw [List.getElem?_append_left (by omega)]; exact h5, keep _ _ h6⟩
    · rw [List.getElem?_append_right hl] at hi
      obtain ⟨i', rfl⟩ : ∃ i', i = L.length + i' := ⟨i - L.length, by omega⟩
      rw [Nat.add_sub_cancel_left] at hi
      cases i' with
      | succ i' => cases hi
      | zero =>
        cases hi
        refine ⟨u, ?_, keep _ _ hu⟩
        rw [Nat.add_zero, List.getElem?_append_right (by omega), hvl, Nat.sub_self]
        rfl
theorem OwnRows.made (w : World) : OwnRows w.heap.size (.slice (some ⟨w.heap.size, 0, none⟩) 0 0) (w.alloc (.cells #[] 22)) [] :=
  ⟨[], World.ownsRow_made w #[] 0 (Nat.le_refl _) (Nat.zero_le _) rfl, fun i row hi => by cases hi⟩
def RFeedRel (s lo hi : Int) (xs l : List Int) (w : World) (m : Nat) (rv rf i : Value) (wr : World) : Prop :=
  ∃ (q : Nat) (ys : List Int) (L : List (List Int)) (r : Nat) (yv : Value), q ≤ m ∧ i = .int .i64 (q : Nat) ∧ rf = .int .i64 (r : Nat) ∧ r ≤ q ∧ L.length ≤ q ∧ feedN ⟨s, lo, hi, xs⟩ (l.take q) = (⟨s, lo, hi, ys⟩, L, r) ∧ OwnRows (w.heap.size + 2) rv wr L ∧ ReadsI wr yv ys ∧
    (0 < ys.length → ∀ k, yv.ownBlock = some k → k ≠ w.heap.size ∧ k ≠ w.heap.size + 1) ∧ Below w.heap.size w wr ∧ Has wr w.heap.size [.int .i64 s, .int .i64 lo, .int .i64 hi, yv] 24 ∧ Has wr (w.heap.size + 1) [.int .i64 0, .int .i64 0, .int .i64 0, .slice none 0 0] 24 ∧ w.heap.size + 3 ≤ wr.heap.size
set_option maxHeartbeats 2000000 in
set_option maxRecDepth 100000 in
theorem rfeed10_any (s lo hi : Int) (xs l : List Int) (v vl : Value) (w : World) (hr : ReadsI w v xs) (hl : ReadsI w vl l) (hm : l.length ≤ 100000) (h : grightB ⟨s, lo, hi, xs⟩ = true) :
    Calls Try.prog 20 #[.agg #[.int .i64 s, .int .i64 lo, .int .i64 hi, v], vl] w fun e w' => ∃ v' r, e = .returned (.tuple #[.agg #[.int .i64 s, .int .i64 lo, .int .i64 hi, v'], r, .int .i64 ((feedN ⟨s, lo, hi, xs⟩ l).2.2 : Nat)]) ∧ ReadsI w' v' (feedN ⟨s, lo, hi, xs⟩ l).1.xs ∧ ReadsR w' r (feedN ⟨s, lo, hi, xs⟩ l).2.1 ∧ Below w.heap.size w w' := by
  have HGR := Lib.hid (fun q => (grightB_out (feedN_right (l.take q) _ h)).1)
  obtain ⟨al, cl, rfl, hll, hlm, -⟩ := id hl
  unfold maxLen at hlm
  obtain ⟨ao, cap, rfl, hlc, hcm, -⟩ := id hr
  unfold maxLen at hcm
  obtain ⟨m, hml⟩ : ∃ m, l.length = m := ⟨_, rfl⟩
  obtain ⟨n, hn⟩ : ∃ n, xs.length = n := ⟨_, rfl⟩
  rw [hml] at hll hl hm ⊢
  rw [hn] at hlc hr ⊢
  obtain ⟨R, hR⟩ : ∃ R, feedN ⟨s, lo, hi, xs⟩ l = R := ⟨_, rfl⟩
  rw [hR]
  obtain ⟨w2, hw2⟩ : ∃ w2, (w.alloc (.cells #[.int .i64 s, .int .i64 lo, .int .i64 hi, .slice ao n cap] 24)).alloc (.cells #[.int .i64 0, .int .i64 0, .int .i64 0, .slice none 0 0] 24) = w2 := ⟨_, rfl⟩
  have hb2 : Below w.heap.size w w2 := by rw [← hw2]; exact ((Below.refl w.heap.size w).alloc (Nat.le_refl _) _).alloc (by simp) _
  have hs2 : w2.heap.size = w.heap.size + 2 := by rw [← hw2]; simp
  have hg : Has w2 w.heap.size [.int .i64 s, .int .i64 lo, .int .i64 hi, .slice ao n cap] 24 := by rw [← hw2]; exact (Has.new w [.int .i64 s, .int .i64 lo, .int .i64 hi, .slice ao n cap] 24).alloc _
  have hz : Has w2 (w.heap.size + 1) [.int .i64 0, .int .i64 0, .int .i64 0, .slice none 0 0] 24 := by
    have := Has.new (w.alloc (.cells #[.int .i64 s, .int .i64 lo, .int .i64 hi, .slice ao n cap] 24)) [.int .i64 0, .int .i64 0, .int .i64 0, .slice none 0 0] 24
    rw [show (w.alloc (.cells #[.int .i64 s, .int .i64 lo, .int .i64 hi, .slice ao n cap] 24)).heap.size = w.heap.size + 1 by simp] at this
    rw [← hw2]; exact this
  have hb3 := hb2.alloc (by omega) (.cells #[] 22)
  have hs3 : (w2.alloc (.cells #[] 22)).heap.size = w.heap.size + 3 := by simp; omega
  have hi3 := OwnRows.made w2
  rw [hs2] at hi3
  have HG3 := Lib.hid (hg.alloc (.cells #[] 22))
  have HZ3 := Lib.hid (hz.alloc (.cells #[] 22))
  have HB3 := Lib.hid hb3
  have HI3 := Lib.hid hi3
  have HR3 := Lib.hid (hr.below hb3)
  have HO3 := Lib.hid (hr.lt)
  have HLD := Lib.hid hl
  have HN := Lib.hid hn
  have HML := Lib.hid hml
  have HS3 := Lib.hid hs3
  have HW2 := Lib.hid hw2
  have HRR := Lib.hid hR
  clear hr hl hn hml hw2 hb2 hg hz hb3 hs3 hi3 hR h
  go_enter Try.func20, Try.ntmps20
  go_upto_region 1 with fail
  rw [HW2.out]
  go_wp2
  go_loopw [7, 8, 16] (RFeedRel s lo hi xs l w m) (fun _ _ i _ => m - (intOf i).toNat)
  case atStart =>
    exact ⟨0, xs, [], 0, .slice ao n cap, Nat.zero_le _, rfl, rfl, Nat.le_refl _, Nat.le_refl _, rfl, HI3.out, HR3.out, fun hp k hk => by have := HO3.out (by omega) k hk; omega, HB3.out, HG3.out, HZ3.out, by rw [HS3.out]; exact Nat.le_refl _⟩
  case round =>
    obtain ⟨q, ys, L, r, yv, hq, rfl, rfl, hrq, hLq, hfd, hrv, hry, hoy, hb, gH, xH, hsz⟩ := hrel
    obtain ⟨ay, cy, rfl, hyc, hym, -⟩ := id hry
    unfold maxLen at hym
    have hgr := HGR.out q
    rw [hfd] at hgr
    dsimp only at hgr
    obtain ⟨yn, hyn⟩ : ∃ yn, ys.length = yn := ⟨_, rfl⟩
    rw [hyn] at hyc hry hoy gH hgr
    have HFD := Lib.hid hfd
    have HRV := Lib.hid hrv
    have HRY := Lib.hid hry
    have HOY := Lib.hid hoy
    have HYN := Lib.hid hyn
    have HB := Lib.hid hb
    have HGH := Lib.hid gH
    have HXH := Lib.hid xH
    have HGQ := Lib.hid hgr
    have g0 : wr.cell? ⟨w.heap.size, 0, none⟩ = some (.int .i64 s) := gH.cell 0
    have g1 : wr.cell? ⟨w.heap.size, 1, none⟩ = some (.int .i64 lo) := gH.cell 1
    have g2 : wr.cell? ⟨w.heap.size, 2, none⟩ = some (.int .i64 hi) := gH.cell 2
    have g3 : wr.cell? ⟨w.heap.size, 3, none⟩ = some (.slice ay yn cy) := gH.cell 3
    clear hfd hrv hry hoy hyn hb gH xH hs2 hgr
    by_cases hlq : q < m
    · have hrd := HLD.out.below HB.out
      obtain ⟨ao', cp', e0, -, -, hcl'⟩ := hrd
      injection e0 with e1 e2 e3
      subst e1 e3
      obtain ⟨b, off, rfl, hlt, hd⟩ := hcl' q (by rw [HML.out]; exact hlq)
      obtain ⟨x, hxq⟩ : ∃ x, l.getD q 0 = x := ⟨_, rfl⟩
      rw [hxq] at hd
      have HXQ := Lib.hid hxq
      have hqm : (q : Int) < (m : Int) := by omega
      have ht := fits_any s lo hi x ay yn cy wr
      clear hcl' hxq e2
      by_cases hf : lo ≤ x ∧ x ≤ hi
      · rw [decide_eq_true hf] at ht
        have HL := Lib.hid hf
        clear hf
        go_wp2_with fail
        refine ht.mono ?_
        rintro e w5 ⟨rfl, k5⟩
        have hs5 := k5.size
        have HB5 := Lib.hid (HB.out.trans (k5.mono (by omega)))
        have HRV5 := Lib.hid (HRV.out.below k5)
        have HG5 := Lib.hid (HGH.out.call k5)
        have HX5 := Lib.hid (HXH.out.call k5)
        have HY5 := Lib.hid (HRY.out.below k5)
        have hra := radd10_any s lo hi x ys (.slice ay yn cy) w5 HY5.out (by rw [HYN.out]; have := HGQ.out; omega)
        have g0' : w5.cell? ⟨w.heap.size, 0, none⟩ = some (.int .i64 s) := HG5.out.cell 0
        have g1' : w5.cell? ⟨w.heap.size, 1, none⟩ = some (.int .i64 lo) := HG5.out.cell 1
        have g2' : w5.cell? ⟨w.heap.size, 2, none⟩ = some (.int .i64 hi) := HG5.out.cell 2
        have g3' : w5.cell? ⟨w.heap.size, 3, none⟩ = some (.slice ay yn cy) := HG5.out.cell 3
        obtain ⟨zs, hzs⟩ : ∃ zs, (addG ⟨s, lo, hi, ys⟩ x).xs = zs := ⟨_, rfl⟩
        obtain ⟨row, hrow⟩ : ∃ row, addR ⟨s, lo, hi, ys⟩ x = row := ⟨_, rfl⟩
        rw [hzs, hrow] at hra
        have HZS := Lib.hid hzs
        have HROW := Lib.hid hrow
        clear ht k5 g0 g1 g2 g3 hd hzs hrow
        go_wp2_with fail
        refine hra.mono ?_
        rintro e w6 ⟨v', r', rfl, hv6, hr6, k6⟩
        have hs6 := k6.size
        obtain ⟨a6, c6, hv', -⟩ := hv6.reads
        obtain ⟨a7, c7, hr', -⟩ := hr6.reads
        subst hv' hr'
        obtain ⟨zn, hzn⟩ : ∃ zn, zs.length = zn := ⟨_, rfl⟩
        obtain ⟨rn, hrn⟩ : ∃ rn, row.length = rn := ⟨_, rfl⟩
        rw [hzn] at hv6 ⊢
        rw [hrn] at hr6 ⊢
        have HZN := Lib.hid hzn
        have HRN := Lib.hid hrn
        have gH := HG5.out.call k6
        have xH := HX5.out.call k6
        have hb6 := HB5.out.trans (k6.mono (by omega))
        have hrv6 := HRV5.out.below k6
        have y0 : w6.cell? ⟨w.heap.size, 0, none⟩ = some (.int .i64 s) := gH.cell 0
        have y1 : w6.cell? ⟨w.heap.size, 1, none⟩ = some (.int .i64 lo) := gH.cell 1
        have y2 : w6.cell? ⟨w.heap.size, 2, none⟩ = some (.int .i64 hi) := gH.cell 2
        have y3 : w6.cell? ⟨w.heap.size, 3, none⟩ = some (.slice ay yn cy) := gH.cell 3
        have yf0 : w6.frozen? ⟨w.heap.size, 0, none⟩ = false := gH.frozen 0
        have yf1 : w6.frozen? ⟨w.heap.size, 1, none⟩ = false := gH.frozen 1
        have yf2 : w6.frozen? ⟨w.heap.size, 2, none⟩ = false := gH.frozen 2
        have yf3 : w6.frozen? ⟨w.heap.size, 3, none⟩ = false := gH.frozen 3
        clear hra k6 g0' g1' g2' g3' hzn hrn
        have hlt6 : w.heap.size < w6.heap.size := by omega
        have hP : ((((w6.setCell ⟨w.heap.size, 0, none⟩ (.int .i64 s)).setCell ⟨w.heap.size, 1, none⟩ (.int .i64 lo)).setCell ⟨w.heap.size, 2, none⟩ (.int .i64 hi)).setCell ⟨w.heap.size, 3, none⟩ (.slice a6 zn c6)).heap.size = w6.heap.size := by simp
        have hs9 : (((((w6.setCell ⟨w.heap.size, 0, none⟩ (.int .i64 s)).setCell ⟨w.heap.size, 1, none⟩ (.int .i64 lo)).setCell ⟨w.heap.size, 2, none⟩ (.int .i64 hi)).setCell ⟨w.heap.size, 3, none⟩ (.slice a6 zn c6)).alloc (.cells #[.int .i64 s, .int .i64 lo, .int .i64 hi, .slice a6 zn c6] 24)).heap.size = w6.heap.size + 1 := by simp
        have hkk := fun k (hk : k ≠ w.heap.size) (hl : k < w6.heap.size) => (Below.heap_alloc ((((w6.setCell ⟨w.heap.size, 0, none⟩ (.int .i64 s)).setCell ⟨w.heap.size, 1, none⟩ (.int .i64 lo)).setCell ⟨w.heap.size, 2, none⟩ (.int .i64 hi)).setCell ⟨w.heap.size, 3, none⟩ (.slice a6 zn c6)) (.cells #[.int .i64 s, .int .i64 lo, .int .i64 hi, .slice a6 zn c6] 24) k (by rw [hP]; exact hl)).trans (put4_block w6 (w.heap.size) k hk (.int .i64 s) (.int .i64 lo) (.int .i64 hi) (.slice a6 zn c6))
        have HG9 := Lib.hid ((gH.put4 (.int .i64 s) (.int .i64 lo) (.int .i64 hi) (.slice a6 zn c6)).alloc (.cells #[.int .i64 s, .int .i64 lo, .int .i64 hi, .slice a6 zn c6] 24))
        have HX9 := Lib.hid ((xH.put4O (b := w.heap.size) (by omega) (.int .i64 s) (.int .i64 lo) (.int .i64 hi) (.slice a6 zn c6)).alloc (.cells #[.int .i64 s, .int .i64 lo, .int .i64 hi, .slice a6 zn c6] 24))
        have HB9 := Lib.hid ((Below.put4 (b := w.heap.size) hb6 (Nat.le_refl _) (.int .i64 s) (.int .i64 lo) (.int .i64 hi) (.slice a6 zn c6)).alloc (by rw [hP]; omega) (.cells #[.int .i64 s, .int .i64 lo, .int .i64 hi, .slice a6 zn c6] 24))
        have HRV9 := Lib.hid (hrv6.frame (w' := ((((w6.setCell ⟨w.heap.size, 0, none⟩ (.int .i64 s)).setCell ⟨w.heap.size, 1, none⟩ (.int .i64 lo)).setCell ⟨w.heap.size, 2, none⟩ (.int .i64 hi)).setCell ⟨w.heap.size, 3, none⟩ (.slice a6 zn c6)).alloc (.cells #[.int .i64 s, .int .i64 lo, .int .i64 hi, .slice a6 zn c6] 24)) (fun k hk hl => hkk k (by omega) hl))
        have HV9 := Lib.hid ((hv6.frame (w' := ((((w6.setCell ⟨w.heap.size, 0, none⟩ (.int .i64 s)).setCell ⟨w.heap.size, 1, none⟩ (.int .i64 lo)).setCell ⟨w.heap.size, 2, none⟩ (.int .i64 hi)).setCell ⟨w.heap.size, 3, none⟩ (.slice a6 zn c6)).alloc (.cells #[.int .i64 s, .int .i64 lo, .int .i64 hi, .slice a6 zn c6] 24)) (fun k hk hl => hkk k (by omega) hl)))
        have HR9 := Lib.hid ((hr6.frame (w' := ((((w6.setCell ⟨w.heap.size, 0, none⟩ (.int .i64 s)).setCell ⟨w.heap.size, 1, none⟩ (.int .i64 lo)).setCell ⟨w.heap.size, 2, none⟩ (.int .i64 hi)).setCell ⟨w.heap.size, 3, none⟩ (.slice a6 zn c6)).alloc (.cells #[.int .i64 s, .int .i64 lo, .int .i64 hi, .slice a6 zn c6] 24)) (fun k hk hl => hkk k (by omega) hl)).mono (show w.heap.size + 2 ≤ w5.heap.size by omega))
        have HS9 := Lib.hid hs9
        clear gH xH hb6 hrv6 hv6 hr6 hP hkk hs9
        by_cases hfull : (yn : Int) + 1 = s
        · have hz0 : zs = [] := by rw [← HZS.out]; unfold addG; dsimp only; rw [HYN.out, if_pos hfull]
          have hr0 : row = ys ++ [x] := by rw [← HROW.out]; unfold addR; dsimp only; rw [HYN.out, if_pos hfull]
          have hrn0 : 0 < rn := by rw [← HRN.out, hr0, List.length_append]; show 0 < _ + 1; omega
          have hrn1 : (0 : Int) < (rn : Int) := by omega
          have HE := Lib.hid (feed_full (by rw [HML.out]; exact hlq) HXQ.out HFD.out HL.out (by rw [HYN.out]; exact hfull))
          rw [← hr0, ← hz0] at HE
          have HSL := Lib.hid (show w.heap.size + 2 ≤ w5.heap.size by omega)
          have HSB := Lib.hid (show w.heap.size + 3 ≤ w6.heap.size by omega)
          clear hz0 hr0 hfull
          have HN10 := Lib.hid ((Has.new (((((w6.setCell ⟨w.heap.size, 0, none⟩ (.int .i64 s)).setCell ⟨w.heap.size, 1, none⟩ (.int .i64 lo)).setCell ⟨w.heap.size, 2, none⟩ (.int .i64 hi)).setCell ⟨w.heap.size, 3, none⟩ (.slice a6 zn c6)).alloc (.cells #[.int .i64 s, .int .i64 lo, .int .i64 hi, .slice a6 zn c6] 24)) [.slice a7 rn c7] 22).cell 0)
          rw [HS9.out] at HN10
          have HG10 := Lib.hid (HG9.out.alloc (.cells #[.slice a7 rn c7] 22))
          have HX10 := Lib.hid (HX9.out.alloc (.cells #[.slice a7 rn c7] 22))
          have HB10 := Lib.hid (HB9.out.alloc (by rw [HS9.out]; omega) (.cells #[.slice a7 rn c7] 22))
          have HRV10 := Lib.hid (HRV9.out.below ((Below.refl _ _).alloc (Nat.le_refl _) (.cells #[.slice a7 rn c7] 22)))
          have HV10 := Lib.hid (HV9.out.alloc (.cells #[.slice a7 rn c7] 22))
          have HV10' := Lib.hid (show ReadsI ((((((w6.setCell ⟨w.heap.size, 0, none⟩ (.int .i64 s)).setCell ⟨w.heap.size, 1, none⟩ (.int .i64 lo)).setCell ⟨w.heap.size, 2, none⟩ (.int .i64 hi)).setCell ⟨w.heap.size, 3, none⟩ (.slice a6 zn c6)).alloc (.cells #[.int .i64 s, .int .i64 lo, .int .i64 hi, .slice a6 zn c6] 24)).alloc (.cells #[.slice a7 rn c7] 22)) (.slice a6 zn c6) zs from HV10.out.reads)
          have HR10 := Lib.hid (HR9.out.alloc (.cells #[.slice a7 rn c7] 22))
          have hs10 : ((((((w6.setCell ⟨w.heap.size, 0, none⟩ (.int .i64 s)).setCell ⟨w.heap.size, 1, none⟩ (.int .i64 lo)).setCell ⟨w.heap.size, 2, none⟩ (.int .i64 hi)).setCell ⟨w.heap.size, 3, none⟩ (.slice a6 zn c6)).alloc (.cells #[.int .i64 s, .int .i64 lo, .int .i64 hi, .slice a6 zn c6] 24)).alloc (.cells #[.slice a7 rn c7] 22)).heap.size = w6.heap.size + 2 := by simp
          have HS10 := Lib.hid hs10
          clear hs10
          go_wp2_with (at_builtin; refine wpList_append_row rfl (.tmp 36) (.tmp 38) rfl (w.heap.size + 2) _ L rfl HRV10.out ⟨w6.heap.size + 1, 0, none⟩ 1 (.slice a7 rn c7) row rfl HN10.out HR10.out (by omega) (by rw [HS10.out]; omega) ?_)
          intro rv2 w11 hrv hgrow
          have hs11 := hgrow.size
          rw [HS10.out] at hs11
          have hlv := HRV10.out.lt
          have hvb := HV10.out.lt'
          have hvn : ∀ k, Value.ownBlock (.slice a6 zn c6) = some k → u7.ownBlock ≠ some k := fun k hk e => by
            obtain ⟨vs, h1, _⟩ := HRV10.out
            rcases own_irow h1 HV10.out with h2 | h2
            · rw [hk] at h2; cases h2
            · exact h2 (hk.trans e.symm)
          have HRW := Lib.hid (show RFeedRel s lo hi xs l w m rv2 (.int .i64 (r : Nat)) (.int .i64 ((q : Int) + 1)) w11 from
            ⟨q + 1, zs, L ++ [row], r, .slice a6 zn c6, by omega, by go_num, rfl, by omega, by rw [List.length_append]; show L.length + 1 ≤ _; omega, by rw [HE.out], hrv, (HV10'.out.frame (by rw [HS10.out]; omega) (fun k hk => hgrow.block k (hvb k hk).2 (fun e => hvn k hk e.symm))), fun _ k hk => by have := hvb k hk; have := HSL.out; omega, HB10.out.grown hgrow (by rw [HS10.out]; omega) (fun k hk => by have := hlv k hk; omega), HG10.out.grown hgrow (fun e => by have := hlv _ e; omega), HX10.out.grown hgrow (fun e => by have := hlv _ e; omega), by omega⟩)
          clear hrv hgrow hlv hvb
          go_wp2
          go_roundw
          case rel => exact HRW.out
          case measure => simp [intOf]; omega
        · have hz0 : zs = ys ++ [x] := by rw [← HZS.out]; unfold addG; dsimp only; rw [HYN.out, if_neg hfull]
          have hr0 : row = [] := by rw [← HROW.out]; unfold addR; dsimp only; rw [HYN.out, if_neg hfull]
          obtain rfl : rn = 0 := by rw [← HRN.out, hr0]; rfl
          have HE := Lib.hid (feed_yes (by rw [HML.out]; exact hlq) HXQ.out HFD.out HL.out (by rw [HYN.out]; exact hfull))
          rw [← hz0] at HE
          have HRW := Lib.hid (show ∀ rv, OwnRows (w.heap.size + 2) rv (((((w6.setCell ⟨w.heap.size, 0, none⟩ (.int .i64 s)).setCell ⟨w.heap.size, 1, none⟩ (.int .i64 lo)).setCell ⟨w.heap.size, 2, none⟩ (.int .i64 hi)).setCell ⟨w.heap.size, 3, none⟩ (.slice a6 zn c6)).alloc (.cells #[.int .i64 s, .int .i64 lo, .int .i64 hi, .slice a6 zn c6] 24)) L → RFeedRel s lo hi xs l w m rv (.int .i64 (r : Nat)) (.int .i64 ((q : Int) + 1)) (((((w6.setCell ⟨w.heap.size, 0, none⟩ (.int .i64 s)).setCell ⟨w.heap.size, 1, none⟩ (.int .i64 lo)).setCell ⟨w.heap.size, 2, none⟩ (.int .i64 hi)).setCell ⟨w.heap.size, 3, none⟩ (.slice a6 zn c6)).alloc (.cells #[.int .i64 s, .int .i64 lo, .int .i64 hi, .slice a6 zn c6] 24)) from fun rv hrv =>
            ⟨q + 1, zs, L, r, .slice a6 zn c6, by omega, by go_num, rfl, by omega, by omega, HE.out, hrv, HV9.out.reads, fun _ k hk => by have := HV9.out.lt' k hk; omega, HB9.out, HG9.out, HX9.out, by rw [HS9.out]; omega⟩)
          clear hz0 hr0 hfull
          go_wp2
          go_roundw
          case rel => exact HRW.out _ HRV9.out
          case measure => simp [intOf]; omega
      · rw [decide_eq_false hf] at ht
        have HE := Lib.hid (feed_not (by rw [HML.out]; exact hlq) HXQ.out HFD.out hf)
        clear hf
        go_wp2_with fail
        refine ht.mono ?_
        rintro e w5 ⟨rfl, k5⟩
        have HR := Lib.hid (show ∀ rv, OwnRows (w.heap.size + 2) rv wr L → RFeedRel s lo hi xs l w m rv (.int .i64 ((r : Int) + 1)) (.int .i64 ((q : Int) + 1)) w5 from fun rv hrv =>
          ⟨q + 1, ys, L, r + 1, .slice ay yn cy, by omega, by go_num, by go_num, by omega, by omega, HE.out, hrv.below k5, HRY.out.below k5, by rw [HYN.out]; exact HOY.out, HB.out.trans (k5.mono (by omega)), HGH.out.call k5, HXH.out.call k5, by have := k5.size; omega⟩)
        clear ht k5 g0 g1 g2 g3 hd
        go_wp2
        go_roundw
        case rel => exact HR.out _ HRV.out
        case measure => simp [intOf]; omega
    · obtain rfl : q = m := by omega
      have hfd := HFD.out
      rw [List.take_of_length_le (by rw [HML.out]; exact Nat.le_refl _), HRR.out] at hfd
      subst hfd
      have hkk := fun k (hk : k ≠ w.heap.size + 1) => put4_block wr (w.heap.size + 1) k hk (.int .i64 s) (.int .i64 lo) (.int .i64 hi) (.slice ay yn cy)
      have HR8 := Lib.hid (HXH.out.put4 (.int .i64 s) (.int .i64 lo) (.int .i64 hi) (.slice ay yn cy))
      have HB8 := Lib.hid (Below.put4 (b := w.heap.size + 1) HB.out (Nat.le_add_right _ 1) (.int .i64 s) (.int .i64 lo) (.int .i64 hi) (.slice ay yn cy))
      have HV8 := Lib.hid (HRY.out.frame0 (w' := ((((wr.setCell ⟨w.heap.size + 1, 0, none⟩ (.int .i64 s)).setCell ⟨w.heap.size + 1, 1, none⟩ (.int .i64 lo)).setCell ⟨w.heap.size + 1, 2, none⟩ (.int .i64 hi)).setCell ⟨w.heap.size + 1, 3, none⟩ (.slice ay yn cy))) (by simp) (fun hp k hk => hkk k (HOY.out (by rw [← HYN.out]; exact hp) k hk).2))
      have HW8 := Lib.hid (fun rv (hrv : OwnRows (w.heap.size + 2) rv wr L) => (hrv.frame (w' := ((((wr.setCell ⟨w.heap.size + 1, 0, none⟩ (.int .i64 s)).setCell ⟨w.heap.size + 1, 1, none⟩ (.int .i64 lo)).setCell ⟨w.heap.size + 1, 2, none⟩ (.int .i64 hi)).setCell ⟨w.heap.size + 1, 3, none⟩ (.slice ay yn cy))) (fun k hk _ => hkk k (by omega))).reads)
      have xH := HXH.out
      have x0 : wr.cell? ⟨w.heap.size + 1, 0, none⟩ = some (.int .i64 0) := xH.cell 0
      have x1 : wr.cell? ⟨w.heap.size + 1, 1, none⟩ = some (.int .i64 0) := xH.cell 1
      have x2 : wr.cell? ⟨w.heap.size + 1, 2, none⟩ = some (.int .i64 0) := xH.cell 2
      have x3 : wr.cell? ⟨w.heap.size + 1, 3, none⟩ = some (.slice none 0 0) := xH.cell 3
      have xf0 : wr.frozen? ⟨w.heap.size + 1, 0, none⟩ = false := xH.frozen 0
      have xf1 : wr.frozen? ⟨w.heap.size + 1, 1, none⟩ = false := xH.frozen 1
      have xf2 : wr.frozen? ⟨w.heap.size + 1, 2, none⟩ = false := xH.frozen 2
      have xf3 : wr.frozen? ⟨w.heap.size + 1, 3, none⟩ = false := xH.frozen 3
      clear hkk xH
      go_wp2
      (try simp only [Exit.inBlock, Exit.then])
      exact bodyPost_ret (res_cell2 Try.results20 rfl (load4 HR8.out)) rfl ⟨_, _, rfl, HV8.out, HW8.out _ HRV.out, HB8.out⟩
end Go.Proofs.Ytnpgofkdfckioaa
