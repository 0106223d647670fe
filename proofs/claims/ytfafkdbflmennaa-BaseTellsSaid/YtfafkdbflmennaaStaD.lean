/- The reference's Of. -/
import Derived.Test.YtfafkdbflmennaaStaA
import Derived.BigQuiet
namespace Go.Proofs.Ytfafkdbflmennaa
open Go.RowKit

theorem infoSta : ((Try.prog).info? 64).map (·.size) = some 6 := by kernel_rfl
theorem load6 {w : World} {b : Nat} {c0 c1 c2 c3 c4 c5 : Value} (h : Has w b [c0, c1, c2, c3, c4, c5] 64) : (loadVar 64 ⟨b, 0, none⟩).run Try.prog w = .ok (.agg #[c0, c1, c2, c3, c4, c5]) w :=
  run_loadVar_mid w b 0 64 [c0, c1, c2, c3, c4, c5] _ h.range Try.underlying64 rfl infoSta
theorem Has.put6 {w : World} {b : Nat} {a0 a1 a2 a3 a4 a5 : Value} (h : Has w b [a0, a1, a2, a3, a4, a5] 64) (c0 c1 c2 c3 c4 c5 : Value) : Has ((((((w.setCell ⟨b, 0, none⟩ c0).setCell ⟨b, 1, none⟩ c1).setCell ⟨b, 2, none⟩ c2).setCell ⟨b, 3, none⟩ c3).setCell ⟨b, 4, none⟩ c4).setCell ⟨b, 5, none⟩ c5) b [c0, c1, c2, c3, c4, c5] 64 :=
  (((((h.set 0 c0).set 1 c1).set 2 c2).set 3 c3).set 4 c4).set 5 c5
theorem Below.put6 {B b : Nat} {x y : World} (h : Below B x y) (hb : B ≤ b) (c0 c1 c2 c3 c4 c5 : Value) : Below B x ((((((y.setCell ⟨b, 0, none⟩ c0).setCell ⟨b, 1, none⟩ c1).setCell ⟨b, 2, none⟩ c2).setCell ⟨b, 3, none⟩ c3).setCell ⟨b, 4, none⟩ c4).setCell ⟨b, 5, none⟩ c5) :=
  (((((h.setCell (p := ⟨b, 0, none⟩) hb c0).setCell (p := ⟨b, 1, none⟩) hb c1).setCell (p := ⟨b, 2, none⟩) hb c2).setCell (p := ⟨b, 3, none⟩) hb c3).setCell (p := ⟨b, 4, none⟩) hb c4).setCell (p := ⟨b, 5, none⟩) hb c5
def staL (s : Sta) : List Value := [.int .i64 s.n, .int .i64 s.sum, .int .u64 (hi s.sq : Nat), .int .u64 (lo s.sq : Nat), .int .i64 s.lo, .int .i64 s.hi]
def ROfRel (l : List Int) (n : Nat) (w : World) (i : Value) (wr : World) : Prop :=
  ∃ k : Nat, k ≤ n ∧ i = .int .i64 (k : Nat) ∧ Has wr (w.heap.size + 1) (staL (staOf (l.take k))) 64 ∧ Has wr w.heap.size [.int .i64 0, .int .i64 0, .int .u64 0, .int .u64 0, .int .i64 0, .int .i64 0] 64 ∧ Below w.heap.size w wr
theorem take_snoc (l : List Int) (k : Nat) (x : Int) (hk : k < l.length) (hx : l.getD k 0 = x) : l.take (k + 1) = l.take k ++ [x] := by
  rw [List.take_add_one, List.getElem?_eq_getElem hk, ← hx, List.getD_eq_getElem?_getD, List.getElem?_eq_getElem hk]
  rfl
set_option linter.unusedSimpArgs false in
set_option maxHeartbeats 4000000 in
set_option maxRecDepth 100000 in
theorem rof11_any (l : List Int) (v : Value) (w : World) (hr : ReadsI w v l) (hm : l.length ≤ 100000) (hin : inB l = true) :
    Calls Try.prog 28 #[v] w fun e w' => e = .returned (staV (staOf l)) ∧ Below w.heap.size w w' := by
  obtain ⟨ao, cap, rfl, hlc, hcm, -⟩ := id hr
  unfold maxLen at hcm
  obtain ⟨n, hn⟩ : ∃ n, l.length = n := ⟨_, rfl⟩
  rw [hn] at hlc hr hm ⊢
  have HR := Lib.hid hr
  have HN := Lib.hid hn
  have HI := Lib.hid (inB_of hin)
  obtain ⟨st, hst⟩ : ∃ st, staOf l = st := ⟨_, rfl⟩
  rw [hst]
  have HST := Lib.hid hst
  clear hst
  obtain ⟨sn, ss, sq, sl, sh⟩ := st
  unfold staV
  dsimp only
  have hz0 : staL (staOf []) = [.int .i64 0, .int .i64 0, .int .u64 0, .int .u64 0, .int .i64 0, .int .i64 0] := by kernel_rfl
  obtain ⟨w2, hw2⟩ : ∃ w2, (w.alloc (.cells #[.int .i64 0, .int .i64 0, .int .u64 0, .int .u64 0, .int .i64 0, .int .i64 0] 64)).alloc (.cells #[.int .i64 0, .int .i64 0, .int .u64 0, .int .u64 0, .int .i64 0, .int .i64 0] 64) = w2 := ⟨_, rfl⟩
  have HB2 := Lib.hid (show Below w.heap.size w w2 by rw [← hw2]; exact ((Below.refl _ _).alloc (Nat.le_refl _) _).alloc (by simp) _)
  have HX2 := Lib.hid (show Has w2 w.heap.size [.int .i64 0, .int .i64 0, .int .u64 0, .int .u64 0, .int .i64 0, .int .i64 0] 64 by rw [← hw2]; exact (Has.new w _ _).alloc _)
  have HR2 := Lib.hid (show Has w2 (w.heap.size + 1) [.int .i64 0, .int .i64 0, .int .u64 0, .int .u64 0, .int .i64 0, .int .i64 0] 64 by
    have := Has.new (w.alloc (.cells #[.int .i64 0, .int .i64 0, .int .u64 0, .int .u64 0, .int .i64 0, .int .i64 0] 64)) [.int .i64 0, .int .i64 0, .int .u64 0, .int .u64 0, .int .i64 0, .int .i64 0] 64
    rw [show (w.alloc (.cells #[.int .i64 0, .int .i64 0, .int .u64 0, .int .u64 0, .int .i64 0, .int .i64 0] 64)).heap.size = w.heap.size + 1 by simp] at this
    rw [← hw2]; exact this)
  have HR2 := Lib.hid (show Has w2 (w.heap.size + 1) (staL (staOf [])) 64 by rw [hz0]; exact HR2.out)
  have HW2 := Lib.hid hw2
  clear hr hn hin hw2 hz0
  go_enter Try.func28, Try.ntmps28
  go_upto_region 2 with fail
  rw [HW2.out]
  go_wp2
  go_loopw [9] (ROfRel l n w) (fun i _ => n - (intOf i).toNat)
  case atStart => exact ⟨0, Nat.zero_le _, rfl, HR2.out, HX2.out, HB2.out⟩
  case round =>
    obtain ⟨k, hk, rfl, hsH, hxH, hb⟩ := hrel
    have HS := Lib.hid hsH
    have HX := Lib.hid hxH
    have HB := Lib.hid hb
    have hsz := hb.size
    have hlt := hsH.lt
    clear hsH hxH hb
    by_cases hl : k < n
    · obtain ⟨ao', cp', e0, -, -, hcl'⟩ := HR.out.below HB.out
      injection e0 with e1 e2 e3
      subst e1 e3
      obtain ⟨b, off, rfl, hltb, hd⟩ := hcl' k (by rw [HN.out]; exact hl)
      obtain ⟨x, hxq⟩ : ∃ x, l.getD k 0 = x := ⟨_, rfl⟩
      rw [hxq] at hd
      have hx6 : -1000000 ≤ x ∧ x ≤ 1000000 := by
        refine HI.out x ?_
        rw [← hxq, List.getD_eq_getElem?_getD, List.getElem?_eq_getElem (by rw [HN.out]; exact hl)]
        exact List.getElem_mem _
      have htk := take_snoc l k x (by rw [HN.out]; exact hl) hxq
      have hin2 : inB (l.take k) = true := by
        unfold inB
        rw [List.all_eq_true]
        exact fun y hy => decide_eq_true (HI.out y (List.mem_of_mem_take hy))
      have hkl : (l.take k).length = k := by rw [List.length_take, HN.out]; omega
      have HTK := Lib.hid htk
      have hkn : (k : Int) < (n : Int) := by omega
      have msq := fun w => rsquare_any x ⟨by omega, by omega⟩ w
      have hx1 := hx6.1
      have hx2 := hx6.2
      have hxx : x * x ≤ 1000000 * 1000000 := sq_le hx1 hx2
      have hxx0 := sq_nonneg' x
      clear hcl' hxq e2 hx6 htk
      have hS := HS.out
      obtain ⟨st, hst⟩ : ∃ st, staOf (l.take k) = st := ⟨_, rfl⟩
      rw [hst] at hS
      have hsum1 := sum_ge (-1000000) (l := l.take k) (fun y hy => (inB_of hin2 y hy).1)
      have hsum2 := sum_le 1000000 (l := l.take k) (fun y hy => (inB_of hin2 y hy).2)
      have hqs := qsum_le 1000000 (l := l.take k) (inB_of hin2)
      have hqs0 := qsum_nonneg (l.take k)
      have hsnoc := fun h => staOf_snoc (l.take k) x h
      have hmem : l.take k ≠ [] → lmin (l.take k) ≤ lmax (l.take k) := fun h => lmin_le (lmax_mem h)
      have hsN : st.n = (k : Int) := by rw [← hst]; show ((l.take k).length : Int) = _; rw [hkl]
      have hsZ : st.sum = ssum (l.take k) := by rw [← hst]; rfl
      have hsQ : (st.sq : Int) = qsum (l.take k) := by rw [← hst]; exact staOf_sq _
      have hsL : st.lo = lmin (l.take k) := by rw [← hst]; rfl
      have hsH : st.hi = lmax (l.take k) := by rw [← hst]; rfl
      have hsq' : (qsum (l.take k)).toNat = st.sq := by omega
      rw [hkl] at hsum1 hsum2 hqs hsnoc
      rw [hsq', ← hsZ, ← hsL, ← hsH] at hsnoc
      rw [← hsZ] at hsum1 hsum2
      rw [← hsQ] at hqs hqs0
      rw [← hsL, ← hsH] at hmem
      obtain ⟨sa, z, q, mn, mx⟩ := st
      dsimp only at hsN hsZ hsQ hsL hsH hsq' hsnoc hsum1 hsum2 hqs hqs0 hmem
      subst hsN
      unfold staL at hS
      dsimp only at hS
      obtain ⟨t, ht⟩ : ∃ t, (x * x).toNat = t := ⟨_, rfl⟩
      rw [ht] at msq hsnoc
      have htb : t ≤ 1000000000000 := by omega
      obtain ⟨d, hd2⟩ : ∃ d, q + t = d := ⟨_, rfl⟩
      have mad := fun w => radd_any q t (by unfold M128; omega) (by unfold M128; omega) w
      rw [addW_fit _ _ (by unfold M128; omega), hd2] at mad
      have HSN := Lib.hid hsnoc
      have HD := Lib.hid hd2
      have HT := Lib.hid ht
      have HST0 := Lib.hid hst
      have hzb : -200000000000 ≤ z ∧ z ≤ 200000000000 := by omega
      have hzb1 := hzb.1
      have hzb2 := hzb.2
      have c0 : wr.cell? ⟨w.heap.size + 1, 0, none⟩ = some (.int .i64 (k : Int)) := hS.cell 0
      have f0 : wr.frozen? ⟨w.heap.size + 1, 0, none⟩ = false := hS.frozen 0
      have c1 : wr.cell? ⟨w.heap.size + 1, 1, none⟩ = some (.int .i64 z) := hS.cell 1
      have f1 : wr.frozen? ⟨w.heap.size + 1, 1, none⟩ = false := hS.frozen 1
      have c2 : wr.cell? ⟨w.heap.size + 1, 2, none⟩ = some (.int .u64 (hi q : Nat)) := hS.cell 2
      have f2 : wr.frozen? ⟨w.heap.size + 1, 2, none⟩ = false := hS.frozen 2
      have c3 : wr.cell? ⟨w.heap.size + 1, 3, none⟩ = some (.int .u64 (lo q : Nat)) := hS.cell 3
      have f3 : wr.frozen? ⟨w.heap.size + 1, 3, none⟩ = false := hS.frozen 3
      have c4 : wr.cell? ⟨w.heap.size + 1, 4, none⟩ = some (.int .i64 mn) := hS.cell 4
      have f4 : wr.frozen? ⟨w.heap.size + 1, 4, none⟩ = false := hS.frozen 4
      have c5 : wr.cell? ⟨w.heap.size + 1, 5, none⟩ = some (.int .i64 mx) := hS.cell 5
      have f5 : wr.frozen? ⟨w.heap.size + 1, 5, none⟩ = false := hS.frozen 5
      clear hsnoc hd2 hst hqs hqs0 hsum1 hsum2 hsq' hsZ hsQ hsL hsH hzb ht hxx hxx0 hin2
      by_cases hk0 : k = 0
      · subst hk0
        have h0 := HST0.out
        rw [List.take_zero, show staOf [] = ⟨0, 0, 0, 0, 0⟩ from by kernel_rfl] at h0
        injection h0 with e1 e2 e3 e4 e5
        have hzz : z = 0 := e2.symm
        have hqq : q = 0 := e3.symm
        clear e1 e2 e3 e4 e5
        subst hzz
        have HE2 := Lib.hid (show staOf (l.take (0 + 1)) = ⟨1, x, d, x, x⟩ by
          rw [HTK.out, List.take_zero, List.nil_append, staOf_one, HT.out, show t = d by have := HD.out; omega])
        have hd' : wr.cell? ⟨b, off, none⟩ = some (.int .i64 x) := hd
        clear hqq hmem hkl
        obtain ⟨w5, hw5⟩ : ∃ w5, ((((wr.setCell ⟨w.heap.size + 1, 4, none⟩ (.int .i64 x)).setCell ⟨w.heap.size + 1, 5, none⟩ (.int .i64 x)).setCell ⟨w.heap.size + 1, 0, none⟩ (.int .i64 (1))).setCell ⟨w.heap.size + 1, 1, none⟩ (.int .i64 (x))) = w5 := ⟨_, rfl⟩
        have HW5 := Lib.hid hw5
        have HS5 := Lib.hid (show Has w5 (w.heap.size + 1) [.int .i64 (1), .int .i64 (x), .int .u64 (hi q : Nat), .int .u64 (lo q : Nat), .int .i64 x, .int .i64 x] 64 by rw [← hw5]; exact ((((hS.set 4 (.int .i64 x)).set 5 (.int .i64 x)).set 0 (.int .i64 (1))).set 1 (.int .i64 (x))))
        have HX5 := Lib.hid (show Has w5 w.heap.size [.int .i64 0, .int .i64 0, .int .u64 0, .int .u64 0, .int .i64 0, .int .i64 0] 64 by rw [← hw5]; exact ((((HX.out.other (p := ⟨w.heap.size + 1, 4, none⟩) (by dsimp only; omega) _).other (p := ⟨w.heap.size + 1, 5, none⟩) (by dsimp only; omega) _).other (p := ⟨w.heap.size + 1, 0, none⟩) (by dsimp only; omega) _).other (p := ⟨w.heap.size + 1, 1, none⟩) (by dsimp only; omega) _))
        have HB5 := Lib.hid (show Below w.heap.size w w5 by rw [← hw5]; exact ((((HB.out.setCell (p := ⟨w.heap.size + 1, 4, none⟩) (Nat.le_add_right _ 1) _).setCell (p := ⟨w.heap.size + 1, 5, none⟩) (Nat.le_add_right _ 1) _).setCell (p := ⟨w.heap.size + 1, 0, none⟩) (Nat.le_add_right _ 1) _).setCell (p := ⟨w.heap.size + 1, 1, none⟩) (Nat.le_add_right _ 1) _))
        have x2 : w5.cell? ⟨w.heap.size + 1, 2, none⟩ = some (.int .u64 (hi q : Nat)) := HS5.out.cell 2
        have x3 : w5.cell? ⟨w.heap.size + 1, 3, none⟩ = some (.int .u64 (lo q : Nat)) := HS5.out.cell 3
        clear hw5
        go_upto_region 11 with fail
        rw [HW5.out]
        clear c0 c1 c2 c3 c4 c5 f0 f1 f2 f3 f4 f5
        go_region_with (first | (go_at_call 35; refine (msq _).mono ?_; rintro e wr1 ⟨rfl, kr1⟩; (have HBr1 := Lib.hid (show Below w.heap.size w wr1 by first | exact (HB5.out).trans (kr1.mono (by have := HB5.out.size; first | omega | (simp; omega) | simp)) | exact (Below.drew (HB5.out)).trans (kr1.mono (by have := HB5.out.size; first | omega | (simp; omega) | simp)) | exact (Below.drew (Below.drew (HB5.out))).trans (kr1.mono (by have := HB5.out.size; first | omega | (simp; omega) | simp)) | exact (Below.drew (Below.drew (Below.drew (HB5.out)))).trans (kr1.mono (by have := HB5.out.size; first | omega | (simp; omega) | simp)))); (have HXr1 := Lib.hid (show Has wr1 w.heap.size [.int .i64 0, .int .i64 0, .int .u64 0, .int .u64 0, .int .i64 0, .int .i64 0] 64 from HX5.out.step kr1 rfl)); (have HSr1 := Lib.hid (show Has wr1 (w.heap.size + 1) [.int .i64 (1), .int .i64 (x), .int .u64 (hi q : Nat), .int .u64 (lo q : Nat), .int .i64 x, .int .i64 x] 64 from HS5.out.step kr1 rfl)); (have y12 : wr1.cell? ⟨w.heap.size + 1, 2, none⟩ = some (.int .u64 (hi q : Nat)) := HSr1.out.cell 2); (have yf12 : wr1.frozen? ⟨w.heap.size + 1, 2, none⟩ = false := HSr1.out.frozen 2); (have y13 : wr1.cell? ⟨w.heap.size + 1, 3, none⟩ = some (.int .u64 (lo q : Nat)) := HSr1.out.cell 3); (have yf13 : wr1.frozen? ⟨w.heap.size + 1, 3, none⟩ = false := HSr1.out.frozen 3)) | (go_at_call 34; refine (mad _).mono ?_; rintro e wr2 ⟨rfl, kr2⟩; (have HBr2 := Lib.hid (show Below w.heap.size w wr2 by first | exact (HBr1.out).trans (kr2.mono (by have := HBr1.out.size; first | omega | (simp; omega) | simp)) | exact (Below.drew (HBr1.out)).trans (kr2.mono (by have := HBr1.out.size; first | omega | (simp; omega) | simp)) | exact (Below.drew (Below.drew (HBr1.out))).trans (kr2.mono (by have := HBr1.out.size; first | omega | (simp; omega) | simp)) | exact (Below.drew (Below.drew (Below.drew (HBr1.out)))).trans (kr2.mono (by have := HBr1.out.size; first | omega | (simp; omega) | simp)))); (have HXr2 := Lib.hid (show Has wr2 w.heap.size [.int .i64 0, .int .i64 0, .int .u64 0, .int .u64 0, .int .i64 0, .int .i64 0] 64 from HXr1.out.step kr2 rfl)); (have HSr2 := Lib.hid (show Has wr2 (w.heap.size + 1) [.int .i64 (1), .int .i64 (x), .int .u64 (hi q : Nat), .int .u64 (lo q : Nat), .int .i64 x, .int .i64 x] 64 from HSr1.out.step kr2 rfl)); (have y22 : wr2.cell? ⟨w.heap.size + 1, 2, none⟩ = some (.int .u64 (hi q : Nat)) := HSr2.out.cell 2); (have yf22 : wr2.frozen? ⟨w.heap.size + 1, 2, none⟩ = false := HSr2.out.frozen 2); (have y23 : wr2.cell? ⟨w.heap.size + 1, 3, none⟩ = some (.int .u64 (lo q : Nat)) := HSr2.out.cell 3); (have yf23 : wr2.frozen? ⟨w.heap.size + 1, 3, none⟩ = false := HSr2.out.frozen 3)))
        all_goals (
          have HR := Lib.hid (show ROfRel l n w (.int .i64 (1)) ((wr2.setCell ⟨w.heap.size + 1, 2, none⟩ (.int .u64 (hi d : Nat))).setCell ⟨w.heap.size + 1, 3, none⟩ (.int .u64 (lo d : Nat))) from
            ⟨0 + 1, by omega, by first | rfl | go_num, by
              rw [HE2.out]
              exact (HSr2.out.set 2 (.int .u64 (hi d : Nat))).set 3 (.int .u64 (lo d : Nat)), (HXr2.out.other (p := ⟨w.heap.size + 1, 2, none⟩) (by dsimp only; omega) _).other (p := ⟨w.heap.size + 1, 3, none⟩) (by dsimp only; omega) _, (HBr2.out.setCell (p := ⟨w.heap.size + 1, 2, none⟩) (Nat.le_add_right _ 1) _).setCell (p := ⟨w.heap.size + 1, 3, none⟩) (Nat.le_add_right _ 1) _⟩)
          go_wp2
          go_roundw
          case rel => exact HR.out
          case measure => simp [intOf]; omega)
      · have hne : ¬ l.take k = [] := fun h => by
          have := congrArg List.length h
          rw [hkl] at this
          exact hk0 this
        have hmm := hmem hne
        have hE := HSN.out hne
        rw [← HTK.out, HD.out] at hE
        have HE := Lib.hid hE
        have g0 : ((k : Int) == 0) = false := beq_false_of_ne (by omega)
        clear hE hmem hne hk0 hkl
        by_cases hlo : x < mn
        · have HE2 := Lib.hid (show staOf (l.take (k + 1)) = ⟨(k : Int) + 1, z + x, d, x, mx⟩ by rw [HE.out, Int.min_eq_right (by omega), Int.max_eq_left (by omega)])
          have g1 : ¬ mx < x := by omega
          obtain ⟨w5, hw5⟩ : ∃ w5, (((wr.setCell ⟨w.heap.size + 1, 4, none⟩ (.int .i64 x)).setCell ⟨w.heap.size + 1, 0, none⟩ (.int .i64 ((k : Int) + 1))).setCell ⟨w.heap.size + 1, 1, none⟩ (.int .i64 (z + x))) = w5 := ⟨_, rfl⟩
          have HW5 := Lib.hid hw5
          have HS5 := Lib.hid (show Has w5 (w.heap.size + 1) [.int .i64 ((k : Int) + 1), .int .i64 (z + x), .int .u64 (hi q : Nat), .int .u64 (lo q : Nat), .int .i64 x, .int .i64 mx] 64 by rw [← hw5]; exact (((hS.set 4 (.int .i64 x)).set 0 (.int .i64 ((k : Int) + 1))).set 1 (.int .i64 (z + x))))
          have HX5 := Lib.hid (show Has w5 w.heap.size [.int .i64 0, .int .i64 0, .int .u64 0, .int .u64 0, .int .i64 0, .int .i64 0] 64 by rw [← hw5]; exact (((HX.out.other (p := ⟨w.heap.size + 1, 4, none⟩) (by dsimp only; omega) _).other (p := ⟨w.heap.size + 1, 0, none⟩) (by dsimp only; omega) _).other (p := ⟨w.heap.size + 1, 1, none⟩) (by dsimp only; omega) _))
          have HB5 := Lib.hid (show Below w.heap.size w w5 by rw [← hw5]; exact (((HB.out.setCell (p := ⟨w.heap.size + 1, 4, none⟩) (Nat.le_add_right _ 1) _).setCell (p := ⟨w.heap.size + 1, 0, none⟩) (Nat.le_add_right _ 1) _).setCell (p := ⟨w.heap.size + 1, 1, none⟩) (Nat.le_add_right _ 1) _))
          have x2 : w5.cell? ⟨w.heap.size + 1, 2, none⟩ = some (.int .u64 (hi q : Nat)) := HS5.out.cell 2
          have x3 : w5.cell? ⟨w.heap.size + 1, 3, none⟩ = some (.int .u64 (lo q : Nat)) := HS5.out.cell 3
          clear hw5
          go_upto_region 11 with fail
          rw [HW5.out]
          clear c0 c1 c2 c3 c4 c5 f0 f1 f2 f3 f4 f5
          go_region_with (first | (go_at_call 35; refine (msq _).mono ?_; rintro e wr1 ⟨rfl, kr1⟩; (have HBr1 := Lib.hid (show Below w.heap.size w wr1 by first | exact (HB5.out).trans (kr1.mono (by have := HB5.out.size; first | omega | (simp; omega) | simp)) | exact (Below.drew (HB5.out)).trans (kr1.mono (by have := HB5.out.size; first | omega | (simp; omega) | simp)) | exact (Below.drew (Below.drew (HB5.out))).trans (kr1.mono (by have := HB5.out.size; first | omega | (simp; omega) | simp)) | exact (Below.drew (Below.drew (Below.drew (HB5.out)))).trans (kr1.mono (by have := HB5.out.size; first | omega | (simp; omega) | simp)))); (have HXr1 := Lib.hid (show Has wr1 w.heap.size [.int .i64 0, .int .i64 0, .int .u64 0, .int .u64 0, .int .i64 0, .int .i64 0] 64 from HX5.out.step kr1 rfl)); (have HSr1 := Lib.hid (show Has wr1 (w.heap.size + 1) [.int .i64 ((k : Int) + 1), .int .i64 (z + x), .int .u64 (hi q : Nat), .int .u64 (lo q : Nat), .int .i64 x, .int .i64 mx] 64 from HS5.out.step kr1 rfl)); (have y12 : wr1.cell? ⟨w.heap.size + 1, 2, none⟩ = some (.int .u64 (hi q : Nat)) := HSr1.out.cell 2); (have yf12 : wr1.frozen? ⟨w.heap.size + 1, 2, none⟩ = false := HSr1.out.frozen 2); (have y13 : wr1.cell? ⟨w.heap.size + 1, 3, none⟩ = some (.int .u64 (lo q : Nat)) := HSr1.out.cell 3); (have yf13 : wr1.frozen? ⟨w.heap.size + 1, 3, none⟩ = false := HSr1.out.frozen 3)) | (go_at_call 34; refine (mad _).mono ?_; rintro e wr2 ⟨rfl, kr2⟩; (have HBr2 := Lib.hid (show Below w.heap.size w wr2 by first | exact (HBr1.out).trans (kr2.mono (by have := HBr1.out.size; first | omega | (simp; omega) | simp)) | exact (Below.drew (HBr1.out)).trans (kr2.mono (by have := HBr1.out.size; first | omega | (simp; omega) | simp)) | exact (Below.drew (Below.drew (HBr1.out))).trans (kr2.mono (by have := HBr1.out.size; first | omega | (simp; omega) | simp)) | exact (Below.drew (Below.drew (Below.drew (HBr1.out)))).trans (kr2.mono (by have := HBr1.out.size; first | omega | (simp; omega) | simp)))); (have HXr2 := Lib.hid (show Has wr2 w.heap.size [.int .i64 0, .int .i64 0, .int .u64 0, .int .u64 0, .int .i64 0, .int .i64 0] 64 from HXr1.out.step kr2 rfl)); (have HSr2 := Lib.hid (show Has wr2 (w.heap.size + 1) [.int .i64 ((k : Int) + 1), .int .i64 (z + x), .int .u64 (hi q : Nat), .int .u64 (lo q : Nat), .int .i64 x, .int .i64 mx] 64 from HSr1.out.step kr2 rfl)); (have y22 : wr2.cell? ⟨w.heap.size + 1, 2, none⟩ = some (.int .u64 (hi q : Nat)) := HSr2.out.cell 2); (have yf22 : wr2.frozen? ⟨w.heap.size + 1, 2, none⟩ = false := HSr2.out.frozen 2); (have y23 : wr2.cell? ⟨w.heap.size + 1, 3, none⟩ = some (.int .u64 (lo q : Nat)) := HSr2.out.cell 3); (have yf23 : wr2.frozen? ⟨w.heap.size + 1, 3, none⟩ = false := HSr2.out.frozen 3)))
          all_goals (
            have HR := Lib.hid (show ROfRel l n w (.int .i64 ((k : Int) + 1)) ((wr2.setCell ⟨w.heap.size + 1, 2, none⟩ (.int .u64 (hi d : Nat))).setCell ⟨w.heap.size + 1, 3, none⟩ (.int .u64 (lo d : Nat))) from
              ⟨k + 1, by omega, by first | rfl | go_num, by
                rw [HE2.out]
                exact (HSr2.out.set 2 (.int .u64 (hi d : Nat))).set 3 (.int .u64 (lo d : Nat)), (HXr2.out.other (p := ⟨w.heap.size + 1, 2, none⟩) (by dsimp only; omega) _).other (p := ⟨w.heap.size + 1, 3, none⟩) (by dsimp only; omega) _, (HBr2.out.setCell (p := ⟨w.heap.size + 1, 2, none⟩) (Nat.le_add_right _ 1) _).setCell (p := ⟨w.heap.size + 1, 3, none⟩) (Nat.le_add_right _ 1) _⟩)
            go_wp2
            go_roundw
            case rel => exact HR.out
            case measure => simp [intOf]; omega)
        · by_cases hhi : mx < x
          · have HE2 := Lib.hid (show staOf (l.take (k + 1)) = ⟨(k : Int) + 1, z + x, d, mn, x⟩ by rw [HE.out, Int.min_eq_left (by omega), Int.max_eq_right (by omega)])
            obtain ⟨w5, hw5⟩ : ∃ w5, (((wr.setCell ⟨w.heap.size + 1, 5, none⟩ (.int .i64 x)).setCell ⟨w.heap.size + 1, 0, none⟩ (.int .i64 ((k : Int) + 1))).setCell ⟨w.heap.size + 1, 1, none⟩ (.int .i64 (z + x))) = w5 := ⟨_, rfl⟩
            have HW5 := Lib.hid hw5
            have HS5 := Lib.hid (show Has w5 (w.heap.size + 1) [.int .i64 ((k : Int) + 1), .int .i64 (z + x), .int .u64 (hi q : Nat), .int .u64 (lo q : Nat), .int .i64 mn, .int .i64 x] 64 by rw [← hw5]; exact (((hS.set 5 (.int .i64 x)).set 0 (.int .i64 ((k : Int) + 1))).set 1 (.int .i64 (z + x))))
            have HX5 := Lib.hid (show Has w5 w.heap.size [.int .i64 0, .int .i64 0, .int .u64 0, .int .u64 0, .int .i64 0, .int .i64 0] 64 by rw [← hw5]; exact (((HX.out.other (p := ⟨w.heap.size + 1, 5, none⟩) (by dsimp only; omega) _).other (p := ⟨w.heap.size + 1, 0, none⟩) (by dsimp only; omega) _).other (p := ⟨w.heap.size + 1, 1, none⟩) (by dsimp only; omega) _))
            have HB5 := Lib.hid (show Below w.heap.size w w5 by rw [← hw5]; exact (((HB.out.setCell (p := ⟨w.heap.size + 1, 5, none⟩) (Nat.le_add_right _ 1) _).setCell (p := ⟨w.heap.size + 1, 0, none⟩) (Nat.le_add_right _ 1) _).setCell (p := ⟨w.heap.size + 1, 1, none⟩) (Nat.le_add_right _ 1) _))
            have x2 : w5.cell? ⟨w.heap.size + 1, 2, none⟩ = some (.int .u64 (hi q : Nat)) := HS5.out.cell 2
            have x3 : w5.cell? ⟨w.heap.size + 1, 3, none⟩ = some (.int .u64 (lo q : Nat)) := HS5.out.cell 3
            clear hw5
            go_upto_region 11 with fail
            rw [HW5.out]
            clear c0 c1 c2 c3 c4 c5 f0 f1 f2 f3 f4 f5
            go_region_with (first | (go_at_call 35; refine (msq _).mono ?_; rintro e wr1 ⟨rfl, kr1⟩; (have HBr1 := Lib.hid (show Below w.heap.size w wr1 by first | exact (HB5.out).trans (kr1.mono (by have := HB5.out.size; first | omega | (simp; omega) | simp)) | exact (Below.drew (HB5.out)).trans (kr1.mono (by have := HB5.out.size; first | omega | (simp; omega) | simp)) | exact (Below.drew (Below.drew (HB5.out))).trans (kr1.mono (by have := HB5.out.size; first | omega | (simp; omega) | simp)) | exact (Below.drew (Below.drew (Below.drew (HB5.out)))).trans (kr1.mono (by have := HB5.out.size; first | omega | (simp; omega) | simp)))); (have HXr1 := Lib.hid (show Has wr1 w.heap.size [.int .i64 0, .int .i64 0, .int .u64 0, .int .u64 0, .int .i64 0, .int .i64 0] 64 from HX5.out.step kr1 rfl)); (have HSr1 := Lib.hid (show Has wr1 (w.heap.size + 1) [.int .i64 ((k : Int) + 1), .int .i64 (z + x), .int .u64 (hi q : Nat), .int .u64 (lo q : Nat), .int .i64 mn, .int .i64 x] 64 from HS5.out.step kr1 rfl)); (have y12 : wr1.cell? ⟨w.heap.size + 1, 2, none⟩ = some (.int .u64 (hi q : Nat)) := HSr1.out.cell 2); (have yf12 : wr1.frozen? ⟨w.heap.size + 1, 2, none⟩ = false := HSr1.out.frozen 2); (have y13 : wr1.cell? ⟨w.heap.size + 1, 3, none⟩ = some (.int .u64 (lo q : Nat)) := HSr1.out.cell 3); (have yf13 : wr1.frozen? ⟨w.heap.size + 1, 3, none⟩ = false := HSr1.out.frozen 3)) | (go_at_call 34; refine (mad _).mono ?_; rintro e wr2 ⟨rfl, kr2⟩; (have HBr2 := Lib.hid (show Below w.heap.size w wr2 by first | exact (HBr1.out).trans (kr2.mono (by have := HBr1.out.size; first | omega | (simp; omega) | simp)) | exact (Below.drew (HBr1.out)).trans (kr2.mono (by have := HBr1.out.size; first | omega | (simp; omega) | simp)) | exact (Below.drew (Below.drew (HBr1.out))).trans (kr2.mono (by have := HBr1.out.size; first | omega | (simp; omega) | simp)) | exact (Below.drew (Below.drew (Below.drew (HBr1.out)))).trans (kr2.mono (by have := HBr1.out.size; first | omega | (simp; omega) | simp)))); (have HXr2 := Lib.hid (show Has wr2 w.heap.size [.int .i64 0, .int .i64 0, .int .u64 0, .int .u64 0, .int .i64 0, .int .i64 0] 64 from HXr1.out.step kr2 rfl)); (have HSr2 := Lib.hid (show Has wr2 (w.heap.size + 1) [.int .i64 ((k : Int) + 1), .int .i64 (z + x), .int .u64 (hi q : Nat), .int .u64 (lo q : Nat), .int .i64 mn, .int .i64 x] 64 from HSr1.out.step kr2 rfl)); (have y22 : wr2.cell? ⟨w.heap.size + 1, 2, none⟩ = some (.int .u64 (hi q : Nat)) := HSr2.out.cell 2); (have yf22 : wr2.frozen? ⟨w.heap.size + 1, 2, none⟩ = false := HSr2.out.frozen 2); (have y23 : wr2.cell? ⟨w.heap.size + 1, 3, none⟩ = some (.int .u64 (lo q : Nat)) := HSr2.out.cell 3); (have yf23 : wr2.frozen? ⟨w.heap.size + 1, 3, none⟩ = false := HSr2.out.frozen 3)))
            all_goals (
              have HR := Lib.hid (show ROfRel l n w (.int .i64 ((k : Int) + 1)) ((wr2.setCell ⟨w.heap.size + 1, 2, none⟩ (.int .u64 (hi d : Nat))).setCell ⟨w.heap.size + 1, 3, none⟩ (.int .u64 (lo d : Nat))) from
                ⟨k + 1, by omega, by first | rfl | go_num, by
                  rw [HE2.out]
                  exact (HSr2.out.set 2 (.int .u64 (hi d : Nat))).set 3 (.int .u64 (lo d : Nat)), (HXr2.out.other (p := ⟨w.heap.size + 1, 2, none⟩) (by dsimp only; omega) _).other (p := ⟨w.heap.size + 1, 3, none⟩) (by dsimp only; omega) _, (HBr2.out.setCell (p := ⟨w.heap.size + 1, 2, none⟩) (Nat.le_add_right _ 1) _).setCell (p := ⟨w.heap.size + 1, 3, none⟩) (Nat.le_add_right _ 1) _⟩)
              go_wp2
              go_roundw
              case rel => exact HR.out
              case measure => simp [intOf]; omega)
          · have HE2 := Lib.hid (show staOf (l.take (k + 1)) = ⟨(k : Int) + 1, z + x, d, mn, mx⟩ by rw [HE.out, Int.min_eq_left (by omega), Int.max_eq_left (by omega)])
            obtain ⟨w5, hw5⟩ : ∃ w5, ((wr.setCell ⟨w.heap.size + 1, 0, none⟩ (.int .i64 ((k : Int) + 1))).setCell ⟨w.heap.size + 1, 1, none⟩ (.int .i64 (z + x))) = w5 := ⟨_, rfl⟩
            have HW5 := Lib.hid hw5
            have HS5 := Lib.hid (show Has w5 (w.heap.size + 1) [.int .i64 ((k : Int) + 1), .int .i64 (z + x), .int .u64 (hi q : Nat), .int .u64 (lo q : Nat), .int .i64 mn, .int .i64 mx] 64 by rw [← hw5]; exact ((hS.set 0 (.int .i64 ((k : Int) + 1))).set 1 (.int .i64 (z + x))))
            have HX5 := Lib.hid (show Has w5 w.heap.size [.int .i64 0, .int .i64 0, .int .u64 0, .int .u64 0, .int .i64 0, .int .i64 0] 64 by rw [← hw5]; exact ((HX.out.other (p := ⟨w.heap.size + 1, 0, none⟩) (by dsimp only; omega) _).other (p := ⟨w.heap.size + 1, 1, none⟩) (by dsimp only; omega) _))
            have HB5 := Lib.hid (show Below w.heap.size w w5 by rw [← hw5]; exact ((HB.out.setCell (p := ⟨w.heap.size + 1, 0, none⟩) (Nat.le_add_right _ 1) _).setCell (p := ⟨w.heap.size + 1, 1, none⟩) (Nat.le_add_right _ 1) _))
            have x2 : w5.cell? ⟨w.heap.size + 1, 2, none⟩ = some (.int .u64 (hi q : Nat)) := HS5.out.cell 2
            have x3 : w5.cell? ⟨w.heap.size + 1, 3, none⟩ = some (.int .u64 (lo q : Nat)) := HS5.out.cell 3
            clear hw5
            go_upto_region 11 with fail
            rw [HW5.out]
            clear c0 c1 c2 c3 c4 c5 f0 f1 f2 f3 f4 f5
            go_region_with (first | (go_at_call 35; refine (msq _).mono ?_; rintro e wr1 ⟨rfl, kr1⟩; (have HBr1 := Lib.hid (show Below w.heap.size w wr1 by first | exact (HB5.out).trans (kr1.mono (by have := HB5.out.size; first | omega | (simp; omega) | simp)) | exact (Below.drew (HB5.out)).trans (kr1.mono (by have := HB5.out.size; first | omega | (simp; omega) | simp)) | exact (Below.drew (Below.drew (HB5.out))).trans (kr1.mono (by have := HB5.out.size; first | omega | (simp; omega) | simp)) | exact (Below.drew (Below.drew (Below.drew (HB5.out)))).trans (kr1.mono (by have := HB5.out.size; first | omega | (simp; omega) | simp)))); (have HXr1 := Lib.hid (show Has wr1 w.heap.size [.int .i64 0, .int .i64 0, .int .u64 0, .int .u64 0, .int .i64 0, .int .i64 0] 64 from HX5.out.step kr1 rfl)); (have HSr1 := Lib.hid (show Has wr1 (w.heap.size + 1) [.int .i64 ((k : Int) + 1), .int .i64 (z + x), .int .u64 (hi q : Nat), .int .u64 (lo q : Nat), .int .i64 mn, .int .i64 mx] 64 from HS5.out.step kr1 rfl)); (have y12 : wr1.cell? ⟨w.heap.size + 1, 2, none⟩ = some (.int .u64 (hi q : Nat)) := HSr1.out.cell 2); (have yf12 : wr1.frozen? ⟨w.heap.size + 1, 2, none⟩ = false := HSr1.out.frozen 2); (have y13 : wr1.cell? ⟨w.heap.size + 1, 3, none⟩ = some (.int .u64 (lo q : Nat)) := HSr1.out.cell 3); (have yf13 : wr1.frozen? ⟨w.heap.size + 1, 3, none⟩ = false := HSr1.out.frozen 3)) | (go_at_call 34; refine (mad _).mono ?_; rintro e wr2 ⟨rfl, kr2⟩; (have HBr2 := Lib.hid (show Below w.heap.size w wr2 by first | exact (HBr1.out).trans (kr2.mono (by have := HBr1.out.size; first | omega | (simp; omega) | simp)) | exact (Below.drew (HBr1.out)).trans (kr2.mono (by have := HBr1.out.size; first | omega | (simp; omega) | simp)) | exact (Below.drew (Below.drew (HBr1.out))).trans (kr2.mono (by have := HBr1.out.size; first | omega | (simp; omega) | simp)) | exact (Below.drew (Below.drew (Below.drew (HBr1.out)))).trans (kr2.mono (by have := HBr1.out.size; first | omega | (simp; omega) | simp)))); (have HXr2 := Lib.hid (show Has wr2 w.heap.size [.int .i64 0, .int .i64 0, .int .u64 0, .int .u64 0, .int .i64 0, .int .i64 0] 64 from HXr1.out.step kr2 rfl)); (have HSr2 := Lib.hid (show Has wr2 (w.heap.size + 1) [.int .i64 ((k : Int) + 1), .int .i64 (z + x), .int .u64 (hi q : Nat), .int .u64 (lo q : Nat), .int .i64 mn, .int .i64 mx] 64 from HSr1.out.step kr2 rfl)); (have y22 : wr2.cell? ⟨w.heap.size + 1, 2, none⟩ = some (.int .u64 (hi q : Nat)) := HSr2.out.cell 2); (have yf22 : wr2.frozen? ⟨w.heap.size + 1, 2, none⟩ = false := HSr2.out.frozen 2); (have y23 : wr2.cell? ⟨w.heap.size + 1, 3, none⟩ = some (.int .u64 (lo q : Nat)) := HSr2.out.cell 3); (have yf23 : wr2.frozen? ⟨w.heap.size + 1, 3, none⟩ = false := HSr2.out.frozen 3)))
            all_goals (
              have HR := Lib.hid (show ROfRel l n w (.int .i64 ((k : Int) + 1)) ((wr2.setCell ⟨w.heap.size + 1, 2, none⟩ (.int .u64 (hi d : Nat))).setCell ⟨w.heap.size + 1, 3, none⟩ (.int .u64 (lo d : Nat))) from
                ⟨k + 1, by omega, by first | rfl | go_num, by
                  rw [HE2.out]
                  exact (HSr2.out.set 2 (.int .u64 (hi d : Nat))).set 3 (.int .u64 (lo d : Nat)), (HXr2.out.other (p := ⟨w.heap.size + 1, 2, none⟩) (by dsimp only; omega) _).other (p := ⟨w.heap.size + 1, 3, none⟩) (by dsimp only; omega) _, (HBr2.out.setCell (p := ⟨w.heap.size + 1, 2, none⟩) (Nat.le_add_right _ 1) _).setCell (p := ⟨w.heap.size + 1, 3, none⟩) (Nat.le_add_right _ 1) _⟩)
              go_wp2
              go_roundw
              case rel => exact HR.out
              case measure => simp [intOf]; omega)
    · obtain rfl : k = n := by omega
      have hfe : l.take k = l := List.take_of_length_le (by rw [HN.out]; exact Nat.le_refl _)
      have hS := HS.out
      rw [hfe, HST.out] at hS
      unfold staL at hS
      dsimp only at hS
      have c0 : wr.cell? ⟨w.heap.size + 1, 0, none⟩ = some (.int .i64 sn) := hS.cell 0
      have c1 : wr.cell? ⟨w.heap.size + 1, 1, none⟩ = some (.int .i64 ss) := hS.cell 1
      have c2 : wr.cell? ⟨w.heap.size + 1, 2, none⟩ = some (.int .u64 (hi sq : Nat)) := hS.cell 2
      have c3 : wr.cell? ⟨w.heap.size + 1, 3, none⟩ = some (.int .u64 (lo sq : Nat)) := hS.cell 3
      have c4 : wr.cell? ⟨w.heap.size + 1, 4, none⟩ = some (.int .i64 sl) := hS.cell 4
      have c5 : wr.cell? ⟨w.heap.size + 1, 5, none⟩ = some (.int .i64 sh) := hS.cell 5
      have z0 : wr.cell? ⟨w.heap.size, 0, none⟩ = some (.int .i64 0) := HX.out.cell 0
      have f0 : wr.frozen? ⟨w.heap.size, 0, none⟩ = false := HX.out.frozen 0
      have z1 : wr.cell? ⟨w.heap.size, 1, none⟩ = some (.int .i64 0) := HX.out.cell 1
      have f1 : wr.frozen? ⟨w.heap.size, 1, none⟩ = false := HX.out.frozen 1
      have z2 : wr.cell? ⟨w.heap.size, 2, none⟩ = some (.int .u64 0) := HX.out.cell 2
      have f2 : wr.frozen? ⟨w.heap.size, 2, none⟩ = false := HX.out.frozen 2
      have z3 : wr.cell? ⟨w.heap.size, 3, none⟩ = some (.int .u64 0) := HX.out.cell 3
      have f3 : wr.frozen? ⟨w.heap.size, 3, none⟩ = false := HX.out.frozen 3
      have z4 : wr.cell? ⟨w.heap.size, 4, none⟩ = some (.int .i64 0) := HX.out.cell 4
      have f4 : wr.frozen? ⟨w.heap.size, 4, none⟩ = false := HX.out.frozen 4
      have z5 : wr.cell? ⟨w.heap.size, 5, none⟩ = some (.int .i64 0) := HX.out.cell 5
      have f5 : wr.frozen? ⟨w.heap.size, 5, none⟩ = false := HX.out.frozen 5
      have HP := Lib.hid (HX.out.put6 (.int .i64 sn) (.int .i64 ss) (.int .u64 (hi sq : Nat)) (.int .u64 (lo sq : Nat)) (.int .i64 sl) (.int .i64 sh))
      have HBP := Lib.hid (Below.put6 (b := w.heap.size) HB.out (Nat.le_refl _) (.int .i64 sn) (.int .i64 ss) (.int .u64 (hi sq : Nat)) (.int .u64 (lo sq : Nat)) (.int .i64 sl) (.int .i64 sh))
      clear hS
      go_wp2
      (try simp only [Exit.inBlock, Exit.then])
      exact bodyPost_ret (resW Try.results28 rfl (load6 HP.out)) rfl ⟨rfl, HBP.out⟩
end Go.Proofs.Ytfafkdbflmennaa
