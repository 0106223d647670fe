/- stats: look, Of. -/
import Derived.Test.YtbpdapggdccmiaaStaG
namespace Go.Proofs.Ytbpdapggdccmiaa
open Go.RowKit

def goodL (l : List Int) : List Int := l.filter goodI
theorem goodL_in (l : List Int) : inB (goodL l) = true := by
  unfold inB
  rw [List.all_eq_true]
  intro x hx
  exact (List.mem_filter.1 hx).2
theorem goodL_of {l : List Int} (h : inB l = true) : goodL l = l := List.filter_eq_self.2 fun x hx => List.all_eq_true.1 h x hx
theorem goodL_lt {l : List Int} (h : inB l = false) : (goodL l).length < l.length := by
  rcases Nat.lt_or_ge (goodL l).length l.length with c | c
  · exact c
  · have he : goodL l = l := List.Sublist.eq_of_length_le List.filter_sublist c
    have := goodL_in l
    rw [he, h] at this
    cases this
theorem goodL_snoc_yes (l : List Int) (x : Int) (h : goodI x = true) : goodL (l ++ [x]) = goodL l ++ [x] := by
  unfold goodL; rw [List.filter_append]; simp [h]
theorem goodL_snoc_no (l : List Int) (x : Int) (h : goodI x = false) : goodL (l ++ [x]) = goodL l := by
  unfold goodL; rw [List.filter_append]; simp [h]
theorem goodL_len (l : List Int) : (goodL l).length ≤ l.length := List.length_filter_le _ _
def LookRel (l : List Int) (n : Nat) (w : World) (i : Value) (wr : World) : Prop :=
  ∃ k : Nat, k ≤ n ∧ i = .int .i64 (k : Nat) ∧ Has wr (w.heap.size + 1) (staL (staOf (goodL (l.take k)))) 27 ∧ Has wr w.heap.size [.int .i64 0, .int .i64 0, .int .u64 0, .int .u64 0, .int .i64 0, .int .i64 0] 27 ∧ Below w.heap.size w wr
/-- How great stats of samples that are good can get. -/
theorem staOf_bounds {l : List Int} (h : inB l = true) (hn : l.length ≤ 100000) : 0 ≤ (staOf l).n ∧ (staOf l).n ≤ 100000 ∧ -100000000000 ≤ (staOf l).sum ∧ (staOf l).sum ≤ 100000000000 ∧ (staOf l).sq ≤ 100000000000000000 := by
  have h1 := sum_ge (-1000000) (l := l) fun x hx => (inB_of h x hx).1
  have h2 := sum_le 1000000 (l := l) fun x hx => (inB_of h x hx).2
  have h3 := qsum_le 1000000 (l := l) (inB_of h)
  have h4 := staOf_sq l
  refine ⟨?_, ?_, ?_, ?_, ?_⟩
  · show 0 ≤ (l.length : Int); omega
  · show (l.length : Int) ≤ 100000; omega
  · show -100000000000 ≤ ssum l; omega
  · show ssum l ≤ 100000000000; omega
  · omega
set_option linter.unusedSimpArgs false in
set_option maxHeartbeats 4000000 in
set_option maxRecDepth 100000 in
theorem look_any (l : List Int) (v : Value) (w : World) (hr : ReadsI w v l) (hm : l.length ≤ 100000) :
    Calls Try.prog 22 #[v] w fun e w' => e = .returned (staV (staOf (goodL l))) ∧ Below w.heap.size w w' := by
  obtain ⟨ao, cap, rfl, hlc, hcm, -⟩ := id hr
  unfold maxLen at hcm
  obtain ⟨n, hn⟩ : ∃ n, l.length = n := ⟨_, rfl⟩
  rw [hn] at hlc hr hm ⊢
  have HR := Lib.hid hr
  have HN := Lib.hid hn
  obtain ⟨st, hst⟩ : ∃ st, staOf (goodL l) = st := ⟨_, rfl⟩
  rw [hst]
  have HST := Lib.hid hst
  clear hst
  obtain ⟨sn, ss, sq, sl, sh⟩ := st
  unfold staV
  dsimp only
  have hz0 : staL (staOf (goodL [])) = [.int .i64 0, .int .i64 0, .int .u64 0, .int .u64 0, .int .i64 0, .int .i64 0] := by kernel_rfl
  obtain ⟨w2, hw2⟩ : ∃ w2, (w.alloc (.cells #[.int .i64 0, .int .i64 0, .int .u64 0, .int .u64 0, .int .i64 0, .int .i64 0] 27)).alloc (.cells #[.int .i64 0, .int .i64 0, .int .u64 0, .int .u64 0, .int .i64 0, .int .i64 0] 27) = w2 := ⟨_, rfl⟩
  have HB2 := Lib.hid (show Below w.heap.size w w2 by rw [← hw2]; exact ((Below.refl _ _).alloc (Nat.le_refl _) _).alloc (by simp) _)
  have HX2 := Lib.hid (show Has w2 w.heap.size [.int .i64 0, .int .i64 0, .int .u64 0, .int .u64 0, .int .i64 0, .int .i64 0] 27 by rw [← hw2]; exact (Has.new w _ _).alloc _)
  have HR2 := Lib.hid (show Has w2 (w.heap.size + 1) [.int .i64 0, .int .i64 0, .int .u64 0, .int .u64 0, .int .i64 0, .int .i64 0] 27 by
    have := Has.new (w.alloc (.cells #[.int .i64 0, .int .i64 0, .int .u64 0, .int .u64 0, .int .i64 0, .int .i64 0] 27)) [.int .i64 0, .int .i64 0, .int .u64 0, .int .u64 0, .int .i64 0, .int .i64 0] 27
    rw [show (w.alloc (.cells #[.int .i64 0, .int .i64 0, .int .u64 0, .int .u64 0, .int .i64 0, .int .i64 0] 27)).heap.size = w.heap.size + 1 by simp] at this
    rw [← hw2]; exact this)
  have HR2 := Lib.hid (show Has w2 (w.heap.size + 1) (staL (staOf (goodL []))) 27 by rw [hz0]; exact HR2.out)
  have HW2 := Lib.hid hw2
  clear hr hn hw2 hz0
  go_enter Try.func22, Try.ntmps22
  go_upto_region 2 with fail
  rw [HW2.out]
  go_wp2
  go_loopw [8] (LookRel l n w) (fun i _ => n - (intOf i).toNat)
  case atStart => exact ⟨0, Nat.zero_le _, rfl, HR2.out, HX2.out, HB2.out⟩
  case round =>
    obtain ⟨k, hk, rfl, hsH, hxH, hb⟩ := hrel
    have HS := Lib.hid hsH
    have HX := Lib.hid hxH
    have HB := Lib.hid hb
    have hsz := hb.size
    have hlt := hsH.lt
    clear hsH hxH hb
    by_cases hl : k < n
    · obtain ⟨ao', cp', e0, -, -, hcl'⟩ := HR.out.below HB.out
      injection e0 with e1 e2 e3
      subst e1 e3
      obtain ⟨b, off, rfl, hltb, hd⟩ := hcl' k (by rw [HN.out]; exact hl)
      obtain ⟨x, hxq⟩ : ∃ x, l.getD k 0 = x := ⟨_, rfl⟩
      rw [hxq] at hd
      have htk := take_snoc l k x (by rw [HN.out]; exact hl) hxq
      have hkn : (k : Int) < (n : Int) := by omega
      have hiss := fun w => isSample_any x w
      have hcur := isSample_any x wr
      clear hcl' hxq e2
      cases hg : goodI x with
      | false =>
        have HE := Lib.hid (show goodL (l.take (k + 1)) = goodL (l.take k) by rw [htk, goodL_snoc_no _ _ hg])
        rw [hg] at hcur
        clear hg htk
        go_wp2_with fail
        refine hcur.mono ?_
        rintro e wi ⟨rfl, rfl⟩
        clear hcur
        have HQ := Lib.hid (show LookRel l n w (.int .i64 ((k : Int) + 1)) wr from ⟨k + 1, by omega, by first | rfl | go_num, by rw [HE.out]; exact HS.out, HX.out, HB.out⟩)
        go_wp2
        go_roundw
        case rel => exact HQ.out
        case measure => simp [intOf]; omega
      | true =>
        have hgx := of_decide_eq_true hg
        have hx1 := hgx.1
        have hx2 := hgx.2
        have hin2 := goodL_in (l.take k)
        have hln2 : (goodL (l.take k)).length ≤ 100000 := by
          have h1 := goodL_len (l.take k)
          have h2 : (l.take k).length ≤ n := by rw [List.length_take, HN.out]; omega
          omega
        have hbd := staOf_bounds hin2 hln2
        have hxx := sq_le hx1 hx2
        have hxx0 := sq_nonneg' x
        have mone := fun w => one_any x hx1 hx2 w
        have mbo := fun w => both_any (staOf (goodL (l.take k))) ⟨1, x, (x * x).toNat, x, x⟩ ⟨by dsimp only; omega, by dsimp only; omega⟩ ⟨by dsimp only; omega, by dsimp only; omega⟩ (by dsimp only; unfold M128; omega) w
        rw [← staOf_one x, joinS_of, ← goodL_snoc_yes _ _ hg, ← htk, staOf_one] at mbo
        have hS := HS.out
        generalize staOf (goodL (l.take k)) = st at hS mbo hbd
        obtain ⟨st2, hst2⟩ : ∃ st2, staOf (goodL (l.take (k + 1))) = st2 := ⟨_, rfl⟩
        rw [hst2] at mbo
        rw [hg] at hcur
        have HST2 := Lib.hid hst2
        generalize (x * x).toNat = t at mone mbo
        obtain ⟨sa, z, q, mn, mx⟩ := st
        obtain ⟨sa2, z2, q2, mn2, mx2⟩ := st2
        unfold staV at mone mbo
        unfold staL at hS
        dsimp only at hS mone mbo
        have HSS := Lib.hid hS
        clear hg htk hst2 hbd hxx hxx0 hgx hx1 hx2 hin2 hln2 hiss
        go_wp2_with fail
        refine hcur.mono ?_
        rintro e wi ⟨rfl, rfl⟩
        clear hcur
        go_upto_region 6 with fail
        have c0 : wr.cell? ⟨w.heap.size + 1, 0, none⟩ = some (.int .i64 sa) := hS.cell 0
        have c1 : wr.cell? ⟨w.heap.size + 1, 1, none⟩ = some (.int .i64 z) := hS.cell 1
        have c2 : wr.cell? ⟨w.heap.size + 1, 2, none⟩ = some (.int .u64 (hi q : Nat)) := hS.cell 2
        have c3 : wr.cell? ⟨w.heap.size + 1, 3, none⟩ = some (.int .u64 (lo q : Nat)) := hS.cell 3
        have c4 : wr.cell? ⟨w.heap.size + 1, 4, none⟩ = some (.int .i64 mn) := hS.cell 4
        have c5 : wr.cell? ⟨w.heap.size + 1, 5, none⟩ = some (.int .i64 mx) := hS.cell 5
        clear hS
        go_region_with (first | (go_at_call 39; refine (mone _).mono ?_; rintro e wr1 ⟨rfl, kr1⟩; (have HBr1 := Lib.hid (show Below w.heap.size w wr1 by first | exact (HB.out).trans (kr1.mono (by have := HB.out.size; first | omega | (simp; omega) | simp)) | exact (Below.drew (HB.out)).trans (kr1.mono (by have := HB.out.size; first | omega | (simp; omega) | simp)) | exact (Below.drew (Below.drew (HB.out))).trans (kr1.mono (by have := HB.out.size; first | omega | (simp; omega) | simp)) | exact (Below.drew (Below.drew (Below.drew (HB.out)))).trans (kr1.mono (by have := HB.out.size; first | omega | (simp; omega) | simp)))); (have HXr1 := Lib.hid (show Has wr1 w.heap.size [.int .i64 0, .int .i64 0, .int .u64 0, .int .u64 0, .int .i64 0, .int .i64 0] 27 from HX.out.step kr1 rfl)); (have HSr1 := Lib.hid (show Has wr1 (w.heap.size + 1) [.int .i64 sa, .int .i64 z, .int .u64 (hi q : Nat), .int .u64 (lo q : Nat), .int .i64 mn, .int .i64 mx] 27 from HSS.out.step kr1 rfl)); (have y10 : wr1.cell? ⟨w.heap.size + 1, 0, none⟩ = some (.int .i64 sa) := HSr1.out.cell 0); (have y11 : wr1.cell? ⟨w.heap.size + 1, 1, none⟩ = some (.int .i64 z) := HSr1.out.cell 1); (have y12 : wr1.cell? ⟨w.heap.size + 1, 2, none⟩ = some (.int .u64 (hi q : Nat)) := HSr1.out.cell 2); (have y13 : wr1.cell? ⟨w.heap.size + 1, 3, none⟩ = some (.int .u64 (lo q : Nat)) := HSr1.out.cell 3); (have y14 : wr1.cell? ⟨w.heap.size + 1, 4, none⟩ = some (.int .i64 mn) := HSr1.out.cell 4); (have y15 : wr1.cell? ⟨w.heap.size + 1, 5, none⟩ = some (.int .i64 mx) := HSr1.out.cell 5)) | (go_at_call 23; refine (mbo _).mono ?_; rintro e wr2 ⟨rfl, kr2⟩; (have HBr2 := Lib.hid (show Below w.heap.size w wr2 by first | exact (HBr1.out).trans (kr2.mono (by have := HBr1.out.size; first | omega | (simp; omega) | simp)) | exact (Below.drew (HBr1.out)).trans (kr2.mono (by have := HBr1.out.size; first | omega | (simp; omega) | simp)) | exact (Below.drew (Below.drew (HBr1.out))).trans (kr2.mono (by have := HBr1.out.size; first | omega | (simp; omega) | simp)) | exact (Below.drew (Below.drew (Below.drew (HBr1.out)))).trans (kr2.mono (by have := HBr1.out.size; first | omega | (simp; omega) | simp)))); (have HXr2 := Lib.hid (show Has wr2 w.heap.size [.int .i64 0, .int .i64 0, .int .u64 0, .int .u64 0, .int .i64 0, .int .i64 0] 27 from HXr1.out.step kr2 rfl)); (have HSr2 := Lib.hid (show Has wr2 (w.heap.size + 1) [.int .i64 sa, .int .i64 z, .int .u64 (hi q : Nat), .int .u64 (lo q : Nat), .int .i64 mn, .int .i64 mx] 27 from HSr1.out.step kr2 rfl)); (have y20 : wr2.cell? ⟨w.heap.size + 1, 0, none⟩ = some (.int .i64 sa) := HSr2.out.cell 0); (have yf20 : wr2.frozen? ⟨w.heap.size + 1, 0, none⟩ = false := HSr2.out.frozen 0); (have y21 : wr2.cell? ⟨w.heap.size + 1, 1, none⟩ = some (.int .i64 z) := HSr2.out.cell 1); (have yf21 : wr2.frozen? ⟨w.heap.size + 1, 1, none⟩ = false := HSr2.out.frozen 1); (have y22 : wr2.cell? ⟨w.heap.size + 1, 2, none⟩ = some (.int .u64 (hi q : Nat)) := HSr2.out.cell 2); (have yf22 : wr2.frozen? ⟨w.heap.size + 1, 2, none⟩ = false := HSr2.out.frozen 2); (have y23 : wr2.cell? ⟨w.heap.size + 1, 3, none⟩ = some (.int .u64 (lo q : Nat)) := HSr2.out.cell 3); (have yf23 : wr2.frozen? ⟨w.heap.size + 1, 3, none⟩ = false := HSr2.out.frozen 3); (have y24 : wr2.cell? ⟨w.heap.size + 1, 4, none⟩ = some (.int .i64 mn) := HSr2.out.cell 4); (have yf24 : wr2.frozen? ⟨w.heap.size + 1, 4, none⟩ = false := HSr2.out.frozen 4); (have y25 : wr2.cell? ⟨w.heap.size + 1, 5, none⟩ = some (.int .i64 mx) := HSr2.out.cell 5); (have yf25 : wr2.frozen? ⟨w.heap.size + 1, 5, none⟩ = false := HSr2.out.frozen 5)))
        all_goals (
          have HQ := Lib.hid (show LookRel l n w (.int .i64 ((k : Int) + 1)) ((((((wr2.setCell ⟨w.heap.size + 1, 0, none⟩ (.int .i64 sa2)).setCell ⟨w.heap.size + 1, 1, none⟩ (.int .i64 z2)).setCell ⟨w.heap.size + 1, 2, none⟩ (.int .u64 (hi q2 : Nat))).setCell ⟨w.heap.size + 1, 3, none⟩ (.int .u64 (lo q2 : Nat))).setCell ⟨w.heap.size + 1, 4, none⟩ (.int .i64 mn2)).setCell ⟨w.heap.size + 1, 5, none⟩ (.int .i64 mx2)) from
            ⟨k + 1, by omega, by first | rfl | go_num, by
              rw [HST2.out]
              exact HSr2.out.put6 (.int .i64 sa2) (.int .i64 z2) (.int .u64 (hi q2 : Nat)) (.int .u64 (lo q2 : Nat)) (.int .i64 mn2) (.int .i64 mx2), ((((((HXr2.out.other (p := ⟨w.heap.size + 1, 0, none⟩) (by dsimp only; omega) _).other (p := ⟨w.heap.size + 1, 1, none⟩) (by dsimp only; omega) _).other (p := ⟨w.heap.size + 1, 2, none⟩) (by dsimp only; omega) _).other (p := ⟨w.heap.size + 1, 3, none⟩) (by dsimp only; omega) _).other (p := ⟨w.heap.size + 1, 4, none⟩) (by dsimp only; omega) _).other (p := ⟨w.heap.size + 1, 5, none⟩) (by dsimp only; omega) _), Below.put6 (b := w.heap.size + 1) HBr2.out (Nat.le_add_right _ 1) (.int .i64 sa2) (.int .i64 z2) (.int .u64 (hi q2 : Nat)) (.int .u64 (lo q2 : Nat)) (.int .i64 mn2) (.int .i64 mx2)⟩)
          go_wp2
          go_roundw
          case rel => exact HQ.out
          case measure => simp [intOf]; omega)
    · obtain rfl : k = n := by omega
      have hfe : l.take k = l := List.take_of_length_le (by rw [HN.out]; exact Nat.le_refl _)
      have hS := HS.out
      rw [hfe, HST.out] at hS
      unfold staL at hS
      dsimp only at hS
      have c0 : wr.cell? ⟨w.heap.size + 1, 0, none⟩ = some (.int .i64 sn) := hS.cell 0
      have c1 : wr.cell? ⟨w.heap.size + 1, 1, none⟩ = some (.int .i64 ss) := hS.cell 1
      have c2 : wr.cell? ⟨w.heap.size + 1, 2, none⟩ = some (.int .u64 (hi sq : Nat)) := hS.cell 2
      have c3 : wr.cell? ⟨w.heap.size + 1, 3, none⟩ = some (.int .u64 (lo sq : Nat)) := hS.cell 3
      have c4 : wr.cell? ⟨w.heap.size + 1, 4, none⟩ = some (.int .i64 sl) := hS.cell 4
      have c5 : wr.cell? ⟨w.heap.size + 1, 5, none⟩ = some (.int .i64 sh) := hS.cell 5
      have z0 : wr.cell? ⟨w.heap.size, 0, none⟩ = some (.int .i64 0) := HX.out.cell 0
      have f0 : wr.frozen? ⟨w.heap.size, 0, none⟩ = false := HX.out.frozen 0
      have z1 : wr.cell? ⟨w.heap.size, 1, none⟩ = some (.int .i64 0) := HX.out.cell 1
      have f1 : wr.frozen? ⟨w.heap.size, 1, none⟩ = false := HX.out.frozen 1
      have z2 : wr.cell? ⟨w.heap.size, 2, none⟩ = some (.int .u64 0) := HX.out.cell 2
      have f2 : wr.frozen? ⟨w.heap.size, 2, none⟩ = false := HX.out.frozen 2
      have z3 : wr.cell? ⟨w.heap.size, 3, none⟩ = some (.int .u64 0) := HX.out.cell 3
      have f3 : wr.frozen? ⟨w.heap.size, 3, none⟩ = false := HX.out.frozen 3
      have z4 : wr.cell? ⟨w.heap.size, 4, none⟩ = some (.int .i64 0) := HX.out.cell 4
      have f4 : wr.frozen? ⟨w.heap.size, 4, none⟩ = false := HX.out.frozen 4
      have z5 : wr.cell? ⟨w.heap.size, 5, none⟩ = some (.int .i64 0) := HX.out.cell 5
      have f5 : wr.frozen? ⟨w.heap.size, 5, none⟩ = false := HX.out.frozen 5
      have HP := Lib.hid (HX.out.put6 (.int .i64 sn) (.int .i64 ss) (.int .u64 (hi sq : Nat)) (.int .u64 (lo sq : Nat)) (.int .i64 sl) (.int .i64 sh))
      have HBP := Lib.hid (Below.put6 (b := w.heap.size) HB.out (Nat.le_refl _) (.int .i64 sn) (.int .i64 ss) (.int .u64 (hi sq : Nat)) (.int .u64 (lo sq : Nat)) (.int .i64 sl) (.int .i64 sh))
      clear hS
      go_wp2
      (try simp only [Exit.inBlock, Exit.then])
      exact bodyPost_ret (resW Try.results22 rfl (load6 HP.out)) rfl ⟨rfl, HBP.out⟩
/-- What Of tells: the stats and the error. -/
def ofS (l : List Int) : Sta := if inB l then staOf l else sta0
def ofE (l : List Int) : Int := if inB l then 0 else 3
set_option linter.unusedSimpArgs false in
set_option maxHeartbeats 2000000 in
set_option maxRecDepth 100000 in
theorem of11_any (l : List Int) (v : Value) (w : World) (hr : ReadsI w v l) (hm : l.length ≤ 100000) :
    Calls Try.prog 7 #[v] w fun e w' => e = .returned (.tuple #[staV (ofS l), .int .i64 (ofE l)]) ∧ Below w.heap.size w w' := by
  have hB1 := (Below.refl w.heap.size w).alloc (Nat.le_refl _) (.cells #[.int .i64 0, .int .i64 0, .int .u64 0, .int .u64 0, .int .i64 0, .int .i64 0] 27)
  have hs1 : (w.alloc (.cells #[.int .i64 0, .int .i64 0, .int .u64 0, .int .u64 0, .int .i64 0, .int .i64 0] 27)).heap.size = w.heap.size + 1 := by simp
  have hlk := look_any l v (w.alloc (.cells #[.int .i64 0, .int .i64 0, .int .u64 0, .int .u64 0, .int .i64 0, .int .i64 0] 27)) (hr.below ((Below.refl _ _).alloc (Nat.le_refl _) _)) hm
  have HZ1 := Lib.hid (Has.new w [.int .i64 0, .int .i64 0, .int .u64 0, .int .u64 0, .int .i64 0, .int .i64 0] 27)
  have HB1 := Lib.hid hB1
  obtain ⟨ao, cap, rfl, hlc, hcm, -⟩ := hr
  have hst : (staOf (goodL l)).n = ((goodL l).length : Int) := rfl
  have hyes : inB l = true → staOf (goodL l) = staOf l := fun h => by rw [goodL_of h]
  have hno : inB l = false → (goodL l).length < l.length := goodL_lt
  have hlen : inB l = true → (goodL l).length = l.length := fun h => by rw [goodL_of h]
  unfold ofS ofE
  generalize (goodL l).length = g at hst hno hlen
  obtain ⟨n, hn⟩ : ∃ n, l.length = n := ⟨_, rfl⟩
  rw [hn] at hno hlen hlk hlc ⊢
  generalize staOf (goodL l) = st at hlk hst hyes
  obtain ⟨sn, ss, sq, sl, sh⟩ := st
  unfold staV at hlk ⊢
  dsimp only at hlk hst
  subst hst
  clear hB1 hn hm
  cases hi' : inB l with
  | true =>
    have hg := hlen hi'
    have he := hyes hi'
    subst hg
    simp only [reduceIte]
    rw [← he]
    dsimp only
    clear hi' he hno hlen hyes
    go_enter Try.func7, Try.ntmps7
    go_upto_region 1 with fail
    go_wp2_with fail
    refine hlk.mono ?_
    rintro e w2 ⟨rfl, k2⟩
    have zH := HZ1.out.call k2
    have hb2 := HB1.out.trans (k2.mono (by rw [hs1]; omega))
    obtain ⟨w3, hw3⟩ : ∃ w3, w2.alloc (.cells #[.int .i64 (g : Int), .int .i64 ss, .int .u64 (hi sq : Nat), .int .u64 (lo sq : Nat), .int .i64 sl, .int .i64 sh] 27) = w3 := ⟨_, rfl⟩
    have HB3 := Lib.hid (show Below w.heap.size w w3 by rw [← hw3]; exact hb2.alloc hb2.size _)
    have HX3 := Lib.hid (show Has w3 w.heap.size [.int .i64 0, .int .i64 0, .int .u64 0, .int .u64 0, .int .i64 0, .int .i64 0] 27 by rw [← hw3]; exact zH.alloc _)
    have HK3 := Lib.hid (show Has w3 w2.heap.size [.int .i64 (g : Int), .int .i64 ss, .int .u64 (hi sq : Nat), .int .u64 (lo sq : Nat), .int .i64 sl, .int .i64 sh] 27 by rw [← hw3]; exact Has.new _ _ _)
    have HW3 := Lib.hid hw3
    clear hw3 hlk k2 zH hb2
    go_upto_region 2 with fail
    rw [HW3.out]
    have c0 : w3.cell? ⟨w2.heap.size, 0, none⟩ = some (.int .i64 (g : Int)) := HK3.out.cell 0
    have c1 : w3.cell? ⟨w2.heap.size, 1, none⟩ = some (.int .i64 ss) := HK3.out.cell 1
    have c2 : w3.cell? ⟨w2.heap.size, 2, none⟩ = some (.int .u64 (hi sq : Nat)) := HK3.out.cell 2
    have c3 : w3.cell? ⟨w2.heap.size, 3, none⟩ = some (.int .u64 (lo sq : Nat)) := HK3.out.cell 3
    have c4 : w3.cell? ⟨w2.heap.size, 4, none⟩ = some (.int .i64 sl) := HK3.out.cell 4
    have c5 : w3.cell? ⟨w2.heap.size, 5, none⟩ = some (.int .i64 sh) := HK3.out.cell 5
    have z0 : w3.cell? ⟨w.heap.size, 0, none⟩ = some (.int .i64 0) := HX3.out.cell 0
    have f0 : w3.frozen? ⟨w.heap.size, 0, none⟩ = false := HX3.out.frozen 0
    have z1 : w3.cell? ⟨w.heap.size, 1, none⟩ = some (.int .i64 0) := HX3.out.cell 1
    have f1 : w3.frozen? ⟨w.heap.size, 1, none⟩ = false := HX3.out.frozen 1
    have z2 : w3.cell? ⟨w.heap.size, 2, none⟩ = some (.int .u64 0) := HX3.out.cell 2
    have f2 : w3.frozen? ⟨w.heap.size, 2, none⟩ = false := HX3.out.frozen 2
    have z3 : w3.cell? ⟨w.heap.size, 3, none⟩ = some (.int .u64 0) := HX3.out.cell 3
    have f3 : w3.frozen? ⟨w.heap.size, 3, none⟩ = false := HX3.out.frozen 3
    have z4 : w3.cell? ⟨w.heap.size, 4, none⟩ = some (.int .i64 0) := HX3.out.cell 4
    have f4 : w3.frozen? ⟨w.heap.size, 4, none⟩ = false := HX3.out.frozen 4
    have z5 : w3.cell? ⟨w.heap.size, 5, none⟩ = some (.int .i64 0) := HX3.out.cell 5
    have f5 : w3.frozen? ⟨w.heap.size, 5, none⟩ = false := HX3.out.frozen 5
    have HP := Lib.hid (HX3.out.put6 (.int .i64 (g : Int)) (.int .i64 ss) (.int .u64 (hi sq : Nat)) (.int .u64 (lo sq : Nat)) (.int .i64 sl) (.int .i64 sh))
    have HBP := Lib.hid (Below.put6 (b := w.heap.size) HB3.out (Nat.le_refl _) (.int .i64 (g : Int)) (.int .i64 ss) (.int .u64 (hi sq : Nat)) (.int .u64 (lo sq : Nat)) (.int .i64 sl) (.int .i64 sh))
    go_wp2
    (try simp only [Exit.inBlock, Exit.then])
    exact bodyPost_ret (results_cell_tmp Try.results7 rfl (load6 HP.out)) rfl ⟨rfl, HBP.out⟩
  | false =>
    have hg := hno hi'
    have hgi : ((g : Nat) : Int) < ((n : Nat) : Int) := by omega
    clear hi' hno hlen hyes hg
    simp only [Bool.false_eq_true, reduceIte, sta0]
    rw [show hi 0 = 0 from rfl, show lo 0 = 0 from rfl]
    simp only [Int.natCast_zero]
    go_enter Try.func7, Try.ntmps7
    go_upto_region 1 with fail
    go_wp2_with fail
    refine hlk.mono ?_
    rintro e w2 ⟨rfl, k2⟩
    have zH := HZ1.out.call k2
    have hb2 := HB1.out.trans (k2.mono (by rw [hs1]; omega))
    obtain ⟨w3, hw3⟩ : ∃ w3, w2.alloc (.cells #[.int .i64 (g : Int), .int .i64 ss, .int .u64 (hi sq : Nat), .int .u64 (lo sq : Nat), .int .i64 sl, .int .i64 sh] 27) = w3 := ⟨_, rfl⟩
    have HB3 := Lib.hid (show Below w.heap.size w w3 by rw [← hw3]; exact hb2.alloc hb2.size _)
    have HX3 := Lib.hid (show Has w3 w.heap.size [.int .i64 0, .int .i64 0, .int .u64 0, .int .u64 0, .int .i64 0, .int .i64 0] 27 by rw [← hw3]; exact zH.alloc _)
    have HK3 := Lib.hid (show Has w3 w2.heap.size [.int .i64 (g : Int), .int .i64 ss, .int .u64 (hi sq : Nat), .int .u64 (lo sq : Nat), .int .i64 sl, .int .i64 sh] 27 by rw [← hw3]; exact Has.new _ _ _)
    have HW3 := Lib.hid hw3
    clear hw3 hlk k2 zH hb2
    go_upto_region 2 with fail
    rw [HW3.out]
    have c0 : w3.cell? ⟨w2.heap.size, 0, none⟩ = some (.int .i64 (g : Int)) := HK3.out.cell 0
    have c1 : w3.cell? ⟨w2.heap.size, 1, none⟩ = some (.int .i64 ss) := HK3.out.cell 1
    have c2 : w3.cell? ⟨w2.heap.size, 2, none⟩ = some (.int .u64 (hi sq : Nat)) := HK3.out.cell 2
    have c3 : w3.cell? ⟨w2.heap.size, 3, none⟩ = some (.int .u64 (lo sq : Nat)) := HK3.out.cell 3
    have c4 : w3.cell? ⟨w2.heap.size, 4, none⟩ = some (.int .i64 sl) := HK3.out.cell 4
    have c5 : w3.cell? ⟨w2.heap.size, 5, none⟩ = some (.int .i64 sh) := HK3.out.cell 5
    have z0 : w3.cell? ⟨w.heap.size, 0, none⟩ = some (.int .i64 0) := HX3.out.cell 0
    have f0 : w3.frozen? ⟨w.heap.size, 0, none⟩ = false := HX3.out.frozen 0
    have z1 : w3.cell? ⟨w.heap.size, 1, none⟩ = some (.int .i64 0) := HX3.out.cell 1
    have f1 : w3.frozen? ⟨w.heap.size, 1, none⟩ = false := HX3.out.frozen 1
    have z2 : w3.cell? ⟨w.heap.size, 2, none⟩ = some (.int .u64 0) := HX3.out.cell 2
    have f2 : w3.frozen? ⟨w.heap.size, 2, none⟩ = false := HX3.out.frozen 2
    have z3 : w3.cell? ⟨w.heap.size, 3, none⟩ = some (.int .u64 0) := HX3.out.cell 3
    have f3 : w3.frozen? ⟨w.heap.size, 3, none⟩ = false := HX3.out.frozen 3
    have z4 : w3.cell? ⟨w.heap.size, 4, none⟩ = some (.int .i64 0) := HX3.out.cell 4
    have f4 : w3.frozen? ⟨w.heap.size, 4, none⟩ = false := HX3.out.frozen 4
    have z5 : w3.cell? ⟨w.heap.size, 5, none⟩ = some (.int .i64 0) := HX3.out.cell 5
    have f5 : w3.frozen? ⟨w.heap.size, 5, none⟩ = false := HX3.out.frozen 5
    have HP := Lib.hid (HX3.out.put6 (.int .i64 0) (.int .i64 0) (.int .u64 0) (.int .u64 0) (.int .i64 0) (.int .i64 0))
    have HBP := Lib.hid (Below.put6 (b := w.heap.size) HB3.out (Nat.le_refl _) (.int .i64 0) (.int .i64 0) (.int .u64 0) (.int .u64 0) (.int .i64 0) (.int .i64 0))
    go_wp2
    (try simp only [Exit.inBlock, Exit.then])
    exact bodyPost_ret (results_cell_tmp Try.results7 rfl (load6 HP.out)) rfl ⟨rfl, HBP.out⟩
end Go.Proofs.Ytbpdapggdccmiaa
