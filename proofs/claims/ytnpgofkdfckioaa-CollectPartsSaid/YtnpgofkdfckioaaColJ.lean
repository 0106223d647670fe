/- collect.fill: samples come to a group, and each row is gathered when it is full. -/
import Derived.Test.YtnpgofkdfckioaaColH
namespace Go.Proofs.Ytnpgofkdfckioaa
open Go.RowKit

/-- What gathers: a function of a row, that keeps what it has in one block c, and in blocks of its own from B + 3 on. -/
structure Gath (k c B : Nat) (J : World → List (List Int) → Prop) : Prop where
  eg : ∀ args w, (callFunc k args).run Try.prog w = .ok (.enter k args) w
  below : ∀ w w' L, J w L → Below w.heap.size w w' → J w' L
  own : ∀ w w' L b, B ≤ b → b < B + 3 → J w L → Only b w w' → J w' L
  run : ∀ w L row y, B + 3 ≤ w.heap.size → B + 3 ≤ y → row.length ≤ 10 → L.length ≤ 100000 → Has w y (intsV row) 3 → J w L → Calls Try.prog k #[.slice (some ⟨y, 0, none⟩) row.length row.length, .pointer (some ⟨c, 0, none⟩)] w fun e w' => (∃ v, e = .returned v) ∧ J w' (L ++ [row]) ∧ Kept c (B + 3) w w'
def Front (w : World) (b S : Nat) (ys : List Int) : Prop := ∃ cs, Has w b cs 3 ∧ cs.length = S ∧ cs.take ys.length = intsV ys
theorem Front.of {w w' : World} {b S : Nat} {ys : List Int} (h : Front w b S ys) (e : w'.heap[b]? = w.heap[b]?) : Front w' b S ys := by
  obtain ⟨cs, h1, h2, h3⟩ := h
  exact ⟨cs, h1.of e, h2, h3⟩
theorem Front.reads {w : World} {b S : Nat} {ys : List Int} (h : Front w b S ys) (hS : S ≤ 100000) (hn : ys.length ≤ S) : ReadsI w (.slice (some ⟨b, 0, none⟩) ys.length S) ys := by
  obtain ⟨cs, h1, h2, h3⟩ := h
  exact h1.readsI h2 rfl hn hS h3
theorem Front.lt {w : World} {b S : Nat} {ys : List Int} (h : Front w b S ys) : b < w.heap.size := by
  obtain ⟨cs, h1, _⟩ := h
  exact h1.lt
def FillRel (c S : Nat) (lo hi : Int) (xs l : List Int) (v : Value) (J : World → List (List Int) → Prop) (w : World) (m : Nat) (hv rf i : Value) (wr : World) : Prop :=
  ∃ (q : Nat) (ys : List Int) (L : List (List Int)) (r : Nat), q ≤ m ∧ i = .int .i64 (q : Nat) ∧ hv = .slice (some ⟨w.heap.size + 2, 0, none⟩) ys.length S ∧ rf = .int .i64 (r : Nat) ∧ r ≤ q ∧ L.length ≤ q ∧ ys.length < S ∧
    feedN ⟨(S : Int), lo, hi, xs⟩ (l.take q) = (⟨(S : Int), lo, hi, ys⟩, L, r) ∧ Front wr (w.heap.size + 2) S ys ∧ J wr L ∧ Kept c w.heap.size w wr ∧
    Has wr w.heap.size [.int .i64 (S : Int), .int .i64 lo, .int .i64 hi, v] 24 ∧ Has wr (w.heap.size + 1) [.int .i64 0, .int .i64 0, .int .i64 0, .slice none 0 0] 24 ∧ w.heap.size + 3 ≤ wr.heap.size
set_option maxHeartbeats 1000000 in
set_option maxRecDepth 100000 in
theorem fill_any (k c S : Nat) (J : World → List (List Int) → Prop) (lo hi : Int) (xs l : List Int) (v vl : Value) (w : World) (hG : Gath k c w.heap.size J) (hc : c < w.heap.size) (h1 : 1 ≤ S) (h10 : S ≤ 10) (hx : xs.length < S)
    (hr : ReadsI w v xs) (hrl : ∀ W, Kept c w.heap.size w W → ReadsI W vl l) (hm : l.length ≤ 100000) (hJ : J w []) (ys : List Int) (L : List (List Int)) (r : Nat) (hres : feedN ⟨(S : Int), lo, hi, xs⟩ l = (⟨(S : Int), lo, hi, ys⟩, L, r)) :
    Calls Try.prog 23 #[.agg #[.int .i64 (S : Int), .int .i64 lo, .int .i64 hi, v], vl, .func (.func k) #[] #[.pointer (some ⟨c, 0, none⟩)]] w fun e w' =>
      e = .returned (.tuple #[.agg #[.int .i64 (S : Int), .int .i64 lo, .int .i64 hi, .slice (some ⟨w.heap.size + 2, 0, none⟩) ys.length S], .int .i64 (r : Nat)]) ∧ Front w' (w.heap.size + 2) S ys ∧ J w' L ∧ Kept c w.heap.size w w' := by
  obtain ⟨m, hlm⟩ : ∃ m, l.length = m := ⟨_, rfl⟩
  obtain ⟨n0, hn0⟩ : ∃ n0, xs.length = n0 := ⟨_, rfl⟩
  have hvl := hrl w (Kept.refl _ _ _)
  obtain ⟨a1, p1, hv1, hl1, hm1, -⟩ := hvl
  subst hv1
  obtain ⟨a0, p0, hv0, hl0, hm0, -⟩ := id hr
  subst hv0
  unfold maxLen at hm0 hm1
  rw [hlm] at hl1 hm ⊢
  have heg := hG.eg
  obtain ⟨i0, hi0, -, hi1, -⟩ := info_parts infoInt
  have HGB := Lib.hid hG.below
  have HGO := Lib.hid hG.own
  have HGR := Lib.hid hG.run
  have HRL := Lib.hid (show ∀ W, Kept c w.heap.size w W → ReadsI W (.slice a1 m p1) l by rw [← hlm]; exact hrl)
  have HLM := Lib.hid hlm
  have HN0 := Lib.hid hn0
  have HRES := Lib.hid hres
  have HJ := Lib.hid hJ
  have hcl := intsV_len xs
  have hone := Lib.hid (intsV_one xs)
  rw [hn0] at hcl hl0 hr hx ⊢
  obtain ⟨Z, hZ⟩ : ∃ Z : List Value, Z = List.replicate S (Value.int .i64 0) := ⟨_, rfl⟩
  have hzl : Z.length = S := by rw [hZ, List.length_replicate]
  have hmk := fun W => make_ints n0 S (by omega) (by omega) W
  rw [← hZ] at hmk
  obtain ⟨w2, hw2⟩ : ∃ w2, (w.alloc (.cells #[.int .i64 (S : Int), .int .i64 lo, .int .i64 hi, .slice a0 n0 p0] 24)).alloc (.cells #[.int .i64 0, .int .i64 0, .int .i64 0, .slice none 0 0] 24) = w2 := ⟨_, rfl⟩
  have hs2 : w2.heap.size = w.heap.size + 2 := by rw [← hw2]; simp
  have hb2 : Below w.heap.size w w2 := by rw [← hw2]; exact ((Below.refl w.heap.size w).alloc (Nat.le_refl _) _).alloc (by simp) _
  have hX0 : Has w2 w.heap.size [.int .i64 (S : Int), .int .i64 lo, .int .i64 hi, .slice a0 n0 p0] 24 := by
    rw [← hw2]; exact (Has.new w _ _).alloc _
  have hX := hX0.alloc (.cells Z.toArray 3)
  have hY : Has (w2.alloc (.cells Z.toArray 3)) (w.heap.size + 1) [.int .i64 0, .int .i64 0, .int .i64 0, .slice none 0 0] 24 := by
    have := (Has.new (w.alloc (.cells #[.int .i64 (S : Int), .int .i64 lo, .int .i64 hi, .slice a0 n0 p0] 24)) [.int .i64 0, .int .i64 0, .int .i64 0, .slice none 0 0] 24).alloc (.cells Z.toArray 3)
    rw [show (w.alloc (.cells #[.int .i64 (S : Int), .int .i64 lo, .int .i64 hi, .slice a0 n0 p0] 24)).heap.size = w.heap.size + 1 by simp] at this
    rw [← hw2]; exact this
  have hV := Has.new w2 Z 3
  rw [hs2] at hV
  have hb3 := hb2.alloc (by omega) (.cells Z.toArray 3)
  have hs3 : (w2.alloc (.cells Z.toArray 3)).heap.size = w.heap.size + 3 := by simp; omega
  have HB3 := Lib.hid hb3
  have HXV := Lib.hid hV
  have HX := Lib.hid hX
  have HY := Lib.hid hY
  have HS := Lib.hid (hr.below hb3)
  have HS3 := Lib.hid hs3
  have x0 : w2.cell? ⟨w.heap.size, 0, none⟩ = some (.int .i64 (S : Int)) := hX0.cell 0
  have x3 : w2.cell? ⟨w.heap.size, 3, none⟩ = some (.slice a0 n0 p0) := hX0.cell 3
  have hlt : w.heap.size < w2.heap.size := by omega
  have HW2 := Lib.hid hw2
  obtain ⟨cs0, hcs0⟩ : ∃ cs0, intsV xs = cs0 := ⟨_, rfl⟩
  have HC0 := Lib.hid hcs0
  rw [hcs0] at hcl hone
  clear hG hr hrl hJ hres hZ hb2 hX0 hX hY hV hb3 hs3 hw2 hlm hn0 hcs0
  go_enter Try.func23, Try.ntmps23
  go_upto_region 1 with fail
  rw [HW2.out]
  go_wp2_with (refine wpList_copy_splice rfl (.tmp 18) (.tmp 20) 22 22 rfl 3 Try.underlying22 sizeOneInt (some ⟨w.heap.size + 2, 0, none⟩) a0 n0 S n0 p0 rfl rfl (w.heap.size + 2) 0 Z 3 HXV.out cs0 ?c1 (fun hp => ⟨rfl, HC0.out ▸ HS.out.src (HC0.out.symm ▸ hp)⟩) ?c2 hone.out (w.heap.size + 2) _ (Below.refl _ _) (Nat.le_refl _) ?_)
  case c1 => rw [hcl]; exact (Nat.min_eq_left (by omega)).symm
  case c2 => omega
  intro w4 hg hb4
  have hs4 := hb4.size
  rw [HS3.out] at hs4
  have HX4 := Lib.hid (HX.out.below hb4 (by omega))
  have HY4 := Lib.hid (HY.out.below hb4 (by omega))
  have HK4 := Lib.hid (HB3.out.trans (hb4.mono (Nat.le_add_right _ 2)))
  have HJ4 := Lib.hid (HGB.out _ _ _ HJ.out HK4.out)
  have HF4 := Lib.hid (show Front w4 (w.heap.size + 2) S xs from ⟨splice Z 0 cs0, hg.out, (by rw [length_splice _ _ _ (by omega)]; exact hzl), by
    unfold splice
    rw [HN0.out, HC0.out, List.take_zero, List.nil_append, List.take_append_of_le_length (by omega), List.take_of_length_le (by omega)]⟩)
  have HS4 := Lib.hid hs4
  clear hg hb4 x0 x3 hlt hs2 hs4
  go_wp2
  go_loopw [8, 9, 24] (FillRel c S lo hi xs l (.slice a0 n0 p0) J w m) (fun _ _ i _ => m - (intOf i).toNat)
  case atStart =>
    exact ⟨0, xs, [], 0, Nat.zero_le _, rfl, by rw [HN0.out], rfl, Nat.le_refl _, Nat.le_refl _, by rw [HN0.out]; exact hx, rfl, HF4.out, HJ4.out, Kept.of HK4.out, HX4.out, HY4.out, HS4.out⟩
  case round =>
    obtain ⟨q, zs, M, k', hq, rfl, rfl, rfl, hkq, hMq, hzs, hfd, hfr, hj, hkp, hxx, hyy, hsz⟩ := hrel
    have HFD := Lib.hid hfd
    have HFR := Lib.hid hfr
    have HJ := Lib.hid hj
    have HKP := Lib.hid hkp
    have HXX := Lib.hid hxx
    have HYY := Lib.hid hyy
    clear hfd hfr hj hkp hxx hyy HX4 HY4 HK4 HJ4 HF4 HS4
    have x0 : wr.cell? ⟨w.heap.size, 0, none⟩ = some (.int .i64 (S : Int)) := HXX.out.cell 0
    have x1 : wr.cell? ⟨w.heap.size, 1, none⟩ = some (.int .i64 lo) := HXX.out.cell 1
    have x2 : wr.cell? ⟨w.heap.size, 2, none⟩ = some (.int .i64 hi) := HXX.out.cell 2
    have x3 : wr.cell? ⟨w.heap.size, 3, none⟩ = some (.slice a0 n0 p0) := HXX.out.cell 3
    by_cases hl : q < m
    · have hrd := HRL.out wr HKP.out
      obtain ⟨ao', cp', e0, -, -, hcl'⟩ := hrd
      injection e0 with e1 e2 e3
      subst e1 e3
      obtain ⟨b, o, rfl, hlt, hd⟩ := hcl' q (by rw [HLM.out]; exact hl)
      obtain ⟨x, hxq⟩ : ∃ x, l.getD q 0 = x := ⟨_, rfl⟩
      rw [hxq] at hd
      have HXQ := Lib.hid hxq
      have hqm : (q : Int) < (m : Int) := by omega
      have ht := takes_any (S : Int) lo hi x a0 n0 p0 wr
      clear hcl' hxq e2
      by_cases hf : lo ≤ x ∧ x ≤ hi
      · rw [decide_eq_true hf] at ht
        have HL := Lib.hid hf
        clear hf
        obtain ⟨n, hn⟩ : ∃ n, zs.length = n := ⟨_, rfl⟩
        have HZN := Lib.hid hn
        rw [hn] at hzs ⊢
        clear hn
        go_wp2_with fail
        refine ht.mono ?_
        rintro e w5 ⟨rfl, k5⟩
        have hs5 := k5.size
        obtain ⟨cs, hcs, hcl5, hct5⟩ := HFR.out.of (k5.block _ HFR.out.lt)
        have hh6 := hcs.alloc (.cells #[.int .i64 x] 3)
        have hz6 : (w5.alloc (.cells #[.int .i64 x] 3)).cell? ⟨w5.heap.size, 0, none⟩ = some (.int .i64 x) := (Has.new w5 [.int .i64 x] 3).cell 0
        have k6 := k5.alloc hs5 (.cells #[.int .i64 x] 3)
        have HJ6 := Lib.hid (HGB.out _ _ _ HJ.out k6)
        have HK6 := Lib.hid (HKP.out.below k6 (by omega))
        have HX6 := Lib.hid (HXX.out.call k6)
        have HY6 := Lib.hid (HYY.out.call k6)
        have HH6 := Lib.hid hh6
        have HZ6 := Lib.hid hz6
        have HT5 := Lib.hid hct5
        have HS6 := Lib.hid (show wr.heap.size ≤ (w5.alloc (.cells #[.int .i64 x] 3)).heap.size from k6.size)
        clear ht k5 k6 x0 x1 x2 x3 hd hcs hh6 hz6 hct5
        go_wp2_with (at_builtin; refine wpList_append_in rfl (.tmp 34) (.tmp 36) 22 rfl 3 i0 Try.underlying22 hi0 hi1 (w.heap.size + 2) n S cs rfl HH6.out hzs hcl5 ⟨w5.heap.size, 0, none⟩ 1 (.int .i64 x) rfl HZ6.out rfl ?_)
        intro w7 h7 o7
        have hs7 := o7.size
        have hs6 := HS6.out
        have HJ7 := Lib.hid (HGO.out _ _ _ (w.heap.size + 2) (by omega) (by omega) HJ6.out o7)
        have HK7 := Lib.hid (HK6.out.only o7 (by omega))
        have HX7 := Lib.hid (o7.has (by omega) HX6.out)
        have HY7 := Lib.hid (o7.has (by omega) HY6.out)
        have HH7 := Lib.hid h7
        have HTS := Lib.hid (show (cs.set n (.int .i64 x)).take (n + 1) = intsV (zs ++ [x]) by
          have := take_set cs zs x (by rw [HZN.out, hcl5]; exact hzs) (by rw [HZN.out]; have := HT5.out; rw [HZN.out] at this; exact this)
          rw [HZN.out] at this
          exact this)
        have x0 : w7.cell? ⟨w.heap.size, 0, none⟩ = some (.int .i64 (S : Int)) := HX7.out.cell 0
        have HSZ := Lib.hid (show w.heap.size + 3 ≤ w7.heap.size by omega)
        clear h7 o7 hs5 hs6 hs7
        obtain ⟨row, hrow⟩ : ∃ row, zs ++ [x] = row := ⟨_, rfl⟩
        have HROW := Lib.hid hrow
        have hrl : row.length = n + 1 := by rw [← hrow, List.length_append, HZN.out]; rfl
        by_cases hfull : n + 1 = S
        · have q1 : ((n : Int) + 1 == (S : Int)) = true := by rw [beq_iff_eq]; omega
          have hsl0 : ∀ W, (Instr.slice 22 (.slice (some ⟨w.heap.size + 2, 0, none⟩) (n + 1) S) none (some (.int .i64 0)) none).run Try.prog W = .ok (.slice (some ⟨w.heap.size + 2, 0, none⟩) 0 S) W := slice_hi _ (n + 1) S 0 (Nat.zero_le _)
          have hct := cut_any row (.slice (some ⟨w.heap.size + 2, 0, none⟩) (n + 1) S) w7 (HH7.out.readsI (by rw [List.length_set]; exact hcl5) hrl (by omega) (by omega) (by rw [HTS.out, hrow])) (by omega)
          have HE := Lib.hid (feed_full (by rw [HLM.out]; exact hl) HXQ.out HFD.out HL.out (by rw [HZN.out]; omega))
          rw [hrow] at HE
          have HRL1 := Lib.hid hrl
          rw [hrl] at hct
          have HFU := Lib.hid hfull
          clear hrow hrl hfull
          go_wp2_with fail
          refine hct.mono ?_
          rintro e w8 ⟨rfl, h8, k8⟩
          have hs8 := k8.size
          have hsz7 := HSZ.out
          have hgr := HGR.out w8 M row w7.heap.size (by omega) (by omega) (by rw [HRL1.out]; have := HFU.out; omega) (by omega) h8 (HGB.out _ _ _ HJ7.out k8)
          rw [HRL1.out] at hgr
          have HX8 := Lib.hid (HX7.out.call k8)
          have HY8 := Lib.hid (HY7.out.call k8)
          have HH8 := Lib.hid (HH7.out.call k8)
          have HK8 := Lib.hid (HK7.out.below k8 (by omega))
          clear hct h8 k8 x0
          go_wp2_with fail
          refine hgr.mono ?_
          rintro e w9 ⟨⟨v9, rfl⟩, j9, kp9⟩
          have hs9 := kp9.size
          have HR := Lib.hid (show FillRel c S lo hi xs l (.slice a0 n0 p0) J w m (.slice (some ⟨w.heap.size + 2, 0, none⟩) 0 S) (.int .i64 (k' : Nat)) (.int .i64 ((q : Int) + 1)) w9 from
            ⟨q + 1, [], M ++ [row], k', by omega, by go_num, rfl, rfl, by omega, by rw [List.length_append]; show M.length + 1 ≤ _; omega, by show 0 < S; omega, HE.out,
              ⟨_, kp9.has HH8.out (by omega) (by omega), by rw [List.length_set]; exact hcl5, rfl⟩, j9, HK8.out.trans (kp9.mono (by omega)), kp9.has HX8.out (by omega) (by omega), kp9.has HY8.out (by omega) (by omega), by omega⟩)
          clear hgr j9 kp9
          go_wp2
          go_roundw
          case rel => exact HR.out
          case measure => simp [intOf]; omega
        · have q1 : ((n : Int) + 1 == (S : Int)) = false := beq_false_of_ne (by omega)
          have HE := Lib.hid (feed_yes (by rw [HLM.out]; exact hl) HXQ.out HFD.out HL.out (by rw [HZN.out]; omega))
          rw [hrow] at HE
          have HR := Lib.hid (show FillRel c S lo hi xs l (.slice a0 n0 p0) J w m (.slice (some ⟨w.heap.size + 2, 0, none⟩) (n + 1) S) (.int .i64 (k' : Nat)) (.int .i64 ((q : Int) + 1)) w7 from
            ⟨q + 1, row, M, k', by omega, by go_num, by rw [hrl], rfl, by omega, by omega, by omega, HE.out,
              ⟨_, HH7.out, by rw [List.length_set]; exact hcl5, by rw [hrl, HTS.out, hrow]⟩, HJ7.out, HK7.out, HX7.out, HY7.out, HSZ.out⟩)
          clear hrow hrl
          go_wp2
          go_roundw
          case rel => exact HR.out
          case measure => simp [intOf]; omega
      · rw [decide_eq_false hf] at ht
        have HE := Lib.hid (feed_not (by rw [HLM.out]; exact hl) HXQ.out HFD.out hf)
        clear hf
        go_wp2_with fail
        refine ht.mono ?_
        rintro e w5 ⟨rfl, k5⟩
        have HR := Lib.hid (show FillRel c S lo hi xs l (.slice a0 n0 p0) J w m (.slice (some ⟨w.heap.size + 2, 0, none⟩) zs.length S) (.int .i64 ((k' : Int) + 1)) (.int .i64 ((q : Int) + 1)) w5 from
          ⟨q + 1, zs, M, k' + 1, by omega, by go_num, rfl, by go_num, by omega, by omega, hzs, HE.out, HFR.out.of (k5.block _ HFR.out.lt), HGB.out _ _ _ HJ.out k5, HKP.out.below k5 (by omega), HXX.out.call k5, HYY.out.call k5, by have := k5.size; omega⟩)
        clear ht k5 x0 x1 x2 x3 hd
        go_wp2
        go_roundw
        case rel => exact HR.out
        case measure => simp [intOf]; omega
    · obtain rfl : q = m := by omega
      have hfd := HFD.out
      rw [List.take_of_length_le (by rw [HLM.out]; exact Nat.le_refl _), HRES.out] at hfd
      injection hfd with e1 e2
      injection e1 with _ _ _ e1
      injection e2 with e2 e3
      subst e1 e2 e3
      have f3 : wr.frozen? ⟨w.heap.size, 3, none⟩ = false := HXX.out.frozen 3
      have y0 : wr.cell? ⟨w.heap.size + 1, 0, none⟩ = some (.int .i64 0) := HYY.out.cell 0
      have y1 : wr.cell? ⟨w.heap.size + 1, 1, none⟩ = some (.int .i64 0) := HYY.out.cell 1
      have y2 : wr.cell? ⟨w.heap.size + 1, 2, none⟩ = some (.int .i64 0) := HYY.out.cell 2
      have y3 : wr.cell? ⟨w.heap.size + 1, 3, none⟩ = some (.slice none 0 0) := HYY.out.cell 3
      have g0 : wr.frozen? ⟨w.heap.size + 1, 0, none⟩ = false := HYY.out.frozen 0
      have g1 : wr.frozen? ⟨w.heap.size + 1, 1, none⟩ = false := HYY.out.frozen 1
      have g2 : wr.frozen? ⟨w.heap.size + 1, 2, none⟩ = false := HYY.out.frozen 2
      have g3 : wr.frozen? ⟨w.heap.size + 1, 3, none⟩ = false := HYY.out.frozen 3
      have HZ := Lib.hid (show Has (((((wr.setCell ⟨w.heap.size, 3, none⟩ (.slice (some ⟨w.heap.size + 2, 0, none⟩) ys.length S)).setCell ⟨w.heap.size + 1, 0, none⟩ (.int .i64 (S : Int))).setCell ⟨w.heap.size + 1, 1, none⟩ (.int .i64 lo)).setCell ⟨w.heap.size + 1, 2, none⟩ (.int .i64 hi)).setCell ⟨w.heap.size + 1, 3, none⟩ (.slice (some ⟨w.heap.size + 2, 0, none⟩) ys.length S)) (w.heap.size + 1) [.int .i64 (S : Int), .int .i64 lo, .int .i64 hi, .slice (some ⟨w.heap.size + 2, 0, none⟩) ys.length S] 24 from
        ((((HYY.out.other (p := ⟨w.heap.size, 3, none⟩) (by dsimp only; omega) _).set 0 _).set 1 _).set 2 _).set 3 _)
      have HFR5 := Lib.hid (show Front (((((wr.setCell ⟨w.heap.size, 3, none⟩ (.slice (some ⟨w.heap.size + 2, 0, none⟩) ys.length S)).setCell ⟨w.heap.size + 1, 0, none⟩ (.int .i64 (S : Int))).setCell ⟨w.heap.size + 1, 1, none⟩ (.int .i64 lo)).setCell ⟨w.heap.size + 1, 2, none⟩ (.int .i64 hi)).setCell ⟨w.heap.size + 1, 3, none⟩ (.slice (some ⟨w.heap.size + 2, 0, none⟩) ys.length S)) (w.heap.size + 2) S ys from
        ((((HFR.out.of ((only_setCell _ _ _ _).block _ (by omega))).of ((only_setCell _ _ _ _).block _ (by omega))).of ((only_setCell _ _ _ _).block _ (by omega))).of ((only_setCell _ _ _ _).block _ (by omega))).of ((only_setCell _ _ _ _).block _ (by omega)))
      have HJ5 := Lib.hid (show J (((((wr.setCell ⟨w.heap.size, 3, none⟩ (.slice (some ⟨w.heap.size + 2, 0, none⟩) ys.length S)).setCell ⟨w.heap.size + 1, 0, none⟩ (.int .i64 (S : Int))).setCell ⟨w.heap.size + 1, 1, none⟩ (.int .i64 lo)).setCell ⟨w.heap.size + 1, 2, none⟩ (.int .i64 hi)).setCell ⟨w.heap.size + 1, 3, none⟩ (.slice (some ⟨w.heap.size + 2, 0, none⟩) ys.length S)) L from
        HGO.out _ _ _ (w.heap.size + 1) (by omega) (by omega) (HGO.out _ _ _ (w.heap.size + 1) (by omega) (by omega) (HGO.out _ _ _ (w.heap.size + 1) (by omega) (by omega) (HGO.out _ _ _ (w.heap.size + 1) (by omega) (by omega) (HGO.out _ _ _ w.heap.size (by omega) (by omega) HJ.out (only_setCell _ _ _ _)) (only_setCell _ _ _ _)) (only_setCell _ _ _ _)) (only_setCell _ _ _ _)) (only_setCell _ _ _ _))
      have HK5 := Lib.hid (show Kept c w.heap.size w (((((wr.setCell ⟨w.heap.size, 3, none⟩ (.slice (some ⟨w.heap.size + 2, 0, none⟩) ys.length S)).setCell ⟨w.heap.size + 1, 0, none⟩ (.int .i64 (S : Int))).setCell ⟨w.heap.size + 1, 1, none⟩ (.int .i64 lo)).setCell ⟨w.heap.size + 1, 2, none⟩ (.int .i64 hi)).setCell ⟨w.heap.size + 1, 3, none⟩ (.slice (some ⟨w.heap.size + 2, 0, none⟩) ys.length S)) from
        ((((HKP.out.setCell (p := ⟨w.heap.size, 3, none⟩) (Nat.le_refl _) _).setCell (p := ⟨w.heap.size + 1, 0, none⟩) (Nat.le_add_right _ 1) _).setCell (p := ⟨w.heap.size + 1, 1, none⟩) (Nat.le_add_right _ 1) _).setCell (p := ⟨w.heap.size + 1, 2, none⟩) (Nat.le_add_right _ 1) _).setCell (p := ⟨w.heap.size + 1, 3, none⟩) (Nat.le_add_right _ 1) _)
      go_wp2
      (try simp only [Exit.inBlock, Exit.then])
      exact bodyPost_ret (res_cell1 Try.results23 rfl (load4 HZ.out)) rfl ⟨rfl, HFR5.out, HJ5.out, HK5.out⟩
end Go.Proofs.Ytnpgofkdfckioaa
