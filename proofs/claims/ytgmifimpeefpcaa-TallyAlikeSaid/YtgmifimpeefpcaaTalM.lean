/- The laws of stage 16: a tally is made of any numbers. -/
import Derived.Test.YtgmifimpeefpcaaTalE
import Derived.Test.YtgmifimpeefpcaaApI
import Derived.Test.YtgmifimpeefpcaaAllR
import Derived.Test.YtgmifimpeefpcaaRegApp
import Derived.Lib.MinMax
namespace Go.Proofs.Ytgmifimpeefpcaa
open Go.RowKit

def talL (t : Tal) : List Value := [.int .i64 t.kind, .int .i64 t.size, .int .i64 t.m, .int .i64 t.sum]
theorem run_append_int {w : World} (B : Nat) (rv : Value) (l : List Int) (ty : TypeId) (hown : IRow B rv l w) (x : Int) (b : Nat) (hb : Has w b [.int .i64 x] 3) (hl : l.length ≤ 100000) (hB : B ≤ w.heap.size) :
    ∃ v' w', (Builtin.append_ #[42, 42] ty #[rv, .slice (some ⟨b, 0, none⟩) 1 1]).run Try.prog w = .ok v' w' ∧ IRow B v' (l ++ [x]) w' ∧ w.grownBy w' rv.ownBlock := by
  obtain ⟨i0, hi, hz0, hz1, hz2⟩ := info_parts infoInt
  have h0 : w.ownsRow B 3 1 rv l.length (l.map (Value.int .i64)) := hown
  obtain ⟨v', w', hr, h3, h4, _⟩ := run_append_own (P := Try.prog) w B 42 ty 3 i0 (.int .i64 0) 1 8 Try.underlying42 hi hz0 hz1 hz2 rfl (by decide) rv l.length _ h0 ⟨b, 0, none⟩ 1 1 [.int .i64 x] rfl (by
    intro j q hj
    cases j with
    | zero => cases hj; exact hb.cell 0
    | succ j => cases hj) (fun q hq => by rw [List.mem_singleton.1 hq]; rfl) (by unfold maxLen; omega) (by omega) hB
  exact ⟨v', w', hr, IRow.snoc h3, h4⟩
theorem IRow.put4B {B b : Nat} {v : Value} {l : List Int} {w : World} (h : IRow B v l w) (hb : b < B) (c0 c1 c2 c3 : Value) : IRow B v l ((((w.setCell ⟨b, 0, none⟩ c0).setCell ⟨b, 1, none⟩ c1).setCell ⟨b, 2, none⟩ c2).setCell ⟨b, 3, none⟩ c3) :=
  h.frame fun k hk _ => by
    rw [Below.heap_setCell _ _ _ _ (by dsimp only; omega), Below.heap_setCell _ _ _ _ (by dsimp only; omega), Below.heap_setCell _ _ _ _ (by dsimp only; omega), Below.heap_setCell _ _ _ _ (by dsimp only; omega)]
/-- What is made: the counts are the first 25 numbers, within. -/
def cntsN (M : Int) (l : List Int) : List Int := (l.take 25).map (clampT M)
theorem cntsN_ok {M : Int} (h : 0 ≤ M) (l : List Int) : cntsOk M (cntsN M l) ∧ (cntsN M l).length ≤ 25 := by
  refine ⟨fun c hc => ?_, by unfold cntsN; rw [List.length_map, List.length_take]; omega⟩
  obtain ⟨d, _, rfl⟩ := List.mem_map.1 hc
  exact clampT_in h d
def MadePost (K N M : Int) (l : List Int) (w : World) (e : Ending) (w' : World) : Prop := ∃ v', e = .returned (.tuple #[talV (madeT K N (cntsN M l)), v', .bool true]) ∧ ReadsI w' v' (cntsN M l) ∧ Below w.heap.size w w'
def MadeRel (K N : Int) (cs : List Int) (w : World) (hb : Nat) (cv iv : Value) (wr : World) : Prop :=
  ∃ j : Nat, j ≤ cs.length ∧ iv = .int .i64 (j : Nat) ∧ Hid (IRow (hb + 1) cv (cs.take j) wr) ∧ Hid (Has wr hb (talL (madeT K N (cs.take j))) 23) ∧ Hid (Has wr w.heap.size [.int .i64 0, .int .i64 0, .int .i64 0, .int .i64 0] 23) ∧ Hid (Below w.heap.size w wr) ∧ hb < wr.heap.size
set_option linter.unusedSimpArgs false in
set_option linter.unusedVariables false in
set_option maxHeartbeats 8000000 in
set_option maxRecDepth 100000 in
theorem made16_0 (kind size K S : Int) (l : List Int) (ao : Option Addr) (n cap : Nat) (w : World) (H : TalCode) (hk1 : wrap64 (kind.tmod 4 + 4) = kind.tmod 4 + 4) (hk2 : wrap64 (2 + (kind.tmod 4 + 4).tmod 4) = K) (hn1 : wrap64 (size.tmod 1000 + 1000) = size.tmod 1000 + 1000) (hn2 : wrap64 (1 + (size.tmod 1000 + 1000).tmod 1000) = S) (g1 : (K == 4) = true) (g2 : ¬ K ≤ 3) (hP : sizesP K 1) (hM : mostT ⟨K, 1, 0, 0⟩ = 1000000) (hln : l.length = n) (hr : ReadsI w (.slice ao n cap) l) :
    Calls Try.prog 17 #[.int .i64 kind, .int .i64 size, .slice ao n cap] w (MadePost K 1 1000000 l w) := by
  have hKN : IsInt K ∧ IsInt 1 := by unfold IsInt; have := hP; unfold sizesP at this; omega
  have hnew := fun W => H.new K 1 hKN.1 hKN.2 W
  rw [show tnewA K 1 = ⟨K, 1, 0, 0⟩ from if_pos (decide_eq_true hP), show tnewE K 1 = 0 from if_pos (decide_eq_true hP)] at hnew
  have hMb := most_bounds (t := ⟨K, 1, 0, 0⟩) hP
  rw [hM] at hMb
  obtain ⟨k, hk⟩ : ∃ k, min n 25 = k := ⟨_, rfl⟩
  have hk25 : k ≤ 25 := by omega
  have hcapn : n ≤ cap := by obtain ⟨_, _, e, h2, _⟩ := hr; injection e with _ e2 e3; omega
  have hsl := fun W => slice_hi ao n cap k (by omega) W
  have hmn : min (n : Int) 25 = (k : Nat) := by omega
  have hrf := hr.few 25 k hk.symm
  have hcl := cntsN_ok (M := 1000000) (by omega) l
  obtain ⟨cs, hcs⟩ : ∃ cs, cntsN 1000000 l = cs := ⟨_, rfl⟩
  have hck : cs.length = k := by rw [← hcs]; unfold cntsN; rw [List.length_map, List.length_take, hln]; omega
  have hat : ∀ j u, (l.take 25)[j]? = some u → cs[j]? = some (clampT 1000000 u) := fun j u hu => by rw [← hcs]; unfold cntsN; rw [List.getElem?_map, hu]; rfl
  have hsome : ∀ j, j < k → ∃ u, (l.take 25)[j]? = some u := fun j hj => ⟨_, List.getElem?_eq_getElem (by rw [List.length_take, hln]; omega)⟩
  unfold MadePost
  rw [hcs] at hcl ⊢
  have hnx : ∀ j c, j < k → cs[j]? = some c → talI (madeT K 1 (cs.take j)) ∧ IsInt c ∧ ttakA (madeT K 1 (cs.take j)) c = madeT K 1 (cs.take (j + 1)) ∧ ttakE (madeT K 1 (cs.take j)) c = 0 := fun j c hj hc => by
    have hb := hcl.1 c (List.mem_of_getElem? hc)
    obtain ⟨h1, h2, h3⟩ := made16_next hP (cs := cs.take j) (c := c) (fun x hx => by rw [hM]; exact hcl.1 x (List.mem_of_mem_take hx)) (by rw [List.length_take]; omega) (by rw [hM]; exact hb)
    refine ⟨h1, by unfold IsInt; omega, ?_, h3⟩
    rw [h2, List.take_add_one, hc]
    rfl
  obtain ⟨F, hF⟩ : ∃ F, madeT K 1 cs = F := ⟨_, rfl⟩
  rw [hF]
  have HF := Lib.hid hF
  obtain ⟨f1, f2, f3, f4⟩ := F
  have HNEW := Lib.hid hnew; have HRF := Lib.hid hrf; have HAT := Lib.hid hat; have HSOME := Lib.hid hsome; have HNX := Lib.hid hnx; have HCK := Lib.hid hck
  have HTK := Lib.hid (fun (t : Tal) (ht : talI t) (d : Int) (hd : IsInt d) (W : World) => H.take t ht d hd W)
  obtain ⟨w1, hw1⟩ : ∃ w1, w.alloc (.cells #[.int .i64 0, .int .i64 0, .int .i64 0, .int .i64 0] 23) = w1 := ⟨_, rfl⟩
  have HX1 := Lib.hid (show Has w1 w.heap.size [.int .i64 0, .int .i64 0, .int .i64 0, .int .i64 0] 23 by rw [← hw1]; exact Has.new w _ _)
  have HB1 := Lib.hid (show Below w.heap.size w w1 by rw [← hw1]; exact (Below.refl _ _).alloc (Nat.le_refl _) _)
  have HW1 := Lib.hid hw1
  have HK2 := Lib.hid hk2; have HN2 := Lib.hid hn2
  clear hnew hrf hcl hat hsome hnx hck hw1 H hP hM hKN hMb hr hk hcapn hln hcs hk2 hn2 hF
  go_enter Try.func17, Try.ntmps17
  go_upto_region 1 with fail
  rw [HW1.out]
  go_upto_region 2 with fail
  rw [HK2.out, HN2.out]
  clear hk1 hn1
  go_wp2_with fail
  refine (HNEW.out w1).mono ?_
  rintro e w2 ⟨rfl, k2⟩
  have HX2 := Lib.hid (HX1.out.call k2)
  have HB2 := Lib.hid (HB1.out.trans (k2.mono HB1.out.size))
  obtain ⟨w3, hw3⟩ : ∃ w3, w2.alloc (.cells #[.int .i64 K, .int .i64 1, .int .i64 0, .int .i64 0] 23) = w3 := ⟨_, rfl⟩
  obtain ⟨hb, hhb⟩ : ∃ b, w2.heap.size = b := ⟨_, rfl⟩
  have k3 : Below w2.heap.size w2 w3 := by rw [← hw3]; exact (Below.refl _ _).alloc (Nat.le_refl _) _
  have hT3 : Has w3 hb (talL (madeT K 1 (cs.take 0))) 23 := by rw [← hw3, ← hhb]; exact Has.new w2 _ _
  have HS := Lib.hid (show MadeRel K 1 cs w hb (.slice none 0 0) (.int .i64 0) w3 from ⟨0, Nat.zero_le _, rfl, Lib.hid (IRow.nil _ _), Lib.hid hT3, Lib.hid (HX2.out.call k3), Lib.hid (HB2.out.trans (k3.mono HB2.out.size)), hT3.lt⟩)
  have HLB := Lib.hid (show w.heap.size < hb by rw [← hhb]; exact HX2.out.lt)
  have HW3 := Lib.hid hw3; have HHB := Lib.hid hhb
  clear k2 k3 hw3 hhb hT3
  go_upto_region 5 with fail
  rw [HW3.out]
  (try rw [HHB.out])
  go_wp2
  clear hsl hmn
  go_loopw [12, 47] (MadeRel K 1 cs w hb) (fun _ y _ => k - (intOf y).toNat)
  case atStart => exact HS.out
  case round =>
    obtain ⟨j, hj, rfl, HI, HT, HX, HB, hbl⟩ := hrel
    rw [HCK.out] at hj
    clear HS
    by_cases hlt : j < k
    · obtain ⟨u, hu⟩ := HSOME.out j hlt
      have hcj := HAT.out j u hu
      obtain ⟨br, off, hao, hbr, hc⟩ := (HRF.out.below HB.out).spot hu
      have hcv : min (max u 0) 1000000 = clampT 1000000 u := rfl
      obtain ⟨c, hcc⟩ : ∃ c, clampT 1000000 u = c := ⟨_, rfl⟩
      rw [hcc] at hcv hcj
      obtain ⟨n1, n2, n3, n4⟩ := HNX.out j c hlt hcj
      have htk := HTK.out _ n1 c n2 wr
      rw [n3, n4] at htk
      have HCJ := Lib.hid hcj
      obtain ⟨T, hT⟩ : ∃ T, madeT K 1 (cs.take j) = T := ⟨_, rfl⟩
      obtain ⟨T', hT'⟩ : ∃ T, madeT K 1 (cs.take (j + 1)) = T := ⟨_, rfl⟩
      rw [hT] at HT htk
      rw [hT'] at htk
      have HT' := Lib.hid hT'
      obtain ⟨a1, a2, a3, a4⟩ := T
      obtain ⟨b1, b2, b3, b4⟩ := T'
      have HTC := Lib.hid htk
      obtain ⟨aoI, capI, hiv⟩ := HI.out.reads.shape
      have hjz : (j : Int) < (k : Int) := by omega
      have hjx : 0 ≤ (j : Int) ∧ (j : Int) < (k : Int) := by omega
      have hle : ((cs.take j).length : Nat) ≤ 100000 := by rw [List.length_take, HCK.out]; omega
      have HLE := Lib.hid hle; have HLT := Lib.hid hlt
      obtain ⟨li, hli⟩ : ∃ k, (cs.take j).length = k := ⟨_, rfl⟩
      rw [hli] at hiv
      subst hao hiv
      have c0 := HT.out.cell 0; have c1 := HT.out.cell 1; have c2 := HT.out.cell 2; have c3 := HT.out.cell 3
      simp only [talL, List.getElem?_cons_zero, List.getElem?_cons_succ] at c0 c1 c2 c3
      clear hj hu hcj n1 n2 n3 n4 htk hT hT' hle hcc hli hlt
      go_wp2_with fail
      refine HTC.out.mono ?_
      rintro e w5 ⟨rfl, k5⟩
      have HI5 := Lib.hid (HI.out.below k5); have HT5 := Lib.hid (HT.out.call k5); have HX5 := Lib.hid (HX.out.call k5); have HB5 := Lib.hid (HB.out.trans (k5.mono HB.out.size))
      obtain ⟨w6, hw6⟩ : ∃ w6, w5.alloc (.cells #[.int .i64 b1, .int .i64 b2, .int .i64 b3, .int .i64 b4] 23) = w6 := ⟨_, rfl⟩
      obtain ⟨b6, hb6⟩ : ∃ b, w5.heap.size = b := ⟨_, rfl⟩
      have k6 : Below w5.heap.size w5 w6 := by rw [← hw6]; exact (Below.refl _ _).alloc (Nat.le_refl _) _
      have HN6 := Lib.hid (show Has w6 b6 [.int .i64 b1, .int .i64 b2, .int .i64 b3, .int .i64 b4] 23 by rw [← hw6, ← hb6]; exact Has.new w5 _ _)
      have HI6 := Lib.hid (HI5.out.below k6); have HT6 := Lib.hid (HT5.out.call k6); have HX6 := Lib.hid (HX5.out.call k6); have HB6 := Lib.hid (HB5.out.trans (k6.mono HB5.out.size))
      have HW6 := Lib.hid hw6; have HB6E := Lib.hid hb6
      have HGE := Lib.hid (show hb < b6 by rw [← hb6]; exact HT5.out.lt)
      have HNE := Lib.hid (show (Value.slice aoI li capI).ownBlock ≠ some b6 from fun e => by have := (HI5.out.lt' _ e).2; omega)
      clear k5 k6 hw6 hb6 hc hbr hbl c0 c1 c2 c3
      go_upto_region 18 with fail
      rw [HW6.out]
      (try rw [HB6E.out])
      -- the append's box and what it leaves
      obtain ⟨w7, hw7⟩ : ∃ w7, w6.drew.alloc (.cells #[.int .i64 c] 3) = w7 := ⟨_, rfl⟩
      have k7 : Below w6.heap.size w6 w7 := by rw [← hw7]; exact (Below.refl _ _).drew.alloc (Nat.le_refl _) _
      have hO7 : Has w7 w6.heap.size [.int .i64 c] 3 := by rw [← hw7]; exact Has.new w6.drew _ _
      have hI7 := HI6.out.below k7; have hN7 := HN6.out.call k7; have hT7 := HT6.out.call k7; have hX7 := HX6.out.call k7; have hB7 := HB6.out.trans (k7.mono HB6.out.size)
      obtain ⟨v', w8, q1, q2, q3⟩ := run_append_int (w := w7) (hb + 1) _ _ 42 hI7 c _ hO7 HLE.out (by have := hT7.lt; omega)
      have hN8 := hN7.grown q3 HNE.out
      have hT8 := hT7.grown q3 (hI7.ne (Nat.lt_succ_self _))
      have hX8 := hX7.grown q3 (hI7.ne (Nat.lt_of_lt_of_le HLB.out (Nat.le_succ _)))
      have hB8 := hB7.grown q3 (by have := hX7.lt; omega) (fun i hi => by have := (hI7.lt' i hi).1; have := HLB.out; omega)
      subst hw7
      have HRUN := Lib.hid q1; have HN8 := Lib.hid hN8; have HT8 := Lib.hid hT8; have HN7 := Lib.hid hN7
      have hnb : b6 ≠ hb := by have := HGE.out; omega
      have HN9 := Lib.hid ((((HN8.out.other (p := ⟨hb, 0, none⟩) (by dsimp only; omega) (.int .i64 b1)).other (p := ⟨hb, 1, none⟩) (by dsimp only; omega) (.int .i64 b2)).other (p := ⟨hb, 2, none⟩) (by dsimp only; omega) (.int .i64 b3)).other (p := ⟨hb, 3, none⟩) (by dsimp only; omega) (.int .i64 b4))
      have HQ := Lib.hid (show MadeRel K 1 cs w hb v' (.int .i64 ((j : Int) + 1)) ((((w8.setCell ⟨hb, 0, none⟩ (.int .i64 b1)).setCell ⟨hb, 1, none⟩ (.int .i64 b2)).setCell ⟨hb, 2, none⟩ (.int .i64 b3)).setCell ⟨hb, 3, none⟩ (.int .i64 b4)) from ⟨j + 1, by have := HCK.out; have := HLT.out; omega, by first | rfl | go_num, Lib.hid (by
        rw [show cs.take (j + 1) = cs.take j ++ [c] by rw [List.take_add_one, HCJ.out]; rfl]
        exact q2.put4B (Nat.lt_succ_self _) _ _ _ _), Lib.hid (by rw [HT'.out]; exact HT8.out.put4B _ _ _ _), Lib.hid ((((hX8.other (p := ⟨hb, 0, none⟩) (by have := HLB.out; dsimp only; omega) (.int .i64 b1)).other (p := ⟨hb, 1, none⟩) (by have := HLB.out; dsimp only; omega) (.int .i64 b2)).other (p := ⟨hb, 2, none⟩) (by have := HLB.out; dsimp only; omega) (.int .i64 b3)).other (p := ⟨hb, 3, none⟩) (by have := HLB.out; dsimp only; omega) (.int .i64 b4)), Lib.hid (Below.put4B hB8 (Nat.le_of_lt HLB.out) _ _ _ _), by have := HT8.out.lt; simp only [World.size_setCell]; exact this⟩)
      clear k7 hO7 hI7 hT7 hX7 hB7 q1 q2 q3 hX8 hB8 hnb
      have c0 := HN6.out.cell 0; have c1 := HN6.out.cell 1; have c2 := HN6.out.cell 2; have c3 := HN6.out.cell 3
      simp only [List.getElem?_cons_zero, List.getElem?_cons_succ] at c0 c1 c2 c3
      refine wp_region_held_drew (S := (fun W' => W'.cell? ⟨b6, 0, none⟩ = some (.int .i64 b1) ∧ W'.cell? ⟨b6, 1, none⟩ = some (.int .i64 b2) ∧ W'.cell? ⟨b6, 2, none⟩ = some (.int .i64 b3) ∧ W'.cell? ⟨b6, 3, none⟩ = some (.int .i64 b4))) (by kernel_rfl) ⟨c0, c1, c2, c3⟩ (fun hHeld => ?_)
      clear c0 c1 c2 c3
      refine regTake 0 (some 64) (v := ?_) rfl rfl (by kernel_rfl) (by kernel_rfl) (by kernel_rfl) (fun _ _ _ h => h) (by rfl) hHeld ?_ ?_
      rotate_left 1
      · (intro w hSw; (try dsimp only at hSw); go_simp; try with_reducible rfl)
      simp only [Act.put, List.setIfInBounds_toArray, List.set_cons_zero, List.set_cons_succ]
      refine regTake 1 (some 65) (v := ?_) rfl rfl (by kernel_rfl) (by kernel_rfl) (by kernel_rfl) (fun _ _ _ h => h) (by rfl) hHeld ?_ ?_
      rotate_left 1
      · (intro w hSw; (try dsimp only at hSw); go_simp; try with_reducible rfl)
      simp only [Act.put, List.setIfInBounds_toArray, List.set_cons_zero, List.set_cons_succ]
      refine regTake 2 (some 66) (v := ?_) rfl rfl (by kernel_rfl) (by kernel_rfl) (by kernel_rfl) (fun _ _ _ h => h) (by rfl) hHeld ?_ ?_
      rotate_left 1
      · (intro w hSw; (try dsimp only at hSw); go_simp; try with_reducible rfl)
      simp only [Act.put, List.setIfInBounds_toArray, List.set_cons_zero, List.set_cons_succ]
      refine regDo 3 (some 67) (v := ?_) (w' := ?_) rfl rfl (by kernel_rfl) (by rfl) ?_ ?_ (fun hHeld => ?_)
      rotate_left 2
      · (go_simp; refine ⟨?_, ?_⟩ <;> with_reducible rfl)
      · exact ⟨HN7.out.cell 0, HN7.out.cell 1, HN7.out.cell 2, HN7.out.cell 3⟩
      simp only [Act.put, List.setIfInBounds_toArray, List.set_cons_zero, List.set_cons_succ]
      refine regApp 4 (some 68) (.tmp 65) (.tmp 67) 42 _ _ rfl rfl (by kernel_rfl) (by rfl) rfl rfl rfl HRUN.out ⟨HN8.out.cell 0, HN8.out.cell 1, HN8.out.cell 2, HN8.out.cell 3⟩ (fun hHeld => ?_)
      simp only [Act.put, List.setIfInBounds_toArray, List.set_cons_zero, List.set_cons_succ]
      have xs0 := HT8.out.cell 0; have xf0 := HT8.out.frozen 0
      have xs1 := HT8.out.cell 1; have xf1 := HT8.out.frozen 1
      have xs2 := HT8.out.cell 2; have xf2 := HT8.out.frozen 2
      have xs3 := HT8.out.cell 3; have xf3 := HT8.out.frozen 3
      simp only [talL, List.getElem?_cons_zero, List.getElem?_cons_succ] at xs0 xs1 xs2 xs3
      have xsl := HT8.out.lt
      refine regStore 5 (w' := ?_) rfl rfl (by kernel_rfl) (by rfl) ?_ ?_ (fun hHeld => ?_)
      rotate_left 1
      · (go_simp; try with_reducible rfl)
      · exact ⟨HN9.out.cell 0, HN9.out.cell 1, HN9.out.cell 2, HN9.out.cell 3⟩
      refine regTake 6 (some 12) (v := ?_) rfl rfl (by kernel_rfl) (by kernel_rfl) (by kernel_rfl) (fun _ _ _ h => h) (by rfl) hHeld ?_ ?_
      rotate_left 1
      · (intro w hSw; (try dsimp only at hSw); go_simp; try with_reducible rfl)
      simp only [Act.put, List.setIfInBounds_toArray, List.set_cons_zero, List.set_cons_succ]
      refine wpAnyH_done (by kernel_rfl) ?_ _
      clear hHeld xs0 xs1 xs2 xs3 xf0 xf1 xf2 xf3 xsl
      go_wp2
      go_roundw
      case rel => exact HQ.out
      case measure => have := HLT.out; simp [intOf]; omega
    · obtain rfl : j = k := by omega
      have hle : cs.take j = cs := List.take_of_length_le (by rw [HCK.out]; exact Nat.le_refl _)
      rw [hle] at HI HT
      rw [HF.out] at HT
      have c0 := HT.out.cell 0; have c1 := HT.out.cell 1; have c2 := HT.out.cell 2; have c3 := HT.out.cell 3
      have d0 := HX.out.cell 0; have d1 := HX.out.cell 1; have d2 := HX.out.cell 2; have d3 := HX.out.cell 3
      simp only [talL, List.getElem?_cons_zero, List.getElem?_cons_succ] at c0 c1 c2 c3 d0 d1 d2 d3
      have y0 := HX.out.frozen 0; have y1 := HX.out.frozen 1; have y2 := HX.out.frozen 2; have y3 := HX.out.frozen 3
      have cl := HT.out.lt; have dl := HX.out.lt
      have HP := Lib.hid (HX.out.put4B (.int .i64 f1) (.int .i64 f2) (.int .i64 f3) (.int .i64 f4))
      have HQ := Lib.hid (Below.put4B HB.out (b := w.heap.size) (Nat.le_refl _) (.int .i64 f1) (.int .i64 f2) (.int .i64 f3) (.int .i64 f4))
      have HRD := Lib.hid (HI.out.put4B (Nat.lt_of_lt_of_le HLB.out (Nat.le_succ _)) (.int .i64 f1) (.int .i64 f2) (.int .i64 f3) (.int .i64 f4)).reads
      clear hle hj hlt hbl
      go_wp2
      (try simp only [Exit.inBlock, Exit.then])
      exact bodyPost_ret (results_cell_tmp2 rfl rfl (loadTal HP.out)) rfl ⟨_, rfl, HRD.out, HQ.out⟩
set_option linter.unusedSimpArgs false in
set_option linter.unusedVariables false in
set_option maxHeartbeats 8000000 in
set_option maxRecDepth 100000 in
theorem made16_1 (kind size K N : Int) (l : List Int) (ao : Option Addr) (n cap : Nat) (w : World) (H : TalCode) (hk1 : wrap64 (kind.tmod 4 + 4) = kind.tmod 4 + 4) (hk2 : wrap64 (2 + (kind.tmod 4 + 4).tmod 4) = K) (hn1 : wrap64 (size.tmod 1000 + 1000) = size.tmod 1000 + 1000) (hn2 : wrap64 (1 + (size.tmod 1000 + 1000).tmod 1000) = N) (g1 : (K == 4) = false) (g2 : K ≤ 3) (hP : sizesP K N) (hM : mostT ⟨K, N, 0, 0⟩ = N) (hln : l.length = n) (hr : ReadsI w (.slice ao n cap) l) :
    Calls Try.prog 17 #[.int .i64 kind, .int .i64 size, .slice ao n cap] w (MadePost K N N l w) := by
  have hKN : IsInt K ∧ IsInt N := by unfold IsInt; have := hP; unfold sizesP at this; omega
  have hnew := fun W => H.new K N hKN.1 hKN.2 W
  rw [show tnewA K N = ⟨K, N, 0, 0⟩ from if_pos (decide_eq_true hP), show tnewE K N = 0 from if_pos (decide_eq_true hP)] at hnew
  have hMb := most_bounds (t := ⟨K, N, 0, 0⟩) hP
  rw [hM] at hMb
  obtain ⟨k, hk⟩ : ∃ k, min n 25 = k := ⟨_, rfl⟩
  have hk25 : k ≤ 25 := by omega
  have hcapn : n ≤ cap := by obtain ⟨_, _, e, h2, _⟩ := hr; injection e with _ e2 e3; omega
  have hsl := fun W => slice_hi ao n cap k (by omega) W
  have hmn : min (n : Int) 25 = (k : Nat) := by omega
  have hrf := hr.few 25 k hk.symm
  have hcl := cntsN_ok (M := N) (by omega) l
  obtain ⟨cs, hcs⟩ : ∃ cs, cntsN N l = cs := ⟨_, rfl⟩
  have hck : cs.length = k := by rw [← hcs]; unfold cntsN; rw [List.length_map, List.length_take, hln]; omega
  have hat : ∀ j u, (l.take 25)[j]? = some u → cs[j]? = some (clampT N u) := fun j u hu => by rw [← hcs]; unfold cntsN; rw [List.getElem?_map, hu]; rfl
  have hsome : ∀ j, j < k → ∃ u, (l.take 25)[j]? = some u := fun j hj => ⟨_, List.getElem?_eq_getElem (by rw [List.length_take, hln]; omega)⟩
  unfold MadePost
  rw [hcs] at hcl ⊢
  have hnx : ∀ j c, j < k → cs[j]? = some c → talI (madeT K N (cs.take j)) ∧ IsInt c ∧ ttakA (madeT K N (cs.take j)) c = madeT K N (cs.take (j + 1)) ∧ ttakE (madeT K N (cs.take j)) c = 0 := fun j c hj hc => by
    have hb := hcl.1 c (List.mem_of_getElem? hc)
    obtain ⟨h1, h2, h3⟩ := made16_next hP (cs := cs.take j) (c := c) (fun x hx => by rw [hM]; exact hcl.1 x (List.mem_of_mem_take hx)) (by rw [List.length_take]; omega) (by rw [hM]; exact hb)
    refine ⟨h1, by unfold IsInt; omega, ?_, h3⟩
    rw [h2, List.take_add_one, hc]
    rfl
  obtain ⟨F, hF⟩ : ∃ F, madeT K N cs = F := ⟨_, rfl⟩
  rw [hF]
  have HF := Lib.hid hF
  obtain ⟨f1, f2, f3, f4⟩ := F
  have HNEW := Lib.hid hnew; have HRF := Lib.hid hrf; have HAT := Lib.hid hat; have HSOME := Lib.hid hsome; have HNX := Lib.hid hnx; have HCK := Lib.hid hck
  have HTK := Lib.hid (fun (t : Tal) (ht : talI t) (d : Int) (hd : IsInt d) (W : World) => H.take t ht d hd W)
  obtain ⟨w1, hw1⟩ : ∃ w1, w.alloc (.cells #[.int .i64 0, .int .i64 0, .int .i64 0, .int .i64 0] 23) = w1 := ⟨_, rfl⟩
  have HX1 := Lib.hid (show Has w1 w.heap.size [.int .i64 0, .int .i64 0, .int .i64 0, .int .i64 0] 23 by rw [← hw1]; exact Has.new w _ _)
  have HB1 := Lib.hid (show Below w.heap.size w w1 by rw [← hw1]; exact (Below.refl _ _).alloc (Nat.le_refl _) _)
  have HW1 := Lib.hid hw1
  have HK2 := Lib.hid hk2; have HN2 := Lib.hid hn2
  clear hnew hrf hcl hat hsome hnx hck hw1 H hP hM hKN hMb hr hk hcapn hln hcs hk2 hn2 hF
  go_enter Try.func17, Try.ntmps17
  go_upto_region 1 with fail
  rw [HW1.out]
  go_upto_region 2 with fail
  rw [HK2.out, HN2.out]
  clear hk1 hn1
  go_wp2_with fail
  refine (HNEW.out w1).mono ?_
  rintro e w2 ⟨rfl, k2⟩
  have HX2 := Lib.hid (HX1.out.call k2)
  have HB2 := Lib.hid (HB1.out.trans (k2.mono HB1.out.size))
  obtain ⟨w3, hw3⟩ : ∃ w3, w2.alloc (.cells #[.int .i64 K, .int .i64 N, .int .i64 0, .int .i64 0] 23) = w3 := ⟨_, rfl⟩
  obtain ⟨hb, hhb⟩ : ∃ b, w2.heap.size = b := ⟨_, rfl⟩
  have k3 : Below w2.heap.size w2 w3 := by rw [← hw3]; exact (Below.refl _ _).alloc (Nat.le_refl _) _
  have hT3 : Has w3 hb (talL (madeT K N (cs.take 0))) 23 := by rw [← hw3, ← hhb]; exact Has.new w2 _ _
  have HS := Lib.hid (show MadeRel K N cs w hb (.slice none 0 0) (.int .i64 0) w3 from ⟨0, Nat.zero_le _, rfl, Lib.hid (IRow.nil _ _), Lib.hid hT3, Lib.hid (HX2.out.call k3), Lib.hid (HB2.out.trans (k3.mono HB2.out.size)), hT3.lt⟩)
  have HLB := Lib.hid (show w.heap.size < hb by rw [← hhb]; exact HX2.out.lt)
  have HW3 := Lib.hid hw3; have HHB := Lib.hid hhb
  clear k2 k3 hw3 hhb hT3
  go_upto_region 5 with fail
  rw [HW3.out]
  (try rw [HHB.out])
  go_wp2
  clear hsl hmn
  go_loopw [12, 47] (MadeRel K N cs w hb) (fun _ y _ => k - (intOf y).toNat)
  case atStart => exact HS.out
  case round =>
    obtain ⟨j, hj, rfl, HI, HT, HX, HB, hbl⟩ := hrel
    rw [HCK.out] at hj
    clear HS
    by_cases hlt : j < k
    · obtain ⟨u, hu⟩ := HSOME.out j hlt
      have hcj := HAT.out j u hu
      obtain ⟨br, off, hao, hbr, hc⟩ := (HRF.out.below HB.out).spot hu
      have hcv : min (max u 0) N = clampT N u := rfl
      obtain ⟨c, hcc⟩ : ∃ c, clampT N u = c := ⟨_, rfl⟩
      rw [hcc] at hcv hcj
      obtain ⟨n1, n2, n3, n4⟩ := HNX.out j c hlt hcj
      have htk := HTK.out _ n1 c n2 wr
      rw [n3, n4] at htk
      have HCJ := Lib.hid hcj
      obtain ⟨T, hT⟩ : ∃ T, madeT K N (cs.take j) = T := ⟨_, rfl⟩
      obtain ⟨T', hT'⟩ : ∃ T, madeT K N (cs.take (j + 1)) = T := ⟨_, rfl⟩
      rw [hT] at HT htk
      rw [hT'] at htk
      have HT' := Lib.hid hT'
      obtain ⟨a1, a2, a3, a4⟩ := T
      obtain ⟨b1, b2, b3, b4⟩ := T'
      have HTC := Lib.hid htk
      obtain ⟨aoI, capI, hiv⟩ := HI.out.reads.shape
      have hjz : (j : Int) < (k : Int) := by omega
      have hjx : 0 ≤ (j : Int) ∧ (j : Int) < (k : Int) := by omega
      have hle : ((cs.take j).length : Nat) ≤ 100000 := by rw [List.length_take, HCK.out]; omega
      have HLE := Lib.hid hle; have HLT := Lib.hid hlt
      obtain ⟨li, hli⟩ : ∃ k, (cs.take j).length = k := ⟨_, rfl⟩
      rw [hli] at hiv
      subst hao hiv
      have c0 := HT.out.cell 0; have c1 := HT.out.cell 1; have c2 := HT.out.cell 2; have c3 := HT.out.cell 3
      simp only [talL, List.getElem?_cons_zero, List.getElem?_cons_succ] at c0 c1 c2 c3
      clear hj hu hcj n1 n2 n3 n4 htk hT hT' hle hcc hli hlt
      go_wp2_with fail
      refine HTC.out.mono ?_
      rintro e w5 ⟨rfl, k5⟩
      have HI5 := Lib.hid (HI.out.below k5); have HT5 := Lib.hid (HT.out.call k5); have HX5 := Lib.hid (HX.out.call k5); have HB5 := Lib.hid (HB.out.trans (k5.mono HB.out.size))
      obtain ⟨w6, hw6⟩ : ∃ w6, w5.alloc (.cells #[.int .i64 b1, .int .i64 b2, .int .i64 b3, .int .i64 b4] 23) = w6 := ⟨_, rfl⟩
      obtain ⟨b6, hb6⟩ : ∃ b, w5.heap.size = b := ⟨_, rfl⟩
      have k6 : Below w5.heap.size w5 w6 := by rw [← hw6]; exact (Below.refl _ _).alloc (Nat.le_refl _) _
      have HN6 := Lib.hid (show Has w6 b6 [.int .i64 b1, .int .i64 b2, .int .i64 b3, .int .i64 b4] 23 by rw [← hw6, ← hb6]; exact Has.new w5 _ _)
      have HI6 := Lib.hid (HI5.out.below k6); have HT6 := Lib.hid (HT5.out.call k6); have HX6 := Lib.hid (HX5.out.call k6); have HB6 := Lib.hid (HB5.out.trans (k6.mono HB5.out.size))
      have HW6 := Lib.hid hw6; have HB6E := Lib.hid hb6
      have HGE := Lib.hid (show hb < b6 by rw [← hb6]; exact HT5.out.lt)
      have HNE := Lib.hid (show (Value.slice aoI li capI).ownBlock ≠ some b6 from fun e => by have := (HI5.out.lt' _ e).2; omega)
      clear k5 k6 hw6 hb6 hc hbr hbl c0 c1 c2 c3
      go_upto_region 18 with fail
      rw [HW6.out]
      (try rw [HB6E.out])
      -- the append's box and what it leaves
      obtain ⟨w7, hw7⟩ : ∃ w7, w6.drew.alloc (.cells #[.int .i64 c] 3) = w7 := ⟨_, rfl⟩
      have k7 : Below w6.heap.size w6 w7 := by rw [← hw7]; exact (Below.refl _ _).drew.alloc (Nat.le_refl _) _
      have hO7 : Has w7 w6.heap.size [.int .i64 c] 3 := by rw [← hw7]; exact Has.new w6.drew _ _
      have hI7 := HI6.out.below k7; have hN7 := HN6.out.call k7; have hT7 := HT6.out.call k7; have hX7 := HX6.out.call k7; have hB7 := HB6.out.trans (k7.mono HB6.out.size)
      obtain ⟨v', w8, q1, q2, q3⟩ := run_append_int (w := w7) (hb + 1) _ _ 42 hI7 c _ hO7 HLE.out (by have := hT7.lt; omega)
      have hN8 := hN7.grown q3 HNE.out
      have hT8 := hT7.grown q3 (hI7.ne (Nat.lt_succ_self _))
      have hX8 := hX7.grown q3 (hI7.ne (Nat.lt_of_lt_of_le HLB.out (Nat.le_succ _)))
      have hB8 := hB7.grown q3 (by have := hX7.lt; omega) (fun i hi => by have := (hI7.lt' i hi).1; have := HLB.out; omega)
      subst hw7
      have HRUN := Lib.hid q1; have HN8 := Lib.hid hN8; have HT8 := Lib.hid hT8; have HN7 := Lib.hid hN7
      have hnb : b6 ≠ hb := by have := HGE.out; omega
      have HN9 := Lib.hid ((((HN8.out.other (p := ⟨hb, 0, none⟩) (by dsimp only; omega) (.int .i64 b1)).other (p := ⟨hb, 1, none⟩) (by dsimp only; omega) (.int .i64 b2)).other (p := ⟨hb, 2, none⟩) (by dsimp only; omega) (.int .i64 b3)).other (p := ⟨hb, 3, none⟩) (by dsimp only; omega) (.int .i64 b4))
      have HQ := Lib.hid (show MadeRel K N cs w hb v' (.int .i64 ((j : Int) + 1)) ((((w8.setCell ⟨hb, 0, none⟩ (.int .i64 b1)).setCell ⟨hb, 1, none⟩ (.int .i64 b2)).setCell ⟨hb, 2, none⟩ (.int .i64 b3)).setCell ⟨hb, 3, none⟩ (.int .i64 b4)) from ⟨j + 1, by have := HCK.out; have := HLT.out; omega, by first | rfl | go_num, Lib.hid (by
        rw [show cs.take (j + 1) = cs.take j ++ [c] by rw [List.take_add_one, HCJ.out]; rfl]
        exact q2.put4B (Nat.lt_succ_self _) _ _ _ _), Lib.hid (by rw [HT'.out]; exact HT8.out.put4B _ _ _ _), Lib.hid ((((hX8.other (p := ⟨hb, 0, none⟩) (by have := HLB.out; dsimp only; omega) (.int .i64 b1)).other (p := ⟨hb, 1, none⟩) (by have := HLB.out; dsimp only; omega) (.int .i64 b2)).other (p := ⟨hb, 2, none⟩) (by have := HLB.out; dsimp only; omega) (.int .i64 b3)).other (p := ⟨hb, 3, none⟩) (by have := HLB.out; dsimp only; omega) (.int .i64 b4)), Lib.hid (Below.put4B hB8 (Nat.le_of_lt HLB.out) _ _ _ _), by have := HT8.out.lt; simp only [World.size_setCell]; exact this⟩)
      clear k7 hO7 hI7 hT7 hX7 hB7 q1 q2 q3 hX8 hB8 hnb
      have c0 := HN6.out.cell 0; have c1 := HN6.out.cell 1; have c2 := HN6.out.cell 2; have c3 := HN6.out.cell 3
      simp only [List.getElem?_cons_zero, List.getElem?_cons_succ] at c0 c1 c2 c3
      refine wp_region_held_drew (S := (fun W' => W'.cell? ⟨b6, 0, none⟩ = some (.int .i64 b1) ∧ W'.cell? ⟨b6, 1, none⟩ = some (.int .i64 b2) ∧ W'.cell? ⟨b6, 2, none⟩ = some (.int .i64 b3) ∧ W'.cell? ⟨b6, 3, none⟩ = some (.int .i64 b4))) (by kernel_rfl) ⟨c0, c1, c2, c3⟩ (fun hHeld => ?_)
      clear c0 c1 c2 c3
      refine regTake 0 (some 64) (v := ?_) rfl rfl (by kernel_rfl) (by kernel_rfl) (by kernel_rfl) (fun _ _ _ h => h) (by rfl) hHeld ?_ ?_
      rotate_left 1
      · (intro w hSw; (try dsimp only at hSw); go_simp; try with_reducible rfl)
      simp only [Act.put, List.setIfInBounds_toArray, List.set_cons_zero, List.set_cons_succ]
      refine regTake 1 (some 65) (v := ?_) rfl rfl (by kernel_rfl) (by kernel_rfl) (by kernel_rfl) (fun _ _ _ h => h) (by rfl) hHeld ?_ ?_
      rotate_left 1
      · (intro w hSw; (try dsimp only at hSw); go_simp; try with_reducible rfl)
      simp only [Act.put, List.setIfInBounds_toArray, List.set_cons_zero, List.set_cons_succ]
      refine regTake 2 (some 66) (v := ?_) rfl rfl (by kernel_rfl) (by kernel_rfl) (by kernel_rfl) (fun _ _ _ h => h) (by rfl) hHeld ?_ ?_
      rotate_left 1
      · (intro w hSw; (try dsimp only at hSw); go_simp; try with_reducible rfl)
      simp only [Act.put, List.setIfInBounds_toArray, List.set_cons_zero, List.set_cons_succ]
      refine regDo 3 (some 67) (v := ?_) (w' := ?_) rfl rfl (by kernel_rfl) (by rfl) ?_ ?_ (fun hHeld => ?_)
      rotate_left 2
      · (go_simp; refine ⟨?_, ?_⟩ <;> with_reducible rfl)
      · exact ⟨HN7.out.cell 0, HN7.out.cell 1, HN7.out.cell 2, HN7.out.cell 3⟩
      simp only [Act.put, List.setIfInBounds_toArray, List.set_cons_zero, List.set_cons_succ]
      refine regApp 4 (some 68) (.tmp 65) (.tmp 67) 42 _ _ rfl rfl (by kernel_rfl) (by rfl) rfl rfl rfl HRUN.out ⟨HN8.out.cell 0, HN8.out.cell 1, HN8.out.cell 2, HN8.out.cell 3⟩ (fun hHeld => ?_)
      simp only [Act.put, List.setIfInBounds_toArray, List.set_cons_zero, List.set_cons_succ]
      have xs0 := HT8.out.cell 0; have xf0 := HT8.out.frozen 0
      have xs1 := HT8.out.cell 1; have xf1 := HT8.out.frozen 1
      have xs2 := HT8.out.cell 2; have xf2 := HT8.out.frozen 2
      have xs3 := HT8.out.cell 3; have xf3 := HT8.out.frozen 3
      simp only [talL, List.getElem?_cons_zero, List.getElem?_cons_succ] at xs0 xs1 xs2 xs3
      have xsl := HT8.out.lt
      refine regStore 5 (w' := ?_) rfl rfl (by kernel_rfl) (by rfl) ?_ ?_ (fun hHeld => ?_)
      rotate_left 1
      · (go_simp; try with_reducible rfl)
      · exact ⟨HN9.out.cell 0, HN9.out.cell 1, HN9.out.cell 2, HN9.out.cell 3⟩
      refine regTake 6 (some 12) (v := ?_) rfl rfl (by kernel_rfl) (by kernel_rfl) (by kernel_rfl) (fun _ _ _ h => h) (by rfl) hHeld ?_ ?_
      rotate_left 1
      · (intro w hSw; (try dsimp only at hSw); go_simp; try with_reducible rfl)
      simp only [Act.put, List.setIfInBounds_toArray, List.set_cons_zero, List.set_cons_succ]
      refine wpAnyH_done (by kernel_rfl) ?_ _
      clear hHeld xs0 xs1 xs2 xs3 xf0 xf1 xf2 xf3 xsl
      go_wp2
      go_roundw
      case rel => exact HQ.out
      case measure => have := HLT.out; simp [intOf]; omega
    · obtain rfl : j = k := by omega
      have hle : cs.take j = cs := List.take_of_length_le (by rw [HCK.out]; exact Nat.le_refl _)
      rw [hle] at HI HT
      rw [HF.out] at HT
      have c0 := HT.out.cell 0; have c1 := HT.out.cell 1; have c2 := HT.out.cell 2; have c3 := HT.out.cell 3
      have d0 := HX.out.cell 0; have d1 := HX.out.cell 1; have d2 := HX.out.cell 2; have d3 := HX.out.cell 3
      simp only [talL, List.getElem?_cons_zero, List.getElem?_cons_succ] at c0 c1 c2 c3 d0 d1 d2 d3
      have y0 := HX.out.frozen 0; have y1 := HX.out.frozen 1; have y2 := HX.out.frozen 2; have y3 := HX.out.frozen 3
      have cl := HT.out.lt; have dl := HX.out.lt
      have HP := Lib.hid (HX.out.put4B (.int .i64 f1) (.int .i64 f2) (.int .i64 f3) (.int .i64 f4))
      have HQ := Lib.hid (Below.put4B HB.out (b := w.heap.size) (Nat.le_refl _) (.int .i64 f1) (.int .i64 f2) (.int .i64 f3) (.int .i64 f4))
      have HRD := Lib.hid (HI.out.put4B (Nat.lt_of_lt_of_le HLB.out (Nat.le_succ _)) (.int .i64 f1) (.int .i64 f2) (.int .i64 f3) (.int .i64 f4)).reads
      clear hle hj hlt hbl
      go_wp2
      (try simp only [Exit.inBlock, Exit.then])
      exact bodyPost_ret (results_cell_tmp2 rfl rfl (loadTal HP.out)) rfl ⟨_, rfl, HRD.out, HQ.out⟩
set_option linter.unusedSimpArgs false in
set_option linter.unusedVariables false in
set_option maxHeartbeats 8000000 in
set_option maxRecDepth 100000 in
theorem made16_2 (kind size K N : Int) (l : List Int) (ao : Option Addr) (n cap : Nat) (w : World) (H : TalCode) (hk1 : wrap64 (kind.tmod 4 + 4) = kind.tmod 4 + 4) (hk2 : wrap64 (2 + (kind.tmod 4 + 4).tmod 4) = K) (hn1 : wrap64 (size.tmod 1000 + 1000) = size.tmod 1000 + 1000) (hn2 : wrap64 (1 + (size.tmod 1000 + 1000).tmod 1000) = N) (g1 : (K == 4) = false) (g2 : ¬ K ≤ 3) (hP : sizesP K N) (hM : mostT ⟨K, N, 0, 0⟩ = 1000000) (hln : l.length = n) (hr : ReadsI w (.slice ao n cap) l) :
    Calls Try.prog 17 #[.int .i64 kind, .int .i64 size, .slice ao n cap] w (MadePost K N 1000000 l w) := by
  have hKN : IsInt K ∧ IsInt N := by unfold IsInt; have := hP; unfold sizesP at this; omega
  have hnew := fun W => H.new K N hKN.1 hKN.2 W
  rw [show tnewA K N = ⟨K, N, 0, 0⟩ from if_pos (decide_eq_true hP), show tnewE K N = 0 from if_pos (decide_eq_true hP)] at hnew
  have hMb := most_bounds (t := ⟨K, N, 0, 0⟩) hP
  rw [hM] at hMb
  obtain ⟨k, hk⟩ : ∃ k, min n 25 = k := ⟨_, rfl⟩
  have hk25 : k ≤ 25 := by omega
  have hcapn : n ≤ cap := by obtain ⟨_, _, e, h2, _⟩ := hr; injection e with _ e2 e3; omega
  have hsl := fun W => slice_hi ao n cap k (by omega) W
  have hmn : min (n : Int) 25 = (k : Nat) := by omega
  have hrf := hr.few 25 k hk.symm
  have hcl := cntsN_ok (M := 1000000) (by omega) l
  obtain ⟨cs, hcs⟩ : ∃ cs, cntsN 1000000 l = cs := ⟨_, rfl⟩
  have hck : cs.length = k := by rw [← hcs]; unfold cntsN; rw [List.length_map, List.length_take, hln]; omega
  have hat : ∀ j u, (l.take 25)[j]? = some u → cs[j]? = some (clampT 1000000 u) := fun j u hu => by rw [← hcs]; unfold cntsN; rw [List.getElem?_map, hu]; rfl
  have hsome : ∀ j, j < k → ∃ u, (l.take 25)[j]? = some u := fun j hj => ⟨_, List.getElem?_eq_getElem (by rw [List.length_take, hln]; omega)⟩
  unfold MadePost
  rw [hcs] at hcl ⊢
  have hnx : ∀ j c, j < k → cs[j]? = some c → talI (madeT K N (cs.take j)) ∧ IsInt c ∧ ttakA (madeT K N (cs.take j)) c = madeT K N (cs.take (j + 1)) ∧ ttakE (madeT K N (cs.take j)) c = 0 := fun j c hj hc => by
    have hb := hcl.1 c (List.mem_of_getElem? hc)
    obtain ⟨h1, h2, h3⟩ := made16_next hP (cs := cs.take j) (c := c) (fun x hx => by rw [hM]; exact hcl.1 x (List.mem_of_mem_take hx)) (by rw [List.length_take]; omega) (by rw [hM]; exact hb)
    refine ⟨h1, by unfold IsInt; omega, ?_, h3⟩
    rw [h2, List.take_add_one, hc]
    rfl
  obtain ⟨F, hF⟩ : ∃ F, madeT K N cs = F := ⟨_, rfl⟩
  rw [hF]
  have HF := Lib.hid hF
  obtain ⟨f1, f2, f3, f4⟩ := F
  have HNEW := Lib.hid hnew; have HRF := Lib.hid hrf; have HAT := Lib.hid hat; have HSOME := Lib.hid hsome; have HNX := Lib.hid hnx; have HCK := Lib.hid hck
  have HTK := Lib.hid (fun (t : Tal) (ht : talI t) (d : Int) (hd : IsInt d) (W : World) => H.take t ht d hd W)
  obtain ⟨w1, hw1⟩ : ∃ w1, w.alloc (.cells #[.int .i64 0, .int .i64 0, .int .i64 0, .int .i64 0] 23) = w1 := ⟨_, rfl⟩
  have HX1 := Lib.hid (show Has w1 w.heap.size [.int .i64 0, .int .i64 0, .int .i64 0, .int .i64 0] 23 by rw [← hw1]; exact Has.new w _ _)
  have HB1 := Lib.hid (show Below w.heap.size w w1 by rw [← hw1]; exact (Below.refl _ _).alloc (Nat.le_refl _) _)
  have HW1 := Lib.hid hw1
  have HK2 := Lib.hid hk2; have HN2 := Lib.hid hn2
  clear hnew hrf hcl hat hsome hnx hck hw1 H hP hM hKN hMb hr hk hcapn hln hcs hk2 hn2 hF
  go_enter Try.func17, Try.ntmps17
  go_upto_region 1 with fail
  rw [HW1.out]
  go_upto_region 2 with fail
  rw [HK2.out, HN2.out]
  clear hk1 hn1
  go_wp2_with fail
  refine (HNEW.out w1).mono ?_
  rintro e w2 ⟨rfl, k2⟩
  have HX2 := Lib.hid (HX1.out.call k2)
  have HB2 := Lib.hid (HB1.out.trans (k2.mono HB1.out.size))
  obtain ⟨w3, hw3⟩ : ∃ w3, w2.alloc (.cells #[.int .i64 K, .int .i64 N, .int .i64 0, .int .i64 0] 23) = w3 := ⟨_, rfl⟩
  obtain ⟨hb, hhb⟩ : ∃ b, w2.heap.size = b := ⟨_, rfl⟩
  have k3 : Below w2.heap.size w2 w3 := by rw [← hw3]; exact (Below.refl _ _).alloc (Nat.le_refl _) _
  have hT3 : Has w3 hb (talL (madeT K N (cs.take 0))) 23 := by rw [← hw3, ← hhb]; exact Has.new w2 _ _
  have HS := Lib.hid (show MadeRel K N cs w hb (.slice none 0 0) (.int .i64 0) w3 from ⟨0, Nat.zero_le _, rfl, Lib.hid (IRow.nil _ _), Lib.hid hT3, Lib.hid (HX2.out.call k3), Lib.hid (HB2.out.trans (k3.mono HB2.out.size)), hT3.lt⟩)
  have HLB := Lib.hid (show w.heap.size < hb by rw [← hhb]; exact HX2.out.lt)
  have HW3 := Lib.hid hw3; have HHB := Lib.hid hhb
  clear k2 k3 hw3 hhb hT3
  go_upto_region 5 with fail
  rw [HW3.out]
  (try rw [HHB.out])
  go_wp2
  clear hsl hmn
  go_loopw [12, 47] (MadeRel K N cs w hb) (fun _ y _ => k - (intOf y).toNat)
  case atStart => exact HS.out
  case round =>
    obtain ⟨j, hj, rfl, HI, HT, HX, HB, hbl⟩ := hrel
    rw [HCK.out] at hj
    clear HS
    by_cases hlt : j < k
    · obtain ⟨u, hu⟩ := HSOME.out j hlt
      have hcj := HAT.out j u hu
      obtain ⟨br, off, hao, hbr, hc⟩ := (HRF.out.below HB.out).spot hu
      have hcv : min (max u 0) 1000000 = clampT 1000000 u := rfl
      obtain ⟨c, hcc⟩ : ∃ c, clampT 1000000 u = c := ⟨_, rfl⟩
      rw [hcc] at hcv hcj
      obtain ⟨n1, n2, n3, n4⟩ := HNX.out j c hlt hcj
      have htk := HTK.out _ n1 c n2 wr
      rw [n3, n4] at htk
      have HCJ := Lib.hid hcj
      obtain ⟨T, hT⟩ : ∃ T, madeT K N (cs.take j) = T := ⟨_, rfl⟩
      obtain ⟨T', hT'⟩ : ∃ T, madeT K N (cs.take (j + 1)) = T := ⟨_, rfl⟩
      rw [hT] at HT htk
      rw [hT'] at htk
      have HT' := Lib.hid hT'
      obtain ⟨a1, a2, a3, a4⟩ := T
      obtain ⟨b1, b2, b3, b4⟩ := T'
      have HTC := Lib.hid htk
      obtain ⟨aoI, capI, hiv⟩ := HI.out.reads.shape
      have hjz : (j : Int) < (k : Int) := by omega
      have hjx : 0 ≤ (j : Int) ∧ (j : Int) < (k : Int) := by omega
      have hle : ((cs.take j).length : Nat) ≤ 100000 := by rw [List.length_take, HCK.out]; omega
      have HLE := Lib.hid hle; have HLT := Lib.hid hlt
      obtain ⟨li, hli⟩ : ∃ k, (cs.take j).length = k := ⟨_, rfl⟩
      rw [hli] at hiv
      subst hao hiv
      have c0 := HT.out.cell 0; have c1 := HT.out.cell 1; have c2 := HT.out.cell 2; have c3 := HT.out.cell 3
      simp only [talL, List.getElem?_cons_zero, List.getElem?_cons_succ] at c0 c1 c2 c3
      clear hj hu hcj n1 n2 n3 n4 htk hT hT' hle hcc hli hlt
      go_wp2_with fail
      refine HTC.out.mono ?_
      rintro e w5 ⟨rfl, k5⟩
      have HI5 := Lib.hid (HI.out.below k5); have HT5 := Lib.hid (HT.out.call k5); have HX5 := Lib.hid (HX.out.call k5); have HB5 := Lib.hid (HB.out.trans (k5.mono HB.out.size))
      obtain ⟨w6, hw6⟩ : ∃ w6, w5.alloc (.cells #[.int .i64 b1, .int .i64 b2, .int .i64 b3, .int .i64 b4] 23) = w6 := ⟨_, rfl⟩
      obtain ⟨b6, hb6⟩ : ∃ b, w5.heap.size = b := ⟨_, rfl⟩
      have k6 : Below w5.heap.size w5 w6 := by rw [← hw6]; exact (Below.refl _ _).alloc (Nat.le_refl _) _
      have HN6 := Lib.hid (show Has w6 b6 [.int .i64 b1, .int .i64 b2, .int .i64 b3, .int .i64 b4] 23 by rw [← hw6, ← hb6]; exact Has.new w5 _ _)
      have HI6 := Lib.hid (HI5.out.below k6); have HT6 := Lib.hid (HT5.out.call k6); have HX6 := Lib.hid (HX5.out.call k6); have HB6 := Lib.hid (HB5.out.trans (k6.mono HB5.out.size))
      have HW6 := Lib.hid hw6; have HB6E := Lib.hid hb6
      have HGE := Lib.hid (show hb < b6 by rw [← hb6]; exact HT5.out.lt)
      have HNE := Lib.hid (show (Value.slice aoI li capI).ownBlock ≠ some b6 from fun e => by have := (HI5.out.lt' _ e).2; omega)
      clear k5 k6 hw6 hb6 hc hbr hbl c0 c1 c2 c3
      go_upto_region 18 with fail
      rw [HW6.out]
      (try rw [HB6E.out])
      -- the append's box and what it leaves
      obtain ⟨w7, hw7⟩ : ∃ w7, w6.drew.alloc (.cells #[.int .i64 c] 3) = w7 := ⟨_, rfl⟩
      have k7 : Below w6.heap.size w6 w7 := by rw [← hw7]; exact (Below.refl _ _).drew.alloc (Nat.le_refl _) _
      have hO7 : Has w7 w6.heap.size [.int .i64 c] 3 := by rw [← hw7]; exact Has.new w6.drew _ _
      have hI7 := HI6.out.below k7; have hN7 := HN6.out.call k7; have hT7 := HT6.out.call k7; have hX7 := HX6.out.call k7; have hB7 := HB6.out.trans (k7.mono HB6.out.size)
      obtain ⟨v', w8, q1, q2, q3⟩ := run_append_int (w := w7) (hb + 1) _ _ 42 hI7 c _ hO7 HLE.out (by have := hT7.lt; omega)
      have hN8 := hN7.grown q3 HNE.out
      have hT8 := hT7.grown q3 (hI7.ne (Nat.lt_succ_self _))
      have hX8 := hX7.grown q3 (hI7.ne (Nat.lt_of_lt_of_le HLB.out (Nat.le_succ _)))
      have hB8 := hB7.grown q3 (by have := hX7.lt; omega) (fun i hi => by have := (hI7.lt' i hi).1; have := HLB.out; omega)
      subst hw7
      have HRUN := Lib.hid q1; have HN8 := Lib.hid hN8; have HT8 := Lib.hid hT8; have HN7 := Lib.hid hN7
      have hnb : b6 ≠ hb := by have := HGE.out; omega
      have HN9 := Lib.hid ((((HN8.out.other (p := ⟨hb, 0, none⟩) (by dsimp only; omega) (.int .i64 b1)).other (p := ⟨hb, 1, none⟩) (by dsimp only; omega) (.int .i64 b2)).other (p := ⟨hb, 2, none⟩) (by dsimp only; omega) (.int .i64 b3)).other (p := ⟨hb, 3, none⟩) (by dsimp only; omega) (.int .i64 b4))
      have HQ := Lib.hid (show MadeRel K N cs w hb v' (.int .i64 ((j : Int) + 1)) ((((w8.setCell ⟨hb, 0, none⟩ (.int .i64 b1)).setCell ⟨hb, 1, none⟩ (.int .i64 b2)).setCell ⟨hb, 2, none⟩ (.int .i64 b3)).setCell ⟨hb, 3, none⟩ (.int .i64 b4)) from ⟨j + 1, by have := HCK.out; have := HLT.out; omega, by first | rfl | go_num, Lib.hid (by
        rw [show cs.take (j + 1) = cs.take j ++ [c] by rw [List.take_add_one, HCJ.out]; rfl]
        exact q2.put4B (Nat.lt_succ_self _) _ _ _ _), Lib.hid (by rw [HT'.out]; exact HT8.out.put4B _ _ _ _), Lib.hid ((((hX8.other (p := ⟨hb, 0, none⟩) (by have := HLB.out; dsimp only; omega) (.int .i64 b1)).other (p := ⟨hb, 1, none⟩) (by have := HLB.out; dsimp only; omega) (.int .i64 b2)).other (p := ⟨hb, 2, none⟩) (by have := HLB.out; dsimp only; omega) (.int .i64 b3)).other (p := ⟨hb, 3, none⟩) (by have := HLB.out; dsimp only; omega) (.int .i64 b4)), Lib.hid (Below.put4B hB8 (Nat.le_of_lt HLB.out) _ _ _ _), by have := HT8.out.lt; simp only [World.size_setCell]; exact this⟩)
      clear k7 hO7 hI7 hT7 hX7 hB7 q1 q2 q3 hX8 hB8 hnb
      have c0 := HN6.out.cell 0; have c1 := HN6.out.cell 1; have c2 := HN6.out.cell 2; have c3 := HN6.out.cell 3
      simp only [List.getElem?_cons_zero, List.getElem?_cons_succ] at c0 c1 c2 c3
      refine wp_region_held_drew (S := (fun W' => W'.cell? ⟨b6, 0, none⟩ = some (.int .i64 b1) ∧ W'.cell? ⟨b6, 1, none⟩ = some (.int .i64 b2) ∧ W'.cell? ⟨b6, 2, none⟩ = some (.int .i64 b3) ∧ W'.cell? ⟨b6, 3, none⟩ = some (.int .i64 b4))) (by kernel_rfl) ⟨c0, c1, c2, c3⟩ (fun hHeld => ?_)
      clear c0 c1 c2 c3
      refine regTake 0 (some 64) (v := ?_) rfl rfl (by kernel_rfl) (by kernel_rfl) (by kernel_rfl) (fun _ _ _ h => h) (by rfl) hHeld ?_ ?_
      rotate_left 1
      · (intro w hSw; (try dsimp only at hSw); go_simp; try with_reducible rfl)
      simp only [Act.put, List.setIfInBounds_toArray, List.set_cons_zero, List.set_cons_succ]
      refine regTake 1 (some 65) (v := ?_) rfl rfl (by kernel_rfl) (by kernel_rfl) (by kernel_rfl) (fun _ _ _ h => h) (by rfl) hHeld ?_ ?_
      rotate_left 1
      · (intro w hSw; (try dsimp only at hSw); go_simp; try with_reducible rfl)
      simp only [Act.put, List.setIfInBounds_toArray, List.set_cons_zero, List.set_cons_succ]
      refine regTake 2 (some 66) (v := ?_) rfl rfl (by kernel_rfl) (by kernel_rfl) (by kernel_rfl) (fun _ _ _ h => h) (by rfl) hHeld ?_ ?_
      rotate_left 1
      · (intro w hSw; (try dsimp only at hSw); go_simp; try with_reducible rfl)
      simp only [Act.put, List.setIfInBounds_toArray, List.set_cons_zero, List.set_cons_succ]
      refine regDo 3 (some 67) (v := ?_) (w' := ?_) rfl rfl (by kernel_rfl) (by rfl) ?_ ?_ (fun hHeld => ?_)
      rotate_left 2
      · (go_simp; refine ⟨?_, ?_⟩ <;> with_reducible rfl)
      · exact ⟨HN7.out.cell 0, HN7.out.cell 1, HN7.out.cell 2, HN7.out.cell 3⟩
      simp only [Act.put, List.setIfInBounds_toArray, List.set_cons_zero, List.set_cons_succ]
      refine regApp 4 (some 68) (.tmp 65) (.tmp 67) 42 _ _ rfl rfl (by kernel_rfl) (by rfl) rfl rfl rfl HRUN.out ⟨HN8.out.cell 0, HN8.out.cell 1, HN8.out.cell 2, HN8.out.cell 3⟩ (fun hHeld => ?_)
      simp only [Act.put, List.setIfInBounds_toArray, List.set_cons_zero, List.set_cons_succ]
      have xs0 := HT8.out.cell 0; have xf0 := HT8.out.frozen 0
      have xs1 := HT8.out.cell 1; have xf1 := HT8.out.frozen 1
      have xs2 := HT8.out.cell 2; have xf2 := HT8.out.frozen 2
      have xs3 := HT8.out.cell 3; have xf3 := HT8.out.frozen 3
      simp only [talL, List.getElem?_cons_zero, List.getElem?_cons_succ] at xs0 xs1 xs2 xs3
      have xsl := HT8.out.lt
      refine regStore 5 (w' := ?_) rfl rfl (by kernel_rfl) (by rfl) ?_ ?_ (fun hHeld => ?_)
      rotate_left 1
      · (go_simp; try with_reducible rfl)
      · exact ⟨HN9.out.cell 0, HN9.out.cell 1, HN9.out.cell 2, HN9.out.cell 3⟩
      refine regTake 6 (some 12) (v := ?_) rfl rfl (by kernel_rfl) (by kernel_rfl) (by kernel_rfl) (fun _ _ _ h => h) (by rfl) hHeld ?_ ?_
      rotate_left 1
      · (intro w hSw; (try dsimp only at hSw); go_simp; try with_reducible rfl)
      simp only [Act.put, List.setIfInBounds_toArray, List.set_cons_zero, List.set_cons_succ]
      refine wpAnyH_done (by kernel_rfl) ?_ _
      clear hHeld xs0 xs1 xs2 xs3 xf0 xf1 xf2 xf3 xsl
      go_wp2
      go_roundw
      case rel => exact HQ.out
      case measure => have := HLT.out; simp [intOf]; omega
    · obtain rfl : j = k := by omega
      have hle : cs.take j = cs := List.take_of_length_le (by rw [HCK.out]; exact Nat.le_refl _)
      rw [hle] at HI HT
      rw [HF.out] at HT
      have c0 := HT.out.cell 0; have c1 := HT.out.cell 1; have c2 := HT.out.cell 2; have c3 := HT.out.cell 3
      have d0 := HX.out.cell 0; have d1 := HX.out.cell 1; have d2 := HX.out.cell 2; have d3 := HX.out.cell 3
      simp only [talL, List.getElem?_cons_zero, List.getElem?_cons_succ] at c0 c1 c2 c3 d0 d1 d2 d3
      have y0 := HX.out.frozen 0; have y1 := HX.out.frozen 1; have y2 := HX.out.frozen 2; have y3 := HX.out.frozen 3
      have cl := HT.out.lt; have dl := HX.out.lt
      have HP := Lib.hid (HX.out.put4B (.int .i64 f1) (.int .i64 f2) (.int .i64 f3) (.int .i64 f4))
      have HQ := Lib.hid (Below.put4B HB.out (b := w.heap.size) (Nat.le_refl _) (.int .i64 f1) (.int .i64 f2) (.int .i64 f3) (.int .i64 f4))
      have HRD := Lib.hid (HI.out.put4B (Nat.lt_of_lt_of_le HLB.out (Nat.le_succ _)) (.int .i64 f1) (.int .i64 f2) (.int .i64 f3) (.int .i64 f4)).reads
      clear hle hj hlt hbl
      go_wp2
      (try simp only [Exit.inBlock, Exit.then])
      exact bodyPost_ret (results_cell_tmp2 rfl rfl (loadTal HP.out)) rfl ⟨_, rfl, HRD.out, HQ.out⟩
theorem made16_any (H : TalCode) (kind size : Int) (l : List Int) (v : Value) (w : World) (hr : ReadsI w v l) :
    ∃ K N, K = 2 + (kind.tmod 4 + 4).tmod 4 ∧ sizesP K N ∧ (K ≠ 4 → N = 1 + (size.tmod 1000 + 1000).tmod 1000) ∧ Calls Try.prog 17 #[.int .i64 kind, .int .i64 size, v] w (MadePost K N (mostT ⟨K, N, 0, 0⟩) l w) := by
  obtain ⟨ao, cap, rfl⟩ := hr.shape
  have a1 := Int.lt_tmod_of_pos kind (show (0 : Int) < 4 by decide)
  have a2 := Int.tmod_lt_of_pos kind (show (0 : Int) < 4 by decide)
  have a3 := Int.tmod_nonneg 4 (show 0 ≤ kind.tmod 4 + 4 by omega)
  have a4 := Int.tmod_lt_of_pos (kind.tmod 4 + 4) (show (0 : Int) < 4 by decide)
  have b1 := Int.lt_tmod_of_pos size (show (0 : Int) < 1000 by decide)
  have b2 := Int.tmod_lt_of_pos size (show (0 : Int) < 1000 by decide)
  have b3 := Int.tmod_nonneg 1000 (show 0 ≤ size.tmod 1000 + 1000 by omega)
  have b4 := Int.tmod_lt_of_pos (size.tmod 1000 + 1000) (show (0 : Int) < 1000 by decide)
  have hk1 : wrap64 (kind.tmod 4 + 4) = kind.tmod 4 + 4 := wrapJ6 (by omega)
  have hn1 : wrap64 (size.tmod 1000 + 1000) = size.tmod 1000 + 1000 := wrapJ6 (by omega)
  obtain ⟨K, hK⟩ : ∃ K, 2 + (kind.tmod 4 + 4).tmod 4 = K := ⟨_, rfl⟩
  obtain ⟨S, hS⟩ : ∃ S, 1 + (size.tmod 1000 + 1000).tmod 1000 = S := ⟨_, rfl⟩
  have hk2 : wrap64 (2 + (kind.tmod 4 + 4).tmod 4) = K := by rw [hK]; exact wrapJ6 (by omega)
  have hn2 : wrap64 (1 + (size.tmod 1000 + 1000).tmod 1000) = S := by rw [hS]; exact wrapJ6 (by omega)
  have hKb : 2 ≤ K ∧ K ≤ 5 := by omega
  have hSb : 1 ≤ S ∧ S ≤ 1000 := by omega
  rw [hK, hS]
  by_cases h4 : K = 4
  · refine ⟨K, 1, rfl, ⟨hKb.1, hKb.2, by omega, by omega, fun _ => rfl⟩, fun h => absurd h4 h, ?_⟩
    have e : mostT ⟨K, 1, 0, 0⟩ = 1000000 := if_neg (by show ¬ K ≤ 3; omega)
    rw [e]
    exact made16_0 kind size K S l ao _ cap w H hk1 hk2 hn1 hn2 (beq_iff_eq.2 h4) (by omega) ⟨hKb.1, hKb.2, by omega, by omega, fun _ => rfl⟩ e rfl hr
  · refine ⟨K, S, rfl, ⟨hKb.1, hKb.2, hSb.1, hSb.2, fun h => absurd h h4⟩, fun _ => rfl, ?_⟩
    by_cases h3 : K ≤ 3
    · have e : mostT ⟨K, S, 0, 0⟩ = S := if_pos h3
      rw [e]
      exact made16_1 kind size K S l ao _ cap w H hk1 hk2 hn1 hn2 (beq_false_of_ne h4) h3 ⟨hKb.1, hKb.2, hSb.1, hSb.2, fun h => absurd h h4⟩ e rfl hr
    · have e : mostT ⟨K, S, 0, 0⟩ = 1000000 := if_neg h3
      rw [e]
      exact made16_2 kind size K S l ao _ cap w H hk1 hk2 hn1 hn2 (beq_false_of_ne h4) h3 ⟨hKb.1, hKb.2, hSb.1, hSb.2, fun h => absurd h h4⟩ e rfl hr
end Go.Proofs.Ytgmifimpeefpcaa
