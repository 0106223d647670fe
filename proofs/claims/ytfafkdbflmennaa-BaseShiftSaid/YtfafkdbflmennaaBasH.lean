/- The laws of stage 15: a base of rows is made. -/
import Derived.Test.YtfafkdbflmennaaBasE
import Derived.Test.YtfafkdbflmennaaRdR
namespace Go.Proofs.Ytfafkdbflmennaa
open Go.RowKit

theorem ReadsI.shapeI {w : World} {v : Value} {xs : List Int} (h : ReadsI w v xs) : ∃ ao cap, v = .slice ao xs.length cap := by
  obtain ⟨ao, cap, h1, _⟩ := h
  exact ⟨ao, cap, h1⟩
theorem ReadsR.spotR {w : World} {ao : Option Addr} {n cap : Nat} {L : List (List Int)} (h : ReadsR w (.slice ao n cap) L) {i : Nat} {z : List Int} (hz : L[i]? = some z) :
    ∃ b off u, ao = some ⟨b, off, none⟩ ∧ b < w.heap.size ∧ w.cell? ⟨b, off + i, none⟩ = some u ∧ ReadsI w u z := by
  obtain ⟨ao', cap', h1, h2, h3, h4⟩ := h
  injection h1 with e1 e2 e3
  subst e1 e3
  have hi : i < L.length := (List.getElem?_eq_some_iff.1 hz).1
  obtain ⟨b, off, u, h5, h6, h7, h8⟩ := h4 i hi
  refine ⟨b, off, u, h5, h6, h7, ?_⟩
  rwa [List.getD_eq_getElem?_getD, hz] at h8
def MadI (size : Int) (rows : List (List Int)) (w : World) (hb : Nat) (y : Value) (wr : World) : Prop :=
  ∃ i : Nat, i ≤ rows.length ∧ y = .int .i64 (i : Nat) ∧ Has wr hb (basL (madeN size (rows.take i))) 23 ∧ Has wr w.heap.size [.int .i64 0, .int .i64 0, .int .i64 0, .int .i64 0, .int .i64 0] 23 ∧ Below w.heap.size w wr
theorem made_next {size : Int} (h1 : 1 ≤ size) (h2 : size ≤ 10) {rows : List (List Int)} (hr : rowsOk size rows) (hl : rows.length ≤ 25) {i : Nat} {row : List Int} (hi : rows[i]? = some row) :
    basI (madeN size (rows.take i)) ∧ takA (madeN size (rows.take i)) row = madeN size (rows.take (i + 1)) ∧ takE (madeN size (rows.take i)) row = 0 := by
  have hil : i < rows.length := (List.getElem?_eq_some_iff.1 hi).1
  have ho : basOk (madeN size (rows.take i)) := made_ok h1 h2 _ (fun l hx => hr l (List.mem_of_mem_take hx)) (by rw [List.length_take]; omega)
  have hw : rowB (madeN size (rows.take i)) row = true := made_row (hr row (List.mem_of_getElem? hi))
  have hm : ¬ (madeN size (rows.take i)).m = 25 := by rw [(made_size size (rows.take i)).2.1, List.length_take]; omega
  have hE : takE (madeN size (rows.take i)) row = 0 := by unfold takE; rw [show basB (madeN size (rows.take i)) = true from decide_eq_true ho, hw]; exact if_neg hm
  have e : rows.take (i + 1) = rows.take i ++ [row] := by rw [List.take_add_one, hi]; rfl
  exact ⟨basI_ok ho, by unfold takA; rw [hE, e, made_snoc]; rfl, hE⟩
set_option linter.unusedSimpArgs false in
set_option linter.unusedVariables false in
set_option maxHeartbeats 8000000 in
set_option maxRecDepth 100000 in
theorem made_any (H : BasCode) (size : Int) (h1 : 1 ≤ size) (h2 : size ≤ 10) (rows : List (List Int)) (hr : rowsOk size rows) (hl : rows.length ≤ 25) (v : Value) (w : World) (hrd : ReadsR w v rows) :
    Calls Try.prog 21 #[.int .i64 size, v] w fun e w' => e = .returned (.tuple #[basV (madeN size rows), .bool true]) ∧ Below w.heap.size w w' := by
  obtain ⟨ao, cap, rfl, hcap, hcm, -⟩ := id hrd
  obtain ⟨n, hn⟩ : ∃ n, rows.length = n := ⟨_, rfl⟩
  rw [hn] at hcap hl hrd ⊢
  have hnew := fun W => H.new size (by unfold IsInt; omega) W
  rw [show newA size = ⟨size, 0, 0, 0, 0⟩ from if_pos ⟨h1, h2⟩, show newE size = 0 from if_pos ⟨h1, h2⟩] at hnew
  have HNEW := Lib.hid hnew
  have HNX := Lib.hid (fun (i : Nat) (row : List Int) (hi : rows[i]? = some row) => made_next h1 h2 hr (by rw [hn]; exact hl) hi)
  have HTK := Lib.hid (fun (b : Bas) (hb : basI b) (l : List Int) (v : Value) (W : World) (hl : l.length ≤ 1000) (hr : ReadsI W v l) => H.take b hb l v W hl hr)
  have HRO := Lib.hid hr; have HRD := Lib.hid hrd; have HN := Lib.hid hn
  have HSZ := Lib.hid h2; have HSZ1 := Lib.hid h1
  obtain ⟨F, hF⟩ : ∃ F, madeN size rows = F := ⟨_, rfl⟩
  rw [hF]
  have HF := Lib.hid hF
  obtain ⟨f1, f2, f3, f4, f5⟩ := F
  obtain ⟨w1, hw1⟩ : ∃ w1, w.alloc (.cells #[.int .i64 0, .int .i64 0, .int .i64 0, .int .i64 0, .int .i64 0] 23) = w1 := ⟨_, rfl⟩
  have HX1 := Lib.hid (show Has w1 w.heap.size [.int .i64 0, .int .i64 0, .int .i64 0, .int .i64 0, .int .i64 0] 23 by rw [← hw1]; exact Has.new w _ _)
  have HB1 := Lib.hid (show Below w.heap.size w w1 by rw [← hw1]; exact (Below.refl _ _).alloc (Nat.le_refl _) _)
  have HW1 := Lib.hid hw1
  have hlt1 : w.heap.size < w1.heap.size := HX1.out.lt
  have HLT1 := Lib.hid hlt1
  clear hnew hr hrd hn hF hw1 h1 h2 hlt1 H hcm
  go_enter Try.func21, Try.ntmps21
  go_upto_region 1 with fail
  rw [HW1.out]
  go_wp2_with fail
  refine (HNEW.out w1).mono ?_
  rintro e w2 ⟨rfl, k2⟩
  have HX2 := Lib.hid (HX1.out.call k2)
  have HB2 := Lib.hid (HB1.out.trans (k2.mono HB1.out.size))
  obtain ⟨w3, hw3⟩ : ∃ w3, w2.alloc (.cells #[.int .i64 size, .int .i64 0, .int .i64 0, .int .i64 0, .int .i64 0] 23) = w3 := ⟨_, rfl⟩
  obtain ⟨hb, hhb⟩ : ∃ b, w2.heap.size = b := ⟨_, rfl⟩
  have k3 : Below w2.heap.size w2 w3 := by rw [← hw3]; exact (Below.refl _ _).alloc (Nat.le_refl _) _
  have HS := Lib.hid (show MadI size rows w hb (.int .i64 0) w3 from ⟨0, Nat.zero_le _, rfl, by rw [← hw3, ← hhb]; exact Has.new w2 _ _, HX2.out.call k3, HB2.out.trans (k3.mono HB2.out.size)⟩)
  have HLB := Lib.hid (show w.heap.size < hb by rw [← hhb]; exact Nat.lt_of_lt_of_le HLT1.out k2.size)
  have HW3 := Lib.hid hw3; have HHB := Lib.hid hhb
  clear k2 k3 hw3 hhb
  go_upto_region 2 with fail
  rw [HW3.out]
  (try rw [HHB.out])
  go_wp2
  go_loopw [22] (MadI size rows w hb) (fun y _ => n - (intOf y).toNat)
  case atStart => exact HS.out
  case round =>
    obtain ⟨i, hi, rfl, hA, hX, hB⟩ := hrel
    rw [HN.out] at hi
    have HA := Lib.hid hA; have HX := Lib.hid hX; have HB := Lib.hid hB
    by_cases hlt : i < n
    · obtain ⟨row, hrow⟩ : ∃ row, rows[i]? = some row := ⟨_, List.getElem?_eq_getElem (by rw [HN.out]; exact hlt)⟩
      obtain ⟨b, off, u, hao, hbl, hcu, hru⟩ := (HRD.out.below hB).spotR hrow
      obtain ⟨n1, n2, n3⟩ := HNX.out i row hrow
      have hrl : row.length ≤ 1000 := by have := (HRO.out row (List.mem_of_getElem? hrow)).1; have := HSZ.out; omega
      have htk := HTK.out _ n1 row u wr hrl hru
      rw [n2, n3] at htk
      obtain ⟨aoU, capU, hue⟩ := hru.shapeI
      obtain ⟨nU, hnU⟩ : ∃ k, row.length = k := ⟨_, rfl⟩
      rw [hnU] at hue
      subst hao hue
      obtain ⟨M, hM⟩ : ∃ M, madeN size (rows.take i) = M := ⟨_, rfl⟩
      obtain ⟨M', hM'⟩ : ∃ M, madeN size (rows.take (i + 1)) = M := ⟨_, rfl⟩
      rw [hM] at hA htk
      rw [hM'] at htk
      have HM' := Lib.hid hM'
      obtain ⟨a1, a2, a3, a4, a5⟩ := M
      obtain ⟨b1, b2, b3, b4, b5⟩ := M'
      have HTC := Lib.hid htk; have HA2 := Lib.hid hA
      have hiz : (i : Int) < (n : Int) := by omega
      have hix : 0 ≤ (i : Int) ∧ (i : Int) < (n : Int) := by omega
      have c0 := HA2.out.cell 0
      have c1 := HA2.out.cell 1
      have c2 := HA2.out.cell 2
      have c3 := HA2.out.cell 3
      have c4 := HA2.out.cell 4
      simp only [basL, List.getElem?_cons_zero, List.getElem?_cons_succ] at c0 c1 c2 c3 c4
      have cl := HA2.out.lt
      clear hA hX hB hi hrow n1 n2 n3 hrl htk hru hM hM' hnU hlt
      go_wp2_with fail
      refine HTC.out.mono ?_
      rintro e w5 ⟨rfl, k5⟩
      have HA5 := Lib.hid (HA2.out.call k5); have HX5 := Lib.hid (HX.out.call k5); have HB5 := Lib.hid (HB.out.trans (k5.mono HB.out.size))
      obtain ⟨w6, hw6⟩ : ∃ w6, w5.alloc (.cells #[.int .i64 b1, .int .i64 b2, .int .i64 b3, .int .i64 b4, .int .i64 b5] 23) = w6 := ⟨_, rfl⟩
      obtain ⟨b6, hb6⟩ : ∃ b, w5.heap.size = b := ⟨_, rfl⟩
      have k6 : Below w5.heap.size w5 w6 := by rw [← hw6]; exact (Below.refl _ _).alloc (Nat.le_refl _) _
      have HN6 := Lib.hid (show Has w6 b6 [.int .i64 b1, .int .i64 b2, .int .i64 b3, .int .i64 b4, .int .i64 b5] 23 by rw [← hw6, ← hb6]; exact Has.new w5 _ _)
      have HA6 := Lib.hid (HA5.out.call k6); have HX6 := Lib.hid (HX5.out.call k6); have HB6 := Lib.hid (HB5.out.trans (k6.mono HB5.out.size))
      have HW6 := Lib.hid hw6; have HB6E := Lib.hid hb6
      clear k5 k6 hw6 hb6 cl hcu hbl c0 c1 c2 c3 c4
      go_upto_region 8 with fail
      rw [HW6.out]
      (try rw [HB6E.out])
      have c0 := HN6.out.cell 0; have d0 := HA6.out.cell 0; have y0 := HA6.out.frozen 0
      have c1 := HN6.out.cell 1; have d1 := HA6.out.cell 1; have y1 := HA6.out.frozen 1
      have c2 := HN6.out.cell 2; have d2 := HA6.out.cell 2; have y2 := HA6.out.frozen 2
      have c3 := HN6.out.cell 3; have d3 := HA6.out.cell 3; have y3 := HA6.out.frozen 3
      have c4 := HN6.out.cell 4; have d4 := HA6.out.cell 4; have y4 := HA6.out.frozen 4
      simp only [basL, List.getElem?_cons_zero, List.getElem?_cons_succ] at c0 d0 c1 d1 c2 d2 c3 d3 c4 d4
      have cl := HN6.out.lt; have dl := HA6.out.lt
      have HQ := Lib.hid (show MadI size rows w hb (.int .i64 ((i : Int) + 1)) (((((w6.setCell ⟨hb, 0, none⟩ (.int .i64 b1)).setCell ⟨hb, 1, none⟩ (.int .i64 b2)).setCell ⟨hb, 2, none⟩ (.int .i64 b3)).setCell ⟨hb, 3, none⟩ (.int .i64 b4)).setCell ⟨hb, 4, none⟩ (.int .i64 b5)) from ⟨i + 1, by have := HN.out; omega, by first | rfl | go_num, by rw [HM'.out]; exact HA6.out.put5B _ _ _ _ _, (((((HX6.out.other (p := ⟨hb, 0, none⟩) (by have := HLB.out; dsimp only; omega) (.int .i64 b1)).other (p := ⟨hb, 1, none⟩) (by have := HLB.out; dsimp only; omega) (.int .i64 b2)).other (p := ⟨hb, 2, none⟩) (by have := HLB.out; dsimp only; omega) (.int .i64 b3)).other (p := ⟨hb, 3, none⟩) (by have := HLB.out; dsimp only; omega) (.int .i64 b4)).other (p := ⟨hb, 4, none⟩) (by have := HLB.out; dsimp only; omega) (.int .i64 b5)), Below.put5B HB6.out (Nat.le_of_lt HLB.out) _ _ _ _ _⟩)
      go_wp2
      go_roundw
      case rel => exact HQ.out
      case measure => simp [intOf]; omega
    · obtain rfl : i = n := by omega
      have hle : rows.take i = rows := List.take_of_length_le (by rw [HN.out]; exact Nat.le_refl _)
      rw [hle, HF.out] at hA
      have HA2 := Lib.hid hA
      have c0 := HA2.out.cell 0; have d0 := HX.out.cell 0; have y0 := HX.out.frozen 0
      have c1 := HA2.out.cell 1; have d1 := HX.out.cell 1; have y1 := HX.out.frozen 1
      have c2 := HA2.out.cell 2; have d2 := HX.out.cell 2; have y2 := HX.out.frozen 2
      have c3 := HA2.out.cell 3; have d3 := HX.out.cell 3; have y3 := HX.out.frozen 3
      have c4 := HA2.out.cell 4; have d4 := HX.out.cell 4; have y4 := HX.out.frozen 4
      simp only [basL, List.getElem?_cons_zero, List.getElem?_cons_succ] at c0 d0 c1 d1 c2 d2 c3 d3 c4 d4
      have cl := HA2.out.lt; have dl := HX.out.lt
      have HR := Lib.hid (HX.out.put5B (.int .i64 f1) (.int .i64 f2) (.int .i64 f3) (.int .i64 f4) (.int .i64 f5))
      have HRB := Lib.hid (Below.put5B HB.out (b := w.heap.size) (Nat.le_refl _) (.int .i64 f1) (.int .i64 f2) (.int .i64 f3) (.int .i64 f4) (.int .i64 f5))
      clear hA hX hB hi hle hlt
      go_wp2
      (try simp only [Exit.inBlock, Exit.then])
      exact bodyPost_ret (results_cell_tmp rfl rfl (loadBas HR.out)) rfl ⟨rfl, HRB.out⟩
end Go.Proofs.Ytfafkdbflmennaa
