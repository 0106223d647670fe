/- The reference's Rule, walked. -/
import Derived.Test.YtjonpcpcokapkaaNelE
namespace Go.Proofs.Ytjonpcpcokapkaa
open Go.RowKit

def SeenA (s : Seen) : Value := .agg #[.int .i64 s.n, .int .i64 s.a, .int .i64 s.b, .int .i64 s.last]
theorem RulJ.start {r : Nat} {m : Int} {all : List Seen} (wr : World) : RulJ r m all wr (.slice (some ⟨wr.heap.size, 0, none⟩) 0 0) (.int .i64 0) (wr.alloc (.cells #[] 64)) :=
  ⟨0, Nat.zero_le _, rfl, RowS.made wr, (Below.refl _ _).alloc (Nat.le_refl _) _⟩
theorem RulK.start {r : Nat} {s : Seen} {M0 : List Seen} {cs : List Int} {W1 wr w5 w6 : World} {cv mv : Value} {bx : Nat} (h1 : RowS W1.heap.size mv M0 wr) (h2 : Below W1.heap.size W1 wr) (h5 : Below wr.heap.size wr w5) (hx : Has w5 bx [.int .i64 s.n, .int .i64 s.a, .int .i64 s.b, .int .i64 s.last] 64) (hbx : wr.heap.size ≤ bx)
    (h6 : Below w5.heap.size w5 w6) (hc : IRow w5.heap.size cv cs w6) : RulK r s M0 cs W1 cv bx mv (.int .i64 0) w6 := by
  refine ⟨0, Nat.zero_le _, rfl, (h1.below h5).below h6, hc.reads, hx.call h6, (h2.trans (h5.mono h2.size)).trans (h6.mono (Nat.le_trans h2.size h5.size)), fun b hb => ?_⟩
  have hlt := World.ownsRow.lt h1 b hb
  have hs := h5.size
  refine ⟨fun hv => ?_, by omega⟩
  have := World.ownsRow.lt hc b hv
  omega
def RulL (r : Nat) (all : List Seen) (W1 : World) (yv jv : Value) (wr : World) : Prop :=
  ∃ j : Nat, j ≤ all.length ∧ yv = .int .i64 ((all.take j).countP (holdsN r) : Nat) ∧ jv = .int .i64 (j : Nat) ∧ Below W1.heap.size W1 wr
set_option linter.unusedSimpArgs false in
set_option linter.unusedVariables false in
set_option maxHeartbeats 16000000 in
set_option maxRecDepth 100000 in
theorem rule14_core (r : Nat) (hr1 : 1 ≤ r) (hr8 : r ≤ 8) (ms : List Int) (q T : Nat) (A : Int) (hq : longN r = q) (h15 : ms.length ≤ 15) (hA : tellG (holdsN r) (allN r [seen0] (ms.drop (ms.length - q))) = A) (hql : q ≤ ms.length)
    (ao : Option Addr) (n cap : Nat) (hn : ms.length = n) (w : World) (hrd : ReadsI w (.slice ao n cap) ms) :
    Calls Try.prog 30 #[.int .i64 (r : Nat), .slice ao n cap] w fun e w' => e = .returned (.int .i64 A) ∧ Below w.heap.size w w' := by
  have hlg := long14_any r hr1 hr8 w
  rw [hq] at hlg
  have hnx := fun (k : Nat) (hk : k ≤ 15) (s : Seen) (hs : StB k s) (c : Int) (W : World) => next14_any r hr1 hr8 k hk s hs c W
  have hho := fun (s : Seen) (W : World) => holds14_any r hr1 hr8 s W
  have hcap : n ≤ cap := by
    obtain ⟨ao', cap', e, h2, _⟩ := hrd
    injection e with e1 e2 e3
    omega
  obtain ⟨ao2, hsl, hrd2⟩ := slice_lo ao n cap (n - q) (by omega) hcap
  have hrd3 := hrd2 w ms hrd
  rw [show n - (n - q) = q by omega] at hrd3
  have hsl2 : ∀ W, (Instr.slice 22 (.slice ao n cap) (some (.int .i64 ((n : Int) - (q : Int)))) none none).run Try.prog W = .ok (.slice ao2 q (cap - (n - q))) W := fun W => by
    have := hsl W
    rw [show n - (n - q) = q by omega, show ((n - q : Nat) : Int) = (n : Int) - (q : Int) by omega] at this
    exact this
  obtain ⟨l, hl⟩ : ∃ l, ms.drop (n - q) = l := ⟨_, rfl⟩
  rw [hn] at hA
  rw [hl] at hA hrd3
  have hll : l.length = q := by rw [← hl, List.length_drop, hn]; omega
  obtain ⟨cap2, hcap2⟩ : ∃ c, cap - (n - q) = c := ⟨_, rfl⟩
  rw [hcap2] at hsl2 hrd3
  have HLG := Lib.hid hlg; have HNX := Lib.hid hnx; have HHO := Lib.hid hho; have HSL := Lib.hid hsl2; have HRD := Lib.hid hrd3; have HA := Lib.hid hA; have HLL := Lib.hid hll
  have g0 : ¬ (n : Int) < (q : Int) := by omega
  have hq15 : q ≤ 15 := by omega
  have hn15 : n ≤ 15 := by omega
  have HQ15 := Lib.hid hq15
  clear hlg hnx hho hsl hsl2 hrd hrd2 hrd3 hA hll hl hr1 hr8 hq h15 hcap hcap2 hn
  go_enter Try.func30, Try.ntmps30
  go_wp2_with fail
  refine HLG.out.mono ?_
  rintro e w1 ⟨rfl, k1⟩
  have HB1 := Lib.hid k1
  have HRD1 := Lib.hid (HRD.out.below k1)
  clear k1
  go_upto_region 5 with fail
  obtain ⟨D22, hD22⟩ : ∃ D, decide ((n : Int) < (q : Int)) = D := ⟨_, rfl⟩
  have hD23 : decide (n < q) = D22 := by rw [← hD22]; exact decide_eq_decide.2 (by omega)
  first | rw [hD22] | rw [hD23]
  clear g0 hD22 hD23
  obtain ⟨w2, hw2⟩ : ∃ w2, w1.alloc (.cells #[.int .i64 0, .int .i64 0, .int .i64 0, .int .i64 0] 64) = w2 := ⟨_, rfl⟩
  have k2 : Below w1.heap.size w1 w2 := by rw [← hw2]; exact (Below.refl _ _).alloc (Nat.le_refl _) _
  have hrow : RowS w1.heap.size (.slice (some ⟨w1.heap.size, 0, none⟩) 1 1) [seen0] w2 := by rw [← hw2]; exact RowS.zero w1
  have HST := Lib.hid (show RulI r w l (.slice ao2 q cap2) (.slice (some ⟨w1.heap.size, 0, none⟩) 1 1) (.int .i64 0) w2 from ⟨0, Nat.zero_le _, rfl, hrow.mono HB1.out.size, HRD1.out.below k2, HB1.out.trans (k2.mono HB1.out.size)⟩)
  have HW2 := Lib.hid hw2
  clear k2 hrow hw2
  rw [HW2.out]
  have hsl := HSL.out
  have hwq : wrap64 ((n : Int) - (q : Int)) = (n : Int) - (q : Int) := by unfold wrap64; omega
  go_wp2
  clear hsl hwq
  go_loopw [6, 32] (RulI r w l (.slice ao2 q cap2)) (fun _ i _ => q - (intOf i).toNat)
  case atStart => exact HST.out
  case round =>
    obtain ⟨i, hi, rfl, hrow, hrd, hb⟩ := hrel
    obtain ⟨aoA, capA, hav⟩ := hrow.shape
    subst hav
    have hfew : (allN r [seen0] (l.take i)).length ≤ 2304 := all_few r (l.take i) (by rw [List.length_take]; have := HLL.out; have := HQ15.out; omega)
    have hbnd := all_bounds r (l.take i)
    rw [List.length_take, Nat.min_eq_left hi] at hbnd
    obtain ⟨all, hall⟩ : ∃ all, allN r [seen0] (l.take i) = all := ⟨_, rfl⟩
    rw [hall] at hrow hfew hbnd ⊢
    obtain ⟨mA, hmA⟩ : ∃ mA, all.length = mA := ⟨_, rfl⟩
    rw [hmA] at hrow hfew ⊢
    have HALL := Lib.hid hall; have HMA := Lib.hid hmA; have HBND := Lib.hid hbnd; have HROW := Lib.hid hrow; have HRD2 := Lib.hid hrd; have HB := Lib.hid hb
    have HI := Lib.hid hi
    by_cases hl : i < q
    · have hll := HLL.out
      obtain ⟨m, hm⟩ : ∃ m, l[i]? = some m := ⟨_, List.getElem?_eq_getElem (by omega)⟩
      obtain ⟨bm, om, hao, hbl, hcm⟩ := hrd.spot hm
      subst hao
      have HM := Lib.hid hm
      have hiz : (i : Int) < (q : Int) := by omega
      have hix : 0 ≤ (i : Int) ∧ (i : Int) < (q : Int) := by omega
      have hiq : i + 1 ≤ 15 := by omega
      have HIQ := Lib.hid hiq
      clear hall hmA hbnd hrow hrd hb hi hll hm hiq hl
      go_upto_region 9 with fail
      clear hcm hbl
      obtain ⟨W1, hW1⟩ : ∃ W : World, W = wr := ⟨_, rfl⟩
      rw [← hW1] at HROW HRD2 HB ⊢
      clear hW1
      obtain ⟨w3, hw3⟩ : ∃ w3, W1.alloc (.cells #[] 64) = w3 := ⟨_, rfl⟩
      have HJ := Lib.hid (show RulJ r m all W1 (.slice (some ⟨W1.heap.size, 0, none⟩) 0 0) (.int .i64 0) w3 by rw [← hw3]; exact RulJ.start W1)
      have HW3 := Lib.hid hw3
      clear hw3
      rw [HW3.out]
      go_wp2
      go_loopw [9, 39] (RulJ r m all W1) (fun _ j _ => mA - (intOf j).toNat)
      case atStart => exact HJ.out
      case round =>
        obtain ⟨j, hj, rfl, hrowM, hbM⟩ := hrel
        have HROWM := Lib.hid hrowM; have HBM := Lib.hid hbM
        rw [HMA.out] at hj
        by_cases hlj : j < mA
        · obtain ⟨s, hs⟩ : ∃ s, all[j]? = some s := ⟨_, List.getElem?_eq_getElem (by rw [HMA.out]; exact hlj)⟩
          have hra : RowS w.heap.size (.slice aoA mA capA) all wr := HROW.out.below hbM
          obtain ⟨gA, capA', hv, hgl, p0, p1, p2, p3⟩ := hra.at hs
          injection hv with hv1 hv2 hv3
          subst hv1 hv3
          have HS := Lib.hid hs
          clear hrowM hbM hs hv2 hra hj
          have hjz : (j : Int) < (mA : Int) := by omega
          have hjx : 0 ≤ (j : Int) ∧ (j : Int) < (mA : Int) := by omega
          clear hlj
          obtain ⟨bx, hbx⟩ : ∃ b, wr.heap.size = b := ⟨_, rfl⟩
          obtain ⟨w5, hw5⟩ : ∃ w5, wr.alloc (.cells #[.int .i64 s.n, .int .i64 s.a, .int .i64 s.b, .int .i64 s.last] 64) = w5 := ⟨_, rfl⟩
          have HK5 := Lib.hid (show Below wr.heap.size wr w5 by rw [← hw5]; exact (Below.refl _ _).alloc (Nat.le_refl _) _)
          have HX5 := Lib.hid (show Has w5 bx [.int .i64 s.n, .int .i64 s.a, .int .i64 s.b, .int .i64 s.last] 64 by rw [← hw5, ← hbx]; exact Has.new wr _ _)
          have HW5 := Lib.hid hw5
          have HBX := Lib.hid hbx
          clear hw5 hbx
          go_upto_region 12 with fail
          rw [HW5.out]
          try rw [HBX.out]
          clear p0 p1 p2 p3 hgl hjz hjx
          go_wp2_with fail
          refine (rclasses13_any m _).mono ?_
          rintro e w6 ⟨cv, rfl, hcv, k6⟩
          have HK := Lib.hid (RulK.start (r := r) HROWM.out HBM.out HK5.out HX5.out (by have := HBX.out; omega) k6 hcv)
          obtain ⟨aoC, capC, hcve⟩ := hcv.reads.shape
          subst hcve
          obtain ⟨nC, hnC⟩ : ∃ n, (classesN m).length = n := ⟨_, rfl⟩
          have hn9 := classes_len m
          rw [hnC] at hn9 HK ⊢
          have HNC := Lib.hid hnC
          clear hcv k6 hnC
          go_wp2
          obtain ⟨wr2, hwr2⟩ : ∃ W : World, W = wr := ⟨_, rfl⟩
          rw [← hwr2] at HROWM HBM HW5 HBX HK5
          clear hwr2
          go_loopw [9, 46] (RulK r s (midN r m [] (all.take j)) (classesN m) W1 (.slice aoC nC capC) bx) (fun _ k _ => nC - (intOf k).toNat)
          case atStart => exact HK.out
          case round =>
            obtain ⟨k, hk, rfl, h1, h2, h3, h4, h5⟩ := hrel
            obtain ⟨aoM, capM, hmv⟩ := h1.shape
            subst hmv
            rw [HNC.out] at hk
            by_cases hlk : k < nC
            · obtain ⟨c, hc⟩ : ∃ c, (classesN m)[k]? = some c := ⟨_, List.getElem?_eq_getElem (by rw [HNC.out]; exact hlk)⟩
              obtain ⟨bc, oc, hao, hcl, hcc⟩ := h2.spot hc
              subst hao
              have hfw := inter_few r i all HBND.out HIQ.out m j k s (List.mem_of_getElem? HS.out)
              have hnx := HNX.out i (by have := HIQ.out; omega) s (HBND.out s (List.mem_of_getElem? HS.out)) c wr
              have hstep := fun w8 w9 v' => RulK.step (w8 := w8) (w9 := w9) (v' := v') (by rw [HNC.out]; exact hlk) hc h1 h2 h3 h4 h5
              have hsz4 := h4.size
              have hadd := fun (w8 : World) (k8 : Below wr.heap.size wr w8) => add14_any W1.heap.size aoM _ capM _ (nextN r s c) w8 (by omega) rfl (Nat.le_trans hsz4 k8.size) (h1.below k8)
              have HSTEP := Lib.hid hstep; have HADD := Lib.hid hadd; have HNX1 := Lib.hid hnx
              have b0 := h3.cell 0; have b1 := h3.cell 1; have b2 := h3.cell 2; have b3 := h3.cell 3
              simp only [List.getElem?_cons_zero, List.getElem?_cons_succ] at b0 b1 b2 b3
              have bl := h3.lt
              obtain ⟨mM, hmM⟩ : ∃ n, (innerN r s (midN r m [] (all.take j)) ((classesN m).take k)).length = n := ⟨_, rfl⟩
              rw [hmM] at HSTEP HADD hfw ⊢
              have hkz : (k : Int) < (nC : Int) := by omega
              have hkx : 0 ≤ (k : Int) ∧ (k : Int) < (nC : Int) := by omega
              clear hk hc h1 h2 h3 h4 h5 hfw hnx hstep hadd hsz4 hmM hlk
              go_wp2_with fail
              refine HNX1.out.mono ?_
              rintro e w8 ⟨rfl, k8⟩
              have HK8 := Lib.hid k8
              clear k8 b0 b1 b2 b3 bl hcc hcl
              go_wp2_with fail
              refine (HADD.out w8 HK8.out).mono ?_
              rintro e w9 ⟨v', rfl, h6, h7⟩
              have HQ := Lib.hid (HSTEP.out w8 w9 v' HK8.out h6 h7)
              clear h6 h7
              go_wp2
              go_roundw
              case rel => exact HQ.out
              case measure => simp [intOf]; omega
            · obtain rfl : k = nC := by omega
              have HQ := Lib.hid (show RulJ r m all W1 (.slice aoM (innerN r s (midN r m [] (all.take j)) ((classesN m).take k)).length capM) (.int .i64 ((j : Int) + 1)) wr from ⟨j + 1, by
                have : j < all.length := (List.getElem?_eq_some_iff.1 HS.out).1
                omega, by first | rfl | go_num, by
                have e : all.take (j + 1) = all.take j ++ [s] := by rw [List.take_add_one, HS.out]; rfl
                have e2 : (classesN m).take k = classesN m := List.take_of_length_le (by rw [HNC.out]; exact Nat.le_refl _)
                rw [e, midN_snoc]
                rw [e2] at h1 ⊢
                exact h1, h4⟩)
              have hjm : j < mA := by rw [← HMA.out]; exact (List.getElem?_eq_some_iff.1 HS.out).1
              have hmf : mA ≤ 2304 := hfew
              obtain ⟨mM, hmM⟩ : ∃ n, (innerN r s (midN r m [] (all.take j)) ((classesN m).take k)).length = n := ⟨_, rfl⟩
              rw [hmM] at HQ ⊢
              clear h1 h2 h3 h4 h5 hk hlk hmM
              go_wp2
              go_roundw
              case rel => exact HQ.out
              case measure => simp [intOf]; omega
        · obtain rfl : j = mA := by omega
          obtain ⟨aoM, capM, hmv⟩ := hrowM.shape
          subst hmv
          have HQ := Lib.hid (show RulI r w l (.slice (some ⟨bm, om, none⟩) q cap2) (.slice aoM (midN r m [] (all.take j)).length capM) (.int .i64 ((i : Int) + 1)) wr from ⟨i + 1, by have := HLL.out; omega, by first | rfl | go_num, by
            have e : l.take (i + 1) = l.take i ++ [m] := by rw [List.take_add_one, HM.out]; rfl
            have e2 : all.take j = all := List.take_of_length_le (by rw [HMA.out]; exact Nat.le_refl _)
            rw [e, allN_snoc, HALL.out]
            rw [e2] at hrowM ⊢
            exact hrowM.mono HB.out.size, HRD2.out.below hbM, HB.out.trans (hbM.mono HB.out.size)⟩)
          obtain ⟨mM, hmM⟩ : ∃ n, (midN r m [] (all.take j)).length = n := ⟨_, rfl⟩
          rw [hmM] at HQ ⊢
          clear hrowM hbM hmM hlj hj
          go_wp2
          go_roundw
          case rel => exact HQ.out
          case measure => simp [intOf]; omega
    · obtain rfl : i = q := by have := HLL.out; omega
      have hle : l.take i = l := List.take_of_length_le (by rw [HLL.out]; exact Nat.le_refl _)
      have hta : tellG (holdsN r) all = A := by rw [← hall, hle]; exact HA.out
      rw [tellG_count, hmA] at hta
      have HTA := Lib.hid hta
      clear hall hmA hbnd hrow hrd hi hle hta hl
      obtain ⟨W1, hW1⟩ : ∃ W : World, W = wr := ⟨_, rfl⟩
      rw [← hW1] at HROW HB hb ⊢
      clear hW1 HRD2
      have HST4 := Lib.hid (show RulL r all W1 (.int .i64 0) (.int .i64 0) W1 from ⟨0, Nat.zero_le _, rfl, rfl, Below.refl _ _⟩)
      clear hb
      go_wp2
      go_loopw [14, 62] (RulL r all W1) (fun _ j _ => mA - (intOf j).toNat)
      case atStart => exact HST4.out
      case round =>
        obtain ⟨j, hj, rfl, rfl, hbL⟩ := hrel
        rw [HMA.out] at hj
        have hcl : (all.take j).countP (holdsN r) ≤ 2304 := Nat.le_trans List.countP_le_length (by rw [List.length_take, HMA.out]; omega)
        have HBL := Lib.hid hbL
        by_cases hlj : j < mA
        · obtain ⟨s, hs⟩ : ∃ s, all[j]? = some s := ⟨_, List.getElem?_eq_getElem (by rw [HMA.out]; exact hlj)⟩
          have hra : RowS w.heap.size (.slice aoA mA capA) all wr := HROW.out.below hbL
          obtain ⟨gA, capA', hv, hgl, p0, p1, p2, p3⟩ := hra.at hs
          injection hv with hv1 hv2 hv3
          subst hv1 hv3
          have hcn : (all.take (j + 1)).countP (holdsN r) = (all.take j).countP (holdsN r) + (if holdsN r s then 1 else 0) := by
            rw [List.take_add_one, hs, List.countP_append]
            show _ + List.countP (holdsN r) [s] = _
            rw [List.countP_singleton]
          have HCN := Lib.hid hcn
          have HHS := Lib.hid (fun W => HHO.out s W)
          obtain ⟨y, hy⟩ : ∃ y, (all.take j).countP (holdsN r) = y := ⟨_, rfl⟩
          rw [hy] at HCN hcl ⊢
          clear hbL hs hv2 hra hj hcn hy
          have hjz : (j : Int) < (mA : Int) := by omega
          have hjx : 0 ≤ (j : Int) ∧ (j : Int) < (mA : Int) := by omega
          obtain ⟨bx, hbx⟩ : ∃ b, wr.heap.size = b := ⟨_, rfl⟩
          obtain ⟨w5, hw5⟩ : ∃ w5, wr.alloc (.cells #[.int .i64 s.n, .int .i64 s.a, .int .i64 s.b, .int .i64 s.last] 64) = w5 := ⟨_, rfl⟩
          have k5 : Below wr.heap.size wr w5 := by rw [← hw5]; exact (Below.refl _ _).alloc (Nat.le_refl _) _
          have HX5 := Lib.hid (show Has w5 bx [.int .i64 s.n, .int .i64 s.a, .int .i64 s.b, .int .i64 s.last] 64 by rw [← hw5, ← hbx]; exact Has.new wr _ _)
          have HB5 := Lib.hid (HBL.out.trans (k5.mono HBL.out.size))
          have HW5 := Lib.hid hw5
          have HBX := Lib.hid hbx
          clear hw5 hbx k5
          go_upto_region 24 with fail
          rw [HW5.out]
          try rw [HBX.out]
          clear p0 p1 p2 p3 hgl hjz hjx
          have b0 := HX5.out.cell 0; have b1 := HX5.out.cell 1; have b2 := HX5.out.cell 2; have b3 := HX5.out.cell 3
          simp only [List.getElem?_cons_zero, List.getElem?_cons_succ] at b0 b1 b2 b3
          have bl := HX5.out.lt
          go_wp2_with fail
          refine (HHS.out _).mono ?_
          rintro e w6 ⟨rfl, k6⟩
          have HB6 := Lib.hid (HB5.out.trans (k6.mono HB5.out.size))
          clear k6 b0 b1 b2 b3 bl
          have HQ := Lib.hid (show ∀ u : Int, u = (((all.take (j + 1)).countP (holdsN r) : Nat) : Int) → RulL r all W1 (.int .i64 u) (.int .i64 ((j : Int) + 1)) w6 from fun u hu => ⟨j + 1, by rw [HMA.out]; omega, by rw [hu], by first | rfl | go_num, HB6.out⟩)
          cases hX : holdsN r s with
          | true =>
            have HU := Lib.hid (show (y : Int) + 1 = (((all.take (j + 1)).countP (holdsN r) : Nat) : Int) by rw [HCN.out, hX, if_pos rfl]; rfl)
            clear hX
            go_wp2
            go_roundw
            case rel => exact HQ.out _ HU.out
            case measure => simp [intOf]; omega
          | false =>
            have HU := Lib.hid (show (y : Int) = (((all.take (j + 1)).countP (holdsN r) : Nat) : Int) by rw [HCN.out, hX]; rfl)
            clear hX
            go_wp2
            go_roundw
            case rel => exact HQ.out _ HU.out
            case measure => simp [intOf]; omega
        · obtain rfl : j = mA := by omega
          have hta := HTA.out
          have e2 : all.take j = all := List.take_of_length_le (by rw [HMA.out]; exact Nat.le_refl _)
          rw [e2] at hcl ⊢
          obtain ⟨y, hy⟩ : ∃ y, all.countP (holdsN r) = y := ⟨_, rfl⟩
          rw [hy] at hta hcl ⊢
          have HBF := Lib.hid (HB.out.trans (hbL.mono HB.out.size))
          clear e2 hy hbL hj hlj
          by_cases y0 : y = 0
          · rw [if_pos y0] at hta
            subst y0
            have HF := Lib.hid hta
            clear hta hcl
            go_wp2
            go_ret
            exact ⟨by rw [← HF.out]; rfl, HBF.out⟩
          · rw [if_neg y0] at hta
            have yz : ((y : Int) == 0) = false := beq_false_of_ne (by omega)
            by_cases y1 : y < j
            · rw [if_pos y1] at hta
              have HF := Lib.hid hta
              have yj : (y : Int) < (j : Int) := by omega
              clear hta y0 y1 hcl
              go_wp2
              go_ret
              exact ⟨by rw [← HF.out]; rfl, HBF.out⟩
            · rw [if_neg y1] at hta
              have HF := Lib.hid hta
              have yj : ¬ (y : Int) < (j : Int) := by omega
              clear hta y0 y1 hcl
              go_wp2
              go_ret
              exact ⟨by rw [← HF.out]; rfl, HBF.out⟩
theorem rule14_any (r : Nat) (hr1 : 1 ≤ r) (hr8 : r ≤ 8) (ms : List Int) (h15 : ms.length ≤ 15) (v : Value) (w : World) (hrd : ReadsI w v ms) :
    Calls Try.prog 30 #[.int .i64 (r : Nat), v] w fun e w' => e = .returned (.int .i64 (tellN r ms)) ∧ Below w.heap.size w w' := by
  obtain ⟨ao, cap, rfl⟩ := hrd.shape
  obtain ⟨q, hq⟩ : ∃ q, longN r = q := ⟨_, rfl⟩
  by_cases h : q ≤ ms.length
  · refine rule14_core r hr1 hr8 ms q 0 _ hq h15 ?_ h ao _ cap rfl w hrd
    unfold tellN
    rw [hq, if_neg (by omega)]
    exact tell_states r _
  · have hlg := long14_any r hr1 hr8 w
    rw [hq] at hlg
    have ht : tellN r ms = 0 := by unfold tellN; rw [hq, if_pos (by omega)]
    rw [ht]
    obtain ⟨n, hn⟩ : ∃ n, ms.length = n := ⟨_, rfl⟩
    rw [hn] at h ⊢
    have g0 : (n : Int) < (q : Int) := by omega
    have hn15 : n ≤ 15 := by omega
    clear ht hq hrd hn h15 h
    go_enter Try.func30, Try.ntmps30
    go_wp2_with fail
    refine hlg.mono ?_
    rintro e w1 ⟨rfl, k1⟩
    go_wp2
    go_ret
    exact ⟨rfl, k1⟩
end Go.Proofs.Ytjonpcpcokapkaa
