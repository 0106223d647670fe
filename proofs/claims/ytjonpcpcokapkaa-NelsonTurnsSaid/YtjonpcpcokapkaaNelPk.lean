/- nelson's follow. -/
import Derived.Test.YtjonpcpcokapkaaNelPj
namespace Go.Proofs.Ytjonpcpcokapkaa
open Go.RowKit

set_option linter.unusedSimpArgs false in
set_option linter.unusedVariables false in
set_option maxHeartbeats 16000000 in
set_option maxRecDepth 100000 in
theorem follow_core (r : Nat) (K : FuncId) (hK : RuleC r K) (pts : List (List Int)) (hok : ∀ cs ∈ pts, okC cs) (hlen : ∀ cs ∈ pts, cs.length ≤ 100000) (h15 : pts.length ≤ 15) (ao : Option Addr) (n cap : Nat) (hn : pts.length = n) (A : Int) (hA : followN r pts = A) (w : World) (hrd : ReadsR w (.slice ao n cap) pts) :
    Calls Try.prog 41 #[.slice ao n cap, .func (.func K) #[] #[]] w fun e w' => e = .returned (.int .i64 A) ∧ Below w.heap.size w w' := by
  have heg := hK.eg
  have HRUN := Lib.hid hK.run
  have HOK := Lib.hid hok; have HLEN := Lib.hid hlen; have HRD := Lib.hid hrd; have HN := Lib.hid hn; have HA := Lib.hid hA
  have hn15 : n ≤ 15 := by omega
  have HN15 := Lib.hid hn15
  obtain ⟨w2, hw2⟩ : ∃ w2, w.alloc (.cells #[.bool false, .int .i64 0, .int .i64 0, .int .i64 0, .int .i64 0, .int .i64 0] 55) = w2 := ⟨_, rfl⟩
  have hrow : RowP w.heap.size (.slice (some ⟨w.heap.size, 0, none⟩) 1 1) [past0] w2 := by rw [← hw2]; exact RowP.zero w
  have HST := Lib.hid (show FolI r w pts (.slice (some ⟨w.heap.size, 0, none⟩) 1 1) (.bool true) (.int .i64 0) w2 from ⟨0, Nat.zero_le _, rfl, rfl, hrow, by rw [← hw2]; exact (Below.refl _ _).alloc (Nat.le_refl _) _⟩)
  have HW2 := Lib.hid hw2
  clear hK hok hlen h15 hn hA hrd hw2 hrow
  go_enter Try.func41, Try.ntmps41
  go_upto_region 2 with fail
  rw [HW2.out]
  go_wp2
  go_loopw [5, 6, 20] (FolI r w pts) (fun _ _ i _ => n - (intOf i).toNat)
  case atStart => exact HST.out
  case round =>
    obtain ⟨i, hi, rfl, rfl, hrow, hb⟩ := hrel
    obtain ⟨aoA, capA, hav⟩ := hrow.shape
    subst hav
    rw [HN.out] at hi
    have hokt : ∀ cs ∈ pts.take i, okC cs := fun cs hcs => HOK.out cs (List.mem_of_mem_take hcs)
    have hfew := start_few r hokt (by rw [List.length_take, HN.out]; omega)
    have hbnd := start_bounds r hokt
    rw [List.length_take, HN.out, Nat.min_eq_left hi] at hbnd
    obtain ⟨X, hX⟩ : ∃ X, allP r startP (pts.take i) = X := ⟨_, rfl⟩
    rw [hX] at hrow hfew hbnd ⊢
    obtain ⟨all, b0⟩ := X
    dsimp only at hrow hfew hbnd ⊢
    obtain ⟨mA, hmA⟩ : ∃ mA, all.length = mA := ⟨_, rfl⟩
    rw [hmA] at hrow hfew ⊢
    have HX := Lib.hid hX; have HMA := Lib.hid hmA; have HBND := Lib.hid hbnd; have HROW := Lib.hid hrow; have HB := Lib.hid hb; have HI := Lib.hid hi
    by_cases hl : i < n
    · obtain ⟨cs, hcs⟩ : ∃ cs, pts[i]? = some cs := ⟨_, List.getElem?_eq_getElem (by rw [HN.out]; exact hl)⟩
      have hrd := HRD.out.below hb
      obtain ⟨bm, om, cv, hao, hbl, hcm, hcv⟩ := hrd.spot hcs
      have hcv0 := hcv
      obtain ⟨aoC, capC, hcve⟩ := hcv.shape
      subst hao hcve
      have HCS := Lib.hid hcs
      have hokc : okC cs := HOK.out cs (List.mem_of_getElem? hcs)
      have hlc : cs.length ≤ 100000 := HLEN.out cs (List.mem_of_getElem? hcs)
      obtain ⟨nC, hnC⟩ : ∃ n, cs.length = n := ⟨_, rfl⟩
      rw [hnC] at hcm hcv hlc
      have HNC := Lib.hid hnC; have HOKC := Lib.hid hokc; have HCV := Lib.hid hcv
      have hiz : (i : Int) < (n : Int) := by omega
      have hix : 0 ≤ (i : Int) ∧ (i : Int) < (n : Int) := by omega
      have hi15 : i + 1 ≤ 15 := by omega
      have HI15 := Lib.hid hi15
      obtain ⟨W1, hW1⟩ : ∃ W : World, W = wr := ⟨_, rfl⟩
      have HJ := Lib.hid (show FolJ r cs b0 all W1 (.bool b0) (.slice none 0 0) (.int .i64 0) W1 from ⟨0, Nat.zero_le _, rfl, rfl, RowP.nil _ _, Below.refl _ _⟩)
      rw [← hW1] at hcm hbl HROW HB HCV ⊢
      clear hX hmA hbnd hrow hb hi hl hcs hrd hcv hcv0 hokc hnC hW1 hi15
      go_wp2
      clear hcm hbl hiz hix
      go_loopw [6, 9, 26] (FolJ r cs b0 all W1) (fun _ _ j _ => mA - (intOf j).toNat)
      case atStart => exact HJ.out
      case round =>
        obtain ⟨j, hj, rfl, rfl, hrowM, hbM⟩ := hrel
        obtain ⟨aoM, capM, hmv⟩ := hrowM.shape
        subst hmv
        rw [HMA.out] at hj
        have HROWM := Lib.hid hrowM; have HBM := Lib.hid hbM
        by_cases hlj : j < mA
        · obtain ⟨p, hp⟩ : ∃ p, all[j]? = some p := ⟨_, List.getElem?_eq_getElem (by rw [HMA.out]; exact hlj)⟩
          have hra : RowP w.heap.size (.slice aoA mA capA) all wr := HROW.out.below hbM
          obtain ⟨gA, capA', hv, hgl, p0, p1, p2, p3, p4, p5⟩ := hra.at hp
          injection hv with hv1 hv2 hv3
          subst hv1 hv3
          have HP := Lib.hid hp
          obtain ⟨X0, hX0⟩ : ∃ X0, midP r cs ([], b0) (all.take j) = X0 := ⟨_, rfl⟩
          have HX0 := Lib.hid hX0
          have hjz : (j : Int) < (mA : Int) := by omega
          have hjx : 0 ≤ (j : Int) ∧ (j : Int) < (mA : Int) := by omega
          obtain ⟨bx, hbx⟩ : ∃ b, wr.heap.size = b := ⟨_, rfl⟩
          obtain ⟨w5, hw5⟩ : ∃ w5, wr.alloc (.cells #[.bool p.begun, .int .i64 p.cls, .int .i64 p.step, .int .i64 p.side, .int .i64 p.na, .int .i64 p.nb] 55) = w5 := ⟨_, rfl⟩
          have h5 : Below wr.heap.size wr w5 := by rw [← hw5]; exact (Below.refl _ _).alloc (Nat.le_refl _) _
          have hx5 : Has w5 bx (pastV p) 55 := by rw [← hw5, ← hbx]; exact Has.new wr _ _
          rw [hX0] at hrowM ⊢
          have HK := Lib.hid (show FolK r p X0 cs W1 bx (.bool X0.2) (.slice aoM X0.1.length capM) (.int .i64 0) w5 from FolK.start hrowM hbM h5 hx5 (by omega))
          have HW5 := Lib.hid hw5; have HBX := Lib.hid hbx
          clear hrowM hbM hp hv2 hra hj hlj hX0 hw5 h5 hx5 hbx
          obtain ⟨S0, hS0⟩ : ∃ S, X0.2 = S := ⟨_, rfl⟩
          rw [hS0] at HK ⊢
          obtain ⟨mM0, hmM0⟩ : ∃ m, X0.1.length = m := ⟨_, rfl⟩
          rw [hmM0] at HK ⊢
          clear hS0 hmM0
          go_upto_region 9 with fail
          rw [HW5.out]
          (try rw [HBX.out])
          clear p0 p1 p2 p3 p4 p5 hgl hjz hjx
          go_wp2
          obtain ⟨wr2, hwr2⟩ : ∃ W : World, W = wr := ⟨_, rfl⟩
          rw [← hwr2] at HROWM HBM HW5 HBX
          clear hwr2
          go_loopw [6, 9, 32] (FolK r p X0 cs W1 bx) (fun _ _ k _ => nC - (intOf k).toNat)
          case atStart => exact HK.out
          case round =>
            obtain ⟨k, hk, rfl, rfl, h1, h3, h4, h5⟩ := hrel
            obtain ⟨aoN, capN, hmv2⟩ := h1.shape
            subst hmv2
            rw [HNC.out] at hk
            by_cases hlk : k < nC
            · obtain ⟨c, hc⟩ : ∃ c, cs[k]? = some c := ⟨_, List.getElem?_eq_getElem (by rw [HNC.out]; exact hlk)⟩
              have hcv := HCV.out.below h4
              obtain ⟨bc, oc, hao2, hcl, hcc⟩ := hcv.spot hc
              subst hao2
              have hpm : p ∈ all := List.mem_of_getElem? HP.out
              have hfw := interP_few r i b0 HBND.out HI15.out HOKC.out j k hpm
              rw [HX0.out] at hfw
              have hrl := HRUN.out c (HOKC.out c (List.mem_of_getElem? hc)) p ((HBND.out p hpm).mono (by have := HI15.out; omega)) wr
              have hlkc : k < cs.length := by rw [HNC.out]; exact hlk
              have hstay := fun (w8 : World) (S : Bool) (k8 : Below wr.heap.size wr w8) (hL : _ = _) (hS : _ = S) => FolK.stay hlkc hc h1 h3 h4 h5 k8 hL hS
              have hgrow := fun (w8 w9 : World) (v' : Value) (S : Bool) (k8 : Below wr.heap.size wr w8) (h6 : RowP W1.heap.size v' _ w9) (h7 : Grew w8 w9 _ v') (hS : _ = S) => FolK.grow hlkc hc h1 h3 h4 h5 k8 h6 h7 hS
              have hsz4 := h4.size
              have hbase := fun (w8 : World) (k8 : Below wr.heap.size wr w8) => h1.below k8
              obtain ⟨Y, hY⟩ : ∃ Y, innerP r p X0 (cs.take k) = Y := ⟨_, rfl⟩
              rw [hY] at hfw hstay hgrow hbase h1 ⊢
              obtain ⟨L, S0⟩ := Y
              dsimp only at hfw hstay hgrow hbase h1 ⊢
              unfold stepP at hstay hgrow
              dsimp only at hstay hgrow
              obtain ⟨q, hq⟩ : ∃ q, pastN r c p = q := ⟨_, rfl⟩
              obtain ⟨g, hg⟩ : ∃ g, goesN r c p = g := ⟨_, rfl⟩
              rw [hq] at hrl hstay hgrow
              rw [hg] at hrl hstay hgrow
              obtain ⟨mM, hmM⟩ : ∃ n, L.length = n := ⟨_, rfl⟩
              rw [hmM] at hfw hstay hgrow hbase h1 ⊢
              have HSTAY := Lib.hid hstay; have HGROW := Lib.hid hgrow; have HRL := Lib.hid hrl; have HBASE := Lib.hid hbase; have HMM := Lib.hid hmM; have HSZ4 := Lib.hid hsz4
              have b0 := h3.cell 0; have b1 := h3.cell 1; have b2 := h3.cell 2; have b3 := h3.cell 3; have b4 := h3.cell 4; have b5 := h3.cell 5
              simp only [pastV, List.getElem?_cons_zero, List.getElem?_cons_succ] at b0 b1 b2 b3 b4 b5
              have bl := h3.lt
              have hkz : (k : Int) < (nC : Int) := by omega
              have hkx : 0 ≤ (k : Int) ∧ (k : Int) < (nC : Int) := by omega
              clear hk hc h1 h3 h4 h5 hrl hstay hgrow hsz4 hbase hcv hpm hlk hlkc hY hq hg hmM
              go_wp2_with fail
              refine HRL.out.mono ?_
              rintro e w8 ⟨rfl, k8⟩
              have HK8 := Lib.hid k8
              clear k8 b0 b1 b2 b3 b4 b5 bl hcc hcl
              obtain ⟨w9, hw9⟩ : ∃ w9, w8.alloc (.cells #[.bool q.begun, .int .i64 q.cls, .int .i64 q.step, .int .i64 q.side, .int .i64 q.na, .int .i64 q.nb] 55) = w9 := ⟨_, rfl⟩
              obtain ⟨by', hby⟩ : ∃ b, w8.heap.size = b := ⟨_, rfl⟩
              have HX9 := Lib.hid (show Has w9 by' [.bool q.begun, .int .i64 q.cls, .int .i64 q.step, .int .i64 q.side, .int .i64 q.na, .int .i64 q.nb] 55 by rw [← hw9, ← hby]; exact Has.new w8 _ _)
              have HK9 := Lib.hid (show Below wr.heap.size wr w9 by rw [← hw9]; exact HK8.out.alloc HK8.out.size _)
              have HW9 := Lib.hid hw9; have HBY := Lib.hid hby
              clear hw9 hby
              go_upto_region 13 with fail
              rw [HW9.out]
              (try rw [HBY.out])
              cases S0 with
              | true =>
                cases g with
                | true =>
                  have HX9c := HX9.out
                  have y0 := HX9c.cell 0
                  have y1 := HX9c.cell 1
                  have y2 := HX9c.cell 2
                  have y3 := HX9c.cell 3
                  have y4 := HX9c.cell 4
                  have y5 := HX9c.cell 5
                  simp only [List.getElem?_cons_zero, List.getElem?_cons_succ] at y0 y1 y2 y3 y4 y5
                  have yl := HX9c.lt
                  clear HX9c
                  have HCON := Lib.hid (pcont_any W1.heap.size (.slice aoN mM capN) L q w9 (by have := HMM.out; omega) (HBASE.out w9 HK9.out))
                  by_cases hqm : q ∈ L
                  · rw [decide_eq_true hqm] at HCON
                    have HAD := Lib.hid (show addP L q = L by unfold addP; rw [if_pos hqm])
                    clear hqm hkx
                    go_wp2_with fail
                    refine HCON.out.mono ?_
                    rintro e w10 ⟨rfl, k10⟩
                    have HQ := Lib.hid (HSTAY.out w10 true (HK9.out.trans (k10.mono HK9.out.size)) (by (first | rw [if_pos trivial] | rw [if_pos rfl]); exact HAD.out) (by rfl))
                    clear k10 yl y0 y1 y2 y3 y4 y5
                    go_wp2
                    go_roundw
                    case rel => exact HQ.out
                    case measure => simp [intOf]; omega
                  · rw [decide_eq_false hqm] at HCON
                    have HAD := Lib.hid (show addP L q = L ++ [q] by unfold addP; rw [if_neg hqm])
                    clear hqm hkx
                    go_wp2_with fail
                    refine HCON.out.mono ?_
                    rintro e w10 ⟨rfl, k10⟩
                    have HX10 := Lib.hid (HX9.out.call k10)
                    have HK10 := Lib.hid (HK9.out.trans (k10.mono HK9.out.size))
                    clear k10 yl y0 y1 y2 y3 y4 y5
                    have HX10c := HX10.out
                    have y0 := HX10c.cell 0
                    have y1 := HX10c.cell 1
                    have y2 := HX10c.cell 2
                    have y3 := HX10c.cell 3
                    have y4 := HX10c.cell 4
                    have y5 := HX10c.cell 5
                    simp only [List.getElem?_cons_zero, List.getElem?_cons_succ] at y0 y1 y2 y3 y4 y5
                    have yl := HX10c.lt
                    clear HX10c
                    have HN11 := Lib.hid (show Has (w10.alloc (.cells #[.bool q.begun, .int .i64 q.cls, .int .i64 q.step, .int .i64 q.side, .int .i64 q.na, .int .i64 q.nb] 55)) w10.heap.size (pastV q) 55 from Has.new w10 _ _)
                    have k11 : Below w10.heap.size w10 (w10.alloc (.cells #[.bool q.begun, .int .i64 q.cls, .int .i64 q.step, .int .i64 q.side, .int .i64 q.na, .int .i64 q.nb] 55)) := (Below.refl _ _).alloc (Nat.le_refl _) _
                    have HR11 := Lib.hid ((HBASE.out w10 HK10.out).below k11)
                    obtain ⟨i0, hi0, hz0, hz1, hz2⟩ := info_parts infoPast
                    have HSZ := Lib.hid (show (w10.alloc (.cells #[.bool q.begun, .int .i64 q.cls, .int .i64 q.step, .int .i64 q.side, .int .i64 q.na, .int .i64 q.nb] 55)).heap.size = w10.heap.size + 1 by simp)
                    have HIF := Lib.hid hi0; have HZ0 := Lib.hid hz0; have HZ1 := Lib.hid hz1; have HZ2 := Lib.hid hz2
                    have e : ∀ k, (⟨w10.heap.size, 0, none⟩ : Addr).add k = ⟨w10.heap.size, k, none⟩ := fun k => by
                      have : (⟨w10.heap.size, 0, none⟩ : Addr).add k = ⟨w10.heap.size, 0 + k, none⟩ := by unfold Addr.add; split <;> simp_all
                      rw [this, Nat.zero_add]
                    have HAE := Lib.hid e
                    have HFW := Lib.hid hfw
                    clear e k11 hi0 hz0 hz1 hz2
                    go_wp2_with (at_builtin; refine wpList_append_own_at _ rfl (.tmp 55) (.tmp 57) 74 rfl W1.heap.size 55 i0 (.agg #[.bool false, .int .i64 0, .int .i64 0, .int .i64 0, .int .i64 0, .int .i64 0]) 6 48 Try.underlying74 HIF.out HZ0.out HZ1.out HZ2.out rfl (by decide) _ _ _ rfl HR11.out ⟨w10.heap.size, 0, none⟩ 1 1 (pastV q) rfl rfl (fun k u hk => by rw [HAE.out]; exact (HN11.out.cell k).trans hk) (pastV_one q) (by have := HFW.out; have := HMM.out; unfold maxLen; omega) (by have := HFW.out; have := HMM.out; omega) (by have := HSZ4.out; have := HK10.out.size; rw [HSZ.out]; omega) ?_)
                    intro v' w12 g1 g2 _ g4
                    have HQ := Lib.hid (HGROW.out w10 w12 v' true HK10.out (by (first | rw [if_pos trivial, HAD.out] | rw [if_pos rfl, HAD.out]); unfold RowP; rw [cellsP_snoc, List.length_append]; exact g1) (Grew.appended g2 (by rw [HSZ.out]; exact g4)) (by rfl))
                    clear g1 g2 g4 yl y0 y1 y2 y3 y4 y5
                    go_wp2
                    go_roundw
                    case rel => exact HQ.out
                    case measure => simp [intOf]; omega
                | false =>
                  have HQ := Lib.hid (HSTAY.out w9 false HK9.out (by rfl) (by rfl))
                  clear hkx
                  go_wp2
                  go_roundw
                  case rel => exact HQ.out
                  case measure => simp [intOf]; omega
              | false =>
                cases g with
                | true =>
                  have HX9c := HX9.out
                  have y0 := HX9c.cell 0
                  have y1 := HX9c.cell 1
                  have y2 := HX9c.cell 2
                  have y3 := HX9c.cell 3
                  have y4 := HX9c.cell 4
                  have y5 := HX9c.cell 5
                  simp only [List.getElem?_cons_zero, List.getElem?_cons_succ] at y0 y1 y2 y3 y4 y5
                  have yl := HX9c.lt
                  clear HX9c
                  have HCON := Lib.hid (pcont_any W1.heap.size (.slice aoN mM capN) L q w9 (by have := HMM.out; omega) (HBASE.out w9 HK9.out))
                  by_cases hqm : q ∈ L
                  · rw [decide_eq_true hqm] at HCON
                    have HAD := Lib.hid (show addP L q = L by unfold addP; rw [if_pos hqm])
                    clear hqm hkx
                    go_wp2_with fail
                    refine HCON.out.mono ?_
                    rintro e w10 ⟨rfl, k10⟩
                    have HQ := Lib.hid (HSTAY.out w10 false (HK9.out.trans (k10.mono HK9.out.size)) (by (first | rw [if_pos trivial] | rw [if_pos rfl]); exact HAD.out) (by rfl))
                    clear k10 yl y0 y1 y2 y3 y4 y5
                    go_wp2
                    go_roundw
                    case rel => exact HQ.out
                    case measure => simp [intOf]; omega
                  · rw [decide_eq_false hqm] at HCON
                    have HAD := Lib.hid (show addP L q = L ++ [q] by unfold addP; rw [if_neg hqm])
                    clear hqm hkx
                    go_wp2_with fail
                    refine HCON.out.mono ?_
                    rintro e w10 ⟨rfl, k10⟩
                    have HX10 := Lib.hid (HX9.out.call k10)
                    have HK10 := Lib.hid (HK9.out.trans (k10.mono HK9.out.size))
                    clear k10 yl y0 y1 y2 y3 y4 y5
                    have HX10c := HX10.out
                    have y0 := HX10c.cell 0
                    have y1 := HX10c.cell 1
                    have y2 := HX10c.cell 2
                    have y3 := HX10c.cell 3
                    have y4 := HX10c.cell 4
                    have y5 := HX10c.cell 5
                    simp only [List.getElem?_cons_zero, List.getElem?_cons_succ] at y0 y1 y2 y3 y4 y5
                    have yl := HX10c.lt
                    clear HX10c
                    have HN11 := Lib.hid (show Has (w10.alloc (.cells #[.bool q.begun, .int .i64 q.cls, .int .i64 q.step, .int .i64 q.side, .int .i64 q.na, .int .i64 q.nb] 55)) w10.heap.size (pastV q) 55 from Has.new w10 _ _)
                    have k11 : Below w10.heap.size w10 (w10.alloc (.cells #[.bool q.begun, .int .i64 q.cls, .int .i64 q.step, .int .i64 q.side, .int .i64 q.na, .int .i64 q.nb] 55)) := (Below.refl _ _).alloc (Nat.le_refl _) _
                    have HR11 := Lib.hid ((HBASE.out w10 HK10.out).below k11)
                    obtain ⟨i0, hi0, hz0, hz1, hz2⟩ := info_parts infoPast
                    have HSZ := Lib.hid (show (w10.alloc (.cells #[.bool q.begun, .int .i64 q.cls, .int .i64 q.step, .int .i64 q.side, .int .i64 q.na, .int .i64 q.nb] 55)).heap.size = w10.heap.size + 1 by simp)
                    have HIF := Lib.hid hi0; have HZ0 := Lib.hid hz0; have HZ1 := Lib.hid hz1; have HZ2 := Lib.hid hz2
                    have e : ∀ k, (⟨w10.heap.size, 0, none⟩ : Addr).add k = ⟨w10.heap.size, k, none⟩ := fun k => by
                      have : (⟨w10.heap.size, 0, none⟩ : Addr).add k = ⟨w10.heap.size, 0 + k, none⟩ := by unfold Addr.add; split <;> simp_all
                      rw [this, Nat.zero_add]
                    have HAE := Lib.hid e
                    have HFW := Lib.hid hfw
                    clear e k11 hi0 hz0 hz1 hz2
                    go_wp2_with (at_builtin; refine wpList_append_own_at _ rfl (.tmp 55) (.tmp 57) 74 rfl W1.heap.size 55 i0 (.agg #[.bool false, .int .i64 0, .int .i64 0, .int .i64 0, .int .i64 0, .int .i64 0]) 6 48 Try.underlying74 HIF.out HZ0.out HZ1.out HZ2.out rfl (by decide) _ _ _ rfl HR11.out ⟨w10.heap.size, 0, none⟩ 1 1 (pastV q) rfl rfl (fun k u hk => by rw [HAE.out]; exact (HN11.out.cell k).trans hk) (pastV_one q) (by have := HFW.out; have := HMM.out; unfold maxLen; omega) (by have := HFW.out; have := HMM.out; omega) (by have := HSZ4.out; have := HK10.out.size; rw [HSZ.out]; omega) ?_)
                    intro v' w12 g1 g2 _ g4
                    have HQ := Lib.hid (HGROW.out w10 w12 v' false HK10.out (by (first | rw [if_pos trivial, HAD.out] | rw [if_pos rfl, HAD.out]); unfold RowP; rw [cellsP_snoc, List.length_append]; exact g1) (Grew.appended g2 (by rw [HSZ.out]; exact g4)) (by rfl))
                    clear g1 g2 g4 yl y0 y1 y2 y3 y4 y5
                    go_wp2
                    go_roundw
                    case rel => exact HQ.out
                    case measure => simp [intOf]; omega
                | false =>
                  have HQ := Lib.hid (HSTAY.out w9 false HK9.out (by rfl) (by rfl))
                  clear hkx
                  go_wp2
                  go_roundw
                  case rel => exact HQ.out
                  case measure => simp [intOf]; omega
            · obtain rfl : k = nC := by omega
              have e2 : cs.take k = cs := List.take_of_length_le (by rw [HNC.out]; exact Nat.le_refl _)
              have HQ := Lib.hid (show ∀ mv : Value, RowP W1.heap.size mv (innerP r p X0 (cs.take k)).1 wr → FolJ r cs b0 all W1 (.bool (innerP r p X0 (cs.take k)).2) mv (.int .i64 ((j : Int) + 1)) wr from fun mv hmv => ⟨j + 1, by
                have : j < all.length := (List.getElem?_eq_some_iff.1 HP.out).1
                omega, by first | rfl | go_num, by
                have e : all.take (j + 1) = all.take j ++ [p] := by rw [List.take_add_one, HP.out]; rfl
                rw [e, midP_snoc, HX0.out, e2], by
                have e : all.take (j + 1) = all.take j ++ [p] := by rw [List.take_add_one, HP.out]; rfl
                rw [e, midP_snoc, HX0.out]
                rw [e2] at hmv
                exact hmv, h4⟩)
              have HQ2 := Lib.hid (HQ.out _ h1)
              have hjm : j < mA := by rw [← HMA.out]; exact (List.getElem?_eq_some_iff.1 HP.out).1
              have hmf : mA ≤ 41472 := hfew
              obtain ⟨Y, hY⟩ : ∃ Y, innerP r p X0 (cs.take k) = Y := ⟨_, rfl⟩
              rw [hY] at HQ2 ⊢
              clear HQ
              obtain ⟨L, S1⟩ := Y
              dsimp only at HQ2 ⊢
              obtain ⟨mM, hmM⟩ : ∃ n, L.length = n := ⟨_, rfl⟩
              rw [hmM] at HQ2 ⊢
              clear h1 h3 h4 h5 hk hlk hmM e2 hY
              go_wp2
              go_roundw
              case rel => exact HQ2.out
              case measure => simp [intOf]; omega
        · obtain rfl : j = mA := by omega
          have HQ := Lib.hid (show ∀ mv : Value, RowP W1.heap.size mv (midP r cs ([], b0) (all.take j)).1 wr → FolI r w pts mv (.bool (midP r cs ([], b0) (all.take j)).2) (.int .i64 ((i : Int) + 1)) wr from fun mv hmv => by
            have e : pts.take (i + 1) = pts.take i ++ [cs] := by rw [List.take_add_one, HCS.out]; rfl
            have e2 : all.take j = all := List.take_of_length_le (by rw [HMA.out]; exact Nat.le_refl _)
            have e3 : allP r startP (pts.take (i + 1)) = midP r cs ([], b0) (all.take j) := by rw [e, allP_snoc, HX.out, e2]; rfl
            exact ⟨i + 1, by have := HN.out; have := (List.getElem?_eq_some_iff.1 HCS.out).1; omega, by first | rfl | go_num, by rw [e3], by rw [e3]; exact hmv.mono HB.out.size, HB.out.trans (hbM.mono HB.out.size)⟩)
          have HQ2 := Lib.hid (HQ.out _ hrowM)
          have hin : i < n := by have := HN.out; have := (List.getElem?_eq_some_iff.1 HCS.out).1; omega
          have hin15 : n ≤ 15 := HN15.out
          obtain ⟨Y, hY⟩ : ∃ Y, midP r cs ([], b0) (all.take j) = Y := ⟨_, rfl⟩
          rw [hY] at HQ2 ⊢
          clear HQ
          obtain ⟨L, S1⟩ := Y
          dsimp only at HQ2 ⊢
          obtain ⟨mM, hmM⟩ : ∃ n, L.length = n := ⟨_, rfl⟩
          rw [hmM] at HQ2 ⊢
          clear hrowM hbM hmM hlj hj hY
          go_wp2
          go_roundw
          case rel => exact HQ2.out
          case measure => simp [intOf]; omega
    · obtain rfl : i = n := by omega
      have hle : pts.take i = pts := List.take_of_length_le (by rw [HN.out]; exact Nat.le_refl _)
      have hta : (if all = [] then (0 : Int) else if b0 = true then 2 else 1) = A := by
        rw [← HA.out]
        unfold followN
        rw [hle] at hX
        rw [hX]
      by_cases h0 : mA = 0
      · have hal : all = [] := List.eq_nil_of_length_eq_zero (by rw [hmA]; exact h0)
        rw [if_pos hal] at hta
        have HTA := Lib.hid hta
        subst h0
        clear hX hmA hbnd hrow hb hi hle hta hl hal hokt
        go_wp2
        go_ret
        exact ⟨by rw [← HTA.out]; rfl, HB.out⟩
      · have hal : ¬ all = [] := fun e => h0 (by rw [← hmA, e]; rfl)
        rw [if_neg hal] at hta
        have g0 : ((mA : Int) == 0) = false := beq_false_of_ne (by omega)
        cases b0 with
        | true =>
          rw [if_pos rfl] at hta
          have HTA := Lib.hid hta
          clear hX hmA hbnd hrow hb hi hle hta hl hal hokt h0
          go_wp2
          go_ret
          exact ⟨by rw [← HTA.out]; rfl, HB.out⟩
        | false =>
          rw [if_neg (by decide)] at hta
          have HTA := Lib.hid hta
          clear hX hmA hbnd hrow hb hi hle hta hl hal hokt h0
          go_wp2
          go_ret
          exact ⟨by rw [← HTA.out]; rfl, HB.out⟩
theorem follow_any (r : Nat) (K : FuncId) (hK : RuleC r K) (pts : List (List Int)) (hok : ∀ cs ∈ pts, okC cs) (hlen : ∀ cs ∈ pts, cs.length ≤ 100000) (h15 : pts.length ≤ 15) (v : Value) (w : World) (hrd : ReadsR w v pts) :
    Calls Try.prog 41 #[v, .func (.func K) #[] #[]] w fun e w' => e = .returned (.int .i64 (followN r pts)) ∧ Below w.heap.size w w' := by
  obtain ⟨ao, cap, rfl⟩ := hrd.shape
  exact follow_core r K hK pts hok hlen h15 ao _ cap rfl _ rfl w hrd
end Go.Proofs.Ytjonpcpcokapkaa
