/- datumlaw14.some: masks from any numbers, and one class of each. -/
import Derived.Test.YtjonpcpcokapkaaNelM
import Derived.Test.YtjonpcpcokapkaaNelL
namespace Go.Proofs.Ytjonpcpcokapkaa
open Go.RowKit

def mskOf (x : Int) : Int := 1 + (x.tmod 511 + 511).tmod 511
theorem mskOf_nums (x : Int) : -511 < x.tmod 511 ∧ x.tmod 511 < 511 ∧ 0 ≤ (x.tmod 511 + 511).tmod 511 ∧ (x.tmod 511 + 511).tmod 511 < 511 := by
  have h1 := Int.lt_tmod_of_pos x (show (0 : Int) < 511 by omega)
  have h2 := Int.tmod_lt_of_pos x (show (0 : Int) < 511 by omega)
  have h3 := Int.tmod_nonneg 511 (show 0 ≤ x.tmod 511 + 511 by omega)
  have h4 := Int.tmod_lt_of_pos (x.tmod 511 + 511) (show (0 : Int) < 511 by omega)
  exact ⟨h1, h2, h3, h4⟩
theorem mskOf_ok (x : Int) : 1 ≤ mskOf x ∧ mskOf x ≤ 511 := by have := mskOf_nums x; unfold mskOf; omega
def pickI (p : Int) (len : Nat) : Int := (p.tmod (len : Int) + (len : Int)).tmod (len : Int)
theorem pickI_nums (p : Int) (len : Nat) (h : 1 ≤ len) : -(len : Int) < p.tmod (len : Int) ∧ p.tmod (len : Int) < (len : Int) ∧ 0 ≤ pickI p len ∧ pickI p len < (len : Int) := by
  have h1 := Int.lt_tmod_of_pos p (show (0 : Int) < (len : Int) by omega)
  have h2 := Int.tmod_lt_of_pos p (show (0 : Int) < (len : Int) by omega)
  have h3 := Int.tmod_nonneg (len : Int) (show 0 ≤ p.tmod (len : Int) + (len : Int) by omega)
  have h4 := Int.tmod_lt_of_pos (p.tmod (len : Int) + (len : Int)) (show (0 : Int) < (len : Int) by omega)
  exact ⟨h1, h2, h3, h4⟩
def pickN (ps : List Int) (j len : Nat) : Nat := if j < ps.length then (pickI (ps.getD j 0) len).toNat else 0
theorem pickN_lt (ps : List Int) (j len : Nat) (h : 1 ≤ len) : pickN ps j len < len := by
  unfold pickN
  split
  · have := pickI_nums (ps.getD j 0) len h
    omega
  · omega
/-- One class of the mask from the j-th number. -/
def clsK (ps : List Int) (j : Nat) (x : Int) : Int := (classesN (mskOf x)).getD (pickN ps j (classesN (mskOf x)).length) 0
def clsF (ps : List Int) : Nat → List Int → List Int
  | _, [] => []
  | j, x :: l => clsK ps j x :: clsF ps (j + 1) l
theorem clsF_append (ps : List Int) : ∀ (l m : List Int) (j : Nat), clsF ps j (l ++ m) = clsF ps j l ++ clsF ps (j + l.length) m
  | [], m, j => rfl
  | x :: l, m, j => by
    show clsK ps j x :: clsF ps (j + 1) (l ++ m) = clsK ps j x :: (clsF ps (j + 1) l ++ clsF ps (j + (l.length + 1)) m)
    rw [clsF_append ps l m (j + 1), show j + 1 + l.length = j + (l.length + 1) by omega]
theorem clsF_length (ps : List Int) : ∀ (l : List Int) (j : Nat), (clsF ps j l).length = l.length
  | [], _ => rfl
  | x :: l, j => by show (clsF ps (j + 1) l).length + 1 = l.length + 1; rw [clsF_length ps l]
theorem classes_pos (x : Int) : 1 ≤ (classesN (mskOf x)).length := by
  have := List.length_pos_iff.2 (classes_some (mskOf_ok x).1 (mskOf_ok x).2)
  omega
theorem clsK_mem (ps : List Int) (j : Nat) (x : Int) : clsK ps j x ∈ classesN (mskOf x) := by
  have h := pickN_lt ps j _ (classes_pos x)
  unfold clsK
  rw [List.getD_eq_getElem?_getD, List.getElem?_eq_getElem h]
  exact List.getElem_mem h
theorem OfM_some (ps : List Int) : ∀ (l : List Int) (j : Nat), OfM (clsF ps j l) (l.map mskOf)
  | [], _ => trivial
  | x :: l, j => ⟨clsK_mem ps j x, OfM_some ps l (j + 1)⟩
theorem okM_some (l : List Int) : okM (l.map mskOf) := fun m hm => by
  obtain ⟨x, _, rfl⟩ := List.mem_map.1 hm
  exact mskOf_ok x
theorem okC_some (ps : List Int) : ∀ (l : List Int) (j : Nat), okC (clsF ps j l)
  | [], _ => fun c hc => by cases hc
  | x :: l, j => fun c hc => by
    rcases List.mem_cons.1 hc with rfl | hc
    · exact classes_range (clsK_mem ps j x)
    · exact okC_some ps l (j + 1) c hc
def SomRel (l ps : List Int) (w : World) (mv cv iv : Value) (wr : World) : Prop :=
  ∃ j : Nat, j ≤ l.length ∧ iv = .int .i64 (j : Nat) ∧ IRow w.heap.size mv ((l.take j).map mskOf) wr ∧ IRow w.heap.size cv (clsF ps 0 (l.take j)) wr ∧ (∀ k, mv.ownBlock = some k → cv.ownBlock ≠ some k) ∧ Below w.heap.size w wr
set_option linter.unusedSimpArgs false in
set_option linter.unusedVariables false in
set_option maxHeartbeats 16000000 in
set_option maxRecDepth 100000 in
theorem some14_core (l ps : List Int) (ao : Option Addr) (n k15 cap : Nat) (ap : Option Addr) (np capp : Nat) (w : World) (hk : k15 = min n 15) (hlc : n ≤ cap) (hl : l.length = k15) (hr : ReadsI w (.slice ao k15 cap) l) (hp : ReadsI w (.slice ap np capp) ps) (hnp : ps.length = np) :
    Calls Try.prog 20 #[.slice ao n cap, .slice ap np capp] w fun e w' => ∃ mv cv, e = .returned (.tuple #[mv, cv]) ∧ IRow w.heap.size mv (l.map mskOf) w' ∧ IRow w.heap.size cv (clsF ps 0 l) w' ∧ Below w.heap.size w w' := by
  have hsl : ∀ W, (Instr.slice 22 (.slice ao n cap) none (some (.int .i64 (min (n : Int) 15))) none).run Try.prog W = .ok (.slice ao k15 cap) W := fun W => by
    have := slice_hi ao n cap k15 (by omega) W
    rw [show (k15 : Int) = min (n : Int) 15 by omega] at this
    exact this
  have hk15 : k15 ≤ 15 := by omega
  have HST := Lib.hid (show SomRel l ps w (.slice none 0 0) (.slice none 0 0) (.int .i64 0) w from ⟨0, Nat.zero_le _, rfl, IRow.nil _ _, IRow.nil _ _, (fun k hk => by cases hk), Below.refl _ _⟩)
  have HL := Lib.hid hl; have HR := Lib.hid hr; have HP := Lib.hid hp; have HNP := Lib.hid hnp
  clear hk hlc hl hr hp hnp
  go_enter Try.func20, Try.ntmps20
  go_wp2
  clear hsl
  go_loopw [6, 7, 18] (SomRel l ps w) (fun _ _ i _ => k15 - (intOf i).toNat)
  case atStart => exact HST.out
  case round =>
    obtain ⟨j, hj, rfl, hm, hc, hun, hb⟩ := hrel
    rw [HL.out] at hj
    obtain ⟨aoM, capM, hmv⟩ := hm.shape
    subst hmv
    obtain ⟨aoC, capC, hcv⟩ := hc.shape
    subst hcv
    have HMV := Lib.hid hm; have HCV := Lib.hid hc; have HUN := Lib.hid hun; have HB := Lib.hid hb
    by_cases hlt : j < k15
    · obtain ⟨x, hx⟩ : ∃ x, l[j]? = some x := ⟨_, List.getElem?_eq_getElem (by rw [HL.out]; exact hlt)⟩
      obtain ⟨bx, ox, hao, hbl, hcx⟩ := (HR.out.below hb).spot hx
      subst hao
      have HX := Lib.hid hx
      obtain ⟨q1, q2, q3, q4⟩ := mskOf_nums x
      obtain ⟨M, hM⟩ : ∃ M, mskOf x = M := ⟨_, rfl⟩
      have hM1 : 1 + (x.tmod 511 + 511).tmod 511 = M := hM
      have hMok := mskOf_ok x
      rw [hM] at hMok
      have hcl := fun W => rclasses13_any M W
      have hpos := classes_pos x
      have hmem := clsK_mem ps j x
      have hn9 := classes_len M
      rw [hM] at hpos
      have HCL := Lib.hid hcl; have HM := Lib.hid hM; have HMOK := Lib.hid hMok
      obtain ⟨nC, hnC⟩ : ∃ n, (classesN M).length = n := ⟨_, rfl⟩
      rw [hnC] at hpos hn9
      have HNC := Lib.hid hnC
      have hjz : (j : Int) < (k15 : Int) := by omega
      have hjx : 0 ≤ (j : Int) ∧ (j : Int) < (k15 : Int) := by omega
      obtain ⟨T1, hT1⟩ : ∃ T, x.tmod 511 = T := ⟨_, rfl⟩
      rw [hT1] at hM1 q1 q2 q3 q4
      obtain ⟨T2, hT2⟩ : ∃ T, (T1 + 511).tmod 511 = T := ⟨_, rfl⟩
      rw [hT2] at hM1 q3 q4
      clear hm hc hun hb hx hM hMok hcl hmem hnC hj
      obtain ⟨lM, hlM⟩ : ∃ q, ((l.take j).map mskOf).length = q := ⟨_, rfl⟩
      obtain ⟨lC, hlC⟩ : ∃ q, (clsF ps 0 (l.take j)).length = q := ⟨_, rfl⟩
      have hlMb : lM + 1 ≤ 1000000 := by rw [← hlM, List.length_map, List.length_take]; omega
      have hlCb : lC + 1 ≤ 1000000 := by rw [← hlC, clsF_length, List.length_take]; omega
      rw [hlM] at HMV HUN ⊢
      rw [hlC] at HCV HUN ⊢
      have HLM := Lib.hid hlM; have HLC := Lib.hid hlC; have HLMB := Lib.hid hlMb; have HLCB := Lib.hid hlCb
      clear hlM hlC hlMb hlCb
      go_wp2_with fail
      refine (HCL.out _).mono ?_
      rintro e w4 ⟨sv, rfl, hcr, k4⟩
      obtain ⟨aoS, capS, hsv⟩ := hcr.shape
      subst hsv
      rw [HNC.out] at hcr ⊢
      obtain ⟨g, hg⟩ := IRow.ptr hcr (by rw [HNC.out]; omega)
      subst hg
      have hsz := HB.out.size
      have hgl : wr.heap.size ≤ g := (World.ownsRow.lt hcr g rfl).1
      have HJ := Lib.hid (show TwoJ w.heap.size w (.slice (some ⟨g, 0, none⟩) nC capS) (.slice aoM lM capM) (.slice aoC lC capC) (classesN M) ((l.take j).map mskOf) (clsF ps 0 (l.take j)) 0 0 false false false false w4 undef undef undef undef from
        ⟨HB.out.trans (k4.mono hsz), Nat.le_trans hsz k4.size, hcr.mono hsz, HMV.out.below k4, HCV.out.below k4,
          (fun k hk c => by injection hk with hk; have := (World.ownsRow.lt HMV.out k c).2; have h2 : g = k := hk; omega), (fun k hk c => by injection hk with hk; have := (World.ownsRow.lt HCV.out k c).2; have h2 : g = k := hk; omega), HUN.out, (fun a => by cases a), (fun a => by cases a)⟩)
      have HP4 := Lib.hid ((HP.out.below (HB.out)).below k4)
      have HPK := Lib.hid (pickN_lt ps j nC hpos)
      obtain ⟨pk, hpk⟩ : ∃ pk, pickN ps j nC = pk := ⟨_, rfl⟩
      rw [hpk] at HPK
      have HPKE := Lib.hid hpk
      clear hcr k4 hgl hsz hpk hcx hbl
      go_upto_if 33 with fail
      go_cut [11] (fun s11 wx => s11 = .int .i64 (pk : Nat) ∧ wx = w4)
      case first =>
        have hpe := HPKE.out
        unfold pickN at hpe
        by_cases hjp : j < np
        · rw [if_pos (by rw [HNP.out]; exact hjp)] at hpe
          obtain ⟨p, hp⟩ : ∃ p, ps[j]? = some p := ⟨_, List.getElem?_eq_getElem (by rw [HNP.out]; exact hjp)⟩
          have hpd : ps.getD j 0 = p := by rw [List.getD_eq_getElem?_getD, hp]; rfl
          rw [hpd] at hpe
          obtain ⟨p1, p2, p3, p4⟩ := pickI_nums p nC hpos
          obtain ⟨bp, op, hap, hpl, hpc⟩ := HP4.out.spot hp
          subst hap
          have hpk2 : (p.tmod (nC : Int) + (nC : Int)).tmod (nC : Int) = (pk : Int) := by
            have : pickI p nC = (pk : Int) := by omega
            exact this
          obtain ⟨P1, hP1⟩ : ∃ P, p.tmod (nC : Int) = P := ⟨_, rfl⟩
          rw [hP1] at hpk2 p1 p2
          have hjz2 : (j : Int) < (np : Int) := by omega
          have hjx2 : 0 ≤ (j : Int) ∧ (j : Int) < (np : Int) := by omega
          have hnz : ¬ (nC : Int) = 0 := by omega
          have hnz2 : ((nC : Int) == 0) = false := beq_false_of_ne hnz
          clear hpe hp hpd p3 p4 hpos hjp
          go_wp2_with fail
          go_meet
          exact ⟨rfl, rfl⟩
        · rw [if_neg (by rw [HNP.out]; exact hjp)] at hpe
          subst hpe
          have hjz2 : ¬ (j : Int) < (np : Int) := by omega
          clear hpos hjp
          go_wp2_with fail
          go_meet
          exact ⟨rfl, rfl⟩
      case rest =>
      obtain ⟨rfl, rfl⟩ := hcut
      clear hpos q1 q2 q3 q4
      go_upto_region 10 with fail
      have hzz : (classesN M).getD pk 0 = clsK ps j x := by
        unfold clsK
        rw [HM.out, HNC.out, HPKE.out]
      obtain ⟨z, hz⟩ : ∃ z, clsK ps j x = z := ⟨_, rfl⟩
      rw [hz] at hzz
      have HZ := Lib.hid hz
      clear hz
      refine so_region (B := w.heap.size) (g := g) (n := nC) (cap := capS) (k := pk) (W0 := w) (LL := classesN M) (Lm := (l.take j).map mskOf) (Lg := clsF ps 0 (l.take j)) (y := M) (z := z) _ _ (show 57 < 61 by decide) rfl rfl rfl rfl rfl HJ.out (by rw [HNC.out]; exact HPK.out) hzz HPK.out (by rw [HLM.out]; exact HLMB.out) (by rw [HLC.out]; exact HLCB.out) ?_
      intro vals w' hT
      generalize vals 0 = r0
      generalize vals 1 = r1
      generalize vals 2 = r2
      generalize vals 3 = r3
      generalize vals 4 = r4
      generalize vals 5 = r5
      generalize vals 6 = r6
      generalize vals 7 = r7
      generalize vals 8 = r8
      generalize vals 9 = r9
      generalize vals 10 = r10
      generalize vals 11 = r11 at *
      generalize vals 12 = r12 at *
      have HQ := Lib.hid (show SomRel l ps w r11 r12 (.int .i64 ((j : Int) + 1)) w' from ⟨j + 1, by rw [HL.out]; omega, by first | rfl | go_num, by
        have e : l.take (j + 1) = l.take j ++ [x] := by rw [List.take_add_one, HX.out]; rfl
        rw [e, List.map_append]
        show IRow w.heap.size r11 ((l.take j).map mskOf ++ [mskOf x]) w'
        rw [HM.out]
        exact hT.mr, by
        have e : l.take (j + 1) = l.take j ++ [x] := by rw [List.take_add_one, HX.out]; rfl
        rw [e, clsF_append]
        have e2 : (l.take j).length = j := by rw [List.length_take, HL.out]; omega
        rw [e2, Nat.zero_add]
        show IRow w.heap.size r12 (clsF ps 0 (l.take j) ++ [clsK ps j x]) w'
        rw [HZ.out]
        exact hT.gr, hT.mg, hT.bel⟩)
      clear hT hzz
      simp only [Act.put]
      go_wp2
      go_roundw
      case rel => exact HQ.out
      case measure => simp [intOf]; omega
    · obtain rfl : j = k15 := by omega
      have e : l.take j = l := List.take_of_length_le (by rw [HL.out]; exact Nat.le_refl _)
      rw [e] at hm hc ⊢
      obtain ⟨lM, hlM⟩ : ∃ q, (l.map mskOf).length = q := ⟨_, rfl⟩
      obtain ⟨lC, hlC⟩ : ∃ q, (clsF ps 0 l).length = q := ⟨_, rfl⟩
      rw [hlM] at hm ⊢
      rw [hlC] at hc ⊢
      clear hlM hlC
      have HF1 := Lib.hid hm; have HF2 := Lib.hid hc
      clear hm hc hun hb e hj hlt
      go_wp2
      go_ret2
      exact ⟨_, _, rfl, HF1.out, HF2.out, HB.out⟩
/-- Masks, and one class of each, of the first fifteen. -/
theorem some14_any (l ps : List Int) (v u : Value) (w : World) (hr : ReadsI w v l) (hp : ReadsI w u ps) :
    Calls Try.prog 20 #[v, u] w fun e w' => ∃ mv cv, e = .returned (.tuple #[mv, cv]) ∧ IRow w.heap.size mv ((l.take 15).map mskOf) w' ∧ IRow w.heap.size cv (clsF ps 0 (l.take 15)) w' ∧ Below w.heap.size w w' := by
  obtain ⟨ap, capp, hpe⟩ := hp.shape
  subst hpe
  obtain ⟨ao, cap, rfl, h2, h3, h4⟩ := hr
  exact some14_core (l.take 15) ps ao _ _ cap ap _ capp w rfl h2 (by rw [List.length_take, Nat.min_comm]) (ReadsI.few14 ⟨ao, cap, rfl, h2, h3, h4⟩ 15) hp rfl
end Go.Proofs.Ytjonpcpcokapkaa
