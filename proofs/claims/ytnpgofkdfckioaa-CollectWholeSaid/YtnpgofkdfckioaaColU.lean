/- The law of CollectWhole. -/
import Derived.Test.YtnpgofkdfckioaaColS
namespace Go.Proofs.Ytnpgofkdfckioaa
open Go.RowKit

def W1Rel (L : List (List Int)) (w3 : World) (Ln : Nat) (av i : Value) (wr : World) : Prop :=
  ∃ q : Nat, q ≤ Ln ∧ i = .int .i64 (q : Nat) ∧ IRow w3.heap.size av (L.take q).flatten wr ∧ Below w3.heap.size w3 wr
def W2Rel (g : Grp) (xs l : List Int) (w8 : World) (m : Nat) (av i : Value) (wr : World) : Prop :=
  ∃ q : Nat, q ≤ m ∧ i = .int .i64 (q : Nat) ∧ IRow w8.heap.size av (xs ++ (l.take q).filter (fitsB g)) wr ∧ Below w8.heap.size w8 wr
theorem flat_snoc (L : List (List Int)) (q : Nat) (hq : q < L.length) : (L.take (q + 1)).flatten = (L.take q).flatten ++ L.getD q [] := by
  rw [List.take_add_one, List.getElem?_eq_getElem hq, List.getD_eq_getElem?_getD, List.getElem?_eq_getElem hq, List.flatten_append]
  congr 1
  exact List.append_nil _
theorem flat_le (L : List (List Int)) (q : Nat) : (L.take q).flatten.length ≤ L.flatten.length := by
  have : L.flatten = (L.take q).flatten ++ (L.drop q).flatten := by rw [← List.flatten_append, List.take_append_drop]
  rw [this, List.length_append]
  omega
theorem filt_snoc (g : Grp) (l : List Int) (q : Nat) (x : Int) (hq : q < l.length) (hx : l.getD q 0 = x) : (l.take (q + 1)).filter (fitsB g) = (l.take q).filter (fitsB g) ++ if fitsB g x = true then [x] else [] := by
  rw [List.getD_eq_getElem?_getD, List.getElem?_eq_getElem hq] at hx
  have hx' : l[q] = x := hx
  rw [List.take_add_one, List.getElem?_eq_getElem hq, List.filter_append, hx']
  simp only [Option.toList_some, List.filter_cons, List.filter_nil]
theorem filt_le (g : Grp) (l : List Int) (q : Nat) : ((l.take q).filter (fitsB g)).length ≤ l.length := by
  have h1 := List.length_filter_le (fitsB g) (l.take q)
  have h2 : (l.take q).length ≤ l.length := by rw [List.length_take]; omega
  omega
set_option maxHeartbeats 4000000 in
set_option maxRecDepth 100000 in
theorem whole_walk (s lo hi : Int) (xs l : List Int) (v vl : Value) (w : World) (hr : ReadsI w v xs) (hl : ReadsI w vl l) :
    Calls Try.prog 5 #[.agg #[.int .i64 s, .int .i64 lo, .int .i64 hi, v], vl] w fun e w' => e = .returned (.bool true) ∧ Below w.heap.size w w' := by
  obtain ⟨al, cl, rfl, hll, hlm, -⟩ := id hl
  obtain ⟨ao, cap, rfl, hlc, hcm, -⟩ := id hr
  obtain ⟨nl, hnl⟩ : ∃ nl, l.length = nl := ⟨_, rfl⟩
  obtain ⟨n, hn⟩ : ∃ n, xs.length = n := ⟨_, rfl⟩
  rw [hnl] at hll hl ⊢
  rw [hn] at hlc hr ⊢
  obtain ⟨k, hk⟩ : ∃ k, k = min n 12 := ⟨_, rfl⟩
  obtain ⟨m, hm⟩ : ∃ m, m = min nl 200 := ⟨_, rfl⟩
  have hfew := fun W => few10_any s lo hi ao n cap k W hk hlc hcm
  unfold maxLen at hlm hcm
  have HX := Lib.hid (hr.few 12 k hk)
  have HL := Lib.hid (hl.few 200 m hm)
  have hkl : (xs.take 12).length = k := by rw [List.length_take, hn, hk, Nat.min_comm]
  have hml : (l.take 200).length = m := by rw [List.length_take, hnl, hm, Nat.min_comm]
  have hm2 : m ≤ 200 := by omega
  have hB := (Below.refl w.heap.size w).alloc (Nat.le_refl _) (.cells #[.int .i64 s, .int .i64 lo, .int .i64 hi, .slice ao n cap] 24)
  have hx := Has.new w [.int .i64 s, .int .i64 lo, .int .i64 hi, .slice ao n cap] 24
  have hs1 : (w.alloc (.cells #[.int .i64 s, .int .i64 lo, .int .i64 hi, .slice ao n cap] 24)).heap.size = w.heap.size + 1 := by simp
  have HB := Lib.hid hB
  have HXB := Lib.hid hx
  have HM := Lib.hid hm
  have HCL := Lib.hid (And.intro hlm hll)
  clear hr hl hn hnl hk hm hB hx
  generalize xs.take 12 = xs at *
  generalize l.take 200 = l at *
  go_enter Try.func5, Try.ntmps5
  go_upto_region 1 with fail
  go_cut [1] (fun s1 wx => s1 = .slice al m cl ∧ Below w.heap.size w wx ∧ Has wx w.heap.size [.int .i64 s, .int .i64 lo, .int .i64 hi, .slice ao k cap] 24)
  case first =>
    have hll := HCL.out.2
    have hlm := HCL.out.1
    have hm := HM.out
    rcases Nat.lt_or_ge 200 nl with c | c
    · obtain rfl : m = 200 := by omega
      have g1 : (200 : Int) < (nl : Int) := by omega
      have g2 : min (nl : Int) 200 = 200 := by omega
      have hsl : ∀ W, (Instr.slice 22 (.slice al nl cl) none (some (.int .i64 200)) none).run Try.prog W = .ok (.slice al 200 cl) W := slice_hi al nl cl 200 (by omega)
      clear hm
      go_region_with (go_at_call 7; refine (hfew _).mono ?_; rintro e w2 ⟨rfl, k2⟩; (have hx2 : Has w2 w.heap.size [.int .i64 s, .int .i64 lo, .int .i64 hi, .slice ao n cap] 24 := HXB.out.of (k2.block w.heap.size (by simp))); (have hb2 : Below w.heap.size w w2 := by first | exact HB.out.trans (k2.mono (by simp)) | exact HB.out.drew.trans (k2.mono (by simp)) | exact HB.out.drew.drew.trans (k2.mono (by simp)) | exact HB.out.drew.drew.drew.trans (k2.mono (by simp))); (have HX2 := Lib.hid hx2); (have HB2 := Lib.hid hb2); (have x0 : w2.cell? ⟨w.heap.size, 0, none⟩ = some (.int .i64 s) := hx2.cell 0); (have x1 : w2.cell? ⟨w.heap.size, 1, none⟩ = some (.int .i64 lo) := hx2.cell 1); (have x2 : w2.cell? ⟨w.heap.size, 2, none⟩ = some (.int .i64 hi) := hx2.cell 2); (have x3 : w2.cell? ⟨w.heap.size, 3, none⟩ = some (.slice ao n cap) := hx2.cell 3); (have f0 : w2.frozen? ⟨w.heap.size, 0, none⟩ = false := hx2.frozen 0); (have f1 : w2.frozen? ⟨w.heap.size, 1, none⟩ = false := hx2.frozen 1); (have f2 : w2.frozen? ⟨w.heap.size, 2, none⟩ = false := hx2.frozen 2); (have f3 : w2.frozen? ⟨w.heap.size, 3, none⟩ = false := hx2.frozen 3); clear hx2 hb2 k2)
      all_goals (go_wp2_with fail; go_meet)
      all_goals (exact ⟨rfl, by first | exact Below.put4 HB2.out (Nat.le_refl _) _ _ _ _ | exact Below.drew (Below.put4 HB2.out (Nat.le_refl _) _ _ _ _) | exact Below.drew (Below.drew (Below.put4 HB2.out (Nat.le_refl _) _ _ _ _)) | exact Below.drew (Below.drew (Below.drew (Below.put4 HB2.out (Nat.le_refl _) _ _ _ _))), HX2.out.put4 _ _ _ _⟩)
    · obtain rfl : m = nl := by omega
      have g1 : ¬ (200 : Int) < (m : Int) := by omega
      have g2 : min (m : Int) 200 = (m : Int) := by omega
      have hsl : ∀ W, (Instr.slice 22 (.slice al m cl) none (some (.int .i64 (m : Int))) none).run Try.prog W = .ok (.slice al m cl) W := slice_hi al m cl m (by omega)
      clear hm
      go_region_with (go_at_call 7; refine (hfew _).mono ?_; rintro e w2 ⟨rfl, k2⟩; (have hx2 : Has w2 w.heap.size [.int .i64 s, .int .i64 lo, .int .i64 hi, .slice ao n cap] 24 := HXB.out.of (k2.block w.heap.size (by simp))); (have hb2 : Below w.heap.size w w2 := by first | exact HB.out.trans (k2.mono (by simp)) | exact HB.out.drew.trans (k2.mono (by simp)) | exact HB.out.drew.drew.trans (k2.mono (by simp)) | exact HB.out.drew.drew.drew.trans (k2.mono (by simp))); (have HX2 := Lib.hid hx2); (have HB2 := Lib.hid hb2); (have x0 : w2.cell? ⟨w.heap.size, 0, none⟩ = some (.int .i64 s) := hx2.cell 0); (have x1 : w2.cell? ⟨w.heap.size, 1, none⟩ = some (.int .i64 lo) := hx2.cell 1); (have x2 : w2.cell? ⟨w.heap.size, 2, none⟩ = some (.int .i64 hi) := hx2.cell 2); (have x3 : w2.cell? ⟨w.heap.size, 3, none⟩ = some (.slice ao n cap) := hx2.cell 3); (have f0 : w2.frozen? ⟨w.heap.size, 0, none⟩ = false := hx2.frozen 0); (have f1 : w2.frozen? ⟨w.heap.size, 1, none⟩ = false := hx2.frozen 1); (have f2 : w2.frozen? ⟨w.heap.size, 2, none⟩ = false := hx2.frozen 2); (have f3 : w2.frozen? ⟨w.heap.size, 3, none⟩ = false := hx2.frozen 3); clear hx2 hb2 k2)
      all_goals (go_wp2_with fail; go_meet)
      all_goals (exact ⟨rfl, by first | exact Below.put4 HB2.out (Nat.le_refl _) _ _ _ _ | exact Below.drew (Below.put4 HB2.out (Nat.le_refl _) _ _ _ _) | exact Below.drew (Below.drew (Below.put4 HB2.out (Nat.le_refl _) _ _ _ _)) | exact Below.drew (Below.drew (Below.drew (Below.put4 HB2.out (Nat.le_refl _) _ _ _ _))), HX2.out.put4 _ _ _ _⟩)
  case rest =>
    obtain ⟨rfl, hb1, bH⟩ := hcut
    have hs1 := hb1.size
    have hlt1 := bH.lt
    have b0 : wc.cell? ⟨w.heap.size, 0, none⟩ = some (.int .i64 s) := bH.cell 0
    have b1 : wc.cell? ⟨w.heap.size, 1, none⟩ = some (.int .i64 lo) := bH.cell 1
    have b2 : wc.cell? ⟨w.heap.size, 2, none⟩ = some (.int .i64 hi) := bH.cell 2
    have b3 : wc.cell? ⟨w.heap.size, 3, none⟩ = some (.slice ao k cap) := bH.cell 3
    have HB1 := Lib.hid hb1
    have HB0 := Lib.hid bH
    clear hfew hb1 bH
    cases hg : grightB ⟨s, lo, hi, xs⟩ with
    | false =>
      have hf := feed_no s lo hi xs l _ _ wc (HX.out.below HB1.out) (HL.out.below HB1.out) hg
      clear hg
      go_wp2_with fail
      refine hf.mono ?_
      rintro e w2 ⟨rfl, k2⟩
      have hs2 := k2.size
      have HB3 := Lib.hid ((HB1.out.trans (k2.mono hs1)).alloc (by omega) (.cells #[.int .i64 0, .int .i64 0, .int .i64 0, .slice none 0 0] 24))
      have hs3 : (w2.alloc (.cells #[.int .i64 0, .int .i64 0, .int .i64 0, .slice none 0 0] 24)).heap.size = w2.heap.size + 1 := by simp
      have hal := alive10_any (w2.alloc (.cells #[.int .i64 0, .int .i64 0, .int .i64 0, .slice none 0 0] 24))
      clear hf k2 b0 b1 b2 b3
      go_wp2_with fail
      refine hal.mono ?_
      rintro e w5 ⟨rfl, k5⟩
      have HB5 := Lib.hid (HB3.out.trans (k5.mono (by rw [hs3]; omega)))
      clear hal k5
      go_wp2
      go_ret
      exact ⟨rfl, HB5.out⟩
    | true =>
      have hf := feed_any s lo hi xs l _ _ wc (HX.out.below HB1.out) (HL.out.below HB1.out) (by omega) hg
      have hall := feedN_all l ⟨s, lo, hi, xs⟩
      have hcnt := feedN_count l ⟨s, lo, hi, xs⟩
      have hfull := feedN_full l ⟨s, lo, hi, xs⟩
      have hrt := (grightB_out (feedN_right l _ hg)).1
      have hsame := feedN_same l ⟨s, lo, hi, xs⟩
      obtain ⟨R, hR⟩ : ∃ R, feedN ⟨s, lo, hi, xs⟩ l = R := ⟨_, rfl⟩
      rw [hR] at hf hall hcnt hfull hrt hsame
      obtain ⟨⟨s', lo', hi', ys⟩, L, r⟩ := R
      dsimp only at hf hall hcnt hfull hrt hsame
      rw [hsame.1] at hrt
      have hys : (ys.length : Int) < s := hrt.2.2.2.2.2
      have hfl : L.flatten.length + ys.length ≤ k + m := by
        have h1 := congrArg List.length hall
        rw [List.length_append, List.length_append, hkl] at h1
        have h2 := List.length_filter_le (fitsB ⟨s, lo, hi, xs⟩) l
        omega
      have hk12 : (xs.length : Int) < s := by have := (grightB_out hg).1; exact this.2.2.2.2.2
      have hs10 : s ≤ 10 := by have := (grightB_out hg).1; exact this.2.1
      have hcnt2 : (r : Int) = (k : Int) + (m : Int) - ((xs ++ l.filter (fitsB ⟨s, lo, hi, xs⟩)).length : Nat) := by
        rw [List.length_append, hkl]
        omega
      have HALL := Lib.hid hall
      have HCNT := Lib.hid hcnt2
      have HFULL := Lib.hid hfull
      have hk2 : k ≤ 10 := by omega
      have HKM := Lib.hid (And.intro hkl hml)
      clear hg hR hall hcnt hfull hrt hsame hcnt2 hk12 hkl hml
      go_wp2_with fail
      refine hf.mono ?_
      rintro e w2 ⟨v1, r1, rfl, hv1, hr1, k2⟩
      obtain ⟨av, cv, rfl, -⟩ := id hv1
      obtain ⟨ar, cr, rfl, har1, har2, -⟩ := id hr1
      unfold maxLen at har2
      obtain ⟨yn, hyn⟩ : ∃ yn, ys.length = yn := ⟨_, rfl⟩
      obtain ⟨Ln, hLn⟩ : ∃ Ln, L.length = Ln := ⟨_, rfl⟩
      rw [hyn] at hv1 hys hfl ⊢
      rw [hLn] at hr1 har1 ⊢
      have HV1 := Lib.hid hv1
      have HR1 := Lib.hid hr1
      have HK := Lib.hid k2
      have HYN := Lib.hid hyn
      have HLN := Lib.hid hLn
      clear hv1 hr1 hyn hLn k2
      have hs2 := HK.out.size
      obtain ⟨w3, hw3⟩ : ∃ w3, w2.alloc (.cells #[.int .i64 s, .int .i64 lo, .int .i64 hi, .slice av yn cv] 24) = w3 := ⟨_, rfl⟩
      have k3 : Below w2.heap.size w2 w3 := by rw [← hw3]; exact (Below.refl _ _).alloc (Nat.le_refl _) _
      have HB3 := Lib.hid ((HB1.out.trans (HK.out.mono hs1)).trans (k3.mono (by omega)))
      have HV3 := Lib.hid (HV1.out.below k3)
      have HR3 := Lib.hid (HR1.out.below k3)
      have HA3 := Lib.hid (show Has w3 w2.heap.size [.int .i64 s, .int .i64 lo, .int .i64 hi, .slice av yn cv] 24 by rw [← hw3]; exact Has.new _ _ _)
      have HB03 := Lib.hid ((HB0.out.call HK.out).call k3)
      have hs3 : w3.heap.size = w2.heap.size + 1 := by rw [← hw3]; simp
      have hlt2 : w.heap.size < w2.heap.size := by omega
      have hlt3 : w2.heap.size < w3.heap.size := by omega
      have hlt3' : w.heap.size < w3.heap.size := by omega
      have HW3 := Lib.hid hw3
      clear hf b0 b1 b2 b3 k3 hw3 hs3
      go_upto_region 5 with fail
      rw [HW3.out]
      go_wp2
      go_loopw [9, 44] (W1Rel L w3 Ln) (fun _ i _ => Ln - (intOf i).toNat)
      case atStart => exact ⟨0, Nat.zero_le _, rfl, IRow.nil _ _, Below.refl _ _⟩
      case round =>
        obtain ⟨q, hq, rfl, hrow, hb⟩ := hrel
        have HROW := Lib.hid hrow
        have HBR := Lib.hid hb
        have hszr := hb.size
        clear hrow hb
        have bH := HB03.out.call HBR.out
        have aH := HA3.out.call HBR.out
        have b0 : wr.cell? ⟨w.heap.size, 0, none⟩ = some (.int .i64 s) := bH.cell 0
        have b1 : wr.cell? ⟨w.heap.size, 1, none⟩ = some (.int .i64 lo) := bH.cell 1
        have b2 : wr.cell? ⟨w.heap.size, 2, none⟩ = some (.int .i64 hi) := bH.cell 2
        have b3 : wr.cell? ⟨w.heap.size, 3, none⟩ = some (.slice ao k cap) := bH.cell 3
        have a0 : wr.cell? ⟨w2.heap.size, 0, none⟩ = some (.int .i64 s) := aH.cell 0
        have a1 : wr.cell? ⟨w2.heap.size, 1, none⟩ = some (.int .i64 lo) := aH.cell 1
        have a2 : wr.cell? ⟨w2.heap.size, 2, none⟩ = some (.int .i64 hi) := aH.cell 2
        have a3 : wr.cell? ⟨w2.heap.size, 3, none⟩ = some (.slice av yn cv) := aH.cell 3
        clear bH aH
        by_cases hlq : q < Ln
        · clear a0 a1 a2 a3 b1 b2 b3
          obtain ⟨ao', cp', e0, -, -, hrd⟩ := HR3.out.below HBR.out
          injection e0 with e1 e2 e3
          subst e1 e3
          obtain ⟨b, off, u, rfl, hlt, hc, hru⟩ := hrd q (by rw [HLN.out]; exact hlq)
          obtain ⟨row, hrw⟩ : ∃ row, L.getD q [] = row := ⟨_, rfl⟩
          rw [hrw] at hru
          have hrl : (row.length : Int) = s := by
            have : row ∈ L := by
              rw [← hrw, List.getD_eq_getElem?_getD, List.getElem?_eq_getElem (by rw [HLN.out]; exact hlq)]
              exact List.getElem_mem _
            exact HFULL.out row this
          have hsn := flat_snoc L q (by rw [HLN.out]; exact hlq)
          rw [hrw] at hsn
          have hfl2 := flat_le L q
          obtain ⟨acc, hacc⟩ : ∃ acc, (L.take q).flatten = acc := ⟨_, rfl⟩
          have HROW' := Lib.hid (show IRow w3.heap.size u9 acc wr by rw [← hacc]; exact HROW.out)
          rw [hacc] at hsn hfl2
          have HSN := Lib.hid hsn
          obtain ⟨au, cu, rfl, -⟩ := id hru
          have hne : ((row.length : Int) != s) = false := by rw [hrl]; simp
          have hne2 : ((row.length : Int) == s) = true := by rw [hrl]; simp
          have HRU := Lib.hid hru
          have hqn : (q : Int) < (Ln : Int) := by omega
          have hrl10 : row.length ≤ 10 := by omega
          clear hrd hru hrw hsn hacc hrl e2
          obtain ⟨rn, hrn⟩ : ∃ rn, row.length = rn := ⟨_, rfl⟩
          rw [hrn] at hne hne2 hrl10 hc
          have HRN := Lib.hid hrn
          have HRU' := Lib.hid (show ReadsI wr (.slice au rn cu) row by rw [← hrn]; exact HRU.out)
          clear hrn HRU
          go_wp2_with (at_builtin; refine wpList_append_ints rfl (.tmp 53) (.tmp 54) rfl w3.heap.size _ acc row rfl HROW'.out au rn cu rfl HRU'.out (by rw [HRN.out]; omega) hszr ?_)
          intro v' w' hi' hg'
          have HR := Lib.hid (show W1Rel L w3 Ln v' (.int .i64 ((q : Int) + 1)) w' from
            ⟨q + 1, by omega, by go_num, by rw [HSN.out]; exact hi', HBR.out.grown hg' (by omega) (fun j hj => (HROW'.out.lt' j hj).1)⟩)
          clear hi' hg' hc b0
          go_wp2
          go_roundw
          case rel => exact HR.out
          case measure => simp [intOf]; omega
        · obtain rfl : q = Ln := by omega
          obtain ⟨all1, hall1⟩ : ∃ all1, (L.take q).flatten = all1 := ⟨_, rfl⟩
          have hfe : all1 = L.flatten := by rw [← hall1, List.take_of_length_le (by rw [HLN.out]; exact Nat.le_refl _)]
          have HROW' := Lib.hid (show IRow w3.heap.size u9 all1 wr by rw [← hall1]; exact HROW.out)
          have HFE := Lib.hid hfe
          have HV4 := Lib.hid (HV3.out.below HBR.out)
          have hal2 : all1.length ≤ k + m := by rw [hfe]; omega
          clear hall1 hfe
          go_wp2_with (at_builtin; refine wpList_append_ints rfl (.tmp 57) (.tmp 59) rfl w3.heap.size _ all1 ys rfl HROW'.out av yn cv rfl HV4.out (by rw [HYN.out]; omega) hszr ?_)
          intro v5 w5 hi5 hg5
          have hs5 := hg5.size
          have hrn5 := fun b (h : b < w3.heap.size) => (show u9.ownBlock ≠ some b from HROW'.out.ne h)
          have bH := (HB03.out.call HBR.out).grown hg5 (hrn5 _ (by omega))
          have aH := (HA3.out.call HBR.out).grown hg5 (hrn5 _ (by omega))
          have hb5 := HBR.out.grown hg5 hszr (fun j hj => (HROW'.out.lt' j hj).1)
          have HB5 := Lib.hid (HB3.out.trans (hb5.mono (by omega)))
          have HX5 := Lib.hid (HX.out.below HB5.out)
          have HI5 := Lib.hid hi5
          have HBH5 := Lib.hid bH
          have HAH5 := Lib.hid aH
          have b3' : w5.cell? ⟨w.heap.size, 3, none⟩ = some (.slice ao k cap) := bH.cell 3
          have hlt5 : w.heap.size < w5.heap.size := by omega
          have hk6 := (Below.refl w5.heap.size w5).alloc (Nat.le_refl _) (.cells #[] 3)
          have hs6 : (w5.alloc (.cells #[] 3)).heap.size = w5.heap.size + 1 := by simp
          have HM6 := Lib.hid (IRow.made w5)
          have HX6 := Lib.hid (HX5.out.below hk6)
          have HK6 := Lib.hid hk6
          have HS6 := Lib.hid hs6
          clear hi5 hg5 hrn5 bH aH hb5 hk6 hs6 a0 a1 a2 a3 b0 b1 b2 b3
          go_wp2_with (at_builtin; refine wpList_append_ints rfl (.tmp 61) (.tmp 63) rfl w5.heap.size (.slice (some ⟨w5.heap.size, 0, none⟩) 0 0) [] xs rfl HM6.out ao k cap rfl HX6.out (by rw [HKM.out.1]; show 0 + k ≤ _; omega) (by rw [HS6.out]; omega) ?_)
          intro v7 w7 hi7 hg7
          have hk7 := HK6.out.grown hg7 (by rw [HS6.out]; omega) (fun j hj => by simp [Value.ownBlock] at hj; omega)
          have HI7 := Lib.hid (show W2Rel ⟨s, lo, hi, xs⟩ xs l w5 m v7 (.int .i64 0) w7 from ⟨0, Nat.zero_le _, rfl, by simpa using hi7, hk7⟩)
          clear hi7 hg7 hk7 b3'
          go_wp2
          go_loopw [12, 67] (W2Rel ⟨s, lo, hi, xs⟩ xs l w5 m) (fun _ i _ => m - (intOf i).toNat)
          case atStart => exact HI7.out
          case round =>
            obtain ⟨q2, hq2, rfl, hw2r, hb2r⟩ := hrel
            have HWR := Lib.hid hw2r
            have HB2 := Lib.hid hb2r
            have hs2r := hb2r.size
            have HBW := Lib.hid (HB5.out.trans (hb2r.mono (by omega)))
            clear hw2r hb2r
            have bH := HBH5.out.call HB2.out
            have aH := HAH5.out.call HB2.out
            have b0 : wr.cell? ⟨w.heap.size, 0, none⟩ = some (.int .i64 s) := bH.cell 0
            have b1 : wr.cell? ⟨w.heap.size, 1, none⟩ = some (.int .i64 lo) := bH.cell 1
            have b2 : wr.cell? ⟨w.heap.size, 2, none⟩ = some (.int .i64 hi) := bH.cell 2
            have b3 : wr.cell? ⟨w.heap.size, 3, none⟩ = some (.slice ao k cap) := bH.cell 3
            have a0 : wr.cell? ⟨w2.heap.size, 0, none⟩ = some (.int .i64 s) := aH.cell 0
            have a1 : wr.cell? ⟨w2.heap.size, 1, none⟩ = some (.int .i64 lo) := aH.cell 1
            have a2 : wr.cell? ⟨w2.heap.size, 2, none⟩ = some (.int .i64 hi) := aH.cell 2
            have a3 : wr.cell? ⟨w2.heap.size, 3, none⟩ = some (.slice av yn cv) := aH.cell 3
            clear bH aH
            by_cases hlq2 : q2 < m
            · clear a0 a1 a2 a3 b0 b3
              obtain ⟨ao', cp', e0, -, -, hrd⟩ := HL.out.below HBW.out
              injection e0 with e1 e2 e3
              subst e1 e3
              obtain ⟨b, off, rfl, hlt, hc⟩ := hrd q2 (by rw [HKM.out.2]; exact hlq2)
              obtain ⟨x, hx⟩ : ∃ x, l.getD q2 0 = x := ⟨_, rfl⟩
              rw [hx] at hc
              have hsn := filt_snoc ⟨s, lo, hi, xs⟩ l q2 x (by rw [HKM.out.2]; exact hlq2) hx
              have hfle := filt_le ⟨s, lo, hi, xs⟩ l q2
              rw [HKM.out.2] at hfle
              obtain ⟨acc, hacc⟩ : ∃ acc, xs ++ (l.take q2).filter (fitsB ⟨s, lo, hi, xs⟩) = acc := ⟨_, rfl⟩
              have hal : acc.length ≤ 300 := by rw [← hacc, List.length_append, HKM.out.1]; omega
              have HWR' := Lib.hid (show IRow w5.heap.size u12 acc wr by rw [← hacc]; exact HWR.out)
              have hqm : (q2 : Int) < (m : Int) := by omega
              clear hrd hx hfle e2
              by_cases hf : lo ≤ x ∧ x ≤ hi
              · rw [if_pos (show fitsB ⟨s, lo, hi, xs⟩ x = true from decide_eq_true hf)] at hsn
                have HSN := Lib.hid (show xs ++ (l.take (q2 + 1)).filter (fitsB ⟨s, lo, hi, xs⟩) = acc ++ [x] by rw [hsn, ← hacc, List.append_assoc])
                have hf1 := hf.1
                have hf2 := hf.2
                have HO := Lib.hid (ReadsI.one wr x)
                have HWA := Lib.hid (HWR'.out.alloc (.cells #[.int .i64 x] 3))
                have hsa : (wr.alloc (.cells #[.int .i64 x] 3)).heap.size = wr.heap.size + 1 := by simp
                have HSA := Lib.hid hsa
                have HBA := Lib.hid (HB2.out.alloc (by omega) (.cells #[.int .i64 x] 3))
                clear hsn hacc hf hsa
                go_wp2_with (at_builtin; refine wpList_append_ints rfl (.tmp 81) (.tmp 83) rfl w5.heap.size _ acc [x] rfl HWA.out (some ⟨wr.heap.size, 0, none⟩) 1 1 rfl HO.out (by show _ + 1 ≤ _; omega) (by rw [HSA.out]; omega) ?_)
                intro v' w' hi' hg'
                have HR := Lib.hid (show W2Rel ⟨s, lo, hi, xs⟩ xs l w5 m v' (.int .i64 ((q2 : Int) + 1)) w' from
                  ⟨q2 + 1, by omega, by go_num, by rw [HSN.out]; exact hi', HBA.out.grown hg' (by rw [HSA.out]; omega) (fun j hj => (HWA.out.lt' j hj).1)⟩)
                clear hi' hg' hc b1 b2
                go_wp2
                go_roundw
                case rel => exact HR.out
                case measure => simp [intOf]; omega
              · rw [if_neg (show ¬ fitsB ⟨s, lo, hi, xs⟩ x = true from fun h => hf (of_decide_eq_true h)), List.append_nil] at hsn
                have HSN := Lib.hid (show xs ++ (l.take (q2 + 1)).filter (fitsB ⟨s, lo, hi, xs⟩) = acc by rw [hsn, ← hacc])
                have HR := Lib.hid (show W2Rel ⟨s, lo, hi, xs⟩ xs l w5 m u12 (.int .i64 ((q2 : Int) + 1)) wr from
                  ⟨q2 + 1, by omega, by go_num, by rw [HSN.out]; exact HWR'.out, HB2.out⟩)
                clear hsn hacc
                by_cases hf1 : lo ≤ x
                · have hf2 : ¬ x ≤ hi := fun h => hf ⟨hf1, h⟩
                  clear hf
                  go_wp2
                  go_roundw
                  case rel => exact HR.out
                  case measure => simp [intOf]; omega
                · clear hf
                  go_wp2
                  go_roundw
                  case rel => exact HR.out
                  case measure => simp [intOf]; omega
            · obtain rfl : q2 = m := by omega
              obtain ⟨wl, hwl⟩ : ∃ wl, xs ++ l.filter (fitsB ⟨s, lo, hi, xs⟩) = wl := ⟨_, rfl⟩
              have hwe : xs ++ (l.take q2).filter (fitsB ⟨s, lo, hi, xs⟩) = wl := by rw [List.take_of_length_le (by rw [HKM.out.2]; exact Nat.le_refl _), hwl]
              have HWR' := Lib.hid (show IRow w5.heap.size u12 wl wr by rw [← hwe]; exact HWR.out)
              have HALLE := Lib.hid (show all1 ++ ys = wl by rw [HFE.out, HALL.out, hwl])
              have hcnt := HCNT.out
              rw [hwl] at hcnt
              have hwb : wl.length ≤ 300 := by
                rw [← hwl, List.length_append, HKM.out.1]
                have h2 := List.length_filter_le (fitsB ⟨s, lo, hi, xs⟩) l
                rw [HKM.out.2] at h2
                omega
              obtain ⟨aw, cw, hue, -⟩ := HWR'.out.reads
              subst hue
              obtain ⟨wn, hwn⟩ : ∃ wn, wl.length = wn := ⟨_, rfl⟩
              rw [hwn] at hcnt hwb ⊢
              have HWN := Lib.hid hwn
              have hq1 : ((r : Int) == (k : Int) + (q2 : Int) - (wn : Int)) = true := beq_iff_eq.2 hcnt
              have HCN := Lib.hid hcnt
              clear hwl hwe hwn hcnt b0 b1 b2 b3 a0 a1 a2 a3
              have hal := alive10_any wr
              go_wp2_with fail
              refine hal.mono ?_
              rintro e w9 ⟨rfl, k9⟩
              have hs9 := k9.size
              have bH := (HBH5.out.call HB2.out).call k9
              have aH := (HAH5.out.call HB2.out).call k9
              have b0 : w9.cell? ⟨w.heap.size, 0, none⟩ = some (.int .i64 s) := bH.cell 0
              have b1 : w9.cell? ⟨w.heap.size, 1, none⟩ = some (.int .i64 lo) := bH.cell 1
              have b2 : w9.cell? ⟨w.heap.size, 2, none⟩ = some (.int .i64 hi) := bH.cell 2
              have b3 : w9.cell? ⟨w.heap.size, 3, none⟩ = some (.slice ao k cap) := bH.cell 3
              have a0 : w9.cell? ⟨w2.heap.size, 0, none⟩ = some (.int .i64 s) := aH.cell 0
              have a1 : w9.cell? ⟨w2.heap.size, 1, none⟩ = some (.int .i64 lo) := aH.cell 1
              have a2 : w9.cell? ⟨w2.heap.size, 2, none⟩ = some (.int .i64 hi) := aH.cell 2
              have a3 : w9.cell? ⟨w2.heap.size, 3, none⟩ = some (.slice av yn cv) := aH.cell 3
              have HB9 := Lib.hid (HBW.out.trans (k9.mono (by omega)))
              have hin := ints_any (all1 ++ ys) wl _ _ w9 ((HI5.out.reads.below HB2.out).below k9) (HWR'.out.reads.below k9)
              rw [decide_eq_true HALLE.out, HWN.out] at hin
              obtain ⟨av5, cv5, hv5, -⟩ := HI5.out.reads
              subst hv5
              generalize (all1 ++ ys).length = n5 at *
              clear hal k9 bH aH
              go_wp2_with fail
              refine hin.mono ?_
              rintro e w10 ⟨rfl, mm, rfl⟩
              have HB10 := Lib.hid (Below.drewN HB9.out mm)
              clear hin
              go_wp2
              go_ret
              exact ⟨rfl, HB10.out⟩
end Go.Proofs.Ytnpgofkdfckioaa
