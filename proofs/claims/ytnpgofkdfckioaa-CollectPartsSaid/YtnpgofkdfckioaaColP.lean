/- collect.Feed. -/
import Derived.Test.YtnpgofkdfckioaaColO
namespace Go.Proofs.Ytnpgofkdfckioaa
open Go.RowKit

/-- The rows that a slice of the call's own holds. -/
def RowsOf (B : Nat) (rv : Value) (w : World) (L : List (List Int)) : Prop :=
  ∃ vs : List Value, w.ownsRow (B + 3) 22 1 rv L.length vs ∧ ∀ (i : Nat) (row : List Int), L[i]? = some row → ∃ y, vs[i]? = some (Value.slice (some ⟨y, 0, none⟩) row.length row.length) ∧ B + 3 ≤ y ∧ Has w y (intsV row) 3
theorem RowsOf.frame {B : Nat} {rv : Value} {w w' : World} {L : List (List Int)} (h : RowsOf B rv w L) (hk : ∀ k, B + 3 ≤ k → k < w.heap.size → w'.heap[k]? = w.heap[k]?) : RowsOf B rv w' L := by
  obtain ⟨vs, h1, h2⟩ := h
  refine ⟨vs, ⟨h1.1, ?_⟩, fun i row hi => ?_⟩
  · rcases h1.2 with hn | ⟨g, cap, cur, h3, h4, h5, h6⟩
    · exact .inl hn
    · exact .inr ⟨g, cap, cur, h3, h4, (hk g h4 (Array.getElem?_eq_some_iff.1 h5).1).trans h5, h6⟩
  · obtain ⟨y, h3, h4, h5⟩ := h2 i row hi
    exact ⟨y, h3, h4, h5.of (hk y h4 h5.lt)⟩
theorem RowsOf.reads {B n cap : Nat} {ao : Option Addr} {w : World} {L : List (List Int)} (h : RowsOf B (.slice ao n cap) w L) (hr : ∀ r ∈ L, r.length ≤ 10) : ReadsR w (.slice ao n cap) L := by
  obtain ⟨vs, h2, h3⟩ := h
  rcases id h2.2 with ⟨e, h0⟩ | ⟨g, cap, cur, e, hb, hg, hn, hm, hs, ht⟩
  · injection e with e1 e2 e3
    subst e1 e2 e3
    have : L = [] := List.eq_nil_of_length_eq_zero h0
    subst this
    exact ReadsR.nil w
  · injection e with e1 e2 e3
    subst e1 e2 e3
    refine ⟨_, _, rfl, hn, hm, fun i hi => ?_⟩
    obtain ⟨y, h4, h5, h6⟩ := h3 i _ (List.getElem?_eq_getElem hi)
    have hc := h2.cells (g := g) rfl i _ h4
    have e : (⟨g, 0, none⟩ : Addr).add i = ⟨g, 0 + i, none⟩ := by unfold Addr.add; split <;> simp_all
    rw [e] at hc
    refine ⟨g, 0, _, rfl, (Array.getElem?_eq_some_iff.1 hg).1, hc, ?_⟩
    rw [List.getD_eq_getElem?_getD, List.getElem?_eq_getElem hi]
    have hle := hr _ (List.getElem_mem hi)
    refine h6.readsI (by rw [intsV_len]) rfl (Nat.le_refl _) (by omega) ?_
    rw [List.take_of_length_le (by rw [intsV_len]; exact Nat.le_refl _)]
    rfl
theorem AllRows.split {c B : Nat} {w : World} {L : List (List Int)} (h : AllRows c B w L) : ∃ ao cap, Has w c [.slice ao L.length cap] 42 ∧ RowsOf B (.slice ao L.length cap) w L := by
  obtain ⟨rv, vs, h1, h2, h3⟩ := h
  rcases id h2.2 with ⟨rfl, h0⟩ | ⟨g, cap, cur, rfl, _⟩
  · rw [h0] at h2 ⊢
    exact ⟨none, 0, h1, vs, by rw [h0]; exact h2, h3⟩
  · exact ⟨_, cap, h1, vs, h2, h3⟩
theorem feedN_rows_len (l : List Int) (g : Grp) : (feedN g l).2.1.length ≤ l.length := by
  induction l generalizing g with
  | nil => exact Nat.le_refl _
  | cons x l ih =>
    unfold feedN
    split
    · dsimp only
      have := ih (addG g x)
      split <;> simp only [List.length_cons] <;> omega
    · have := ih g
      simp only [List.length_cons]
      omega
set_option maxRecDepth 100000 in
theorem feed_no (s lo hi : Int) (xs l : List Int) (v vl : Value) (w : World) (hr : ReadsI w v xs) (hl : ReadsI w vl l) (h : grightB ⟨s, lo, hi, xs⟩ = false) :
    Calls Try.prog 19 #[.agg #[.int .i64 s, .int .i64 lo, .int .i64 hi, v], vl] w fun e w' => e = .returned (.tuple #[.agg #[.int .i64 0, .int .i64 0, .int .i64 0, .slice none 0 0], .slice none 0 0, .int .i64 0, .int .i64 1]) ∧ Below w.heap.size w w' := by
  obtain ⟨al, cl, rfl, -⟩ := id hl
  obtain ⟨m, hml⟩ : ∃ m, l.length = m := ⟨_, rfl⟩
  rw [hml] at hl ⊢
  obtain ⟨ao, cap, rfl, hlc, hcm, -⟩ := id hr
  unfold maxLen at hcm
  obtain ⟨n, hn⟩ : ∃ n, xs.length = n := ⟨_, rfl⟩
  rw [hn] at hlc hr ⊢
  have hb2 := ((Below.refl w.heap.size w).alloc (Nat.le_refl _) (.cells #[.int .i64 s, .int .i64 lo, .int .i64 hi, .slice ao n cap] 24)).alloc (by simp) (.cells #[.int .i64 0, .int .i64 0, .int .i64 0, .slice none 0 0] 24)
  have hs2 : ((w.alloc (.cells #[.int .i64 s, .int .i64 lo, .int .i64 hi, .slice ao n cap] 24)).alloc (.cells #[.int .i64 0, .int .i64 0, .int .i64 0, .slice none 0 0] 24)).heap.size = w.heap.size + 2 := by simp
  have hg := (Has.new w [.int .i64 s, .int .i64 lo, .int .i64 hi, .slice ao n cap] 24).alloc (.cells #[.int .i64 0, .int .i64 0, .int .i64 0, .slice none 0 0] 24)
  have hz := Has.new (w.alloc (.cells #[.int .i64 s, .int .i64 lo, .int .i64 hi, .slice ao n cap] 24)) [.int .i64 0, .int .i64 0, .int .i64 0, .slice none 0 0] 24
  rw [show (w.alloc (.cells #[.int .i64 s, .int .i64 lo, .int .i64 hi, .slice ao n cap] 24)).heap.size = w.heap.size + 1 by simp] at hz
  have hrt := right10_any s lo hi xs (.slice ao n cap) _ (hr.below hb2)
  rw [h] at hrt
  have HZ := Lib.hid hz
  have HG := Lib.hid hg
  have HB := Lib.hid hb2
  have HS := Lib.hid hs2
  have HRD := Lib.hid hr
  have HN := Lib.hid hn
  clear hz hg hb2 hs2 h hr hn hl hml
  go_enter Try.func19, Try.ntmps19
  go_wp2_with fail
  refine hrt.mono ?_
  rintro e w3 ⟨rfl, k3⟩
  have xH := HZ.out.call k3
  have gH := HG.out.call k3
  have hb3 := HB.out.trans (k3.mono HB.out.size)
  have hs3 := k3.size
  rw [HS.out] at hs3
  clear hrt k3 gH
  have x0 : w3.cell? ⟨w.heap.size + 1, 0, none⟩ = some (.int .i64 0) := xH.cell 0
  have x1 : w3.cell? ⟨w.heap.size + 1, 1, none⟩ = some (.int .i64 0) := xH.cell 1
  have x2 : w3.cell? ⟨w.heap.size + 1, 2, none⟩ = some (.int .i64 0) := xH.cell 2
  have x3 : w3.cell? ⟨w.heap.size + 1, 3, none⟩ = some (.slice none 0 0) := xH.cell 3
  have xf0 : w3.frozen? ⟨w.heap.size + 1, 0, none⟩ = false := xH.frozen 0
  have xf1 : w3.frozen? ⟨w.heap.size + 1, 1, none⟩ = false := xH.frozen 1
  have xf2 : w3.frozen? ⟨w.heap.size + 1, 2, none⟩ = false := xH.frozen 2
  have xf3 : w3.frozen? ⟨w.heap.size + 1, 3, none⟩ = false := xH.frozen 3
  have HR := Lib.hid (xH.put4 (.int .i64 0) (.int .i64 0) (.int .i64 0) (.slice none 0 0))
  have HB3 := Lib.hid (Below.put4 (b := w.heap.size + 1) hb3 (Nat.le_add_right _ 1) (.int .i64 0) (.int .i64 0) (.int .i64 0) (.slice none 0 0))
  clear xH hb3
  go_wp2
  (try simp only [Exit.inBlock, Exit.then])
  exact bodyPost_ret (res_cell3 Try.results19 rfl (load4 HR.out)) rfl ⟨rfl, HB3.out⟩
set_option maxHeartbeats 1000000 in
set_option maxRecDepth 100000 in
theorem feed_any (s lo hi : Int) (xs l : List Int) (v vl : Value) (w : World) (hr : ReadsI w v xs) (hl : ReadsI w vl l) (hm : l.length ≤ 100000) (h : grightB ⟨s, lo, hi, xs⟩ = true) :
    Calls Try.prog 19 #[.agg #[.int .i64 s, .int .i64 lo, .int .i64 hi, v], vl] w fun e w' => ∃ v' r, e = .returned (.tuple #[.agg #[.int .i64 s, .int .i64 lo, .int .i64 hi, v'], r, .int .i64 ((feedN ⟨s, lo, hi, xs⟩ l).2.2 : Nat), .int .i64 0]) ∧ ReadsI w' v' (feedN ⟨s, lo, hi, xs⟩ l).1.xs ∧ ReadsR w' r (feedN ⟨s, lo, hi, xs⟩ l).2.1 ∧ Below w.heap.size w w' := by
  obtain ⟨hg1, -⟩ := grightB_out h
  have hrt2 := (grightB_out (feedN_right l _ h)).1
  dsimp only at hg1
  obtain ⟨S, rfl⟩ : ∃ S : Nat, s = (S : Int) := ⟨s.toNat, by omega⟩
  obtain ⟨R, hR⟩ : ∃ R, feedN ⟨(S : Int), lo, hi, xs⟩ l = R := ⟨_, rfl⟩
  have hsame := feedN_same l ⟨(S : Int), lo, hi, xs⟩
  have hfull := feedN_full l ⟨(S : Int), lo, hi, xs⟩
  have hLl := feedN_rows_len l ⟨(S : Int), lo, hi, xs⟩
  rw [hR] at hsame hfull hrt2 hLl ⊢
  obtain ⟨⟨s', lo', hi', ys⟩, L, r⟩ := R
  dsimp only at hsame hfull hrt2 hLl ⊢
  obtain ⟨e1, e2, e3⟩ := hsame
  have e2' := e2.symm
  have e3' := e3.symm
  clear e2 e3
  subst e1 e2' e3'
  have hyl : ys.length ≤ S := by omega
  have hrl : ∀ q ∈ L, q.length ≤ 10 := fun q hq => by have := hfull q hq; omega
  have hLm : L.length ≤ 100000 := by omega
  obtain ⟨al, cl, rfl, -⟩ := id hl
  obtain ⟨m, hml⟩ : ∃ m, l.length = m := ⟨_, rfl⟩
  rw [hml] at hl hm ⊢
  obtain ⟨ao, cap, rfl, hlc, hcm, -⟩ := id hr
  unfold maxLen at hcm
  obtain ⟨n, hn⟩ : ∃ n, xs.length = n := ⟨_, rfl⟩
  rw [hn] at hlc hr ⊢
  have hb2 := ((Below.refl w.heap.size w).alloc (Nat.le_refl _) (.cells #[.int .i64 (S : Int), .int .i64 lo, .int .i64 hi, .slice ao n cap] 24)).alloc (by simp) (.cells #[.int .i64 0, .int .i64 0, .int .i64 0, .slice none 0 0] 24)
  have hs2 : ((w.alloc (.cells #[.int .i64 (S : Int), .int .i64 lo, .int .i64 hi, .slice ao n cap] 24)).alloc (.cells #[.int .i64 0, .int .i64 0, .int .i64 0, .slice none 0 0] 24)).heap.size = w.heap.size + 2 := by simp
  have hg := (Has.new w [.int .i64 (S : Int), .int .i64 lo, .int .i64 hi, .slice ao n cap] 24).alloc (.cells #[.int .i64 0, .int .i64 0, .int .i64 0, .slice none 0 0] 24)
  have hz := Has.new (w.alloc (.cells #[.int .i64 (S : Int), .int .i64 lo, .int .i64 hi, .slice ao n cap] 24)) [.int .i64 0, .int .i64 0, .int .i64 0, .slice none 0 0] 24
  rw [show (w.alloc (.cells #[.int .i64 (S : Int), .int .i64 lo, .int .i64 hi, .slice ao n cap] 24)).heap.size = w.heap.size + 1 by simp] at hz
  have hrt := right10_any (S : Int) lo hi xs (.slice ao n cap) _ (hr.below hb2)
  rw [h] at hrt
  have HZ := Lib.hid hz
  have HG := Lib.hid hg
  have HB := Lib.hid hb2
  have HS := Lib.hid hs2
  have HRD := Lib.hid hr
  have HN := Lib.hid hn
  have HFD := Lib.hid hR
  have HGT := Lib.hid hg1
  have HRL := Lib.hid hrl
  have HYL := Lib.hid hyl
  have HLD := Lib.hid hl
  have HML := Lib.hid hml
  have HM := Lib.hid hm
  clear hz hg hb2 hs2 h hr hn hR hrl hg1 hyl hrt2 hLl hfull hLm hl hml hm
  go_enter Try.func19, Try.ntmps19
  go_wp2_with fail
  refine hrt.mono ?_
  rintro e w3 ⟨rfl, k3⟩
  have xH := HZ.out.call k3
  have gH := HG.out.call k3
  have hb3 := HB.out.trans (k3.mono HB.out.size)
  have hs3 := k3.size
  rw [HS.out] at hs3
  have g0 : w3.cell? ⟨w.heap.size, 0, none⟩ = some (.int .i64 (S : Int)) := gH.cell 0
  have g1 : w3.cell? ⟨w.heap.size, 1, none⟩ = some (.int .i64 lo) := gH.cell 1
  have g2 : w3.cell? ⟨w.heap.size, 2, none⟩ = some (.int .i64 hi) := gH.cell 2
  have g3 : w3.cell? ⟨w.heap.size, 3, none⟩ = some (.slice ao n cap) := gH.cell 3
  obtain ⟨c, hcv⟩ : ∃ c, w3.heap.size = c := ⟨_, rfl⟩
  have hb6 := (Below.refl w3.heap.size w3).alloc (Nat.le_refl _) (.cells #[.slice none 0 0] 42)
  obtain ⟨w6, hw6⟩ : ∃ w6, w3.alloc (.cells #[.slice none 0 0] 42) = w6 := ⟨_, rfl⟩
  have hs6 : w6.heap.size = c + 1 := by rw [← hw6, ← hcv]; simp
  have hc6 : Has w6 c [.slice none 0 0] 42 := by rw [← hw6, ← hcv]; exact Has.new w3 [.slice none 0 0] _
  rw [hw6] at hb6
  have HK6 := Lib.hid (hb3.trans (hb6.mono (by omega)))
  have HX6 := Lib.hid (xH.call hb6)
  have HR6 := Lib.hid (HRD.out.below HK6.out)
  have hlt : w.heap.size < c := by omega
  have hfl := fill_any 25 c S (AllRows c w6.heap.size) lo hi xs l (.slice ao n cap) (.slice al m cl) w6 (gathFeed c w6.heap.size (by omega)) (by omega) (by have := HGT.out; omega) (by have := HGT.out; omega) (by have := HGT.out; omega) HR6.out
    (fun W hW => HLD.out.below (HK6.out.trans ((hW.mono (by omega)).toBelow (by omega)))) (by rw [HML.out]; exact HM.out) ⟨.slice none 0 0, [], hc6, World.ownsRow_nil _ _ _ 1, fun i q hq => by cases hq⟩ ys L r HFD.out
  rw [hs6] at hfl
  have HSZ := Lib.hid hs6
  have HW6 := Lib.hid hw6
  clear hrt k3 hb6 hc6 hb3 xH gH hs6 hw6
  go_wp2_with fail
  rw [HW6.out]
  refine hfl.mono ?_
  rintro e w7 ⟨rfl, hfr, hlast, hkp⟩
  obtain ⟨ro, rc, hc7, hrr⟩ := hlast.split
  have hs6 := HSZ.out
  have hs7 := hkp.size
  rw [hs6] at hs7
  have xH := hkp.has HX6.out (by omega) (by omega)
  have hfr' := hfr.reads (by have := HGT.out; omega) HYL.out
  have hb7 : Below w.heap.size w w7 := HK6.out.trans ((hkp.mono (by omega)).toBelow (by omega))
  obtain ⟨yl, hyl⟩ : ∃ yl, ys.length = yl := ⟨_, rfl⟩
  rw [hyl] at hfr' ⊢
  obtain ⟨Ll, hLl⟩ : ∃ Ll, L.length = Ll := ⟨_, rfl⟩
  rw [hLl] at hc7 hrr
  have c0 : w7.cell? ⟨c, 0, none⟩ = some (.slice ro Ll rc) := hc7.cell 0
  have hlt7 : c < w7.heap.size := by omega
  have hne7 : w.heap.size + 1 < w7.heap.size := by omega
  have x0 : w7.cell? ⟨w.heap.size + 1, 0, none⟩ = some (.int .i64 0) := xH.cell 0
  have x1 : w7.cell? ⟨w.heap.size + 1, 1, none⟩ = some (.int .i64 0) := xH.cell 1
  have x2 : w7.cell? ⟨w.heap.size + 1, 2, none⟩ = some (.int .i64 0) := xH.cell 2
  have x3 : w7.cell? ⟨w.heap.size + 1, 3, none⟩ = some (.slice none 0 0) := xH.cell 3
  have xf0 : w7.frozen? ⟨w.heap.size + 1, 0, none⟩ = false := xH.frozen 0
  have xf1 : w7.frozen? ⟨w.heap.size + 1, 1, none⟩ = false := xH.frozen 1
  have xf2 : w7.frozen? ⟨w.heap.size + 1, 2, none⟩ = false := xH.frozen 2
  have xf3 : w7.frozen? ⟨w.heap.size + 1, 3, none⟩ = false := xH.frozen 3
  have hP : ((((w7.setCell ⟨w.heap.size + 1, 0, none⟩ (.int .i64 (S : Int))).setCell ⟨w.heap.size + 1, 1, none⟩ (.int .i64 lo)).setCell ⟨w.heap.size + 1, 2, none⟩ (.int .i64 hi)).setCell ⟨w.heap.size + 1, 3, none⟩ (.slice (some ⟨c + 1 + 2, 0, none⟩) yl S)).heap.size = w7.heap.size := by simp
  have hR8 := (xH.put4 (.int .i64 (S : Int)) (.int .i64 lo) (.int .i64 hi) (.slice (some ⟨c + 1 + 2, 0, none⟩) yl S)).alloc (.cells #[.int .i64 (S : Int), .int .i64 lo, .int .i64 hi, .slice (some ⟨c + 1 + 2, 0, none⟩) yl S] 24)
  have hB8 := Below.drew ((Below.put4 (b := w.heap.size + 1) hb7 (Nat.le_add_right _ 1) (.int .i64 (S : Int)) (.int .i64 lo) (.int .i64 hi) (.slice (some ⟨c + 1 + 2, 0, none⟩) yl S)).alloc (by rw [hP]; omega) (.cells #[.int .i64 (S : Int), .int .i64 lo, .int .i64 hi, .slice (some ⟨c + 1 + 2, 0, none⟩) yl S] 24))
  have hkk := fun k (hk : k ≠ w.heap.size + 1) (hl : k < w7.heap.size) => (Below.heap_alloc ((((w7.setCell ⟨w.heap.size + 1, 0, none⟩ (.int .i64 (S : Int))).setCell ⟨w.heap.size + 1, 1, none⟩ (.int .i64 lo)).setCell ⟨w.heap.size + 1, 2, none⟩ (.int .i64 hi)).setCell ⟨w.heap.size + 1, 3, none⟩ (.slice (some ⟨c + 1 + 2, 0, none⟩) yl S)) (.cells #[.int .i64 (S : Int), .int .i64 lo, .int .i64 hi, .slice (some ⟨c + 1 + 2, 0, none⟩) yl S] 24) k (by rw [hP]; exact hl)).trans (put4_block w7 (w.heap.size + 1) k hk (.int .i64 (S : Int)) (.int .i64 lo) (.int .i64 hi) (.slice (some ⟨c + 1 + 2, 0, none⟩) yl S))
  have HV8 := Lib.hid (hfr'.frame (w' := (((((w7.setCell ⟨w.heap.size + 1, 0, none⟩ (.int .i64 (S : Int))).setCell ⟨w.heap.size + 1, 1, none⟩ (.int .i64 lo)).setCell ⟨w.heap.size + 1, 2, none⟩ (.int .i64 hi)).setCell ⟨w.heap.size + 1, 3, none⟩ (.slice (some ⟨c + 1 + 2, 0, none⟩) yl S)).alloc (.cells #[.int .i64 (S : Int), .int .i64 lo, .int .i64 hi, .slice (some ⟨c + 1 + 2, 0, none⟩) yl S] 24)).drew) (by simp [World.drew]) (fun k hk => hkk k (by injection hk with hk; have : c + 1 + 2 = k := hk; omega) (by injection hk with hk; have e : c + 1 + 2 = k := hk; rw [← e]; exact hfr.lt)))
  have HW8 := Lib.hid ((hrr.frame (w' := (((((w7.setCell ⟨w.heap.size + 1, 0, none⟩ (.int .i64 (S : Int))).setCell ⟨w.heap.size + 1, 1, none⟩ (.int .i64 lo)).setCell ⟨w.heap.size + 1, 2, none⟩ (.int .i64 hi)).setCell ⟨w.heap.size + 1, 3, none⟩ (.slice (some ⟨c + 1 + 2, 0, none⟩) yl S)).alloc (.cells #[.int .i64 (S : Int), .int .i64 lo, .int .i64 hi, .slice (some ⟨c + 1 + 2, 0, none⟩) yl S] 24)).drew) (fun k hk hl => hkk k (by omega) hl)).reads HRL.out)
  have HR8 := Lib.hid hR8
  have HB8 := Lib.hid hB8
  clear hP hfl hlast hkp hfr hfr' hc7 hrr xH hb7 hR8 hB8 hkk hs6 g0 g1 g2 g3 hyl hLl
  go_wp2
  go_region
  go_wp2
  (try simp only [Exit.inBlock, Exit.then])
  exact bodyPost_ret (res_cell3 Try.results19 rfl (load4 (w := _) HR8.out)) rfl ⟨_, _, rfl, HV8.out, HW8.out, HB8.out⟩
end Go.Proofs.Ytnpgofkdfckioaa
