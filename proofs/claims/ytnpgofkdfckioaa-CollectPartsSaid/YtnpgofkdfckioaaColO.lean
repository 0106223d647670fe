/- collect.Add. -/
import Derived.Test.YtnpgofkdfckioaaColL
namespace Go.Proofs.Ytnpgofkdfckioaa
open Go.RowKit

theorem ReadsI.frame {w w' : World} {v : Value} {xs : List Int} (h : ReadsI w v xs) (hs : w.heap.size ≤ w'.heap.size) (hk : ∀ k, v.ownBlock = some k → w'.heap[k]? = w.heap[k]?) : ReadsI w' v xs := by
  obtain ⟨ao, cap, rfl, h2, h3, h4⟩ := h
  refine ⟨ao, cap, rfl, h2, h3, fun i hi => ?_⟩
  obtain ⟨b, off, rfl, h6, h7⟩ := h4 i hi
  exact ⟨b, off, rfl, Nat.lt_of_lt_of_le h6 hs, (World.cell?_of_block (w := w) (hk b rfl)).trans h7⟩
theorem ReadsI.lt {w : World} {v : Value} {xs : List Int} (h : ReadsI w v xs) (hx : 0 < xs.length) : ∀ k, v.ownBlock = some k → k < w.heap.size := by
  obtain ⟨ao, cap, rfl, h2, h3, h4⟩ := h
  obtain ⟨b, off, rfl, h6, h7⟩ := h4 0 hx
  intro k hk
  injection hk with hk
  have : b = k := hk
  omega
theorem LastRow.reads {c B : Nat} {w : World} {L : List (List Int)} (h : LastRow c B w L) (row : List Int) (hL : L = if row = [] then [] else [row]) (hl : row.length ≤ 10) :
    ∃ ro rn rc, Has w c [.slice ro rn rc] 22 ∧ ReadsI w (.slice ro rn rc) row ∧ ∀ k, Value.ownBlock (.slice ro rn rc) = some k → B + 3 ≤ k ∧ k < w.heap.size := by
  rcases h with ⟨h1, h2⟩ | ⟨M, r, y, h1, h2, h3, h4⟩
  · rw [h1] at hL
    split at hL
    · rename_i e
      subst e
      exact ⟨none, 0, 0, h2, ReadsI.nil w, fun k hk => by cases hk⟩
    · cases hL
  · rw [hL] at h1
    split at h1
    · have := congrArg List.length h1
      rw [List.length_append] at this
      simp at this
    · have e : row = r := by
        have := congrArg List.getLast? h1
        simpa using this
      subst e
      refine ⟨_, _, _, h3, h4.readsI (by rw [intsV_len]) rfl (Nat.le_refl _) (by omega) ?_, fun k hk => ?_⟩
      · rw [List.take_of_length_le (by rw [intsV_len]; exact Nat.le_refl _)]
      · injection hk with hk
        have : y = k := hk
        have := h4.lt
        omega
theorem feedN_add (g : Grp) (x : Int) (h : fitsB g x = true) : feedN g [x] = (addG g x, (if addR g x = [] then [] else [addR g x]), 0) := by
  by_cases hr : addR g x = []
  · rw [feedN_yes [] h hr, if_pos hr]
    rfl
  · rw [feedN_row [] h hr, if_neg hr]
    rfl
set_option maxRecDepth 100000 in
theorem add_no (s lo hi x : Int) (xs : List Int) (v : Value) (w : World) (hr : ReadsI w v xs) (h : grightB ⟨s, lo, hi, xs⟩ = false) :
    Calls Try.prog 9 #[.agg #[.int .i64 s, .int .i64 lo, .int .i64 hi, v], .int .i64 x] w fun e w' => e = .returned (.tuple #[.agg #[.int .i64 0, .int .i64 0, .int .i64 0, .slice none 0 0], .slice none 0 0, .int .i64 1]) ∧ Below w.heap.size w w' := by
  obtain ⟨ao, cap, rfl, hlc, hcm, -⟩ := id hr
  unfold maxLen at hcm
  obtain ⟨n, hn⟩ : ∃ n, xs.length = n := ⟨_, rfl⟩
  rw [hn] at hlc hr ⊢
  have hb2 := ((Below.refl w.heap.size w).alloc (Nat.le_refl _) (.cells #[.int .i64 s, .int .i64 lo, .int .i64 hi, .slice ao n cap] 24)).alloc (by simp) (.cells #[.int .i64 0, .int .i64 0, .int .i64 0, .slice none 0 0] 24)
  have hs2 : ((w.alloc (.cells #[.int .i64 s, .int .i64 lo, .int .i64 hi, .slice ao n cap] 24)).alloc (.cells #[.int .i64 0, .int .i64 0, .int .i64 0, .slice none 0 0] 24)).heap.size = w.heap.size + 2 := by simp
  have hg := (Has.new w [.int .i64 s, .int .i64 lo, .int .i64 hi, .slice ao n cap] 24).alloc (.cells #[.int .i64 0, .int .i64 0, .int .i64 0, .slice none 0 0] 24)
  have hz := Has.new (w.alloc (.cells #[.int .i64 s, .int .i64 lo, .int .i64 hi, .slice ao n cap] 24)) [.int .i64 0, .int .i64 0, .int .i64 0, .slice none 0 0] 24
  rw [show (w.alloc (.cells #[.int .i64 s, .int .i64 lo, .int .i64 hi, .slice ao n cap] 24)).heap.size = w.heap.size + 1 by simp] at hz
  have hrt := right10_any s lo hi xs (.slice ao n cap) _ (hr.below hb2)
  rw [h] at hrt
  have HZ := Lib.hid hz
  have HG := Lib.hid hg
  have HB := Lib.hid hb2
  have HS := Lib.hid hs2
  have HRD := Lib.hid hr
  have HN := Lib.hid hn
  clear hz hg hb2 hs2 h hr hn
  go_enter Try.func9, Try.ntmps9
  go_wp2_with fail
  refine hrt.mono ?_
  rintro e w3 ⟨rfl, k3⟩
  have xH := HZ.out.call k3
  have gH := HG.out.call k3
  have hb3 := HB.out.trans (k3.mono HB.out.size)
  have hs3 := k3.size
  rw [HS.out] at hs3
  clear hrt k3 gH
  have x0 : w3.cell? ⟨w.heap.size + 1, 0, none⟩ = some (.int .i64 0) := xH.cell 0
  have x1 : w3.cell? ⟨w.heap.size + 1, 1, none⟩ = some (.int .i64 0) := xH.cell 1
  have x2 : w3.cell? ⟨w.heap.size + 1, 2, none⟩ = some (.int .i64 0) := xH.cell 2
  have x3 : w3.cell? ⟨w.heap.size + 1, 3, none⟩ = some (.slice none 0 0) := xH.cell 3
  have xf0 : w3.frozen? ⟨w.heap.size + 1, 0, none⟩ = false := xH.frozen 0
  have xf1 : w3.frozen? ⟨w.heap.size + 1, 1, none⟩ = false := xH.frozen 1
  have xf2 : w3.frozen? ⟨w.heap.size + 1, 2, none⟩ = false := xH.frozen 2
  have xf3 : w3.frozen? ⟨w.heap.size + 1, 3, none⟩ = false := xH.frozen 3
  have HR := Lib.hid (xH.put4 (.int .i64 0) (.int .i64 0) (.int .i64 0) (.slice none 0 0))
  have HB3 := Lib.hid (Below.put4 (b := w.heap.size + 1) hb3 (Nat.le_add_right _ 1) (.int .i64 0) (.int .i64 0) (.int .i64 0) (.slice none 0 0))
  clear xH hb3
  go_wp2
  (try simp only [Exit.inBlock, Exit.then])
  exact bodyPost_ret (res_cell2 Try.results9 rfl (load4 HR.out)) rfl ⟨rfl, HB3.out⟩
set_option maxRecDepth 100000 in
theorem add_out (s lo hi x : Int) (xs : List Int) (v : Value) (w : World) (hr : ReadsI w v xs) (h : grightB ⟨s, lo, hi, xs⟩ = true) (hf : ¬ (lo ≤ x ∧ x ≤ hi)) :
    Calls Try.prog 9 #[.agg #[.int .i64 s, .int .i64 lo, .int .i64 hi, v], .int .i64 x] w fun e w' => e = .returned (.tuple #[.agg #[.int .i64 0, .int .i64 0, .int .i64 0, .slice none 0 0], .slice none 0 0, .int .i64 3]) ∧ Below w.heap.size w w' := by
  obtain ⟨ao, cap, rfl, hlc, hcm, -⟩ := id hr
  unfold maxLen at hcm
  obtain ⟨n, hn⟩ : ∃ n, xs.length = n := ⟨_, rfl⟩
  rw [hn] at hlc hr ⊢
  have hb2 := ((Below.refl w.heap.size w).alloc (Nat.le_refl _) (.cells #[.int .i64 s, .int .i64 lo, .int .i64 hi, .slice ao n cap] 24)).alloc (by simp) (.cells #[.int .i64 0, .int .i64 0, .int .i64 0, .slice none 0 0] 24)
  have hs2 : ((w.alloc (.cells #[.int .i64 s, .int .i64 lo, .int .i64 hi, .slice ao n cap] 24)).alloc (.cells #[.int .i64 0, .int .i64 0, .int .i64 0, .slice none 0 0] 24)).heap.size = w.heap.size + 2 := by simp
  have hg := (Has.new w [.int .i64 s, .int .i64 lo, .int .i64 hi, .slice ao n cap] 24).alloc (.cells #[.int .i64 0, .int .i64 0, .int .i64 0, .slice none 0 0] 24)
  have hz := Has.new (w.alloc (.cells #[.int .i64 s, .int .i64 lo, .int .i64 hi, .slice ao n cap] 24)) [.int .i64 0, .int .i64 0, .int .i64 0, .slice none 0 0] 24
  rw [show (w.alloc (.cells #[.int .i64 s, .int .i64 lo, .int .i64 hi, .slice ao n cap] 24)).heap.size = w.heap.size + 1 by simp] at hz
  have hrt := right10_any s lo hi xs (.slice ao n cap) _ (hr.below hb2)
  rw [h] at hrt
  have HZ := Lib.hid hz
  have HG := Lib.hid hg
  have HB := Lib.hid hb2
  have HS := Lib.hid hs2
  have HRD := Lib.hid hr
  have HN := Lib.hid hn
  clear hz hg hb2 hs2 h hr hn
  go_enter Try.func9, Try.ntmps9
  go_wp2_with fail
  refine hrt.mono ?_
  rintro e w3 ⟨rfl, k3⟩
  have xH := HZ.out.call k3
  have gH := HG.out.call k3
  have hb3 := HB.out.trans (k3.mono HB.out.size)
  have hs3 := k3.size
  rw [HS.out] at hs3
  have g0 : w3.cell? ⟨w.heap.size, 0, none⟩ = some (.int .i64 s) := gH.cell 0
  have g1 : w3.cell? ⟨w.heap.size, 1, none⟩ = some (.int .i64 lo) := gH.cell 1
  have g2 : w3.cell? ⟨w.heap.size, 2, none⟩ = some (.int .i64 hi) := gH.cell 2
  have g3 : w3.cell? ⟨w.heap.size, 3, none⟩ = some (.slice ao n cap) := gH.cell 3
  have ht := takes_any s lo hi x ao n cap w3
  rw [decide_eq_false hf] at ht
  clear hrt hf k3
  go_wp2_with fail
  refine ht.mono ?_
  rintro e w4 ⟨rfl, k4⟩
  replace hb3 := hb3.trans (k4.mono (by omega))
  replace xH := xH.call k4
  have hs4 := k4.size
  clear ht k4 gH g0 g1 g2 g3
  have x0 : w4.cell? ⟨w.heap.size + 1, 0, none⟩ = some (.int .i64 0) := xH.cell 0
  have x1 : w4.cell? ⟨w.heap.size + 1, 1, none⟩ = some (.int .i64 0) := xH.cell 1
  have x2 : w4.cell? ⟨w.heap.size + 1, 2, none⟩ = some (.int .i64 0) := xH.cell 2
  have x3 : w4.cell? ⟨w.heap.size + 1, 3, none⟩ = some (.slice none 0 0) := xH.cell 3
  have xf0 : w4.frozen? ⟨w.heap.size + 1, 0, none⟩ = false := xH.frozen 0
  have xf1 : w4.frozen? ⟨w.heap.size + 1, 1, none⟩ = false := xH.frozen 1
  have xf2 : w4.frozen? ⟨w.heap.size + 1, 2, none⟩ = false := xH.frozen 2
  have xf3 : w4.frozen? ⟨w.heap.size + 1, 3, none⟩ = false := xH.frozen 3
  have HR := Lib.hid (xH.put4 (.int .i64 0) (.int .i64 0) (.int .i64 0) (.slice none 0 0))
  have HB3 := Lib.hid (Below.put4 (b := w.heap.size + 1) hb3 (Nat.le_add_right _ 1) (.int .i64 0) (.int .i64 0) (.int .i64 0) (.slice none 0 0))
  clear xH hb3
  go_wp2
  (try simp only [Exit.inBlock, Exit.then])
  exact bodyPost_ret (res_cell2 Try.results9 rfl (load4 HR.out)) rfl ⟨rfl, HB3.out⟩
set_option maxHeartbeats 1000000 in
set_option maxRecDepth 100000 in
theorem add_any (s lo hi x : Int) (xs : List Int) (v : Value) (w : World) (hr : ReadsI w v xs) (h : grightB ⟨s, lo, hi, xs⟩ = true) (hf : lo ≤ x ∧ x ≤ hi) :
    Calls Try.prog 9 #[.agg #[.int .i64 s, .int .i64 lo, .int .i64 hi, v], .int .i64 x] w fun e w' => ∃ v' r, e = .returned (.tuple #[.agg #[.int .i64 s, .int .i64 lo, .int .i64 hi, v'], r, .int .i64 0]) ∧ ReadsI w' v' (addG ⟨s, lo, hi, xs⟩ x).xs ∧ ReadsI w' r (addR ⟨s, lo, hi, xs⟩ x) ∧ Below w.heap.size w w' := by
  obtain ⟨hg1, -⟩ := grightB_out h
  dsimp only at hg1
  obtain ⟨S, rfl⟩ : ∃ S : Nat, s = (S : Int) := ⟨s.toNat, by omega⟩
  obtain ⟨ys, hys⟩ : ∃ ys, (addG ⟨(S : Int), lo, hi, xs⟩ x).xs = ys := ⟨_, rfl⟩
  obtain ⟨row, hrow⟩ : ∃ row, addR ⟨(S : Int), lo, hi, xs⟩ x = row := ⟨_, rfl⟩
  have hfd : feedN ⟨(S : Int), lo, hi, xs⟩ [x] = (⟨(S : Int), lo, hi, ys⟩, (if row = [] then [] else [row]), 0) := by
    rw [feedN_add _ _ (decide_eq_true hf), hrow, ← hys]
    have := addG_same ⟨(S : Int), lo, hi, xs⟩ x
    obtain ⟨e1, e2, e3⟩ := this
    refine Prod.ext ?_ rfl
    show addG _ x = _
    cases hq : addG ⟨(S : Int), lo, hi, xs⟩ x
    rw [hq] at e1 e2 e3
    dsimp only at e1 e2 e3
    rw [e1, e2, e3]
  have hrl : row.length ≤ 10 := by
    by_cases c : row = []
    · rw [c]; exact Nat.zero_le _
    · have := addR_len ⟨(S : Int), lo, hi, xs⟩ x (by rw [hrow]; exact c)
      rw [hrow] at this
      dsimp only at this
      omega
  have hyl : ys.length ≤ S := by
    have := addG_lt ⟨(S : Int), lo, hi, xs⟩ x (by dsimp only; omega)
    rw [hys, (addG_same _ x).1] at this
    dsimp only at this
    omega
  rw [hys, hrow]
  obtain ⟨ao, cap, rfl, hlc, hcm, -⟩ := id hr
  unfold maxLen at hcm
  obtain ⟨n, hn⟩ : ∃ n, xs.length = n := ⟨_, rfl⟩
  rw [hn] at hlc hr ⊢
  have hb2 := ((Below.refl w.heap.size w).alloc (Nat.le_refl _) (.cells #[.int .i64 (S : Int), .int .i64 lo, .int .i64 hi, .slice ao n cap] 24)).alloc (by simp) (.cells #[.int .i64 0, .int .i64 0, .int .i64 0, .slice none 0 0] 24)
  have hs2 : ((w.alloc (.cells #[.int .i64 (S : Int), .int .i64 lo, .int .i64 hi, .slice ao n cap] 24)).alloc (.cells #[.int .i64 0, .int .i64 0, .int .i64 0, .slice none 0 0] 24)).heap.size = w.heap.size + 2 := by simp
  have hg := (Has.new w [.int .i64 (S : Int), .int .i64 lo, .int .i64 hi, .slice ao n cap] 24).alloc (.cells #[.int .i64 0, .int .i64 0, .int .i64 0, .slice none 0 0] 24)
  have hz := Has.new (w.alloc (.cells #[.int .i64 (S : Int), .int .i64 lo, .int .i64 hi, .slice ao n cap] 24)) [.int .i64 0, .int .i64 0, .int .i64 0, .slice none 0 0] 24
  rw [show (w.alloc (.cells #[.int .i64 (S : Int), .int .i64 lo, .int .i64 hi, .slice ao n cap] 24)).heap.size = w.heap.size + 1 by simp] at hz
  have hrt := right10_any (S : Int) lo hi xs (.slice ao n cap) _ (hr.below hb2)
  rw [h] at hrt
  have HZ := Lib.hid hz
  have HG := Lib.hid hg
  have HB := Lib.hid hb2
  have HS := Lib.hid hs2
  have HRD := Lib.hid hr
  have HN := Lib.hid hn
  have HFD := Lib.hid hfd
  have HGT := Lib.hid hg1
  have HRL := Lib.hid hrl
  have HYL := Lib.hid hyl
  clear hz hg hb2 hs2 h hr hn hfd hys hrow hrl hg1 hyl
  go_enter Try.func9, Try.ntmps9
  go_wp2_with fail
  refine hrt.mono ?_
  rintro e w3 ⟨rfl, k3⟩
  have xH := HZ.out.call k3
  have gH := HG.out.call k3
  have hb3 := HB.out.trans (k3.mono HB.out.size)
  have hs3 := k3.size
  rw [HS.out] at hs3
  have g0 : w3.cell? ⟨w.heap.size, 0, none⟩ = some (.int .i64 (S : Int)) := gH.cell 0
  have g1 : w3.cell? ⟨w.heap.size, 1, none⟩ = some (.int .i64 lo) := gH.cell 1
  have g2 : w3.cell? ⟨w.heap.size, 2, none⟩ = some (.int .i64 hi) := gH.cell 2
  have g3 : w3.cell? ⟨w.heap.size, 3, none⟩ = some (.slice ao n cap) := gH.cell 3
  have ht := takes_any (S : Int) lo hi x ao n cap w3
  rw [decide_eq_true hf] at ht
  clear hrt hf g0 g1 g2 g3
  have gH' := gH
  have g0 : w3.cell? ⟨w.heap.size, 0, none⟩ = some (.int .i64 (S : Int)) := gH.cell 0
  have g1 : w3.cell? ⟨w.heap.size, 1, none⟩ = some (.int .i64 lo) := gH.cell 1
  have g2 : w3.cell? ⟨w.heap.size, 2, none⟩ = some (.int .i64 hi) := gH.cell 2
  have g3 : w3.cell? ⟨w.heap.size, 3, none⟩ = some (.slice ao n cap) := gH.cell 3
  clear gH
  go_wp2_with fail
  refine ht.mono ?_
  rintro e w4 ⟨rfl, k4⟩
  have hs4 := k4.size
  have hs4' : w.heap.size + 2 ≤ w4.heap.size := by omega
  obtain ⟨c, hcv⟩ : ∃ c, w4.heap.size = c := ⟨_, rfl⟩
  have hb6 := ((Below.refl w4.heap.size w4).alloc (Nat.le_refl _) (.cells #[.slice none 0 0] 22)).alloc (by simp) (.cells #[.int .i64 x] 3)
  obtain ⟨w6, hw6⟩ : ∃ w6, (w4.alloc (.cells #[.slice none 0 0] 22)).alloc (.cells #[.int .i64 x] 3) = w6 := ⟨_, rfl⟩
  have hs6 : w6.heap.size = c + 2 := by rw [← hw6, ← hcv]; simp
  have hc6 : Has w6 c [.slice none 0 0] 22 := by rw [← hw6, ← hcv]; exact (Has.new w4 [.slice none 0 0] _).alloc _
  have hx6 : Has w6 (c + 1) [.int .i64 x] 3 := by
    have := Has.new (w4.alloc (.cells #[.slice none 0 0] 22)) [.int .i64 x] 3
    rw [show (w4.alloc (.cells #[.slice none 0 0] 22)).heap.size = c + 1 by rw [← hcv]; simp] at this
    rw [← hw6]; exact this
  rw [hw6] at hb6
  have HK6 := Lib.hid (hb3.trans ((k4.mono (by omega)).trans (hb6.mono (by omega))))
  have HX6 := Lib.hid ((xH.call k4).call hb6)
  have HG6 := Lib.hid ((gH'.call k4).call hb6)
  have HR6 := Lib.hid (HRD.out.below HK6.out)
  have g0' : w4.cell? ⟨w.heap.size, 0, none⟩ = some (.int .i64 (S : Int)) := (gH'.call k4).cell 0
  have g1' : w4.cell? ⟨w.heap.size, 1, none⟩ = some (.int .i64 lo) := (gH'.call k4).cell 1
  have g2' : w4.cell? ⟨w.heap.size, 2, none⟩ = some (.int .i64 hi) := (gH'.call k4).cell 2
  have g3' : w4.cell? ⟨w.heap.size, 3, none⟩ = some (.slice ao n cap) := (gH'.call k4).cell 3
  have hlt : w.heap.size < c := by omega
  have hfl := fill_any 24 c S (LastRow c w6.heap.size) lo hi xs [x] (.slice ao n cap) (.slice (some ⟨c + 1, 0, none⟩) 1 1) w6 (gathAdd c w6.heap.size (by omega)) (by omega) (by have := HGT.out; omega) (by have := HGT.out; omega) (by have := HGT.out; omega) HR6.out
    (fun W hW => (hW.has hx6 (by omega) (by omega)).readsI (cap := 1) rfl rfl (Nat.le_refl _) (by omega) rfl) (by show 1 ≤ _; omega) (.inl ⟨rfl, hc6⟩) ys (if row = [] then [] else [row]) 0 HFD.out
  rw [hs6] at hfl
  have HSZ := Lib.hid hs6
  have HW6 := Lib.hid hw6
  clear ht k3 k4 hb6 hc6 hx6 hb3 xH gH' g0 g1 g2 g3 hs6 hw6
  go_wp2_with fail
  rw [HW6.out]
  refine hfl.mono ?_
  rintro e w7 ⟨rfl, hfr, hlast, hkp⟩
  obtain ⟨ro, rn, rc, hc7, hrr, hro⟩ := hlast.reads row rfl HRL.out
  have hs6 := HSZ.out
  have hs7 := hkp.size
  rw [hs6] at hs7
  have xH := hkp.has HX6.out (by omega) (by omega)
  have hfr' := hfr.reads (by have := HGT.out; omega) HYL.out
  have c0 : w7.cell? ⟨c, 0, none⟩ = some (.slice ro rn rc) := hc7.cell 0
  have hlt7 : c < w7.heap.size := by omega
  have hne7 : w.heap.size + 1 < w7.heap.size := by omega
  have hb7 : Below w.heap.size w w7 := HK6.out.trans ((hkp.mono (by omega)).toBelow (by omega))
  have x0 : w7.cell? ⟨w.heap.size + 1, 0, none⟩ = some (.int .i64 0) := xH.cell 0
  have x1 : w7.cell? ⟨w.heap.size + 1, 1, none⟩ = some (.int .i64 0) := xH.cell 1
  have x2 : w7.cell? ⟨w.heap.size + 1, 2, none⟩ = some (.int .i64 0) := xH.cell 2
  have x3 : w7.cell? ⟨w.heap.size + 1, 3, none⟩ = some (.slice none 0 0) := xH.cell 3
  have xf0 : w7.frozen? ⟨w.heap.size + 1, 0, none⟩ = false := xH.frozen 0
  have xf1 : w7.frozen? ⟨w.heap.size + 1, 1, none⟩ = false := xH.frozen 1
  have xf2 : w7.frozen? ⟨w.heap.size + 1, 2, none⟩ = false := xH.frozen 2
  have xf3 : w7.frozen? ⟨w.heap.size + 1, 3, none⟩ = false := xH.frozen 3
  obtain ⟨yl, hyl⟩ : ∃ yl, ys.length = yl := ⟨_, rfl⟩
  rw [hyl] at hfr' ⊢
  have hP : ((((w7.setCell ⟨w.heap.size + 1, 0, none⟩ (.int .i64 (S : Int))).setCell ⟨w.heap.size + 1, 1, none⟩ (.int .i64 lo)).setCell ⟨w.heap.size + 1, 2, none⟩ (.int .i64 hi)).setCell ⟨w.heap.size + 1, 3, none⟩ (.slice (some ⟨c + 2 + 2, 0, none⟩) yl S)).heap.size = w7.heap.size := by simp
  have hR8 := (xH.put4 (.int .i64 (S : Int)) (.int .i64 lo) (.int .i64 hi) (.slice (some ⟨c + 2 + 2, 0, none⟩) yl S)).alloc (.cells #[.int .i64 (S : Int), .int .i64 lo, .int .i64 hi, .slice (some ⟨c + 2 + 2, 0, none⟩) yl S] 24)
  have hB8 := Below.drew ((Below.put4 (b := w.heap.size + 1) hb7 (Nat.le_add_right _ 1) (.int .i64 (S : Int)) (.int .i64 lo) (.int .i64 hi) (.slice (some ⟨c + 2 + 2, 0, none⟩) yl S)).alloc (by rw [hP]; omega) (.cells #[.int .i64 (S : Int), .int .i64 lo, .int .i64 hi, .slice (some ⟨c + 2 + 2, 0, none⟩) yl S] 24))
  have hkk := fun k (hk : k ≠ w.heap.size + 1) (hl : k < w7.heap.size) => (Below.heap_alloc ((((w7.setCell ⟨w.heap.size + 1, 0, none⟩ (.int .i64 (S : Int))).setCell ⟨w.heap.size + 1, 1, none⟩ (.int .i64 lo)).setCell ⟨w.heap.size + 1, 2, none⟩ (.int .i64 hi)).setCell ⟨w.heap.size + 1, 3, none⟩ (.slice (some ⟨c + 2 + 2, 0, none⟩) yl S)) (.cells #[.int .i64 (S : Int), .int .i64 lo, .int .i64 hi, .slice (some ⟨c + 2 + 2, 0, none⟩) yl S] 24) k (by rw [hP]; exact hl)).trans (put4_block w7 (w.heap.size + 1) k hk (.int .i64 (S : Int)) (.int .i64 lo) (.int .i64 hi) (.slice (some ⟨c + 2 + 2, 0, none⟩) yl S))
  have HV8 := Lib.hid (hfr'.frame (w' := (((((w7.setCell ⟨w.heap.size + 1, 0, none⟩ (.int .i64 (S : Int))).setCell ⟨w.heap.size + 1, 1, none⟩ (.int .i64 lo)).setCell ⟨w.heap.size + 1, 2, none⟩ (.int .i64 hi)).setCell ⟨w.heap.size + 1, 3, none⟩ (.slice (some ⟨c + 2 + 2, 0, none⟩) yl S)).alloc (.cells #[.int .i64 (S : Int), .int .i64 lo, .int .i64 hi, .slice (some ⟨c + 2 + 2, 0, none⟩) yl S] 24)).drew) (by simp [World.drew]) (fun k hk => hkk k (by injection hk with hk; have : c + 2 + 2 = k := hk; omega) (by injection hk with hk; have e : c + 2 + 2 = k := hk; rw [← e]; exact hfr.lt)))
  have HW8 := Lib.hid (hrr.frame (w' := (((((w7.setCell ⟨w.heap.size + 1, 0, none⟩ (.int .i64 (S : Int))).setCell ⟨w.heap.size + 1, 1, none⟩ (.int .i64 lo)).setCell ⟨w.heap.size + 1, 2, none⟩ (.int .i64 hi)).setCell ⟨w.heap.size + 1, 3, none⟩ (.slice (some ⟨c + 2 + 2, 0, none⟩) yl S)).alloc (.cells #[.int .i64 (S : Int), .int .i64 lo, .int .i64 hi, .slice (some ⟨c + 2 + 2, 0, none⟩) yl S] 24)).drew) (by simp [World.drew]) (fun k hk => hkk k (by have := hro k hk; omega) (hro k hk).2))
  have HR8 := Lib.hid hR8
  have HB8 := Lib.hid hB8
  clear hP hfl hlast hkp hfr hfr' hc7 hrr hro xH hb7 hR8 hB8 hkk hs6 g0' g1' g2' g3' hyl
  go_wp2
  go_region
  go_wp2
  (try simp only [Exit.inBlock, Exit.then])
  exact bodyPost_ret (res_cell2 Try.results9 rfl (load4 (w := _) HR8.out)) rfl ⟨_, _, rfl, HV8.out, HW8.out, HB8.out⟩
end Go.Proofs.Ytnpgofkdfckioaa
