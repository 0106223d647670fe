/- The reference of stage 12: Run. -/
import Derived.Test.YtaegoomnenociaaMovB
import Derived.Test.YtaegoomnenociaaApI
namespace Go.Proofs.Ytaegoomnenociaa
open Go.RowKit

theorem IRow.put3 {B b : Nat} {v : Value} {l : List Int} {w : World} (h : IRow B v l w) (hb : b < B) (v0 v1 v2 : Value) : IRow B v l (((w.setCell ⟨b, 0, none⟩ v0).setCell ⟨b, 1, none⟩ v1).setCell ⟨b, 2, none⟩ v2) :=
  h.frame fun k hk _ => by
    have hne : k ≠ b := by omega
    exact (Below.heap_setCell _ _ _ _ hne).trans ((Below.heap_setCell _ _ _ _ hne).trans (Below.heap_setCell _ _ _ _ hne))
def movC (m : Mov) : List Value := [.int .i64 m.n, .int .i64 m.last, .int .i64 m.sum]
theorem IRow.appnil {B : Nat} {v : Value} {l : List Int} {w : World} (h : IRow B v l w) : IRow B v (l ++ []) w := by rw [List.append_nil]; exact h
def RunRel (l : List Int) (m : Mov) (n : Nat) (w : World) (av i : Value) (wr : World) : Prop :=
  ∃ k : Nat, k ≤ n ∧ i = .int .i64 (k : Nat) ∧ IRow (w.heap.size + 2) av (stepsM m (l.take k)) wr ∧ Has wr w.heap.size (movC (runM m (l.take k))) 23 ∧ Has wr (w.heap.size + 1) [.int .i64 0, .int .i64 0, .int .i64 0] 23 ∧ Below w.heap.size w wr
theorem take_snoc {l : List Int} {k : Nat} {x : Int} (hk : k < l.length) (hx : l.getD k 0 = x) : l.take (k + 1) = l.take k ++ [x] := by
  rw [List.take_add_one, List.getElem?_eq_getElem hk, ← hx, List.getD_eq_getElem?_getD, List.getElem?_eq_getElem hk]
  rfl
theorem inB_get {l : List Int} (h : inB l = true) {k : Nat} (hk : k < l.length) : -1000000 ≤ l.getD k 0 ∧ l.getD k 0 ≤ 1000000 := by
  refine inB_of h _ ?_
  rw [List.getD_eq_getElem?_getD, List.getElem?_eq_getElem hk]
  exact List.getElem_mem _
set_option linter.unusedSimpArgs false in
set_option linter.unusedVariables false in
set_option maxHeartbeats 4000000 in
set_option maxRecDepth 100000 in
theorem rrun12_any (m : Mov) (l : List Int) (v : Value) (w : World) (hm : movOk m) (hin : inB l = true) (hN : m.n + (l.length : Int) ≤ 1000000000) (hlen : l.length ≤ 1000) (hr : ReadsI w v l) :
    Calls Try.prog 13 #[movV m, v] w fun e w' => ∃ v', e = .returned (.tuple #[movV (runM m l), v']) ∧ IRow (w.heap.size + 2) v' (stepsM m l) w' ∧ Below w.heap.size w w' := by
  obtain ⟨ao, cap, rfl, hlc, hcm, -⟩ := id hr
  unfold maxLen at hcm
  obtain ⟨n, hn⟩ : ∃ n, l.length = n := ⟨_, rfl⟩
  rw [hn] at hlc hr hlen ⊢
  have HR := Lib.hid hr
  have HN := Lib.hid hn
  have HM := Lib.hid hm
  have HI := Lib.hid hin
  have HNN := Lib.hid hN
  obtain ⟨w3, hw3⟩ : ∃ w3, ((w.alloc (.cells #[.int .i64 m.n, .int .i64 m.last, .int .i64 m.sum] 23)).alloc (.cells #[.int .i64 0, .int .i64 0, .int .i64 0] 23)).alloc (.cells #[] 3) = w3 := ⟨_, rfl⟩
  have hs2 : ((w.alloc (.cells #[.int .i64 m.n, .int .i64 m.last, .int .i64 m.sum] 23)).alloc (.cells #[.int .i64 0, .int .i64 0, .int .i64 0] 23)).heap.size = w.heap.size + 1 + 1 := by simp
  have HS := Lib.hid (show RunRel l m n w (.slice (some ⟨w.heap.size + 1 + 1, 0, none⟩) 0 0) (.int .i64 0) w3 by
    refine ⟨0, Nat.zero_le _, rfl, ?_, ?_, ?_, ?_⟩
    · rw [List.take_zero, stepsM_nil, ← hw3]
      have := IRow.made ((w.alloc (.cells #[.int .i64 m.n, .int .i64 m.last, .int .i64 m.sum] 23)).alloc (.cells #[.int .i64 0, .int .i64 0, .int .i64 0] 23))
      rw [hs2] at this
      exact this
    · rw [List.take_zero, runM_nil, ← hw3]
      exact ((Has.new w (movC m) 23).alloc _).alloc _
    · rw [← hw3]
      have := (Has.new (w.alloc (.cells #[.int .i64 m.n, .int .i64 m.last, .int .i64 m.sum] 23)) [.int .i64 0, .int .i64 0, .int .i64 0] 23).alloc (.cells #[] 3)
      rw [show (w.alloc (.cells #[.int .i64 m.n, .int .i64 m.last, .int .i64 m.sum] 23)).heap.size = w.heap.size + 1 by simp] at this
      exact this
    · rw [← hw3]
      exact (((Below.refl _ _).alloc (Nat.le_refl _) _).alloc (by simp) _).alloc (by simp; omega) _)
  have HW3 := Lib.hid hw3
  unfold movV
  obtain ⟨⟨N, L, S⟩, hRM⟩ : ∃ M, runM m l = M := ⟨_, rfl⟩
  rw [hRM]
  have HRM := Lib.hid hRM
  clear hRM
  dsimp only
  clear hr hn hm hin hN hw3 hs2
  go_enter Try.func13, Try.ntmps13
  go_upto_region 2 with fail
  rw [HW3.out]
  go_wp2
  go_loopw [6, 14] (RunRel l m n w) (fun _ i _ => n - (intOf i).toNat)
  case atStart => exact HS.out
  case round =>
    obtain ⟨k, hk, rfl, hrow, hbox, hz, hb⟩ := hrel
    have HROW := Lib.hid hrow
    have HBOX := Lib.hid hbox
    have HZ := Lib.hid hz
    have HB := Lib.hid hb
    have hsz := hb.size
    have hsz1 := hz.lt
    clear hrow hbox hz hb
    by_cases hl : k < n
    · obtain ⟨ao', cp', e0, -, -, hrd⟩ := HR.out.below HB.out
      injection e0 with e1 e2 e3
      subst e1 e3
      obtain ⟨b, off, rfl, hlt, hc⟩ := hrd k (by rw [HN.out]; exact hl)
      have hxin := inB_get HI.out (k := k) (by rw [HN.out]; exact hl)
      obtain ⟨x, hx⟩ : ∃ x, l.getD k 0 = x := ⟨_, rfl⟩
      rw [hx] at hc hxin
      have htk : (l.take k).length = k := by rw [List.length_take, HN.out]; omega
      have hsnoc := take_snoc (l := l) (k := k) (by rw [HN.out]; exact hl) hx
      have hnn := movOk_n HM.out
      have hst := stepsM_snoc m hnn.1 (l.take k) x
      have hrn := runM_append m hnn.1 (l.take k) [x]
      rw [← hsnoc] at hst hrn
      have hok : movOk (runM m (l.take k)) := runM_ok HM.out (inB_take HI.out k) (by rw [htk]; have := HNN.out; rw [HN.out] at this; omega)
      have hcall := fun W => rnext12_any (runM m (l.take k)) x hok hxin W
      have hone := stepsM_one_sum (runM m (l.take k)) x
      have hlst : (stepsM m (l.take k)).length ≤ 1000 := by rw [stepsM_len]; split <;> omega
      obtain ⟨⟨N, L, S⟩, hM⟩ : ∃ M, runM m (l.take k) = M := ⟨_, rfl⟩
      rw [hM] at hcall hone hrn hst HBOX hok
      obtain ⟨⟨N2, L2, S2⟩, hM2⟩ : ∃ M, runM ⟨N, L, S⟩ [x] = M := ⟨_, rfl⟩
      rw [hM2] at hrn hcall
      obtain ⟨acc, hacc⟩ : ∃ acc, stepsM m (l.take k) = acc := ⟨_, rfl⟩
      rw [hacc] at HROW hst hlst
      dsimp only at hst hone
      unfold movV at hcall
      dsimp only at hcall
      have hN0 := (movOk_n hok).1
      dsimp only at hN0
      obtain ⟨T, hT⟩ : ∃ T, sumI (stepsM ⟨N, L, S⟩ [x]) = T := ⟨_, rfl⟩
      rw [hT] at hcall hone
      have HONE := Lib.hid hone
      have HCALL := Lib.hid hcall
      have HST := Lib.hid hst
      have HRN := Lib.hid hrn
      have hkn : (k : Int) < (n : Int) := by omega
      have c0 : wr.cell? ⟨w.heap.size, 0, none⟩ = some (.int .i64 N) := HBOX.out.cell 0
      have c1 : wr.cell? ⟨w.heap.size, 1, none⟩ = some (.int .i64 L) := HBOX.out.cell 1
      have c2 : wr.cell? ⟨w.heap.size, 2, none⟩ = some (.int .i64 S) := HBOX.out.cell 2
      have hl0 := HBOX.out.lt
      clear hrd hx e2 hst hrn hsnoc hcall hok hM hM2 hxin hacc htk hnn hT hone
      by_cases hN0' : N = 0
      · rw [if_pos hN0'] at HST
        clear HONE
        subst hN0'
        go_wp2_with fail
        refine (HCALL.out _).mono ?_
        rintro e w2 ⟨rfl, k2⟩
        have s2 := k2.size
        have HROW2 := Lib.hid (HROW.out.below k2)
        have HBOX2 := Lib.hid (HBOX.out.call k2)
        have HZ2 := Lib.hid (HZ.out.call k2)
        have HB2 := Lib.hid (HB.out.trans (k2.mono hsz))
        clear k2 c0 c1 c2 hc hlt
        obtain ⟨w4, hw4⟩ : ∃ w4, w2.alloc (.cells #[.int .i64 N2, .int .i64 L2, .int .i64 S2] 23) = w4 := ⟨_, rfl⟩
        have k4 : Below w2.heap.size w2 w4 := by rw [← hw4]; exact (Below.refl _ _).alloc (Nat.le_refl _) _
        have s4 : w4.heap.size = w2.heap.size + 1 := by rw [← hw4]; simp
        have HNX := Lib.hid (show Has w4 w2.heap.size [.int .i64 N2, .int .i64 L2, .int .i64 S2] 23 by rw [← hw4]; exact Has.new w2 _ _)
        have HROW4 := Lib.hid (HROW2.out.below k4)
        have HBOX4 := Lib.hid (HBOX2.out.call k4)
        have HZ4 := Lib.hid (HZ2.out.call k4)
        have HB4 := Lib.hid (HB2.out.trans (k4.mono (by omega)))
        have HW4 := Lib.hid hw4
        clear k4 hw4
        go_upto_region 6 with fail
        rw [HW4.out]
        have c0 : w4.cell? ⟨w.heap.size, 0, none⟩ = some (.int .i64 0) := HBOX4.out.cell 0
        have hl4 := HBOX4.out.lt
        clear c0
        have y0 : w4.cell? ⟨w2.heap.size, 0, none⟩ = some (.int .i64 N2) := HNX.out.cell 0
        have y1 : w4.cell? ⟨w2.heap.size, 1, none⟩ = some (.int .i64 L2) := HNX.out.cell 1
        have y2 : w4.cell? ⟨w2.heap.size, 2, none⟩ = some (.int .i64 S2) := HNX.out.cell 2
        have x0 : w4.cell? ⟨w.heap.size, 0, none⟩ = some (.int .i64 0) := HBOX4.out.cell 0
        have x1 : w4.cell? ⟨w.heap.size, 1, none⟩ = some (.int .i64 L) := HBOX4.out.cell 1
        have x2 : w4.cell? ⟨w.heap.size, 2, none⟩ = some (.int .i64 S) := HBOX4.out.cell 2
        have f0 : w4.frozen? ⟨w.heap.size, 0, none⟩ = false := HBOX4.out.frozen 0
        have f1 : w4.frozen? ⟨w.heap.size, 1, none⟩ = false := HBOX4.out.frozen 1
        have f2 : w4.frozen? ⟨w.heap.size, 2, none⟩ = false := HBOX4.out.frozen 2
        have HE := Lib.hid (show ∀ u, IRow (w.heap.size + 2) u (stepsM m (l.take (k + 1))) w4 → RunRel l m n w u (.int .i64 ((k : Int) + 1)) (((w4.setCell ⟨w.heap.size, 0, none⟩ (.int .i64 N2)).setCell ⟨w.heap.size, 1, none⟩ (.int .i64 L2)).setCell ⟨w.heap.size, 2, none⟩ (.int .i64 S2)) from fun u hu =>
          ⟨k + 1, by omega, by first | rfl | go_num, hu.put3 (by omega) _ _ _, by rw [HRN.out]; exact HBOX4.out.put3 _ _ _, HZ4.out.off3 (by omega) _ _ _, Below.put3 HB4.out (Nat.le_refl _) _ _ _⟩)
        rw [HST.out] at HE
        go_wp2
        go_roundw
        case rel => exact HE.out _ (HROW4.out.appnil)
        case measure => simp [intOf]; omega
      · rw [if_neg hN0'] at HST HONE
        have hone := HONE.out
        subst hone
        clear HONE
        go_wp2_with fail
        refine (HCALL.out _).mono ?_
        rintro e w2 ⟨rfl, k2⟩
        have s2 := k2.size
        have HROW2 := Lib.hid (HROW.out.below k2)
        have HBOX2 := Lib.hid (HBOX.out.call k2)
        have HZ2 := Lib.hid (HZ.out.call k2)
        have HB2 := Lib.hid (HB.out.trans (k2.mono hsz))
        clear k2 c0 c1 c2 hc hlt
        obtain ⟨w4, hw4⟩ : ∃ w4, w2.alloc (.cells #[.int .i64 N2, .int .i64 L2, .int .i64 S2] 23) = w4 := ⟨_, rfl⟩
        have k4 : Below w2.heap.size w2 w4 := by rw [← hw4]; exact (Below.refl _ _).alloc (Nat.le_refl _) _
        have s4 : w4.heap.size = w2.heap.size + 1 := by rw [← hw4]; simp
        have HNX := Lib.hid (show Has w4 w2.heap.size [.int .i64 N2, .int .i64 L2, .int .i64 S2] 23 by rw [← hw4]; exact Has.new w2 _ _)
        have HROW4 := Lib.hid (HROW2.out.below k4)
        have HBOX4 := Lib.hid (HBOX2.out.call k4)
        have HZ4 := Lib.hid (HZ2.out.call k4)
        have HB4 := Lib.hid (HB2.out.trans (k4.mono (by omega)))
        have HW4 := Lib.hid hw4
        clear k4 hw4
        go_upto_region 6 with fail
        rw [HW4.out]
        have c0 : w4.cell? ⟨w.heap.size, 0, none⟩ = some (.int .i64 N) := HBOX4.out.cell 0
        have hl4 := HBOX4.out.lt
        have hNp : 0 < N := by omega
        go_upto_region 7 with fail
        have HO := Lib.hid (ReadsI.one w4 (distI L x))
        obtain ⟨w5, hw5⟩ : ∃ w5, w4.alloc (.cells #[.int .i64 (distI L x)] 3) = w5 := ⟨_, rfl⟩
        have k5 : Below w4.heap.size w4 w5 := by rw [← hw5]; exact (Below.refl _ _).alloc (Nat.le_refl _) _
        have s5 : w5.heap.size = w4.heap.size + 1 := by rw [← hw5]; simp
        rw [hw5, s4] at HO
        have HROW5 := Lib.hid (HROW4.out.below k5)
        have HBOX5 := Lib.hid (HBOX4.out.call k5)
        have HZ5 := Lib.hid (HZ4.out.call k5)
        have HNX5 := Lib.hid (HNX.out.call k5)
        have HB5 := Lib.hid (HB4.out.trans (k5.mono (by omega)))
        have HW5 := Lib.hid hw5
        clear k5 hw5
        go_wp2_with (at_builtin; rw [HW5.out]; refine wpList_append_ints rfl (.tmp 27) (.tmp 29) rfl (w.heap.size + 2) _ acc [distI L x] rfl HROW5.out (some ⟨w2.heap.size + 1, 0, none⟩) 1 1 rfl HO.out (by show _ + 1 ≤ _; omega) (by omega) ?_)
        intro v' w6 hi6 hg6
        have hltR := HROW5.out.lt'
        have HROW6 := Lib.hid hi6
        have HBOX6 := Lib.hid (HBOX5.out.grown hg6 (HROW5.out.ne (by omega)))
        have HZ6 := Lib.hid (HZ5.out.grown hg6 (HROW5.out.ne (by omega)))
        have HNX6 := Lib.hid (HNX5.out.grown hg6 (fun h => by have := HROW2.out.lt' _ h; omega))
        have HB6 := Lib.hid (HB5.out.grown hg6 (by omega) (fun j hj => by have := hltR j hj; omega))
        clear hi6 hg6 hltR c0
        have y0 : w6.cell? ⟨w2.heap.size, 0, none⟩ = some (.int .i64 N2) := HNX6.out.cell 0
        have y1 : w6.cell? ⟨w2.heap.size, 1, none⟩ = some (.int .i64 L2) := HNX6.out.cell 1
        have y2 : w6.cell? ⟨w2.heap.size, 2, none⟩ = some (.int .i64 S2) := HNX6.out.cell 2
        have x0 : w6.cell? ⟨w.heap.size, 0, none⟩ = some (.int .i64 N) := HBOX6.out.cell 0
        have x1 : w6.cell? ⟨w.heap.size, 1, none⟩ = some (.int .i64 L) := HBOX6.out.cell 1
        have x2 : w6.cell? ⟨w.heap.size, 2, none⟩ = some (.int .i64 S) := HBOX6.out.cell 2
        have f0 : w6.frozen? ⟨w.heap.size, 0, none⟩ = false := HBOX6.out.frozen 0
        have f1 : w6.frozen? ⟨w.heap.size, 1, none⟩ = false := HBOX6.out.frozen 1
        have f2 : w6.frozen? ⟨w.heap.size, 2, none⟩ = false := HBOX6.out.frozen 2
        have HE := Lib.hid (show ∀ u, IRow (w.heap.size + 2) u (stepsM m (l.take (k + 1))) w6 → RunRel l m n w u (.int .i64 ((k : Int) + 1)) (((w6.setCell ⟨w.heap.size, 0, none⟩ (.int .i64 N2)).setCell ⟨w.heap.size, 1, none⟩ (.int .i64 L2)).setCell ⟨w.heap.size, 2, none⟩ (.int .i64 S2)) from fun u hu =>
          ⟨k + 1, by omega, by first | rfl | go_num, hu.put3 (by omega) _ _ _, by rw [HRN.out]; exact HBOX6.out.put3 _ _ _, HZ6.out.off3 (by omega) _ _ _, Below.put3 HB6.out (Nat.le_refl _) _ _ _⟩)
        rw [HST.out] at HE
        go_wp2
        go_roundw
        case rel => exact HE.out _ (HROW6.out)
        case measure => simp [intOf]; omega
    · obtain rfl : k = n := by omega
      have hfull : l.take k = l := by rw [← HN.out]; exact List.take_length
      rw [hfull] at HROW HBOX
      rw [HRM.out] at HBOX
      have c0 : wr.cell? ⟨w.heap.size, 0, none⟩ = some (.int .i64 N) := HBOX.out.cell 0
      have c1 : wr.cell? ⟨w.heap.size, 1, none⟩ = some (.int .i64 L) := HBOX.out.cell 1
      have c2 : wr.cell? ⟨w.heap.size, 2, none⟩ = some (.int .i64 S) := HBOX.out.cell 2
      have z0 : wr.cell? ⟨w.heap.size + 1, 0, none⟩ = some (.int .i64 0) := HZ.out.cell 0
      have z1 : wr.cell? ⟨w.heap.size + 1, 1, none⟩ = some (.int .i64 0) := HZ.out.cell 1
      have z2 : wr.cell? ⟨w.heap.size + 1, 2, none⟩ = some (.int .i64 0) := HZ.out.cell 2
      have f0 : wr.frozen? ⟨w.heap.size + 1, 0, none⟩ = false := HZ.out.frozen 0
      have f1 : wr.frozen? ⟨w.heap.size + 1, 1, none⟩ = false := HZ.out.frozen 1
      have f2 : wr.frozen? ⟨w.heap.size + 1, 2, none⟩ = false := HZ.out.frozen 2
      have hl0 := HBOX.out.lt
      have HE := Lib.hid (HZ.out.put3 (.int .i64 N) (.int .i64 L) (.int .i64 S))
      have HBE := Lib.hid (Below.put3 (b := w.heap.size + 1) HB.out (by omega) (.int .i64 N) (.int .i64 L) (.int .i64 S))
      have HRE := Lib.hid (HROW.out.put3 (b := w.heap.size + 1) (by omega) (.int .i64 N) (.int .i64 L) (.int .i64 S))
      go_wp2
      (try simp only [Exit.inBlock, Exit.then])
      exact bodyPost_ret (results_cell_tmp Try.results13 rfl (loadM HE.out)) rfl ⟨_, rfl, HRE.out, HBE.out⟩
end Go.Proofs.Ytaegoomnenociaa
