/- The law of NelsonExact: its walk. -/
import Derived.Test.YtjonpcpcokapkaaNelJ
namespace Go.Proofs.Ytjonpcpcokapkaa
open Go.RowKit

theorem Has.step {w W w' : World} {b : Nat} {cs : List Value} {T : TypeId} (h : Has w b cs T) (k : Below W.heap.size W w') (e : W.heap = w.heap) : Has w' b cs T :=
  h.of ((k.block b (by rw [e]; exact h.lt)).trans (by rw [e]))
theorem rexact14_any (l : List Int) (h : classesB l = true) (v : Value) (w : World) (hr : ReadsI w v l) :
    Calls Try.prog 12 #[v] w fun e w' => e = .returned (.agg #[.bool (exaT l 1), .bool (exaT l 2), .bool (exaT l 3), .bool (exaT l 4), .bool (exaT l 5), .bool (exaT l 6), .bool (exaT l 7), .bool (exaT l 8)]) ∧ Below w.heap.size w w' := by
  obtain ⟨hc, h15⟩ := classesB_ok h
  have hb : ∀ k, (tellN k (l.map bitM) == 2) = exaT l k := fun k => by
    unfold exaT
    rw [if_pos h, tell_single hc]
    cases exactN k l <;> rfl
  have hm : masksB (l.map bitM) = true := masksB_of (fun m hm => by
    obtain ⟨c, hc1, rfl⟩ := List.mem_map.1 hm
    exact mask_bounds (hc c hc1).1 (Int.le_refl _) (hc c hc1).2) (by rw [List.length_map]; exact h15)
  have := rexact14_core (fun r => tellN r (l.map bitM)) (l.map bitM) v w (fun W hW => (single14_any l v W (by omega) hc (hr.below hW)).mono fun e w' ⟨v', h1, h2, h3⟩ => ⟨v', h1, h2.reads, h3⟩) (fun W v' hv' => rtell14_any _ (by rw [List.length_map]; exact h15) v' W hv')
  refine this.mono fun e w' ⟨h1, h2⟩ => ⟨?_, h2⟩
  rw [h1]
  show Ending.returned (.agg #[.bool (tellN 1 (l.map bitM) == 2), .bool (tellN 2 (l.map bitM) == 2), .bool (tellN 3 (l.map bitM) == 2), .bool (tellN 4 (l.map bitM) == 2), .bool (tellN 5 (l.map bitM) == 2), .bool (tellN 6 (l.map bitM) == 2), .bool (tellN 7 (l.map bitM) == 2), .bool (tellN 8 (l.map bitM) == 2)]) = _
  rw [hb 1, hb 2, hb 3, hb 4, hb 5, hb 6, hb 7, hb 8]
set_option linter.unusedSimpArgs false in
set_option linter.unusedVariables false in
set_option maxHeartbeats 8000000 in
set_option maxRecDepth 100000 in
theorem exact14_core (ao : Option Addr) (n k cap : Nat) (B : Nat → Bool) (E : Int) (ok : Bool) (w : World)
    (kf : ∀ W, Calls Try.prog 8 #[.slice ao n cap] W fun e w' => e = .returned (.slice ao k cap) ∧ W = w')
    (k1 : (∀ W, Below w.heap.size w W → Calls Try.prog 9 #[.slice ao k cap] W fun e w' => e = .returned (.tuple #[.agg #[.bool (B 1), .bool (B 2), .bool (B 3), .bool (B 4), .bool (B 5), .bool (B 6), .bool (B 7), .bool (B 8)], .int .i64 E]) ∧ Below W.heap.size W w'))
    (k2 : ∀ W, Below w.heap.size w W → Calls Try.prog 10 #[.slice ao k cap] W fun e w' => e = .returned (.bool ok) ∧ W = w')
    (ka : (∀ W, Calls Try.prog 11 #[] W fun e w' => e = .returned (.bool true) ∧ Below W.heap.size W w'))
    (h1 : ok = false → E = 1 ∧ ∀ j, B j = false) (h2 : ok = true → E = 0 ∧ (∀ W, Below w.heap.size w W → Calls Try.prog 12 #[.slice ao k cap] W fun e w' => e = .returned (.agg #[.bool (B 1), .bool (B 2), .bool (B 3), .bool (B 4), .bool (B 5), .bool (B 6), .bool (B 7), .bool (B 8)]) ∧ Below W.heap.size W w')) :
    Calls Try.prog 3 #[.slice ao n cap] w fun e w' => e = .returned (.bool true) ∧ Below w.heap.size w w' := by
  have KF := Lib.hid kf; have K1 := Lib.hid (k1 w (Below.refl _ _)); have K2 := Lib.hid k2; have KA := Lib.hid ka; have H1 := Lib.hid h1; have H2 := Lib.hid h2
  have HB1 := Lib.hid (Below.refl w.heap.size w)
  have hbase := Nat.le_refl w.heap.size
  clear kf k1 k2 ka h1 h2
  go_enter Try.func3, Try.ntmps3
  go_wp2_with fail
  refine (KF.out _).mono ?_
  rintro e w1 ⟨rfl, rfl⟩
  have hcz1 := K1.out
  go_wp2_with fail
  refine hcz1.mono ?_
  rintro e wz1 ⟨rfl, kz1⟩
  clear hcz1
  have HBz1 := Lib.hid (HB1.out.trans (kz1.mono (Nat.le_trans hbase HB1.out.size)))
  clear kz1
  obtain ⟨wz2, hwz2⟩ : ∃ wz2, wz1.alloc (.cells #[.bool (B 1), .bool (B 2), .bool (B 3), .bool (B 4), .bool (B 5), .bool (B 6), .bool (B 7), .bool (B 8)] 24) = wz2 := ⟨_, rfl⟩
  have kz2 : Below wz1.heap.size wz1 wz2 := by rw [← hwz2]; exact (Below.refl _ _).alloc (Nat.le_refl _) _
  have Haz2 := Lib.hid (show Has wz2 wz1.heap.size [.bool (B 1), .bool (B 2), .bool (B 3), .bool (B 4), .bool (B 5), .bool (B 6), .bool (B 7), .bool (B 8)] 24 by rw [← hwz2]; exact Has.new _ _ _)
  have HWz2 := Lib.hid hwz2
  clear hwz2
  have HBz2 := Lib.hid (HBz1.out.trans (kz2.mono (Nat.le_trans hbase HBz1.out.size)))
  clear kz2
  go_upto_region 3 with fail
  rw [HWz2.out]
  go_wp2_with fail
  refine (K2.out wz2 HBz2.out).mono ?_
  rintro e w9 ⟨rfl, rfl⟩
  cases ok with
  | false =>
    obtain ⟨rfl, hB⟩ := H1.out rfl
    have hcz3 := KA.out wz2
    go_wp2_with fail
    refine hcz3.mono ?_
    rintro e wz3 ⟨rfl, kz3⟩
    clear hcz3
    have HBz3 := Lib.hid (HBz2.out.trans (kz3.mono (Nat.le_trans hbase HBz2.out.size)))
    have Haz3 := Lib.hid (Haz2.out.call kz3)
    clear kz3
    have hq := eqB8 false false false false false false false false
    have c0 : wz3.cell? ⟨wz1.heap.size, 0, none⟩ = some (.bool false) := (Haz3.out.cell 0).trans (by rw [← hB 1]; rfl)
    have c1 : wz3.cell? ⟨wz1.heap.size, 1, none⟩ = some (.bool false) := (Haz3.out.cell 1).trans (by rw [← hB 2]; rfl)
    have c2 : wz3.cell? ⟨wz1.heap.size, 2, none⟩ = some (.bool false) := (Haz3.out.cell 2).trans (by rw [← hB 3]; rfl)
    have c3 : wz3.cell? ⟨wz1.heap.size, 3, none⟩ = some (.bool false) := (Haz3.out.cell 3).trans (by rw [← hB 4]; rfl)
    have c4 : wz3.cell? ⟨wz1.heap.size, 4, none⟩ = some (.bool false) := (Haz3.out.cell 4).trans (by rw [← hB 5]; rfl)
    have c5 : wz3.cell? ⟨wz1.heap.size, 5, none⟩ = some (.bool false) := (Haz3.out.cell 5).trans (by rw [← hB 6]; rfl)
    have c6 : wz3.cell? ⟨wz1.heap.size, 6, none⟩ = some (.bool false) := (Haz3.out.cell 6).trans (by rw [← hB 7]; rfl)
    have c7 : wz3.cell? ⟨wz1.heap.size, 7, none⟩ = some (.bool false) := (Haz3.out.cell 7).trans (by rw [← hB 8]; rfl)
    have cl := Haz3.out.lt
    clear hB
    go_wp2
    go_ret
    exact ⟨by first | rfl | simp, HBz3.out⟩
  | true =>
    obtain ⟨rfl, h2⟩ := H2.out rfl
    have K3 := Lib.hid h2
    clear h2
    have hq := eqB8 (B 1) (B 2) (B 3) (B 4) (B 5) (B 6) (B 7) (B 8)
    go_upto_region 5 with fail
    have qa0_2 : wz2.cell? ⟨wz1.heap.size, 0, none⟩ = some (.bool (B 1)) := Haz2.out.cell 0
    have qa1_2 : wz2.cell? ⟨wz1.heap.size, 1, none⟩ = some (.bool (B 2)) := Haz2.out.cell 1
    have qa2_2 : wz2.cell? ⟨wz1.heap.size, 2, none⟩ = some (.bool (B 3)) := Haz2.out.cell 2
    have qa3_2 : wz2.cell? ⟨wz1.heap.size, 3, none⟩ = some (.bool (B 4)) := Haz2.out.cell 3
    have qa4_2 : wz2.cell? ⟨wz1.heap.size, 4, none⟩ = some (.bool (B 5)) := Haz2.out.cell 4
    have qa5_2 : wz2.cell? ⟨wz1.heap.size, 5, none⟩ = some (.bool (B 6)) := Haz2.out.cell 5
    have qa6_2 : wz2.cell? ⟨wz1.heap.size, 6, none⟩ = some (.bool (B 7)) := Haz2.out.cell 6
    have qa7_2 : wz2.cell? ⟨wz1.heap.size, 7, none⟩ = some (.bool (B 8)) := Haz2.out.cell 7
    have la_2 : wz1.heap.size < wz2.heap.size := Haz2.out.lt
    go_region_held3 (fun W => W.cell? ⟨wz1.heap.size, 0, none⟩ = some (.bool (B 1)) ∧ W.cell? ⟨wz1.heap.size, 1, none⟩ = some (.bool (B 2)) ∧ W.cell? ⟨wz1.heap.size, 2, none⟩ = some (.bool (B 3)) ∧ W.cell? ⟨wz1.heap.size, 3, none⟩ = some (.bool (B 4)) ∧ W.cell? ⟨wz1.heap.size, 4, none⟩ = some (.bool (B 5)) ∧ W.cell? ⟨wz1.heap.size, 5, none⟩ = some (.bool (B 6)) ∧ W.cell? ⟨wz1.heap.size, 6, none⟩ = some (.bool (B 7)) ∧ W.cell? ⟨wz1.heap.size, 7, none⟩ = some (.bool (B 8))) (first | exact ⟨ya40, ya41, ya42, ya43, ya44, ya45, ya46, ya47⟩ | exact ⟨ya30, ya31, ya32, ya33, ya34, ya35, ya36, ya37⟩ | exact ⟨qa0_2, qa1_2, qa2_2, qa3_2, qa4_2, qa5_2, qa6_2, qa7_2⟩ | simp [go_sem, *]) (first | (go_at_call 11; refine (KA.out _).mono ?_; rintro e wr3 ⟨rfl, kr3⟩; (have HBr3 := Lib.hid (show Below w.heap.size w wr3 by first | exact (HBz2.out).trans (kr3.mono (by have := HBz2.out.size; first | omega | (simp; omega) | simp)) | exact (Below.drew (HBz2.out)).trans (kr3.mono (by have := HBz2.out.size; first | omega | (simp; omega) | simp)) | exact (Below.drew (Below.drew (HBz2.out))).trans (kr3.mono (by have := HBz2.out.size; first | omega | (simp; omega) | simp)) | exact (Below.drew (Below.drew (Below.drew (HBz2.out)))).trans (kr3.mono (by have := HBz2.out.size; first | omega | (simp; omega) | simp)))); (have Har3 := Lib.hid (show Has wr3 (wz1.heap.size) [.bool (B 1), .bool (B 2), .bool (B 3), .bool (B 4), .bool (B 5), .bool (B 6), .bool (B 7), .bool (B 8)] 24 from Haz2.out.step kr3 rfl)); (have ya30 : wr3.cell? ⟨wz1.heap.size, 0, none⟩ = some (.bool (B 1)) := Har3.out.cell 0); (have ya31 : wr3.cell? ⟨wz1.heap.size, 1, none⟩ = some (.bool (B 2)) := Har3.out.cell 1); (have ya32 : wr3.cell? ⟨wz1.heap.size, 2, none⟩ = some (.bool (B 3)) := Har3.out.cell 2); (have ya33 : wr3.cell? ⟨wz1.heap.size, 3, none⟩ = some (.bool (B 4)) := Har3.out.cell 3); (have ya34 : wr3.cell? ⟨wz1.heap.size, 4, none⟩ = some (.bool (B 5)) := Har3.out.cell 4); (have ya35 : wr3.cell? ⟨wz1.heap.size, 5, none⟩ = some (.bool (B 6)) := Har3.out.cell 5); (have ya36 : wr3.cell? ⟨wz1.heap.size, 6, none⟩ = some (.bool (B 7)) := Har3.out.cell 6); (have ya37 : wr3.cell? ⟨wz1.heap.size, 7, none⟩ = some (.bool (B 8)) := Har3.out.cell 7); (have la3 : wz1.heap.size < wr3.heap.size := Har3.out.lt)) | (go_at_call 12; refine (K3.out _ (by first | exact HBr3.out | exact Below.drew (HBr3.out) | exact Below.drew (Below.drew (HBr3.out)) | exact Below.drew (Below.drew (Below.drew (HBr3.out))))).mono ?_; rintro e wr4 ⟨rfl, kr4⟩; (have HBr4 := Lib.hid (show Below w.heap.size w wr4 by first | exact (HBr3.out).trans (kr4.mono (by have := HBr3.out.size; first | omega | (simp; omega) | simp)) | exact (Below.drew (HBr3.out)).trans (kr4.mono (by have := HBr3.out.size; first | omega | (simp; omega) | simp)) | exact (Below.drew (Below.drew (HBr3.out))).trans (kr4.mono (by have := HBr3.out.size; first | omega | (simp; omega) | simp)) | exact (Below.drew (Below.drew (Below.drew (HBr3.out)))).trans (kr4.mono (by have := HBr3.out.size; first | omega | (simp; omega) | simp)))); (have Har4 := Lib.hid (show Has wr4 (wz1.heap.size) [.bool (B 1), .bool (B 2), .bool (B 3), .bool (B 4), .bool (B 5), .bool (B 6), .bool (B 7), .bool (B 8)] 24 from Har3.out.step kr4 rfl)); (have ya40 : wr4.cell? ⟨wz1.heap.size, 0, none⟩ = some (.bool (B 1)) := Har4.out.cell 0); (have ya41 : wr4.cell? ⟨wz1.heap.size, 1, none⟩ = some (.bool (B 2)) := Har4.out.cell 1); (have ya42 : wr4.cell? ⟨wz1.heap.size, 2, none⟩ = some (.bool (B 3)) := Har4.out.cell 2); (have ya43 : wr4.cell? ⟨wz1.heap.size, 3, none⟩ = some (.bool (B 4)) := Har4.out.cell 3); (have ya44 : wr4.cell? ⟨wz1.heap.size, 4, none⟩ = some (.bool (B 5)) := Har4.out.cell 4); (have ya45 : wr4.cell? ⟨wz1.heap.size, 5, none⟩ = some (.bool (B 6)) := Har4.out.cell 5); (have ya46 : wr4.cell? ⟨wz1.heap.size, 6, none⟩ = some (.bool (B 7)) := Har4.out.cell 6); (have ya47 : wr4.cell? ⟨wz1.heap.size, 7, none⟩ = some (.bool (B 8)) := Har4.out.cell 7); (have la4 : wz1.heap.size < wr4.heap.size := Har4.out.lt)))
    clear kr3 kr4 ya30 ya31 ya32 ya33 ya34 ya35 ya36 ya37 ya40 ya41 ya42 ya43 ya44 ya45 ya46 ya47 la3 la4 qa0_2 qa1_2 qa2_2 qa3_2 qa4_2 qa5_2 qa6_2 qa7_2 la_2
    go_wp2
    go_ret
    exact ⟨by first | rfl | simp, HBr4.out⟩
theorem exact14_walk (H : NelCode) (l : List Int) (v : Value) (w : World) (hr : ReadsI w v l) :
    Calls Try.prog 3 #[v] w fun e w' => e = .returned (.bool true) ∧ Below w.heap.size w w' := by
  obtain ⟨ao, cap, rfl, hf⟩ := few14_any l v w hr
  have hr17 := hr.few14 17
  have hl17 : (l.take 17).length ≤ 1000 := by rw [List.length_take]; omega
  refine exact14_core ao _ _ cap (exaT (l.take 17)) (exaE (l.take 17)) (classesB (l.take 17)) w hf (fun W hW => H.exact _ _ W hl17 (hr17.below hW)) (fun W hW => rcl14_any _ _ W (by omega) (hr17.below hW)) (fun W => alive14_any H W) (fun h => ?_) (fun h => ?_)
  · unfold exaE exaT
    rw [h]
    exact ⟨rfl, fun j => rfl⟩
  · refine ⟨?_, fun W hW => rexact14_any _ h _ W (hr17.below hW)⟩
    unfold exaE
    rw [if_pos h]
end Go.Proofs.Ytjonpcpcokapkaa
