/- The law of NelsonSure: its walk. -/
import Derived.Test.YtjonpcpcokapkaaNelO
namespace Go.Proofs.Ytjonpcpcokapkaa
open Go.RowKit

theorem lb_at (B : Nat → Bool) (i : Nat) (h : i < 8) : ([.bool (B 1), .bool (B 2), .bool (B 3), .bool (B 4), .bool (B 5), .bool (B 6), .bool (B 7), .bool (B 8)] : List Value)[i]? = some (.bool (B (i + 1))) := by
  rcases (by omega : i = 0 ∨ i = 1 ∨ i = 2 ∨ i = 3 ∨ i = 4 ∨ i = 5 ∨ i = 6 ∨ i = 7) with rfl | rfl | rfl | rfl | rfl | rfl | rfl | rfl <;> rfl
theorem li_at (T : Nat → Int) (i : Nat) (h : i < 8) : ([.int .i64 (T 1), .int .i64 (T 2), .int .i64 (T 3), .int .i64 (T 4), .int .i64 (T 5), .int .i64 (T 6), .int .i64 (T 7), .int .i64 (T 8)] : List Value)[i]? = some (.int .i64 (T (i + 1))) := by
  rcases (by omega : i = 0 ∨ i = 1 ∨ i = 2 ∨ i = 3 ∨ i = 4 ∨ i = 5 ∨ i = 6 ∨ i = 7) with rfl | rfl | rfl | rfl | rfl | rfl | rfl | rfl <;> rfl
theorem lx_at (T : Nat → Int) (i : Nat) (hi : i < 8) (w : World) : (Instr.index 31 (.agg #[.int .i64 (T 1), .int .i64 (T 2), .int .i64 (T 3), .int .i64 (T 4), .int .i64 (T 5), .int .i64 (T 6), .int .i64 (T 7), .int .i64 (T 8)]) (.int .i64 (i : Nat))).run Try.prog w = .ok (.int .i64 (T (i + 1))) w := tel_at T i hi w
def SurRel (B : Nat → Bool) (S : Nat → Int) (w : World) (b c : Nat) (y : Value) (wr : World) : Prop :=
  ∃ i : Nat, i ≤ 8 ∧ y = .int .i64 (i : Nat) ∧ Has wr b [.bool (B 1), .bool (B 2), .bool (B 3), .bool (B 4), .bool (B 5), .bool (B 6), .bool (B 7), .bool (B 8)] 24 ∧ Has wr c [.int .i64 (S 1), .int .i64 (S 2), .int .i64 (S 3), .int .i64 (S 4), .int .i64 (S 5), .int .i64 (S 6), .int .i64 (S 7), .int .i64 (S 8)] 31 ∧ Below w.heap.size w wr
set_option linter.unusedSimpArgs false in
set_option linter.unusedVariables false in
set_option maxHeartbeats 8000000 in
set_option maxRecDepth 100000 in
theorem sure14_core (T S : Nat → Int) (B : Nat → Bool) (ms cs ss : List Int) (u v : Value) (w : World)
    (ks : Calls Try.prog 20 #[u, v] w fun e w' => ∃ mv cv, e = .returned (.tuple #[mv, cv]) ∧ ReadsI w' mv ms ∧ ReadsI w' cv cs ∧ Below w.heap.size w w')
    (kt : (∀ W v, ReadsI W v ms → Calls Try.prog 13 #[v] W fun e w' => e = .returned (.tuple #[.agg #[.int .i64 (T 1), .int .i64 (T 2), .int .i64 (T 3), .int .i64 (T 4), .int .i64 (T 5), .int .i64 (T 6), .int .i64 (T 7), .int .i64 (T 8)], .int .i64 0]) ∧ Below W.heap.size W w')) (ke : (∀ W v, ReadsI W v cs → Calls Try.prog 9 #[v] W fun e w' => e = .returned (.tuple #[.agg #[.bool (B 1), .bool (B 2), .bool (B 3), .bool (B 4), .bool (B 5), .bool (B 6), .bool (B 7), .bool (B 8)], .int .i64 0]) ∧ Below W.heap.size W w'))
    (kg : ∀ W v, ReadsI W v cs → Calls Try.prog 21 #[v] W fun e w' => ∃ v', e = .returned v' ∧ ReadsI w' v' ss ∧ Below W.heap.size W w')
    (k2 : (∀ W v, ReadsI W v ss → Calls Try.prog 13 #[v] W fun e w' => e = .returned (.tuple #[.agg #[.int .i64 (S 1), .int .i64 (S 2), .int .i64 (S 3), .int .i64 (S 4), .int .i64 (S 5), .int .i64 (S 6), .int .i64 (S 7), .int .i64 (S 8)], .int .i64 0]) ∧ Below W.heap.size W w')) (ka : (∀ W, Calls Try.prog 11 #[] W fun e w' => e = .returned (.bool true) ∧ Below W.heap.size W w'))
    (h1 : ∀ k, 1 ≤ k → k ≤ 8 → (S k = if B k then 2 else 0) ∧ (T k = 2 → B k = true) ∧ (T k = 0 → B k = false) ∧ 0 ≤ T k ∧ T k ≤ 2) :
    Calls Try.prog 5 #[u, v] w fun e w' => e = .returned (.bool true) ∧ Below w.heap.size w w' := by
  have KS := Lib.hid ks; have KT := Lib.hid kt; have KE := Lib.hid ke; have KG := Lib.hid kg; have K2 := Lib.hid k2; have KA := Lib.hid ka; have H1 := Lib.hid h1
  have HB1 := Lib.hid (Below.refl w.heap.size w)
  have hbase := Nat.le_refl w.heap.size
  clear ks kt ke kg k2 ka h1
  go_enter Try.func5, Try.ntmps5
  have hcz1 := KS.out
  go_wp2_with fail
  refine hcz1.mono ?_
  rintro e wz1 ⟨mv, cv, rfl, hmv, hcv, kz1⟩
  clear hcz1
  have HBz1 := Lib.hid (HB1.out.trans (kz1.mono (Nat.le_trans hbase HB1.out.size)))
  clear kz1
  have HMV := Lib.hid hmv; have HCV := Lib.hid hcv
  clear hmv hcv
  have hcz2 := KT.out wz1 mv HMV.out
  go_wp2_with fail
  refine hcz2.mono ?_
  rintro e wz2 ⟨rfl, kz2⟩
  clear hcz2
  have HBz2 := Lib.hid (HBz1.out.trans (kz2.mono (Nat.le_trans hbase HBz1.out.size)))
  have Hmz2 := Lib.hid (HMV.out.below kz2)
  have Hqz2 := Lib.hid (HCV.out.below kz2)
  clear kz2
  obtain ⟨wz3, hwz3⟩ : ∃ wz3, wz2.alloc (.cells #[.int .i64 (T 1), .int .i64 (T 2), .int .i64 (T 3), .int .i64 (T 4), .int .i64 (T 5), .int .i64 (T 6), .int .i64 (T 7), .int .i64 (T 8)] 31) = wz3 := ⟨_, rfl⟩
  have kz3 : Below wz2.heap.size wz2 wz3 := by rw [← hwz3]; exact (Below.refl _ _).alloc (Nat.le_refl _) _
  have Haz3 := Lib.hid (show Has wz3 wz2.heap.size [.int .i64 (T 1), .int .i64 (T 2), .int .i64 (T 3), .int .i64 (T 4), .int .i64 (T 5), .int .i64 (T 6), .int .i64 (T 7), .int .i64 (T 8)] 31 by rw [← hwz3]; exact Has.new _ _ _)
  have HWz3 := Lib.hid hwz3
  clear hwz3
  have HBz3 := Lib.hid (HBz2.out.trans (kz3.mono (Nat.le_trans hbase HBz2.out.size)))
  have Hmz3 := Lib.hid (Hmz2.out.below kz3)
  have Hqz3 := Lib.hid (Hqz2.out.below kz3)
  clear kz3
  go_upto_region 3 with fail
  rw [HWz3.out]
  have hcz4 := KE.out wz3 cv Hqz3.out
  go_wp2_with fail
  refine hcz4.mono ?_
  rintro e wz4 ⟨rfl, kz4⟩
  clear hcz4
  have HBz4 := Lib.hid (HBz3.out.trans (kz4.mono (Nat.le_trans hbase HBz3.out.size)))
  have Haz4 := Lib.hid (Haz3.out.call kz4)
  have Hmz4 := Lib.hid (Hmz3.out.below kz4)
  have Hqz4 := Lib.hid (Hqz3.out.below kz4)
  clear kz4
  obtain ⟨wz5, hwz5⟩ : ∃ wz5, wz4.alloc (.cells #[.bool (B 1), .bool (B 2), .bool (B 3), .bool (B 4), .bool (B 5), .bool (B 6), .bool (B 7), .bool (B 8)] 24) = wz5 := ⟨_, rfl⟩
  have kz5 : Below wz4.heap.size wz4 wz5 := by rw [← hwz5]; exact (Below.refl _ _).alloc (Nat.le_refl _) _
  have Hbz5 := Lib.hid (show Has wz5 wz4.heap.size [.bool (B 1), .bool (B 2), .bool (B 3), .bool (B 4), .bool (B 5), .bool (B 6), .bool (B 7), .bool (B 8)] 24 by rw [← hwz5]; exact Has.new _ _ _)
  have HWz5 := Lib.hid hwz5
  clear hwz5
  have HBz5 := Lib.hid (HBz4.out.trans (kz5.mono (Nat.le_trans hbase HBz4.out.size)))
  have Haz5 := Lib.hid (Haz4.out.call kz5)
  have Hmz5 := Lib.hid (Hmz4.out.below kz5)
  have Hqz5 := Lib.hid (Hqz4.out.below kz5)
  clear kz5
  go_upto_region 4 with fail
  rw [HWz5.out]
  have hcz6 := KG.out wz5 cv Hqz5.out
  go_wp2_with fail
  refine hcz6.mono ?_
  rintro e wz6 ⟨sv, rfl, hsv, kz6⟩
  clear hcz6
  have HBz6 := Lib.hid (HBz5.out.trans (kz6.mono (Nat.le_trans hbase HBz5.out.size)))
  have Haz6 := Lib.hid (Haz5.out.call kz6)
  have Hbz6 := Lib.hid (Hbz5.out.call kz6)
  have Hmz6 := Lib.hid (Hmz5.out.below kz6)
  have Hqz6 := Lib.hid (Hqz5.out.below kz6)
  clear kz6
  have HSV := Lib.hid hsv
  clear hsv
  have hcz7 := K2.out wz6 sv HSV.out
  go_wp2_with fail
  refine hcz7.mono ?_
  rintro e wz7 ⟨rfl, kz7⟩
  clear hcz7
  have HBz7 := Lib.hid (HBz6.out.trans (kz7.mono (Nat.le_trans hbase HBz6.out.size)))
  have Haz7 := Lib.hid (Haz6.out.call kz7)
  have Hbz7 := Lib.hid (Hbz6.out.call kz7)
  have Hmz7 := Lib.hid (Hmz6.out.below kz7)
  have Hqz7 := Lib.hid (Hqz6.out.below kz7)
  have Hsz7 := Lib.hid (HSV.out.below kz7)
  clear kz7
  obtain ⟨wz8, hwz8⟩ : ∃ wz8, wz7.alloc (.cells #[.int .i64 (S 1), .int .i64 (S 2), .int .i64 (S 3), .int .i64 (S 4), .int .i64 (S 5), .int .i64 (S 6), .int .i64 (S 7), .int .i64 (S 8)] 31) = wz8 := ⟨_, rfl⟩
  have kz8 : Below wz7.heap.size wz7 wz8 := by rw [← hwz8]; exact (Below.refl _ _).alloc (Nat.le_refl _) _
  have Hcz8 := Lib.hid (show Has wz8 wz7.heap.size [.int .i64 (S 1), .int .i64 (S 2), .int .i64 (S 3), .int .i64 (S 4), .int .i64 (S 5), .int .i64 (S 6), .int .i64 (S 7), .int .i64 (S 8)] 31 by rw [← hwz8]; exact Has.new _ _ _)
  have HWz8 := Lib.hid hwz8
  clear hwz8
  have HBz8 := Lib.hid (HBz7.out.trans (kz8.mono (Nat.le_trans hbase HBz7.out.size)))
  have Haz8 := Lib.hid (Haz7.out.call kz8)
  have Hbz8 := Lib.hid (Hbz7.out.call kz8)
  have Hmz8 := Lib.hid (Hmz7.out.below kz8)
  have Hqz8 := Lib.hid (Hqz7.out.below kz8)
  have Hsz8 := Lib.hid (Hsz7.out.below kz8)
  clear kz8
  go_upto_region 5 with fail
  rw [HWz8.out]
  have hcz9 := KA.out wz8
  go_wp2_with fail
  refine hcz9.mono ?_
  rintro e wz9 ⟨rfl, kz9⟩
  clear hcz9
  have HBz9 := Lib.hid (HBz8.out.trans (kz9.mono (Nat.le_trans hbase HBz8.out.size)))
  have Haz9 := Lib.hid (Haz8.out.call kz9)
  have Hbz9 := Lib.hid (Hbz8.out.call kz9)
  have Hcz9 := Lib.hid (Hcz8.out.call kz9)
  have Hmz9 := Lib.hid (Hmz8.out.below kz9)
  have Hqz9 := Lib.hid (Hqz8.out.below kz9)
  have Hsz9 := Lib.hid (Hsz8.out.below kz9)
  clear kz9
  have qa0_9 : wz9.cell? ⟨wz2.heap.size, 0, none⟩ = some (.int .i64 (T 1)) := Haz9.out.cell 0
  have qa1_9 : wz9.cell? ⟨wz2.heap.size, 1, none⟩ = some (.int .i64 (T 2)) := Haz9.out.cell 1
  have qa2_9 : wz9.cell? ⟨wz2.heap.size, 2, none⟩ = some (.int .i64 (T 3)) := Haz9.out.cell 2
  have qa3_9 : wz9.cell? ⟨wz2.heap.size, 3, none⟩ = some (.int .i64 (T 4)) := Haz9.out.cell 3
  have qa4_9 : wz9.cell? ⟨wz2.heap.size, 4, none⟩ = some (.int .i64 (T 5)) := Haz9.out.cell 4
  have qa5_9 : wz9.cell? ⟨wz2.heap.size, 5, none⟩ = some (.int .i64 (T 6)) := Haz9.out.cell 5
  have qa6_9 : wz9.cell? ⟨wz2.heap.size, 6, none⟩ = some (.int .i64 (T 7)) := Haz9.out.cell 6
  have qa7_9 : wz9.cell? ⟨wz2.heap.size, 7, none⟩ = some (.int .i64 (T 8)) := Haz9.out.cell 7
  have la_9 : wz2.heap.size < wz9.heap.size := Haz9.out.lt
  have HST := Lib.hid (show SurRel B S w wz4.heap.size (wz7.heap.size) (.int .i64 0) wz9 from ⟨0, by omega, rfl, Hbz9.out, Hcz9.out, HBz9.out⟩)
  go_wp2
  clear qa0_9 qa1_9 qa2_9 qa3_9 qa4_9 qa5_9 qa6_9 qa7_9 la_9
  obtain ⟨bb, hbb⟩ : ∃ b, wz4.heap.size = b := ⟨_, rfl⟩
  obtain ⟨bc, hbc⟩ : ∃ b, wz7.heap.size = b := ⟨_, rfl⟩
  rw [hbb, hbc] at HST ⊢
  clear hbb hbc
  obtain ⟨TV, hTV⟩ : ∃ V, Value.agg #[.int .i64 (T 1), .int .i64 (T 2), .int .i64 (T 3), .int .i64 (T 4), .int .i64 (T 5), .int .i64 (T 6), .int .i64 (T 7), .int .i64 (T 8)] = V := ⟨_, rfl⟩
  have hix := fun i hi W => lx_at T i hi W
  rw [hTV] at hix
  have HIX := Lib.hid hix
  first | rw [hTV] | skip
  clear hix
  go_loopw [53] (SurRel B S w bb bc) (fun y _ => 8 - (intOf y).toNat)
  case atStart => exact HST.out
  case round =>
    obtain ⟨i, hi, rfl, hB, hC, hb⟩ := hrel
    have HBB := Lib.hid hB; have HCC := Lib.hid hC; have HB := Lib.hid hb
    clear hB hC hb
    by_cases h8 : i < 8
    · have hix := HIX.out i h8
      obtain ⟨f1, f2, f3, f4, f5⟩ := H1.out (i + 1) (by omega) (by omega)
      have hlt : (i : Int) < 8 := by omega
      have c1 : wr.cell? ⟨bb, i, none⟩ = some (.bool (B (i + 1))) := (HBB.out.cell i).trans (lb_at B i h8)
      have c2 : wr.cell? ⟨bc, i, none⟩ = some (.int .i64 (S (i + 1))) := (HCC.out.cell i).trans (li_at S i h8)
      have l1 := HBB.out.lt
      have l2 := HCC.out.lt
      have HQ := Lib.hid (show SurRel B S w bb bc (.int .i64 ((i : Int) + 1)) wr from ⟨i + 1, by omega, by first | rfl | go_num, HBB.out, HCC.out, HB.out⟩)
      obtain ⟨t, ht⟩ : ∃ t, T (i + 1) = t := ⟨_, rfl⟩
      obtain ⟨s, hs⟩ : ∃ s, S (i + 1) = s := ⟨_, rfl⟩
      rw [ht] at hix f2 f3 f4 f5
      rw [hs] at c2 f1
      cases hBi : B (i + 1) with
      | true =>
        rw [hBi] at c1 f1 f2 f3
        rw [if_pos rfl] at f1
        have ht0 : t ≠ 0 := fun h => by have := f3 h; cases this
        subst f1
        rcases (by omega : t = 1 ∨ t = 2) with rfl | rfl
        all_goals
          clear f2 f3 f4 f5 ht0 hi hBi ht hs
          go_wp2
          go_roundw
          case rel => exact HQ.out
          case measure => simp [intOf]; omega
      | false =>
        rw [hBi] at c1 f1 f2 f3
        rw [if_neg (by decide)] at f1
        have ht0 : t ≠ 2 := fun h => by have := f2 h; cases this
        subst f1
        rcases (by omega : t = 0 ∨ t = 1) with rfl | rfl
        all_goals
          clear f2 f3 f4 f5 ht0 hi hBi ht hs
          go_wp2
          go_roundw
          case rel => exact HQ.out
          case measure => simp [intOf]; omega
    · obtain rfl : i = 8 := by omega
      go_wp2
      go_ret
      exact ⟨rfl, HB.out⟩
theorem sure14_walk (H : NelCode) (l ps : List Int) (u v : Value) (w : World) (hr : ReadsI w u l) (hp : ReadsI w v ps) :
    Calls Try.prog 5 #[u, v] w fun e w' => e = .returned (.bool true) ∧ Below w.heap.size w w' := by
  obtain ⟨L, hL⟩ : ∃ L, l.take 15 = L := ⟨_, rfl⟩
  have h15 : L.length ≤ 15 := by rw [← hL, List.length_take]; omega
  have hs := some14_any l ps u v w hr hp
  rw [hL] at hs
  have hok := okM_some L
  have hcc := okC_some ps L 0
  have hof := OfM_some ps L 0
  have hlen : (clsF ps 0 L).length = L.length := clsF_length ps L 0
  have hml : (L.map mskOf).length ≤ 15 := by rw [List.length_map]; exact h15
  have m1 : masksB (L.map mskOf) = true := masksB_of hok hml
  have m2 : classesB (clsF ps 0 L) = true := classesB_of hcc (by rw [hlen]; exact h15)
  have m3 : masksB ((clsF ps 0 L).map bitM) = true := masksB_of (fun m hm => by
    obtain ⟨c, hc1, rfl⟩ := List.mem_map.1 hm
    exact mask_bounds (hcc c hc1).1 (Int.le_refl _) (hcc c hc1).2) (by rw [List.length_map, hlen]; exact h15)
  have e1 : telE (L.map mskOf) = 0 := if_pos m1
  have e2 : exaE (clsF ps 0 L) = 0 := if_pos m2
  have e3 : telE ((clsF ps 0 L).map bitM) = 0 := if_pos m3
  refine sure14_core (telT (L.map mskOf)) (telT ((clsF ps 0 L).map bitM)) (exaT (clsF ps 0 L)) (L.map mskOf) (clsF ps 0 L) ((clsF ps 0 L).map bitM) u v w (hs.mono fun e w' ⟨mv, cv, q1, q2, q3, q4⟩ => ⟨mv, cv, q1, q2.reads, q3.reads, q4⟩)
    (fun W v hv => ?_) (fun W v hv => ?_) (fun W v hv => ?_) (fun W v hv => ?_) (fun W => alive14_any H W) (fun k h1 h8 => ?_)
  · have := H.tell _ v W (by omega) hv
    rw [e1] at this
    exact this
  · have := H.exact _ v W (by omega) hv
    rw [e2] at this
    exact this
  · exact (single14_any _ v W (by omega) hcc hv).mono fun e w' ⟨v', q1, q2, q3⟩ => ⟨v', q1, q2.reads, q3⟩
  · have := H.tell _ v W (by rw [List.length_map]; omega) hv
    rw [e3] at this
    exact this
  · have t1 : telT (L.map mskOf) k = tellN k (L.map mskOf) := if_pos m1
    have t2 : exaT (clsF ps 0 L) k = exactN k (clsF ps 0 L) := if_pos m2
    have t3 : telT ((clsF ps 0 L).map bitM) k = tellN k ((clsF ps 0 L).map bitM) := if_pos m3
    rw [t1, t2, t3, tell_single hcc]
    obtain ⟨s1, s2⟩ := tell_sure (r := k) hof
    exact ⟨rfl, s1, fun h => s2 h hok, tellN_bounds _ _⟩
end Go.Proofs.Ytjonpcpcokapkaa
