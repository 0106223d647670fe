/- The law of MoveTells: its walk. -/
import Derived.Test.YtaegoomnenociaaMovG
import Derived.Test.YtaegoomnenociaaIntsEq
import Derived.Test.YtaegoomnenociaaIn
import Derived.Deep.CutBlock
namespace Go.Proofs.Ytaegoomnenociaa
open Go.RowKit

theorem Has.step {w W w' : World} {b : Nat} {cs : List Value} {T : TypeId} (h : Has w b cs T) (k : Below W.heap.size W w') (e : W.heap = w.heap) : Has w' b cs T :=
  h.of ((k.block b (by rw [e]; exact h.lt)).trans (by rw [e]))
theorem ReadsI.step {w W w' : World} {v : Value} {xs : List Int} (h : ReadsI w v xs) (k : Below W.heap.size W w') (e : W.heap = w.heap) : ReadsI w' v xs := by
  obtain ⟨ao, cap, h1, h2, h3, h4⟩ := h
  refine ⟨ao, cap, h1, h2, h3, fun i hi => ?_⟩
  obtain ⟨b, off, h5, h6, h7⟩ := h4 i hi
  refine ⟨b, off, h5, by have := k.size; rw [e] at this; omega, ?_⟩
  rw [← h7]
  exact World.cell?_of_block (w := w) ((k.block b (by rw [e]; exact h6)).trans (by rw [e]))
theorem eqMovS (a b c : Int) (w : World) : (Op.equalIn 10000 23 (.agg #[.int .i64 a, .int .i64 b, .int .i64 c]) (.agg #[.int .i64 a, .int .i64 b, .int .i64 c])).run Try.prog w = .ok true w := by
  rw [eqMov3, decide_eq_true ⟨rfl, rfl, rfl⟩]
set_option linter.unusedSimpArgs false in
set_option linter.unusedVariables false in
set_option maxHeartbeats 16000000 in
set_option maxRecDepth 100000 in
theorem tell12_core (N L S x a1 a2 a3 s e1 b1 b2 b3 e2 Q : Int) (XI XA : Bool) (rl : List Int) (ao : Option Addr) (n cap k : Nat) (w : World)
    (hm : k = min n 200) (hlc : n ≤ cap) (hcm : cap ≤ 9223372036854775807)
    (cnx : (∀ W, Calls Try.prog 6 #[.agg #[.int .i64 N, .int .i64 L, .int .i64 S], .int .i64 x] W fun e w' => e = .returned (.tuple #[.agg #[.int .i64 a1, .int .i64 a2, .int .i64 a3], .int .i64 s, .int .i64 e1]) ∧ Below W.heap.size W w'))
    (cru : (∀ W, Below w.heap.size w W → Calls Try.prog 7 #[.agg #[.int .i64 N, .int .i64 L, .int .i64 S], .slice ao k cap] W fun e w' => ∃ v', e = .returned (.tuple #[.agg #[.int .i64 b1, .int .i64 b2, .int .i64 b3], v', .int .i64 e2]) ∧ IRow (W.heap.size) v' rl w' ∧ Below W.heap.size W w'))
    (cri : (∀ W, Calls Try.prog 8 #[.agg #[.int .i64 N, .int .i64 L, .int .i64 S]] W fun e w' => e = .returned (.bool XA) ∧ Below W.heap.size W w')) (crr : (∀ W, Calls Try.prog 9 #[.agg #[.int .i64 N, .int .i64 L, .int .i64 S]] W fun e w' => e = .returned (.bool XA) ∧ Below W.heap.size W w'))
    (cin : ∀ W, Below w.heap.size w W → Calls Try.prog 12 #[.slice ao k cap] W fun e w' => e = .returned (.bool XI) ∧ w' = W)
    (h0 : XA = false → e1 = 1 ∧ e2 = 1 ∧ s = 0 ∧ (a1 = 0 ∧ a2 = 0 ∧ a3 = 0) ∧ (b1 = 0 ∧ b2 = 0 ∧ b3 = 0) ∧ rl = [])
    (h1 : XA = true → ¬ (-1000000 ≤ x ∧ x ≤ 1000000) → e1 = 3 ∧ s = 0 ∧ (a1 = 0 ∧ a2 = 0 ∧ a3 = 0))
    (h2 : XA = true → (-1000000 ≤ x ∧ x ≤ 1000000) → N = 1000000000 → e1 = 11 ∧ s = 0 ∧ (a1 = 0 ∧ a2 = 0 ∧ a3 = 0))
    (h3 : XA = true → (-1000000 ≤ x ∧ x ≤ 1000000) → ¬ N = 1000000000 → e1 = 0 ∧ (∀ W, Calls Try.prog 11 #[.agg #[.int .i64 N, .int .i64 L, .int .i64 S], .int .i64 x] W fun e w' => e = .returned (.tuple #[.agg #[.int .i64 a1, .int .i64 a2, .int .i64 a3], .int .i64 s]) ∧ Below W.heap.size W w'))
    (hQ : XA = true → wrap64 (N + (k : Int)) = Q)
    (d1 : XA = true → XI = false → e2 = 3 ∧ (b1 = 0 ∧ b2 = 0 ∧ b3 = 0) ∧ rl = [])
    (d2 : XA = true → XI = true → 1000000000 < Q → e2 = 11 ∧ (b1 = 0 ∧ b2 = 0 ∧ b3 = 0) ∧ rl = [])
    (d3 : XA = true → XI = true → ¬ 1000000000 < Q → e2 = 0 ∧ (∀ W, Below w.heap.size w W → Calls Try.prog 13 #[.agg #[.int .i64 N, .int .i64 L, .int .i64 S], .slice ao k cap] W fun e w' => ∃ v', e = .returned (.tuple #[.agg #[.int .i64 b1, .int .i64 b2, .int .i64 b3], v']) ∧ IRow (W.heap.size + 2) v' rl w' ∧ Below W.heap.size W w')) :
    Calls Try.prog 3 #[.agg #[.int .i64 N, .int .i64 L, .int .i64 S], .int .i64 x, .slice ao n cap] w fun e w' => e = .returned (.bool true) ∧ Below w.heap.size w w' := by
  obtain ⟨w2, hw2⟩ : ∃ w2, w.alloc (.cells #[.int .i64 N, .int .i64 L, .int .i64 S] 23) = w2 := ⟨_, rfl⟩
  have HB2 := Lib.hid (show Below w.heap.size w w2 by rw [← hw2]; exact (Below.refl _ _).alloc (Nat.le_refl _) _)
  have Ha2 := Lib.hid (show Has w2 w.heap.size [.int .i64 N, .int .i64 L, .int .i64 S] 23 by rw [← hw2]; exact Has.new w _ _)
  have HW2 := Lib.hid hw2
  have HM := Lib.hid hm
  have CNX := Lib.hid cnx
  have CRU := Lib.hid cru
  have CRI := Lib.hid cri
  have CRR := Lib.hid crr
  have CIN := Lib.hid cin
  have H0 := Lib.hid h0
  have H1 := Lib.hid h1
  have H2 := Lib.hid h2
  have H3 := Lib.hid h3
  have HQ := Lib.hid hQ
  have D1 := Lib.hid d1
  have D2 := Lib.hid d2
  have D3 := Lib.hid d3
  have hbase := Nat.le_refl w.heap.size
  clear hw2 hm cnx cru cri crr cin h0 h1 h2 h3 hQ d1 d2 d3
  go_enter Try.func3, Try.ntmps3
  go_upto_region 1 with fail
  rw [HW2.out]
  go_cut [2] (fun s0 wx => s0 = .slice ao k cap ∧ wx = w2)
  case first =>
    have hm := HM.out
    rcases Nat.lt_trichotomy n 200 with c | c | c
    · obtain rfl : k = n := by omega
      have g1 : (k : Int) < 200 := by omega
      have g2 : ¬ (200 : Int) < (k : Int) := by omega
      have g3 : ¬ (200 : Int) ≤ (k : Int) := by omega
      have g4 : (k : Int) ≤ 200 := by omega
      have hsl := slice_hi ao k cap k (by omega)
      clear hm
      go_wp2_with fail
      go_meet
      exact ⟨rfl, rfl⟩
    · subst c
      obtain rfl : k = 200 := by omega
      have hsl : ∀ W, (Instr.slice 24 (.slice ao 200 cap) none (some (.int .i64 200)) none).run Try.prog W = .ok (.slice ao 200 cap) W := slice_hi ao 200 cap 200 (by omega)
      clear hm
      go_wp2_with fail
      go_meet
      exact ⟨rfl, rfl⟩
    · obtain rfl : k = 200 := by omega
      have g1 : (200 : Int) < (n : Int) := by omega
      have g2 : ¬ (n : Int) < 200 := by omega
      have g3 : ¬ (n : Int) ≤ 200 := by omega
      have g4 : (200 : Int) ≤ (n : Int) := by omega
      have hsl : ∀ W, (Instr.slice 24 (.slice ao n cap) none (some (.int .i64 200)) none).run Try.prog W = .ok (.slice ao 200 cap) W := slice_hi ao n cap 200 (by omega)
      clear hm
      go_wp2_with fail
      go_meet
      exact ⟨rfl, rfl⟩
  case rest =>
    obtain ⟨rfl, rfl⟩ := hcut
    clear hlc hcm
    go_upto_region 2 with fail
    have qm0_0 : wc.cell? ⟨w.heap.size, 0, none⟩ = some (.int .i64 N) := Ha2.out.cell 0
    have qm1_0 : wc.cell? ⟨w.heap.size, 1, none⟩ = some (.int .i64 L) := Ha2.out.cell 1
    have qm2_0 : wc.cell? ⟨w.heap.size, 2, none⟩ = some (.int .i64 S) := Ha2.out.cell 2
    have lm_0 : w.heap.size < wc.heap.size := Ha2.out.lt
    have hcz1 := CNX.out wc
    go_wp2_with fail
    refine hcz1.mono ?_
    rintro e wz1 ⟨rfl, kz1⟩
    clear hcz1 qm0_0 qm1_0 qm2_0 lm_0
    have HBz1 := Lib.hid (HB2.out.trans (kz1.mono (Nat.le_trans hbase HB2.out.size)))
    have Hmz1 := Lib.hid (Ha2.out.call kz1)
    clear kz1
    obtain ⟨wz2, hwz2⟩ : ∃ wz2, wz1.alloc (.cells #[.int .i64 a1, .int .i64 a2, .int .i64 a3] 23) = wz2 := ⟨_, rfl⟩
    have kz2 : Below wz1.heap.size wz1 wz2 := by rw [← hwz2]; exact (Below.refl _ _).alloc (Nat.le_refl _) _
    have Haz2 := Lib.hid (show Has wz2 wz1.heap.size [.int .i64 a1, .int .i64 a2, .int .i64 a3] 23 by rw [← hwz2]; exact Has.new _ _ _)
    have HWz2 := Lib.hid hwz2
    clear hwz2
    have HBz2 := Lib.hid (HBz1.out.trans (kz2.mono (Nat.le_trans hbase HBz1.out.size)))
    have Hmz2 := Lib.hid (Hmz1.out.call kz2)
    clear kz2
    have qm0_2 : wz1.cell? ⟨w.heap.size, 0, none⟩ = some (.int .i64 N) := Hmz1.out.cell 0
    have qm1_2 : wz1.cell? ⟨w.heap.size, 1, none⟩ = some (.int .i64 L) := Hmz1.out.cell 1
    have qm2_2 : wz1.cell? ⟨w.heap.size, 2, none⟩ = some (.int .i64 S) := Hmz1.out.cell 2
    have lm_2 : w.heap.size < wz1.heap.size := Hmz1.out.lt
    have hcz3 := CRU.out wz2 HBz2.out
    go_wp2_with fail
    rw [HWz2.out]
    refine hcz3.mono ?_
    rintro e wz3 ⟨v1, rfl, hv1, kz3⟩
    clear hcz3 qm0_2 qm1_2 qm2_2 lm_2
    have HBz3 := Lib.hid (HBz2.out.trans (kz3.mono (Nat.le_trans hbase HBz2.out.size)))
    have Hmz3 := Lib.hid (Hmz2.out.call kz3)
    have Haz3 := Lib.hid (Haz2.out.call kz3)
    clear kz3
    obtain ⟨av, cv, rfl, -⟩ := id hv1.reads
    obtain ⟨rn, hrn⟩ : ∃ rn, rl.length = rn := ⟨_, rfl⟩
    have hv2 := hv1.reads
    rw [hrn] at hv2 ⊢
    have HV1 := Lib.hid hv2
    have HRN := Lib.hid hrn
    clear hv1 hv2 hrn
    obtain ⟨wz4, hwz4⟩ : ∃ wz4, wz3.alloc (.cells #[.int .i64 b1, .int .i64 b2, .int .i64 b3] 23) = wz4 := ⟨_, rfl⟩
    have kz4 : Below wz3.heap.size wz3 wz4 := by rw [← hwz4]; exact (Below.refl _ _).alloc (Nat.le_refl _) _
    have Hbz4 := Lib.hid (show Has wz4 wz3.heap.size [.int .i64 b1, .int .i64 b2, .int .i64 b3] 23 by rw [← hwz4]; exact Has.new _ _ _)
    have HWz4 := Lib.hid hwz4
    clear hwz4
    have HBz4 := Lib.hid (HBz3.out.trans (kz4.mono (Nat.le_trans hbase HBz3.out.size)))
    have Hmz4 := Lib.hid (Hmz3.out.call kz4)
    have Haz4 := Lib.hid (Haz3.out.call kz4)
    have Hvz4 := Lib.hid (HV1.out.below kz4)
    clear kz4
    go_upto_region 4 with fail
    rw [HWz4.out]
    obtain ⟨wz5, hwz5⟩ : ∃ wz5, wz4.alloc (.cells #[.int .i64 0, .int .i64 0, .int .i64 0] 23) = wz5 := ⟨_, rfl⟩
    have kz5 : Below wz4.heap.size wz4 wz5 := by rw [← hwz5]; exact (Below.refl _ _).alloc (Nat.le_refl _) _
    have Hnonez5 := Lib.hid (show Has wz5 wz4.heap.size [.int .i64 0, .int .i64 0, .int .i64 0] 23 by rw [← hwz5]; exact Has.new _ _ _)
    have HWz5 := Lib.hid hwz5
    clear hwz5
    have HBz5 := Lib.hid (HBz4.out.trans (kz5.mono (Nat.le_trans hbase HBz4.out.size)))
    have Hmz5 := Lib.hid (Hmz4.out.call kz5)
    have Haz5 := Lib.hid (Haz4.out.call kz5)
    have Hbz5 := Lib.hid (Hbz4.out.call kz5)
    have Hvz5 := Lib.hid (Hvz4.out.below kz5)
    clear kz5
    have hxx : (XA == XA) = true := beq_self_eq_true XA
    have hxn : (XA != XA) = false := by cases XA <;> rfl
    go_upto_region 5 with fail
    rw [HWz5.out]
    have qm0_5 : wz5.cell? ⟨w.heap.size, 0, none⟩ = some (.int .i64 N) := Hmz5.out.cell 0
    have qm1_5 : wz5.cell? ⟨w.heap.size, 1, none⟩ = some (.int .i64 L) := Hmz5.out.cell 1
    have qm2_5 : wz5.cell? ⟨w.heap.size, 2, none⟩ = some (.int .i64 S) := Hmz5.out.cell 2
    have lm_5 : w.heap.size < wz5.heap.size := Hmz5.out.lt
    go_region_held3 (fun W => W.cell? ⟨w.heap.size, 0, none⟩ = some (.int .i64 N) ∧ W.cell? ⟨w.heap.size, 1, none⟩ = some (.int .i64 L) ∧ W.cell? ⟨w.heap.size, 2, none⟩ = some (.int .i64 S)) (first | exact ⟨ym80, ym81, ym82⟩ | exact ⟨ym70, ym71, ym72⟩ | exact ⟨ym60, ym61, ym62⟩ | exact ⟨qm0_5, qm1_5, qm2_5⟩ | simp [go_sem, *]) (first | (go_at_call 8; refine (CRI.out _).mono ?_; rintro e wr6 ⟨rfl, kr6⟩; (have HBr6 := Lib.hid (show Below w.heap.size w wr6 by first | exact (HBz5.out).trans (kr6.mono (by have := HBz5.out.size; first | omega | (simp; omega) | simp)) | exact (Below.drew (HBz5.out)).trans (kr6.mono (by have := HBz5.out.size; first | omega | (simp; omega) | simp)) | exact (Below.drew (Below.drew (HBz5.out))).trans (kr6.mono (by have := HBz5.out.size; first | omega | (simp; omega) | simp)) | exact (Below.drew (Below.drew (Below.drew (HBz5.out)))).trans (kr6.mono (by have := HBz5.out.size; first | omega | (simp; omega) | simp)))); (have Hmr6 := Lib.hid (show Has wr6 (w.heap.size) [.int .i64 N, .int .i64 L, .int .i64 S] 23 from Hmz5.out.step kr6 rfl)); (have ym60 : wr6.cell? ⟨w.heap.size, 0, none⟩ = some (.int .i64 N) := Hmr6.out.cell 0); (have ym61 : wr6.cell? ⟨w.heap.size, 1, none⟩ = some (.int .i64 L) := Hmr6.out.cell 1); (have ym62 : wr6.cell? ⟨w.heap.size, 2, none⟩ = some (.int .i64 S) := Hmr6.out.cell 2); (have lm6 : w.heap.size < wr6.heap.size := Hmr6.out.lt)) | (go_at_call 9; refine (CRR.out _).mono ?_; rintro e wr7 ⟨rfl, kr7⟩; (have HBr7 := Lib.hid (show Below w.heap.size w wr7 by first | exact (HBr6.out).trans (kr7.mono (by have := HBr6.out.size; first | omega | (simp; omega) | simp)) | exact (Below.drew (HBr6.out)).trans (kr7.mono (by have := HBr6.out.size; first | omega | (simp; omega) | simp)) | exact (Below.drew (Below.drew (HBr6.out))).trans (kr7.mono (by have := HBr6.out.size; first | omega | (simp; omega) | simp)) | exact (Below.drew (Below.drew (Below.drew (HBr6.out)))).trans (kr7.mono (by have := HBr6.out.size; first | omega | (simp; omega) | simp)))); (have Hmr7 := Lib.hid (show Has wr7 (w.heap.size) [.int .i64 N, .int .i64 L, .int .i64 S] 23 from Hmr6.out.step kr7 rfl)); (have ym70 : wr7.cell? ⟨w.heap.size, 0, none⟩ = some (.int .i64 N) := Hmr7.out.cell 0); (have ym71 : wr7.cell? ⟨w.heap.size, 1, none⟩ = some (.int .i64 L) := Hmr7.out.cell 1); (have ym72 : wr7.cell? ⟨w.heap.size, 2, none⟩ = some (.int .i64 S) := Hmr7.out.cell 2); (have lm7 : w.heap.size < wr7.heap.size := Hmr7.out.lt)) | (go_at_call 10; refine (alive12_any _).mono ?_; rintro e wr8 ⟨rfl, kr8⟩; (have HBr8 := Lib.hid (show Below w.heap.size w wr8 by first | exact (HBr7.out).trans (kr8.mono (by have := HBr7.out.size; first | omega | (simp; omega) | simp)) | exact (Below.drew (HBr7.out)).trans (kr8.mono (by have := HBr7.out.size; first | omega | (simp; omega) | simp)) | exact (Below.drew (Below.drew (HBr7.out))).trans (kr8.mono (by have := HBr7.out.size; first | omega | (simp; omega) | simp)) | exact (Below.drew (Below.drew (Below.drew (HBr7.out)))).trans (kr8.mono (by have := HBr7.out.size; first | omega | (simp; omega) | simp)))); (have Hmr8 := Lib.hid (show Has wr8 (w.heap.size) [.int .i64 N, .int .i64 L, .int .i64 S] 23 from Hmr7.out.step kr8 rfl)); (have ym80 : wr8.cell? ⟨w.heap.size, 0, none⟩ = some (.int .i64 N) := Hmr8.out.cell 0); (have ym81 : wr8.cell? ⟨w.heap.size, 1, none⟩ = some (.int .i64 L) := Hmr8.out.cell 1); (have ym82 : wr8.cell? ⟨w.heap.size, 2, none⟩ = some (.int .i64 S) := Hmr8.out.cell 2); (have lm8 : w.heap.size < wr8.heap.size := Hmr8.out.lt)))
    have Har6 := Lib.hid (Haz5.out.step kr6 rfl)
    have Hbr6 := Lib.hid (Hbz5.out.step kr6 rfl)
    have Hnoner6 := Lib.hid (Hnonez5.out.step kr6 rfl)
    have Hvr6 := Lib.hid (Hvz5.out.step kr6 rfl)
    have Har7 := Lib.hid (Har6.out.step kr7 rfl)
    have Hbr7 := Lib.hid (Hbr6.out.step kr7 rfl)
    have Hnoner7 := Lib.hid (Hnoner6.out.step kr7 rfl)
    have Hvr7 := Lib.hid (Hvr6.out.step kr7 rfl)
    have Har8 := Lib.hid (Har7.out.step kr8 rfl)
    have Hbr8 := Lib.hid (Hbr7.out.step kr8 rfl)
    have Hnoner8 := Lib.hid (Hnoner7.out.step kr8 rfl)
    have Hvr8 := Lib.hid (Hvr7.out.step kr8 rfl)
    clear kr6 kr7 kr8 ym60 ym61 ym62 ym70 ym71 ym72 ym80 ym81 ym82 lm6 lm7 lm8 qm0_5 qm1_5 qm2_5 lm_5
    clear hxx hxn
    go_upto_region 7 with fail
    have qm0_8 : wr8.cell? ⟨w.heap.size, 0, none⟩ = some (.int .i64 N) := Hmr8.out.cell 0
    have qm1_8 : wr8.cell? ⟨w.heap.size, 1, none⟩ = some (.int .i64 L) := Hmr8.out.cell 1
    have qm2_8 : wr8.cell? ⟨w.heap.size, 2, none⟩ = some (.int .i64 S) := Hmr8.out.cell 2
    have lm_8 : w.heap.size < wr8.heap.size := Hmr8.out.lt
    have hcz9 := CRR.out wr8
    go_wp2_with fail
    refine hcz9.mono ?_
    rintro e wz9 ⟨rfl, kz9⟩
    clear hcz9 qm0_8 qm1_8 qm2_8 lm_8
    have HBz9 := Lib.hid (HBr8.out.trans (kz9.mono (Nat.le_trans hbase HBr8.out.size)))
    have Hmz9 := Lib.hid (Hmr8.out.call kz9)
    have Haz9 := Lib.hid (Har8.out.call kz9)
    have Hbz9 := Lib.hid (Hbr8.out.call kz9)
    have Hnonez9 := Lib.hid (Hnoner8.out.call kz9)
    have Hvz9 := Lib.hid (Hvr8.out.below kz9)
    clear kz9
    cases XA with
    | false =>
      obtain ⟨rfl, rfl, rfl, ⟨rfl, rfl, rfl⟩, ⟨rfl, rfl, rfl⟩, hrl⟩ := H0.out rfl
      obtain rfl : rn = 0 := by rw [← HRN.out, hrl]; rfl
      clear hrl
      have qa0_9 : wz9.cell? ⟨wz1.heap.size, 0, none⟩ = some (.int .i64 0) := Haz9.out.cell 0
      have qa1_9 : wz9.cell? ⟨wz1.heap.size, 1, none⟩ = some (.int .i64 0) := Haz9.out.cell 1
      have qa2_9 : wz9.cell? ⟨wz1.heap.size, 2, none⟩ = some (.int .i64 0) := Haz9.out.cell 2
      have la_9 : wz1.heap.size < wz9.heap.size := Haz9.out.lt
      have qb0_9 : wz9.cell? ⟨wz3.heap.size, 0, none⟩ = some (.int .i64 0) := Hbz9.out.cell 0
      have qb1_9 : wz9.cell? ⟨wz3.heap.size, 1, none⟩ = some (.int .i64 0) := Hbz9.out.cell 1
      have qb2_9 : wz9.cell? ⟨wz3.heap.size, 2, none⟩ = some (.int .i64 0) := Hbz9.out.cell 2
      have lb_9 : wz3.heap.size < wz9.heap.size := Hbz9.out.lt
      have qnone0_9 : wz9.cell? ⟨wz4.heap.size, 0, none⟩ = some (.int .i64 0) := Hnonez9.out.cell 0
      have qnone1_9 : wz9.cell? ⟨wz4.heap.size, 1, none⟩ = some (.int .i64 0) := Hnonez9.out.cell 1
      have qnone2_9 : wz9.cell? ⟨wz4.heap.size, 2, none⟩ = some (.int .i64 0) := Hnonez9.out.cell 2
      have lnone_9 : wz4.heap.size < wz9.heap.size := Hnonez9.out.lt
      have hez := eqMovS 0 0 0
      go_wp2
      go_ret
      exact ⟨rfl, HBz9.out⟩
    | true =>
      clear H0
      have hQ := HQ.out (by simp)
      have HQ2 := Lib.hid hQ
      clear hQ HQ
      obtain ⟨X93, h93⟩ : ∃ X : Bool, decide (¬ (-1000000 ≤ x ∧ x ≤ 1000000)) = X := ⟨_, rfl⟩
      have H93 := Lib.hid h93
      clear h93
      go_upto_block 0 with fail
      go_cut [] (fun wx => Hid (Has wx (w.heap.size) [.int .i64 N, .int .i64 L, .int .i64 S] 23) ∧ Hid (Has wx (wz1.heap.size) [.int .i64 a1, .int .i64 a2, .int .i64 a3] 23) ∧ Hid (Has wx (wz3.heap.size) [.int .i64 b1, .int .i64 b2, .int .i64 b3] 23) ∧ Hid (Has wx (wz4.heap.size) [.int .i64 0, .int .i64 0, .int .i64 0] 23) ∧ Hid (Below w.heap.size w wx) ∧ Hid (ReadsI wx (.slice av rn cv) rl))
      case first =>
        go_upto_region 12 with fail
        go_cut [93] (fun s93 wx => s93 = .bool X93 ∧ wx = wz9)
        case first =>
          by_cases q1 : -1000000 ≤ x
          · by_cases q2 : x ≤ 1000000
            · obtain rfl : X93 = false := by rw [← H93.out]; exact decide_eq_false (fun h => h ⟨q1, q2⟩)
              have g1 : ¬ x < -1000000 := by omega
              have g2 : ¬ 1000000 < x := by omega
              clear q1 q2
              go_wp2_with fail
              go_meet
              exact ⟨rfl, rfl⟩
            · obtain rfl : X93 = true := by rw [← H93.out]; exact decide_eq_true (fun h => q2 h.2)
              have g1 : ¬ x < -1000000 := by omega
              have g2 : 1000000 < x := by omega
              clear q1 q2
              go_wp2_with fail
              go_meet
              exact ⟨rfl, rfl⟩
          · obtain rfl : X93 = true := by rw [← H93.out]; exact decide_eq_true (fun h => q1 h.1)
            have g1 : x < -1000000 := by omega
            clear q1
            go_wp2_with fail
            go_meet
            exact ⟨rfl, rfl⟩
        case rest =>
          obtain ⟨rfl, hwx⟩ := hcut
          rw [hwx]
          clear hwx
          cases X93 with
          | true =>
            obtain ⟨rfl, rfl, rfl, rfl, rfl⟩ := H1.out (by simp) (of_decide_eq_true H93.out)
            have qa0_9 : wz9.cell? ⟨wz1.heap.size, 0, none⟩ = some (.int .i64 0) := Haz9.out.cell 0
            have qa1_9 : wz9.cell? ⟨wz1.heap.size, 1, none⟩ = some (.int .i64 0) := Haz9.out.cell 1
            have qa2_9 : wz9.cell? ⟨wz1.heap.size, 2, none⟩ = some (.int .i64 0) := Haz9.out.cell 2
            have la_9 : wz1.heap.size < wz9.heap.size := Haz9.out.lt
            have qnone0_9 : wz9.cell? ⟨wz4.heap.size, 0, none⟩ = some (.int .i64 0) := Hnonez9.out.cell 0
            have qnone1_9 : wz9.cell? ⟨wz4.heap.size, 1, none⟩ = some (.int .i64 0) := Hnonez9.out.cell 1
            have qnone2_9 : wz9.cell? ⟨wz4.heap.size, 2, none⟩ = some (.int .i64 0) := Hnonez9.out.cell 2
            have lnone_9 : wz4.heap.size < wz9.heap.size := Hnonez9.out.lt
            have hez := eqMovS 0 0 0
            go_wp2_with fail
            go_meet
            exact ⟨by first | exact Hmz9 | exact Lib.hid (Hmz9.out.of rfl), by first | exact Haz9 | exact Lib.hid (Haz9.out.of rfl), by first | exact Hbz9 | exact Lib.hid (Hbz9.out.of rfl), by first | exact Hnonez9 | exact Lib.hid (Hnonez9.out.of rfl), by first | exact Lib.hid (HBz9.out) | exact Lib.hid (Below.drew (HBz9.out)) | exact Lib.hid (Below.drew (Below.drew (HBz9.out))) | exact Lib.hid (Below.drew (Below.drew (Below.drew (HBz9.out)))), by first | exact Hvz9 | exact Lib.hid (Hvz9.out.drewN 1)⟩
          | false =>
            by_cases hN : N = 1000000000
            · skip
              obtain ⟨rfl, rfl, rfl, rfl, rfl⟩ := H2.out (by simp) (Classical.not_not.1 (of_decide_eq_false H93.out)) hN
              have gN : (N == 1000000000) = true := beq_iff_eq.2 hN
              clear hN
              have qm0_9 : wz9.cell? ⟨w.heap.size, 0, none⟩ = some (.int .i64 N) := Hmz9.out.cell 0
              have qm1_9 : wz9.cell? ⟨w.heap.size, 1, none⟩ = some (.int .i64 L) := Hmz9.out.cell 1
              have qm2_9 : wz9.cell? ⟨w.heap.size, 2, none⟩ = some (.int .i64 S) := Hmz9.out.cell 2
              have lm_9 : w.heap.size < wz9.heap.size := Hmz9.out.lt
              have qa0_9 : wz9.cell? ⟨wz1.heap.size, 0, none⟩ = some (.int .i64 0) := Haz9.out.cell 0
              have qa1_9 : wz9.cell? ⟨wz1.heap.size, 1, none⟩ = some (.int .i64 0) := Haz9.out.cell 1
              have qa2_9 : wz9.cell? ⟨wz1.heap.size, 2, none⟩ = some (.int .i64 0) := Haz9.out.cell 2
              have la_9 : wz1.heap.size < wz9.heap.size := Haz9.out.lt
              have qnone0_9 : wz9.cell? ⟨wz4.heap.size, 0, none⟩ = some (.int .i64 0) := Hnonez9.out.cell 0
              have qnone1_9 : wz9.cell? ⟨wz4.heap.size, 1, none⟩ = some (.int .i64 0) := Hnonez9.out.cell 1
              have qnone2_9 : wz9.cell? ⟨wz4.heap.size, 2, none⟩ = some (.int .i64 0) := Hnonez9.out.cell 2
              have lnone_9 : wz4.heap.size < wz9.heap.size := Hnonez9.out.lt
              have hez := eqMovS 0 0 0
              go_wp2_with fail
              go_meet
              exact ⟨by first | exact Hmz9 | exact Lib.hid (Hmz9.out.of rfl), by first | exact Haz9 | exact Lib.hid (Haz9.out.of rfl), by first | exact Hbz9 | exact Lib.hid (Hbz9.out.of rfl), by first | exact Hnonez9 | exact Lib.hid (Hnonez9.out.of rfl), by first | exact Lib.hid (HBz9.out) | exact Lib.hid (Below.drew (HBz9.out)) | exact Lib.hid (Below.drew (Below.drew (HBz9.out))) | exact Lib.hid (Below.drew (Below.drew (Below.drew (HBz9.out)))), by first | exact Hvz9 | exact Lib.hid (Hvz9.out.drewN 1)⟩
            · skip
              obtain ⟨rfl, crn⟩ := H3.out (by simp) (Classical.not_not.1 (of_decide_eq_false H93.out)) hN
              have CRN := Lib.hid crn
              have gN : (N == 1000000000) = false := beq_false_of_ne hN
              clear crn hN
              have qm0_9 : wz9.cell? ⟨w.heap.size, 0, none⟩ = some (.int .i64 N) := Hmz9.out.cell 0
              have qm1_9 : wz9.cell? ⟨w.heap.size, 1, none⟩ = some (.int .i64 L) := Hmz9.out.cell 1
              have qm2_9 : wz9.cell? ⟨w.heap.size, 2, none⟩ = some (.int .i64 S) := Hmz9.out.cell 2
              have lm_9 : w.heap.size < wz9.heap.size := Hmz9.out.lt
              have hcz10 := CRN.out wz9
              go_wp2_with fail
              refine hcz10.mono ?_
              rintro e wz10 ⟨rfl, kz10⟩
              clear hcz10 qm0_9 qm1_9 qm2_9 lm_9
              have HBz10 := Lib.hid (HBz9.out.trans (kz10.mono (Nat.le_trans hbase HBz9.out.size)))
              have Hmz10 := Lib.hid (Hmz9.out.call kz10)
              have Haz10 := Lib.hid (Haz9.out.call kz10)
              have Hbz10 := Lib.hid (Hbz9.out.call kz10)
              have Hnonez10 := Lib.hid (Hnonez9.out.call kz10)
              have Hvz10 := Lib.hid (Hvz9.out.below kz10)
              clear kz10
              obtain ⟨wz11, hwz11⟩ : ∃ wz11, wz10.alloc (.cells #[.int .i64 a1, .int .i64 a2, .int .i64 a3] 23) = wz11 := ⟨_, rfl⟩
              have kz11 : Below wz10.heap.size wz10 wz11 := by rw [← hwz11]; exact (Below.refl _ _).alloc (Nat.le_refl _) _
              have Hcz11 := Lib.hid (show Has wz11 wz10.heap.size [.int .i64 a1, .int .i64 a2, .int .i64 a3] 23 by rw [← hwz11]; exact Has.new _ _ _)
              have HWz11 := Lib.hid hwz11
              clear hwz11
              have HBz11 := Lib.hid (HBz10.out.trans (kz11.mono (Nat.le_trans hbase HBz10.out.size)))
              have Hmz11 := Lib.hid (Hmz10.out.call kz11)
              have Haz11 := Lib.hid (Haz10.out.call kz11)
              have Hbz11 := Lib.hid (Hbz10.out.call kz11)
              have Hnonez11 := Lib.hid (Hnonez10.out.call kz11)
              have Hvz11 := Lib.hid (Hvz10.out.below kz11)
              clear kz11
              go_upto_region 10 with fail
              rw [HWz11.out]
              have qa0_11 : wz11.cell? ⟨wz1.heap.size, 0, none⟩ = some (.int .i64 a1) := Haz11.out.cell 0
              have qa1_11 : wz11.cell? ⟨wz1.heap.size, 1, none⟩ = some (.int .i64 a2) := Haz11.out.cell 1
              have qa2_11 : wz11.cell? ⟨wz1.heap.size, 2, none⟩ = some (.int .i64 a3) := Haz11.out.cell 2
              have la_11 : wz1.heap.size < wz11.heap.size := Haz11.out.lt
              have qc0_11 : wz11.cell? ⟨wz10.heap.size, 0, none⟩ = some (.int .i64 a1) := Hcz11.out.cell 0
              have qc1_11 : wz11.cell? ⟨wz10.heap.size, 1, none⟩ = some (.int .i64 a2) := Hcz11.out.cell 1
              have qc2_11 : wz11.cell? ⟨wz10.heap.size, 2, none⟩ = some (.int .i64 a3) := Hcz11.out.cell 2
              have lc_11 : wz10.heap.size < wz11.heap.size := Hcz11.out.lt
              have hea := eqMovS a1 a2 a3
              have hss : (s == s) = true := beq_self_eq_true s
              have hsn : (s != s) = false := by simp
              go_wp2_with fail
              go_meet
              exact ⟨by first | exact Hmz11 | exact Lib.hid (Hmz11.out.of rfl), by first | exact Haz11 | exact Lib.hid (Haz11.out.of rfl), by first | exact Hbz11 | exact Lib.hid (Hbz11.out.of rfl), by first | exact Hnonez11 | exact Lib.hid (Hnonez11.out.of rfl), by first | exact Lib.hid (HBz11.out) | exact Lib.hid (Below.drew (HBz11.out)) | exact Lib.hid (Below.drew (Below.drew (HBz11.out))) | exact Lib.hid (Below.drew (Below.drew (Below.drew (HBz11.out)))), by first | exact Hvz11 | exact Lib.hid (Hvz11.out.drewN 1)⟩
      case rest =>
          obtain ⟨Hmc, Hac, Hbc, Hnonec, HBc, HVc⟩ := hcut
          have hcin := CIN.out wc HBc.out
          go_wp2_with fail
          refine hcin.mono ?_
          rintro e wd ⟨rfl, hwd⟩
          rw [hwd]
          clear hcin hwd
          cases XI with
          | false =>
            obtain ⟨rfl, ⟨rfl, rfl, rfl⟩, hrl⟩ := D1.out (by simp) (by simp)
            obtain rfl : rn = 0 := by rw [← HRN.out, hrl]; rfl
            clear hrl
            have qb0_20 : wc.cell? ⟨wz3.heap.size, 0, none⟩ = some (.int .i64 0) := Hbc.out.cell 0
            have qb1_20 : wc.cell? ⟨wz3.heap.size, 1, none⟩ = some (.int .i64 0) := Hbc.out.cell 1
            have qb2_20 : wc.cell? ⟨wz3.heap.size, 2, none⟩ = some (.int .i64 0) := Hbc.out.cell 2
            have lb_20 : wz3.heap.size < wc.heap.size := Hbc.out.lt
            have qnone0_20 : wc.cell? ⟨wz4.heap.size, 0, none⟩ = some (.int .i64 0) := Hnonec.out.cell 0
            have qnone1_20 : wc.cell? ⟨wz4.heap.size, 1, none⟩ = some (.int .i64 0) := Hnonec.out.cell 1
            have qnone2_20 : wc.cell? ⟨wz4.heap.size, 2, none⟩ = some (.int .i64 0) := Hnonec.out.cell 2
            have lnone_20 : wz4.heap.size < wc.heap.size := Hnonec.out.lt
            have hez := eqMovS 0 0 0
            go_wp2
            go_ret
            exact ⟨rfl, HBc.out⟩
          | true =>
            by_cases hq : 1000000000 < Q
            · skip
              obtain ⟨rfl, ⟨rfl, rfl, rfl⟩, hrl⟩ := D2.out (by simp) (by simp) hq
              obtain rfl : rn = 0 := by rw [← HRN.out, hrl]; rfl
              clear hrl
              have hQ := HQ2.out
              have qm0_20 : wc.cell? ⟨w.heap.size, 0, none⟩ = some (.int .i64 N) := Hmc.out.cell 0
              have qm1_20 : wc.cell? ⟨w.heap.size, 1, none⟩ = some (.int .i64 L) := Hmc.out.cell 1
              have qm2_20 : wc.cell? ⟨w.heap.size, 2, none⟩ = some (.int .i64 S) := Hmc.out.cell 2
              have lm_20 : w.heap.size < wc.heap.size := Hmc.out.lt
              have qb0_20 : wc.cell? ⟨wz3.heap.size, 0, none⟩ = some (.int .i64 0) := Hbc.out.cell 0
              have qb1_20 : wc.cell? ⟨wz3.heap.size, 1, none⟩ = some (.int .i64 0) := Hbc.out.cell 1
              have qb2_20 : wc.cell? ⟨wz3.heap.size, 2, none⟩ = some (.int .i64 0) := Hbc.out.cell 2
              have lb_20 : wz3.heap.size < wc.heap.size := Hbc.out.lt
              have qnone0_20 : wc.cell? ⟨wz4.heap.size, 0, none⟩ = some (.int .i64 0) := Hnonec.out.cell 0
              have qnone1_20 : wc.cell? ⟨wz4.heap.size, 1, none⟩ = some (.int .i64 0) := Hnonec.out.cell 1
              have qnone2_20 : wc.cell? ⟨wz4.heap.size, 2, none⟩ = some (.int .i64 0) := Hnonec.out.cell 2
              have lnone_20 : wz4.heap.size < wc.heap.size := Hnonec.out.lt
              have hez := eqMovS 0 0 0
              go_wp2
              go_ret
              exact ⟨rfl, HBc.out⟩
            · skip
              obtain ⟨rfl, crr⟩ := D3.out (by simp) (by simp) (by omega)
              have CRR3 := Lib.hid crr
              clear crr
              have hQ := HQ2.out
              have qm0_20 : wc.cell? ⟨w.heap.size, 0, none⟩ = some (.int .i64 N) := Hmc.out.cell 0
              have qm1_20 : wc.cell? ⟨w.heap.size, 1, none⟩ = some (.int .i64 L) := Hmc.out.cell 1
              have qm2_20 : wc.cell? ⟨w.heap.size, 2, none⟩ = some (.int .i64 S) := Hmc.out.cell 2
              have lm_20 : w.heap.size < wc.heap.size := Hmc.out.lt
              have hcz21 := CRR3.out wc HBc.out
              go_wp2_with fail
              refine hcz21.mono ?_
              rintro e wz21 ⟨v2, rfl, hv1, kz21⟩
              clear hcz21 qm0_20 qm1_20 qm2_20 lm_20
              have HBz21 := Lib.hid (HBc.out.trans (kz21.mono (Nat.le_trans hbase HBc.out.size)))
              have Hmz21 := Lib.hid (Hmc.out.call kz21)
              have Haz21 := Lib.hid (Hac.out.call kz21)
              have Hbz21 := Lib.hid (Hbc.out.call kz21)
              have Hnonez21 := Lib.hid (Hnonec.out.call kz21)
              have Hvz21 := Lib.hid (HVc.out.below kz21)
              clear kz21
              obtain ⟨av2, cv2, rfl, -⟩ := id hv1.reads
              have hv2 := hv1.reads
              rw [HRN.out] at hv2 ⊢
              have HV2 := Lib.hid hv2
              clear hv1 hv2
              obtain ⟨wz22, hwz22⟩ : ∃ wz22, wz21.alloc (.cells #[.int .i64 b1, .int .i64 b2, .int .i64 b3] 23) = wz22 := ⟨_, rfl⟩
              have kz22 : Below wz21.heap.size wz21 wz22 := by rw [← hwz22]; exact (Below.refl _ _).alloc (Nat.le_refl _) _
              have Hdz22 := Lib.hid (show Has wz22 wz21.heap.size [.int .i64 b1, .int .i64 b2, .int .i64 b3] 23 by rw [← hwz22]; exact Has.new _ _ _)
              have HWz22 := Lib.hid hwz22
              clear hwz22
              have HBz22 := Lib.hid (HBz21.out.trans (kz22.mono (Nat.le_trans hbase HBz21.out.size)))
              have Hmz22 := Lib.hid (Hmz21.out.call kz22)
              have Haz22 := Lib.hid (Haz21.out.call kz22)
              have Hbz22 := Lib.hid (Hbz21.out.call kz22)
              have Hnonez22 := Lib.hid (Hnonez21.out.call kz22)
              have Hvz22 := Lib.hid (Hvz21.out.below kz22)
              have Hv2z22 := Lib.hid (HV2.out.below kz22)
              clear kz22
              go_upto_region 23 with fail
              rw [HWz22.out]
              have qb0_22 : wz22.cell? ⟨wz3.heap.size, 0, none⟩ = some (.int .i64 b1) := Hbz22.out.cell 0
              have qb1_22 : wz22.cell? ⟨wz3.heap.size, 1, none⟩ = some (.int .i64 b2) := Hbz22.out.cell 1
              have qb2_22 : wz22.cell? ⟨wz3.heap.size, 2, none⟩ = some (.int .i64 b3) := Hbz22.out.cell 2
              have lb_22 : wz3.heap.size < wz22.heap.size := Hbz22.out.lt
              have qd0_22 : wz22.cell? ⟨wz21.heap.size, 0, none⟩ = some (.int .i64 b1) := Hdz22.out.cell 0
              have qd1_22 : wz22.cell? ⟨wz21.heap.size, 1, none⟩ = some (.int .i64 b2) := Hdz22.out.cell 1
              have qd2_22 : wz22.cell? ⟨wz21.heap.size, 2, none⟩ = some (.int .i64 b3) := Hdz22.out.cell 2
              have ld_22 : wz21.heap.size < wz22.heap.size := Hdz22.out.lt
              have heb := eqMovS b1 b2 b3
              have hin := ints_any rl rl _ _ wz22 Hvz22.out Hv2z22.out
              rw [decide_eq_true rfl] at hin
              go_wp2_with fail
              refine hin.mono ?_
              rintro e wl ⟨rfl, mm, rfl⟩
              go_wp2
              go_ret
              exact ⟨rfl, Below.drewN HBz22.out mm⟩
end Go.Proofs.Ytaegoomnenociaa
