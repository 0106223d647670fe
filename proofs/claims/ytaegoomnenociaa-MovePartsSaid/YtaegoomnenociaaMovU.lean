/- The law of MoveParts: its walk. -/
import Derived.Test.YtaegoomnenociaaMovP
import Derived.Test.YtaegoomnenociaaMovS
namespace Go.Proofs.Ytaegoomnenociaa
open Go.RowKit

theorem wpList_wanted {P : Program} {w : World} {ops : Array Oper} {rest : List Oper} {o : Oper} {a : Act} {Q : Exit → Act → World → Prop} (hw : Region.wanted o (yielded ops a.tmps) = true)
    (h : ∀ K : Act → World → Prop, (∀ a w, wpList P ops Q rest a w → K a w) → o.wp P a w K Q) : wpList P ops Q (o :: rest) a w :=
  wpList_step fun K hK => by rw [if_pos hw]; exact h K hK
/-- Ints of a slice are put behind a row of the call's own, in an operation that is guarded. -/
theorem wpList_append_intsG {w : World} {ops : Array Oper} {rest : List Oper} {o : Oper} {a : Act} {Q : Exit → Act → World → Prop} (hwt : Region.wanted o (yielded ops a.tmps) = true) (s x : Operand)
    (ho : o.op = .call { callee := .builtin .append, args := #[s, x], argTypes := #[24, 24] }) (B : Nat) (v : Value) (l ys : List Int) (hs : a.eval s = v) (hown : IRow B v l w)
    (ao : Option Addr) (n c : Nat) (hx : a.eval x = .slice ao n c) (hr : ReadsI w (.slice ao n c) ys) (hl : l.length + ys.length ≤ 1000000) (hB : B ≤ w.heap.size)
    (h : ∀ v' w', IRow B v' (l ++ ys) w' → w.grownBy w' v.ownBlock → wpList Try.prog ops Q rest (a.put o.dst v') w') : wpList Try.prog ops Q (o :: rest) a w := by
  obtain ⟨i0, hi, hz0, hz1, hz2⟩ := info_parts infoInt
  have h0 : w.ownsRow B 3 1 v l.length (l.map (Value.int .i64)) := hown
  have hn : n = ys.length := by
    obtain ⟨_, _, e, _⟩ := hr
    injection e
  subst hn
  have key : ∃ v' w', (Builtin.append_ #[24, 24] o.type #[v, .slice ao ys.length c]).run Try.prog w = .ok v' w' ∧ IRow B v' (l ++ ys) w' ∧ w.grownBy w' v.ownBlock := by
    cases ao with
    | some ad =>
      obtain ⟨v', w', hrun, r1, r2, r3⟩ := run_append_own (P := Try.prog) w B 24 o.type 3 i0 (.int .i64 0) 1 8 Try.underlying24 hi hz0 hz1 hz2 rfl (by decide) v l.length _ h0 ad ys.length c (intsV ys) (by rw [intsV_len, Nat.mul_one]) (by
        intro j u hj
        have hp : 0 < (intsV ys).length := Nat.lt_of_le_of_lt (Nat.zero_le _) (List.getElem?_eq_some_iff.1 hj).1
        obtain ⟨ad', e, hc⟩ := hr.src hp
        injection e with e
        subst e
        exact hc j u hj) (intsV_one ys) (by unfold maxLen; omega) (by omega) hB
      refine ⟨v', w', hrun, ?_, r2⟩
      unfold IRow
      rw [List.map_append, List.length_append]
      exact r1
    | none =>
      have hy : ys = [] := by
        cases ys with
        | nil => rfl
        | cons y ys =>
          obtain ⟨_, _, e, _, _, h4⟩ := hr
          injection e with e1 _ _
          obtain ⟨b, off, e2, _⟩ := h4 0 (Nat.succ_pos _)
          rw [← e1] at e2
          cases e2
      subst hy
      refine ⟨v, w, ?_, by rw [List.append_nil]; exact hown, ⟨rfl, rfl, rfl, Nat.le_refl _, fun _ _ _ => rfl⟩⟩
      rcases h0.2 with ⟨rfl, _⟩ | ⟨g, cap, cur, rfl, _, _, hnc, _⟩
      · simp [Builtin.append_, run_underlying Try.underlying24, sizeOf, typeInfo, hi, Builtin.lenOf, Builtin.firstCells]
      · simp [Builtin.append_, run_underlying Try.underlying24, sizeOf, typeInfo, hi, Builtin.lenOf, Builtin.firstCells, hnc, storeCells]
  obtain ⟨v', w', hrun, r1, r2⟩ := key
  refine wpList_wanted hwt fun K hK => ?_
  unfold Oper.wp execOp
  simp only [ho, resolve, invoke, builtin, Sem.run_bind, Sem.run_pure, Result.andThen_ok, List.map_toArray, List.map_cons, List.map_nil, hs, hx, hrun]
  exact hK _ _ (h v' w' r1 r2)
def PartRel (m : Mov) (q : List Int) (n : Nat) (wp : World) (sv iv : Value) (wr : World) : Prop :=
  ∃ j : Nat, j ≤ n ∧ iv = .int .i64 (j : Nat) ∧ sv = .int .i64 (sumI (stepsM m (q.take j))) ∧ Has wr wp.heap.size (movC (runM m (q.take j))) 23 ∧ Below wp.heap.size wp wr
set_option linter.unusedSimpArgs false in
set_option linter.unusedVariables false in
set_option maxHeartbeats 16000000 in
set_option maxRecDepth 100000 in
theorem parts12_walk (m : Mov) (l : List Int) (c : Int) (v : Value) (w : World) (hr : ReadsI w v l) :
    Calls Try.prog 5 #[movV m, v, .int .i64 c] w fun e w' => e = .returned (.bool true) ∧ Below w.heap.size w w' := by
  have hB2 := (Below.refl w.heap.size w).alloc (Nat.le_refl _) (.cells #[.int .i64 m.n, .int .i64 m.last, .int .i64 m.sum] 23)
  have hso := some12_any l v (w.alloc (.cells #[.int .i64 m.n, .int .i64 m.last, .int .i64 m.sum] 23)) (hr.below hB2)
  have hin := someN_in l 200
  have hlen := someN_len l 200
  generalize someN l 200 = q at *
  obtain ⟨n, hn⟩ : ∃ n, q.length = n := ⟨_, rfl⟩
  rw [hn] at hlen
  obtain ⟨w2, hw2⟩ : ∃ w2, w.alloc (.cells #[.int .i64 m.n, .int .i64 m.last, .int .i64 m.sum] 23) = w2 := ⟨_, rfl⟩
  have HM2 := Lib.hid (show Has w2 w.heap.size [.int .i64 m.n, .int .i64 m.last, .int .i64 m.sum] 23 by rw [← hw2]; exact Has.new w _ _)
  rw [hw2] at hB2 hso
  have HB2 := Lib.hid hB2
  have HW2 := Lib.hid hw2
  have HN := Lib.hid hn
  have HIN := Lib.hid hin
  unfold movV
  clear hw2 hB2 hn hin hr
  obtain ⟨N, L, S⟩ := m
  dsimp only at HM2 HW2 ⊢
  go_enter Try.func5, Try.ntmps5
  go_upto_region 1 with fail
  rw [HW2.out]
  go_wp2_with fail
  refine hso.mono ?_
  rintro e w3 ⟨u, rfl, hrow, k3⟩
  have hrd := hrow.reads
  obtain ⟨ao, cap, rfl, hlc, hcm, -⟩ := id hrd
  rw [HN.out] at hrd hlc ⊢
  have HL := Lib.hid hrd
  have HB3 := Lib.hid (HB2.out.trans (k3.mono HB2.out.size))
  have HM3 := Lib.hid (HM2.out.call k3)
  have hbase := Nat.le_refl w.heap.size
  clear hso k3 hrow hrd hcm
  obtain ⟨t, ht⟩ : ∃ t, c.tmod ((n : Int) + 1) = t := ⟨_, rfl⟩
  have ht1 : -((n : Int) + 1) < t := by rw [← ht]; exact Int.lt_tmod_of_pos _ (by omega)
  have ht2 : t < (n : Int) + 1 := by rw [← ht]; exact Int.tmod_lt_of_pos _ (by omega)
  obtain ⟨kk, hkk⟩ : ∃ kk : Nat, (t + (n : Int) + 1).tmod ((n : Int) + 1) = (kk : Int) := ⟨((t + (n : Int) + 1).tmod ((n : Int) + 1)).toNat, by
    rw [Int.toNat_of_nonneg]
    exact Int.tmod_nonneg _ (by omega)⟩
  have hkm : kk ≤ n := by
    have := Int.tmod_lt_of_pos (t + (n : Int) + 1) (show (0 : Int) < (n : Int) + 1 by omega)
    omega
  go_upto_region 2 with fail
  go_cut [2] (fun s2 wx => s2 = .int .i64 (kk : Nat) ∧ wx = w3)
  case first =>
    have hw1 : wrap64 ((n : Int) + 1) = (n : Int) + 1 := by unfold wrap64; omega
    have hw2 : wrap64 (t + (n : Int)) = t + (n : Int) := by unfold wrap64; omega
    have hw3 : wrap64 (t + (n : Int) + 1) = t + (n : Int) + 1 := by unfold wrap64; omega
    have hne : ((n : Int) + 1 == 0) = false := beq_false_of_ne (by omega)
    clear ht1 ht2 hkm
    go_wp2_with fail
    go_meet
    exact ⟨rfl, rfl⟩
  case rest =>
    obtain ⟨rfl, hwx⟩ := hcut
    rw [hwx]
    clear hwx ht hkk ht1 ht2
    by_cases hE : raE ⟨N, L, S⟩ q = 0
    · skip
      obtain ⟨hok, hiq, hle⟩ := raE_zero.1 hE
      have hnn := movOk_n hok
      rw [HN.out] at hle
      dsimp only at hle hnn
      have hap1 := runM_append ⟨N, L, S⟩ hnn.1 (q.take kk) (q.drop kk)
      have hap2 := stepsM_append ⟨N, L, S⟩ hnn.1 (q.take kk) (q.drop kk)
      rw [List.take_append_drop] at hap1 hap2
      have hl1 : (q.take kk).length = kk := by rw [List.length_take, HN.out]; omega
      have hl2 : (q.drop kk).length = n - kk := by rw [List.length_drop, HN.out]
      have hok1 : movOk (runM ⟨N, L, S⟩ (q.take kk)) := runM_ok hok (inB_take HIN.out kk) (by rw [hl1]; show N + (kk : Int) ≤ 1000000000; omega)
      have z1 : raE ⟨N, L, S⟩ (q.take kk) = 0 := raE_zero.2 ⟨hok, inB_take HIN.out kk, by rw [hl1]; show N + (kk : Int) ≤ 1000000000; omega⟩
      have z2 : raE (runM ⟨N, L, S⟩ (q.take kk)) (q.drop kk) = 0 := raE_zero.2 ⟨hok1, inB_drop HIN.out kk, by rw [hl2, runM_n, hl1]; show N + (kk : Int) + ((n - kk : Nat) : Int) ≤ 1000000000; omega⟩
      have cr := fun W (h : ReadsI W (.slice ao n cap) q) => run12_any ⟨N, L, S⟩ q (.slice ao n cap) W h (by rw [HN.out]; omega)
      rw [show raM ⟨N, L, S⟩ q = runM ⟨N, L, S⟩ q from if_pos hE, show raL ⟨N, L, S⟩ q = stepsM ⟨N, L, S⟩ q from if_pos hE, hE] at cr
      have c1 := fun W u (h : ReadsI W u (q.take kk)) => run12_any ⟨N, L, S⟩ (q.take kk) u W h (by rw [hl1]; omega)
      rw [show raM ⟨N, L, S⟩ (q.take kk) = runM ⟨N, L, S⟩ (q.take kk) from if_pos z1, show raL ⟨N, L, S⟩ (q.take kk) = stepsM ⟨N, L, S⟩ (q.take kk) from if_pos z1, z1] at c1
      have c2 := fun W u (h : ReadsI W u (q.drop kk)) => run12_any (runM ⟨N, L, S⟩ (q.take kk)) (q.drop kk) u W h (by rw [hl2]; omega)
      rw [show raM (runM ⟨N, L, S⟩ (q.take kk)) (q.drop kk) = runM (runM ⟨N, L, S⟩ (q.take kk)) (q.drop kk) from if_pos z2, show raL (runM ⟨N, L, S⟩ (q.take kk)) (q.drop kk) = stepsM (runM ⟨N, L, S⟩ (q.take kk)) (q.drop kk) from if_pos z2, z2, ← hap1] at c2
      have hls : (stepsM ⟨N, L, S⟩ q).length ≤ 200 := by rw [stepsM_len]; split <;> (rw [HN.out]; omega)
      have hsb := sumI_bounds (stepsM_bounds hok HIN.out)
      have hrs := runM_sum ⟨N, L, S⟩ q
      obtain ⟨L1, hL1⟩ : ∃ K, stepsM ⟨N, L, S⟩ (q.take kk) = K := ⟨_, rfl⟩
      obtain ⟨L2, hL2⟩ : ∃ K, stepsM (runM ⟨N, L, S⟩ (q.take kk)) (q.drop kk) = K := ⟨_, rfl⟩
      obtain ⟨LL, hLL⟩ : ∃ K, stepsM ⟨N, L, S⟩ q = K := ⟨_, rfl⟩
      rw [hL1, hL2, hLL] at hap2
      rw [hL1] at c1
      rw [hL2] at c2
      rw [hLL] at cr hls hsb hrs
      obtain ⟨⟨a1, a2, a3⟩, hM2⟩ : ∃ K, runM ⟨N, L, S⟩ q = K := ⟨_, rfl⟩
      obtain ⟨⟨o1, o2, o3⟩, hM1⟩ : ∃ K, runM ⟨N, L, S⟩ (q.take kk) = K := ⟨_, rfl⟩
      rw [hM2] at cr c2 hrs
      rw [hM1] at c1 c2
      dsimp only at hrs
      unfold movV at cr c1 c2
      dsimp only at cr c1 c2
      obtain ⟨r0, hr0⟩ : ∃ r, LL.length = r := ⟨_, rfl⟩
      obtain ⟨r1, hr1⟩ : ∃ r, L1.length = r := ⟨_, rfl⟩
      obtain ⟨r2, hr2⟩ : ∃ r, L2.length = r := ⟨_, rfl⟩
      have hr12 : r1 + r2 = r0 := by rw [← hr0, ← hr1, ← hr2, hap2, List.length_append]
      have hS : 0 ≤ S ∧ S ≤ 4000000000000000 := by rcases hok with ⟨_, _, h⟩ | ⟨h, _, h2⟩ <;> (dsimp only at *; omega)
      have HR0 := Lib.hid hr0
      have HR1 := Lib.hid hr1
      have HR2 := Lib.hid hr2
      have HAP2 := Lib.hid hap2
      have HM2q := Lib.hid hM2
      have HRS := Lib.hid hrs
      have HSB := Lib.hid hsb
      have HSS := Lib.hid hS
      have HOK := Lib.hid hok
      have HLLq := Lib.hid hLL
      have HLE := Lib.hid hle
      have CR := Lib.hid cr
      have C1 := Lib.hid c1
      have C2 := Lib.hid c2
      rw [hr0] at hls
      obtain ⟨al2, hsl2, hrd2⟩ := slice_lo ao n cap kk hkm hlc
      have hsl1 := slice_hi ao n cap kk (by omega)
      have HRD2 := Lib.hid hrd2
      obtain ⟨nk, hnk⟩ : ∃ k, n - kk = k := ⟨_, rfl⟩
      obtain ⟨ck, hck⟩ : ∃ k, cap - kk = k := ⟨_, rfl⟩
      rw [hnk, hck] at hsl2 HRD2
      have HSL1 := Lib.hid hsl1
      have HSL2 := Lib.hid hsl2
      clear hsl1 hsl2 hnk hck cr c1 c2 hL1 hL2 hLL hM2 hM1 hr0 hr1 hr2 hrs hsb hok hiq hle hap1 hap2 hl1 hl2 hok1 z1 z2 hrd2 hS hnn hE
      have qm0_0 : w3.cell? ⟨w.heap.size, 0, none⟩ = some (.int .i64 N) := HM3.out.cell 0
      have qm1_0 : w3.cell? ⟨w.heap.size, 1, none⟩ = some (.int .i64 L) := HM3.out.cell 1
      have qm2_0 : w3.cell? ⟨w.heap.size, 2, none⟩ = some (.int .i64 S) := HM3.out.cell 2
      have lm_0 : w.heap.size < w3.heap.size := HM3.out.lt
      have hcz1 := CR.out w3 HL.out
      go_wp2_with fail
      refine hcz1.mono ?_
      rintro e wz1 ⟨s1, rfl, hs1, kz1⟩
      clear hcz1 qm0_0 qm1_0 qm2_0 lm_0
      have HBz1 := Lib.hid (HB3.out.trans (kz1.mono (Nat.le_trans hbase HB3.out.size)))
      have Hmz1 := Lib.hid (HM3.out.call kz1)
      have Hlz1 := Lib.hid (HL.out.below kz1)
      clear kz1
      obtain ⟨as1, cs1, rfl, -⟩ := id hs1.reads
      have hv1 := hs1.reads
      rw [HR0.out] at hv1 ⊢
      have HV := Lib.hid hv1
      clear hs1 hv1
      obtain ⟨wz2, hwz2⟩ : ∃ wz2, wz1.alloc (.cells #[.int .i64 a1, .int .i64 a2, .int .i64 a3] 23) = wz2 := ⟨_, rfl⟩
      have kz2 : Below wz1.heap.size wz1 wz2 := by rw [← hwz2]; exact (Below.refl _ _).alloc (Nat.le_refl _) _
      have Haz2 := Lib.hid (show Has wz2 wz1.heap.size [.int .i64 a1, .int .i64 a2, .int .i64 a3] 23 by rw [← hwz2]; exact Has.new _ _ _)
      have HWz2 := Lib.hid hwz2
      clear hwz2
      have HBz2 := Lib.hid (HBz1.out.trans (kz2.mono (Nat.le_trans hbase HBz1.out.size)))
      have Hmz2 := Lib.hid (Hmz1.out.call kz2)
      have Hlz2 := Lib.hid (Hlz1.out.below kz2)
      have Hsz2 := Lib.hid (HV.out.below kz2)
      clear kz2
      go_upto_region 4 with fail
      rw [HWz2.out]
      have hf1 := fun W (h : Below wz2.heap.size wz2 W) => C1.out W (.slice ao kk cap) ((Hlz2.out.below h).take kk hkm)
      have hsl1 := HSL1.out
      have qm0_2 : wz2.cell? ⟨w.heap.size, 0, none⟩ = some (.int .i64 N) := Hmz2.out.cell 0
      have qm1_2 : wz2.cell? ⟨w.heap.size, 1, none⟩ = some (.int .i64 L) := Hmz2.out.cell 1
      have qm2_2 : wz2.cell? ⟨w.heap.size, 2, none⟩ = some (.int .i64 S) := Hmz2.out.cell 2
      have lm_2 : w.heap.size < wz2.heap.size := Hmz2.out.lt
      have hlw := Nat.le_refl wz2.heap.size
      go_upto_region 6 with fail
      go_cut [10, 11, 12] (fun s1 s2 s3 wx => ∃ (b : Nat) (av : Option Addr) (cv : Nat), s1 = .pointer (some ⟨b, 0, none⟩) ∧ s2 = .slice av (L1).length cv ∧ s3 = .int .i64 0 ∧ wz2.heap.size ≤ b ∧ Has wx b [.int .i64 o1, .int .i64 o2, .int .i64 o3] 23 ∧ ReadsI wx (.slice av (L1).length cv) (L1) ∧ Below wz2.heap.size wz2 wx)
      case first =>
        go_region_with (go_at_call 7; refine (hf1 _ (by first | exact Below.refl wz2.heap.size wz2 | exact Below.drew (Below.refl wz2.heap.size wz2) | exact Below.drew (Below.drew (Below.refl wz2.heap.size wz2)) | exact Below.drew (Below.drew (Below.drew (Below.refl wz2.heap.size wz2))) | exact (Below.refl wz2.heap.size wz2).alloc (Nat.le_refl _) (.cells #[.int .i64 0, .int .i64 0, .int .i64 0] 23) | exact Below.drew ((Below.refl wz2.heap.size wz2).alloc (Nat.le_refl _) (.cells #[.int .i64 0, .int .i64 0, .int .i64 0] 23)) | exact Below.drew (Below.drew ((Below.refl wz2.heap.size wz2).alloc (Nat.le_refl _) (.cells #[.int .i64 0, .int .i64 0, .int .i64 0] 23))) | exact Below.drew (Below.drew (Below.drew ((Below.refl wz2.heap.size wz2).alloc (Nat.le_refl _) (.cells #[.int .i64 0, .int .i64 0, .int .i64 0] 23)))))).mono ?_; rintro e w6 ⟨v1, rfl, hrow, k6⟩; (have hrd6 := hrow.reads); (obtain ⟨av6, cv6, rfl, -⟩ := id hrd6); (have HRW := Lib.hid hrow); (have HB6 := Lib.hid (show Below wz2.heap.size wz2 w6 by first | exact (Below.refl wz2.heap.size wz2).trans (k6.mono (Nat.le_refl _)) | exact (Below.drew (Below.refl wz2.heap.size wz2)).trans (k6.mono (Nat.le_refl _)) | exact (Below.drew (Below.drew (Below.refl wz2.heap.size wz2))).trans (k6.mono (Nat.le_refl _)) | exact (Below.drew (Below.drew (Below.drew (Below.refl wz2.heap.size wz2)))).trans (k6.mono (Nat.le_refl _)) | exact ((Below.refl wz2.heap.size wz2).alloc (Nat.le_refl _) (.cells #[.int .i64 0, .int .i64 0, .int .i64 0] 23)).trans (k6.mono (by simp [World.drew])) | exact (Below.drew ((Below.refl wz2.heap.size wz2).alloc (Nat.le_refl _) (.cells #[.int .i64 0, .int .i64 0, .int .i64 0] 23))).trans (k6.mono (by simp [World.drew])) | exact (Below.drew (Below.drew ((Below.refl wz2.heap.size wz2).alloc (Nat.le_refl _) (.cells #[.int .i64 0, .int .i64 0, .int .i64 0] 23)))).trans (k6.mono (by simp [World.drew])) | exact (Below.drew (Below.drew (Below.drew ((Below.refl wz2.heap.size wz2).alloc (Nat.le_refl _) (.cells #[.int .i64 0, .int .i64 0, .int .i64 0] 23))))).trans (k6.mono (by simp [World.drew])))); (have hs6 := HB6.out.size); (try have zH : Has w6 wz2.heap.size [.int .i64 0, .int .i64 0, .int .i64 0] 23 := (Has.new wz2 [.int .i64 0, .int .i64 0, .int .i64 0] 23).step k6 rfl); (try have z0 : w6.cell? ⟨wz2.heap.size, 0, none⟩ = some (.int .i64 0) := zH.cell 0); (try have z1 : w6.cell? ⟨wz2.heap.size, 1, none⟩ = some (.int .i64 0) := zH.cell 1); (try have z2 : w6.cell? ⟨wz2.heap.size, 2, none⟩ = some (.int .i64 0) := zH.cell 2); (try have zf0 : w6.frozen? ⟨wz2.heap.size, 0, none⟩ = false := zH.frozen 0); (try have zf1 : w6.frozen? ⟨wz2.heap.size, 1, none⟩ = false := zH.frozen 1); (try have zf2 : w6.frozen? ⟨wz2.heap.size, 2, none⟩ = false := zH.frozen 2); (try have HZ6 := Lib.hid zH); (try clear zH); clear hrd6 hrow)
        all_goals (go_wp2_with fail; go_meet)
        all_goals first
          | exact ⟨_, _, _, rfl, rfl, rfl, hs6, Has.new w6 _ _, (HRW.out.alloc _).reads, by first | exact HB6.out.alloc HB6.out.size (.cells #[.int .i64 o1, .int .i64 o2, .int .i64 o3] 23) | exact Below.drew (HB6.out.alloc HB6.out.size (.cells #[.int .i64 o1, .int .i64 o2, .int .i64 o3] 23)) | exact Below.drew (Below.drew (HB6.out.alloc HB6.out.size (.cells #[.int .i64 o1, .int .i64 o2, .int .i64 o3] 23))) | exact Below.drew (Below.drew (Below.drew (HB6.out.alloc HB6.out.size (.cells #[.int .i64 o1, .int .i64 o2, .int .i64 o3] 23))))⟩
          | exact ⟨_, _, _, rfl, rfl, rfl, Nat.le_refl _, HZ6.out.put3 (.int .i64 o1) (.int .i64 o2) (.int .i64 o3), (HRW.out.put3 (by first | (simp; done) | (simp [World.drew]; done) | (simp [World.drew]; omega)) (.int .i64 o1) (.int .i64 o2) (.int .i64 o3)).reads, by first | exact Below.put3 HB6.out (Nat.le_refl _) (.int .i64 o1) (.int .i64 o2) (.int .i64 o3) | exact Below.drew (Below.put3 HB6.out (Nat.le_refl _) (.int .i64 o1) (.int .i64 o2) (.int .i64 o3)) | exact Below.drew (Below.drew (Below.put3 HB6.out (Nat.le_refl _) (.int .i64 o1) (.int .i64 o2) (.int .i64 o3))) | exact Below.drew (Below.drew (Below.drew (Below.put3 HB6.out (Nat.le_refl _) (.int .i64 o1) (.int .i64 o2) (.int .i64 o3))))⟩
      case rest =>
        obtain ⟨bo, avo, cvo, rfl, rfl, rfl, hbo, hHo, hRo, hko⟩ := hcut
        rw [HR1.out] at hRo ⊢
        obtain ⟨wo, hwo⟩ : ∃ x : World, x = wc := ⟨_, rfl⟩
        rw [← hwo] at hHo hRo hko ⊢
        have Ho0 := Lib.hid hHo
        have HRo := Lib.hid hRo
        clear hHo hRo hwo
        have HBz3 := Lib.hid (HBz2.out.trans (hko.mono (Nat.le_trans hbase HBz2.out.size)))
        have Hmz3 := Lib.hid (Hmz2.out.call hko)
        have Haz3 := Lib.hid (Haz2.out.call hko)
        have Hlz3 := Lib.hid (Hlz2.out.below hko)
        have Hsz3 := Lib.hid (Hsz2.out.below hko)
        clear hko
        clear hf1 hsl1 hlw
        have hf2 := fun W (h : Below wo.heap.size wo W) => C2.out W (.slice al2 nk ck) (HRD2.out _ _ (Hlz3.out.below h))
        have hsl2 := HSL2.out
        have qo0_3 : wo.cell? ⟨bo, 0, none⟩ = some (.int .i64 o1) := Ho0.out.cell 0
        have qo1_3 : wo.cell? ⟨bo, 1, none⟩ = some (.int .i64 o2) := Ho0.out.cell 1
        have qo2_3 : wo.cell? ⟨bo, 2, none⟩ = some (.int .i64 o3) := Ho0.out.cell 2
        have lo_3 : bo < wo.heap.size := Ho0.out.lt
        go_upto_region 7 with fail
        go_cut [13, 14, 15] (fun s1 s2 s3 wx => ∃ (b : Nat) (av : Option Addr) (cv : Nat), s1 = .pointer (some ⟨b, 0, none⟩) ∧ s2 = .slice av (L2).length cv ∧ s3 = .int .i64 0 ∧ wo.heap.size ≤ b ∧ Has wx b [.int .i64 a1, .int .i64 a2, .int .i64 a3] 23 ∧ ReadsI wx (.slice av (L2).length cv) (L2) ∧ Below wo.heap.size wo wx)
        case first =>
          go_region_with (go_at_call 7; refine (hf2 _ (by first | exact Below.refl wo.heap.size wo | exact Below.drew (Below.refl wo.heap.size wo) | exact Below.drew (Below.drew (Below.refl wo.heap.size wo)) | exact Below.drew (Below.drew (Below.drew (Below.refl wo.heap.size wo))) | exact (Below.refl wo.heap.size wo).alloc (Nat.le_refl _) (.cells #[.int .i64 0, .int .i64 0, .int .i64 0] 23) | exact Below.drew ((Below.refl wo.heap.size wo).alloc (Nat.le_refl _) (.cells #[.int .i64 0, .int .i64 0, .int .i64 0] 23)) | exact Below.drew (Below.drew ((Below.refl wo.heap.size wo).alloc (Nat.le_refl _) (.cells #[.int .i64 0, .int .i64 0, .int .i64 0] 23))) | exact Below.drew (Below.drew (Below.drew ((Below.refl wo.heap.size wo).alloc (Nat.le_refl _) (.cells #[.int .i64 0, .int .i64 0, .int .i64 0] 23)))))).mono ?_; rintro e w6 ⟨v1, rfl, hrow, k6⟩; (have hrd6 := hrow.reads); (obtain ⟨av6, cv6, rfl, -⟩ := id hrd6); (have HRW := Lib.hid hrow); (have HB6 := Lib.hid (show Below wo.heap.size wo w6 by first | exact (Below.refl wo.heap.size wo).trans (k6.mono (Nat.le_refl _)) | exact (Below.drew (Below.refl wo.heap.size wo)).trans (k6.mono (Nat.le_refl _)) | exact (Below.drew (Below.drew (Below.refl wo.heap.size wo))).trans (k6.mono (Nat.le_refl _)) | exact (Below.drew (Below.drew (Below.drew (Below.refl wo.heap.size wo)))).trans (k6.mono (Nat.le_refl _)) | exact ((Below.refl wo.heap.size wo).alloc (Nat.le_refl _) (.cells #[.int .i64 0, .int .i64 0, .int .i64 0] 23)).trans (k6.mono (by simp [World.drew])) | exact (Below.drew ((Below.refl wo.heap.size wo).alloc (Nat.le_refl _) (.cells #[.int .i64 0, .int .i64 0, .int .i64 0] 23))).trans (k6.mono (by simp [World.drew])) | exact (Below.drew (Below.drew ((Below.refl wo.heap.size wo).alloc (Nat.le_refl _) (.cells #[.int .i64 0, .int .i64 0, .int .i64 0] 23)))).trans (k6.mono (by simp [World.drew])) | exact (Below.drew (Below.drew (Below.drew ((Below.refl wo.heap.size wo).alloc (Nat.le_refl _) (.cells #[.int .i64 0, .int .i64 0, .int .i64 0] 23))))).trans (k6.mono (by simp [World.drew])))); (have hs6 := HB6.out.size); (try have zH : Has w6 wo.heap.size [.int .i64 0, .int .i64 0, .int .i64 0] 23 := (Has.new wo [.int .i64 0, .int .i64 0, .int .i64 0] 23).step k6 rfl); (try have z0 : w6.cell? ⟨wo.heap.size, 0, none⟩ = some (.int .i64 0) := zH.cell 0); (try have z1 : w6.cell? ⟨wo.heap.size, 1, none⟩ = some (.int .i64 0) := zH.cell 1); (try have z2 : w6.cell? ⟨wo.heap.size, 2, none⟩ = some (.int .i64 0) := zH.cell 2); (try have zf0 : w6.frozen? ⟨wo.heap.size, 0, none⟩ = false := zH.frozen 0); (try have zf1 : w6.frozen? ⟨wo.heap.size, 1, none⟩ = false := zH.frozen 1); (try have zf2 : w6.frozen? ⟨wo.heap.size, 2, none⟩ = false := zH.frozen 2); (try have HZ6 := Lib.hid zH); (try clear zH); clear hrd6 hrow)
          all_goals (go_wp2_with fail; go_meet)
          all_goals first
            | exact ⟨_, _, _, rfl, rfl, rfl, hs6, Has.new w6 _ _, (HRW.out.alloc _).reads, by first | exact HB6.out.alloc HB6.out.size (.cells #[.int .i64 a1, .int .i64 a2, .int .i64 a3] 23) | exact Below.drew (HB6.out.alloc HB6.out.size (.cells #[.int .i64 a1, .int .i64 a2, .int .i64 a3] 23)) | exact Below.drew (Below.drew (HB6.out.alloc HB6.out.size (.cells #[.int .i64 a1, .int .i64 a2, .int .i64 a3] 23))) | exact Below.drew (Below.drew (Below.drew (HB6.out.alloc HB6.out.size (.cells #[.int .i64 a1, .int .i64 a2, .int .i64 a3] 23))))⟩
            | exact ⟨_, _, _, rfl, rfl, rfl, Nat.le_refl _, HZ6.out.put3 (.int .i64 a1) (.int .i64 a2) (.int .i64 a3), (HRW.out.put3 (by first | (simp; done) | (simp [World.drew]; done) | (simp [World.drew]; omega)) (.int .i64 a1) (.int .i64 a2) (.int .i64 a3)).reads, by first | exact Below.put3 HB6.out (Nat.le_refl _) (.int .i64 a1) (.int .i64 a2) (.int .i64 a3) | exact Below.drew (Below.put3 HB6.out (Nat.le_refl _) (.int .i64 a1) (.int .i64 a2) (.int .i64 a3)) | exact Below.drew (Below.drew (Below.put3 HB6.out (Nat.le_refl _) (.int .i64 a1) (.int .i64 a2) (.int .i64 a3))) | exact Below.drew (Below.drew (Below.drew (Below.put3 HB6.out (Nat.le_refl _) (.int .i64 a1) (.int .i64 a2) (.int .i64 a3))))⟩
        case rest =>
          obtain ⟨bt, avt, cvt, rfl, rfl, rfl, hbt, hHt, hRt, hkt⟩ := hcut
          rw [HR2.out] at hRt ⊢
          obtain ⟨wt, hwt⟩ : ∃ x : World, x = wc := ⟨_, rfl⟩
          rw [← hwt] at hHt hRt hkt ⊢
          have Ht0 := Lib.hid hHt
          have HRt := Lib.hid hRt
          clear hHt hRt hwt
          have HBz4 := Lib.hid (HBz3.out.trans (hkt.mono (Nat.le_trans hbase HBz3.out.size)))
          have Hmz4 := Lib.hid (Hmz3.out.call hkt)
          have Haz4 := Lib.hid (Haz3.out.call hkt)
          have Hoz4 := Lib.hid (Ho0.out.call hkt)
          have Hlz4 := Lib.hid (Hlz3.out.below hkt)
          have Hsz4 := Lib.hid (Hsz3.out.below hkt)
          have Horz4 := Lib.hid (HRo.out.below hkt)
          clear hkt
          clear hf2 hsl2
          have qt0_4 : wt.cell? ⟨bt, 0, none⟩ = some (.int .i64 a1) := Ht0.out.cell 0
          have qt1_4 : wt.cell? ⟨bt, 1, none⟩ = some (.int .i64 a2) := Ht0.out.cell 1
          have qt2_4 : wt.cell? ⟨bt, 2, none⟩ = some (.int .i64 a3) := Ht0.out.cell 2
          have lt_4 : bt < wt.heap.size := Ht0.out.lt
          have qa0_4 : wt.cell? ⟨wz1.heap.size, 0, none⟩ = some (.int .i64 a1) := Haz4.out.cell 0
          have qa1_4 : wt.cell? ⟨wz1.heap.size, 1, none⟩ = some (.int .i64 a2) := Haz4.out.cell 1
          have qa2_4 : wt.cell? ⟨wz1.heap.size, 2, none⟩ = some (.int .i64 a3) := Haz4.out.cell 2
          have la_4 : wz1.heap.size < wt.heap.size := Haz4.out.lt
          have hea := eqMovS a1 a2 a3
          obtain ⟨we, hwe⟩ : ∃ we, wt.alloc (.cells #[] 3) = we := ⟨_, rfl⟩
          have ke : Below wt.heap.size wt we := by rw [← hwe]; exact (Below.refl _ _).alloc (Nat.le_refl _) _
          have HE0 := Lib.hid (show IRow wt.heap.size (.slice (some ⟨wt.heap.size, 0, none⟩) 0 0) [] we by rw [← hwe]; exact IRow.made wt)
          have HEF := Lib.hid (Horz4.out.below ke)
          have hse := ke.size
          have HKE := Lib.hid ke
          have HWE := Lib.hid hwe
          clear ke hwe
          go_wp2_with (at_builtin; rw [HWE.out]; refine wpList_append_intsG rfl (.tmp 88) (.tmp 89) rfl wt.heap.size _ [] L1 rfl HE0.out avo r1 cvo rfl HEF.out (by rw [List.length_nil, HR1.out]; omega) (by omega) ?_)
          intro v8 w8 hi8 hg8
          have HI8 := Lib.hid hi8
          have hlt8 := HE0.out.lt'
          have hk8 := HKE.out.grown hg8 (by omega) (fun j hj => (hlt8 j hj).1)
          have HK8 := Lib.hid hk8
          have HET := Lib.hid (HRt.out.below hk8)
          have hs8 := hk8.size
          clear hi8 hg8 hlt8 hk8
          have hnl1 : ([] ++ L1).length + L2.length ≤ 1000000 := by rw [List.nil_append, HR1.out, HR2.out]; omega
          have HNL := Lib.hid hnl1
          have HS8 := Lib.hid (show wt.heap.size ≤ w8.heap.size by omega)
          clear hnl1
          go_wp2_with (at_builtin; refine wpList_append_intsG rfl (.tmp 90) (.tmp 91) rfl wt.heap.size v8 ([] ++ L1) L2 rfl HI8.out avt r2 cvt rfl HET.out HNL.out HS8.out ?_)
          intro v9 w9 hi9 hg9
          have hlt9 := HI8.out.lt'
          have hk9 := HK8.out.grown hg9 (by omega) (fun j hj => (hlt9 j hj).1)
          have hiq : IRow wt.heap.size v9 LL w9 := by rw [HAP2.out]; exact hi9
          have hv9 := hiq.reads
          obtain ⟨a9, c9, rfl, -⟩ := id hv9
          rw [HR0.out] at hv9 ⊢
          have hints := ints_any LL LL _ _ w9 hv9 (Hsz4.out.below hk9)
          rw [decide_eq_true rfl] at hints
          have HK9 := Lib.hid hk9
          clear hi9 hg9 hlt9 hiq hv9 hk9
          go_wp2_with fail
          refine hints.mono ?_
          rintro e wl ⟨rfl, mm, hwl⟩
          clear hints hea
          clear qt0_4 qt1_4 qt2_4 lt_4 qa0_4 qa1_4 qa2_4 la_4
          have kl : Below wt.heap.size wt wl := by rw [hwl]; exact Below.drewN HK9.out mm
          clear hwl hs8 hse
          have HBz5 := Lib.hid (HBz4.out.trans (kl.mono (Nat.le_trans hbase HBz4.out.size)))
          have Hmz5 := Lib.hid (Hmz4.out.call kl)
          have Haz5 := Lib.hid (Haz4.out.call kl)
          have Hoz5 := Lib.hid (Hoz4.out.call kl)
          have Htz5 := Lib.hid (Ht0.out.call kl)
          have Hlz5 := Lib.hid (Hlz4.out.below kl)
          have Hsz5 := Lib.hid (Hsz4.out.below kl)
          have Horz5 := Lib.hid (Horz4.out.below kl)
          have Htrz5 := Lib.hid (HRt.out.below kl)
          clear kl
          have hcz6 := alive12_any wl
          go_wp2_with fail
          refine hcz6.mono ?_
          rintro e wz6 ⟨rfl, kz6⟩
          clear hcz6
          have HBz6 := Lib.hid (HBz5.out.trans (kz6.mono (Nat.le_trans hbase HBz5.out.size)))
          have Hmz6 := Lib.hid (Hmz5.out.call kz6)
          have Haz6 := Lib.hid (Haz5.out.call kz6)
          have Hoz6 := Lib.hid (Hoz5.out.call kz6)
          have Htz6 := Lib.hid (Htz5.out.call kz6)
          have Hlz6 := Lib.hid (Hlz5.out.below kz6)
          have Hsz6 := Lib.hid (Hsz5.out.below kz6)
          have Horz6 := Lib.hid (Horz5.out.below kz6)
          have Htrz6 := Lib.hid (Htrz5.out.below kz6)
          clear kz6
          go_upto_region 10 with fail
          have qm0_6 : wz6.cell? ⟨w.heap.size, 0, none⟩ = some (.int .i64 N) := Hmz6.out.cell 0
          have qm1_6 : wz6.cell? ⟨w.heap.size, 1, none⟩ = some (.int .i64 L) := Hmz6.out.cell 1
          have qm2_6 : wz6.cell? ⟨w.heap.size, 2, none⟩ = some (.int .i64 S) := Hmz6.out.cell 2
          have lm_6 : w.heap.size < wz6.heap.size := Hmz6.out.lt
          go_cut [16, 17] (fun s16 s17 wx => s16 = .int .i64 0 ∧ s17 = .pointer (some ⟨wz6.heap.size, 0, none⟩) ∧ Has wx wz6.heap.size [.int .i64 N, .int .i64 L, .int .i64 S] 23 ∧ Below wz6.heap.size wz6 wx)
          case first =>
            go_region
            all_goals (go_wp2_with fail; go_meet)
            all_goals first
              | exact ⟨rfl, rfl, Has.new wz6 _ _, (Below.refl _ _).alloc (Nat.le_refl _) _⟩
              | exact ⟨rfl, rfl, (Has.new wz6 _ _).of rfl, ((Below.refl _ _).alloc (Nat.le_refl _) _).drew⟩
              | exact ⟨rfl, rfl, (Has.new wz6 _ _).of rfl, ((Below.refl _ _).alloc (Nat.le_refl _) _).drew.drew⟩
          case rest =>
            clear qm0_6 qm1_6 qm2_6 lm_6
            obtain ⟨rfl, rfl, h17, hk17⟩ := hcut
            have HST := Lib.hid (show PartRel ⟨N, L, S⟩ q n wz6 (.int .i64 0) (.int .i64 0) wc from ⟨0, Nat.zero_le _, rfl, by rw [List.take_zero, stepsM_nil]; rfl, by rw [List.take_zero, runM_nil]; exact h17, hk17⟩)
            clear h17 hk17
            go_wp2
            go_loopw [16, 104] (PartRel ⟨N, L, S⟩ q n wz6) (fun _ i _ => n - (intOf i).toNat)
            case atStart => exact HST.out
            case round =>
              obtain ⟨j, hj, rfl, rfl, hbx, hk⟩ := hrel
              have HBX := Lib.hid hbx
              have HK := Lib.hid hk
              have hsz := hk.size
              clear hbx hk
              by_cases hl : j < n
              · have hrdq := Hlz6.out.below HK.out
                obtain ⟨ao', cp', e0, -, -, hrd⟩ := hrdq
                injection e0 with e1 e2 e3
                subst e1 e3
                obtain ⟨b, off, rfl, hlt, hc⟩ := hrd j (by rw [HN.out]; exact hl)
                have hxin := inB_get HIN.out (k := j) (by rw [HN.out]; exact hl)
                obtain ⟨y, hy⟩ : ∃ y, q.getD j 0 = y := ⟨_, rfl⟩
                rw [hy] at hc hxin
                have htk : (q.take j).length = j := by rw [List.length_take, HN.out]; omega
                have hsnoc := take_snoc (l := q) (k := j) (by rw [HN.out]; exact hl) hy
                have hok := HOK.out
                have hn0 := (movOk_n hok).1
                have hrn := runM_append ⟨N, L, S⟩ hn0 (q.take j) [y]
                have hsn := stepsM_append ⟨N, L, S⟩ hn0 (q.take j) [y]
                rw [← hsnoc] at hrn hsn
                have hle := HLE.out
                have hokj : movOk (runM ⟨N, L, S⟩ (q.take j)) := runM_ok hok (inB_take HIN.out j) (by rw [htk]; show N + (j : Int) ≤ 1000000000; omega)
                have z3 : raE (runM ⟨N, L, S⟩ (q.take j)) [y] = 0 := raE_zero.2 ⟨hokj, by rw [inB_one, decide_eq_true hxin], by rw [runM_n, htk]; show N + (j : Int) + ((1 : Nat) : Int) ≤ 1000000000; omega⟩
                have cn := fun W => next12_any (runM ⟨N, L, S⟩ (q.take j)) y W
                rw [show raM (runM ⟨N, L, S⟩ (q.take j)) [y] = runM (runM ⟨N, L, S⟩ (q.take j)) [y] from if_pos z3, show naS (runM ⟨N, L, S⟩ (q.take j)) y = sumI (stepsM (runM ⟨N, L, S⟩ (q.take j)) [y]) from if_pos z3, z3, ← hrn] at cn
                have hsum : sumI (stepsM ⟨N, L, S⟩ (q.take (j + 1))) = sumI (stepsM ⟨N, L, S⟩ (q.take j)) + sumI (stepsM (runM ⟨N, L, S⟩ (q.take j)) [y]) := by rw [hsn, sumI_append]
                have hbj := sumI_bounds (stepsM_bounds hok (inB_take HIN.out (j + 1)))
                have hlj : (stepsM ⟨N, L, S⟩ (q.take (j + 1))).length ≤ 201 := by rw [stepsM_len]; split <;> (rw [List.length_take, HN.out]; omega)
                obtain ⟨⟨n1, n2, n3⟩, hA⟩ : ∃ K, runM ⟨N, L, S⟩ (q.take j) = K := ⟨_, rfl⟩
                obtain ⟨⟨p1, p2, p3⟩, hB⟩ : ∃ K, runM ⟨N, L, S⟩ (q.take (j + 1)) = K := ⟨_, rfl⟩
                rw [hB] at cn
                rw [hA] at cn hsum HBX
                obtain ⟨sj, hsj⟩ : ∃ K, sumI (stepsM ⟨N, L, S⟩ (q.take j)) = K := ⟨_, rfl⟩
                obtain ⟨dj, hdj⟩ : ∃ K, sumI (stepsM ⟨n1, n2, n3⟩ [y]) = K := ⟨_, rfl⟩
                rw [hdj] at cn hsum
                rw [hsj] at hsum ⊢
                have hwr : wrap64 (sj + dj) = sj + dj := by rw [← hsum]; unfold wrap64; omega
                unfold movV at cn
                dsimp only at cn
                have HCN := Lib.hid cn
                have HWR := Lib.hid hwr
                have HSUM := Lib.hid hsum
                have HBB := Lib.hid hB
                have hjn : (j : Int) < (n : Int) := by omega
                have c0 : wr.cell? ⟨wz6.heap.size, 0, none⟩ = some (.int .i64 n1) := HBX.out.cell 0
                have c1 : wr.cell? ⟨wz6.heap.size, 1, none⟩ = some (.int .i64 n2) := HBX.out.cell 1
                have c2 : wr.cell? ⟨wz6.heap.size, 2, none⟩ = some (.int .i64 n3) := HBX.out.cell 2
                have cl := HBX.out.lt
                clear hrd e2 hy hxin htk hsnoc hok hn0 hrn hsn hle hokj z3 cn hsum hbj hlj hA hB hsj hdj hwr
                go_wp2_with fail
                refine (HCN.out _).mono ?_
                rintro e w5 ⟨rfl, k5⟩
                have HBX5 := Lib.hid (HBX.out.call k5)
                have HK5 := Lib.hid (HK.out.trans (k5.mono hsz))
                clear k5 c0 c1 c2 cl hc hlt
                obtain ⟨w7, hw7⟩ : ∃ w7, w5.alloc (.cells #[.int .i64 p1, .int .i64 p2, .int .i64 p3] 23) = w7 := ⟨_, rfl⟩
                have k7 : Below w5.heap.size w5 w7 := by rw [← hw7]; exact (Below.refl _ _).alloc (Nat.le_refl _) _
                have HN7 := Lib.hid (show Has w7 w5.heap.size [.int .i64 p1, .int .i64 p2, .int .i64 p3] 23 by rw [← hw7]; exact Has.new w5 _ _)
                have HBX7 := Lib.hid (HBX5.out.call k7)
                have HK7 := Lib.hid (HK5.out.trans (k7.mono HK5.out.size))
                have HW7 := Lib.hid hw7
                clear k7 hw7
                go_upto_region 15 with fail
                rw [HW7.out]
                have y0 : w7.cell? ⟨w5.heap.size, 0, none⟩ = some (.int .i64 p1) := HN7.out.cell 0
                have y1 : w7.cell? ⟨w5.heap.size, 1, none⟩ = some (.int .i64 p2) := HN7.out.cell 1
                have y2 : w7.cell? ⟨w5.heap.size, 2, none⟩ = some (.int .i64 p3) := HN7.out.cell 2
                have yl := HN7.out.lt
                have c0 : w7.cell? ⟨wz6.heap.size, 0, none⟩ = some (.int .i64 n1) := HBX7.out.cell 0
                have c1 : w7.cell? ⟨wz6.heap.size, 1, none⟩ = some (.int .i64 n2) := HBX7.out.cell 1
                have c2 : w7.cell? ⟨wz6.heap.size, 2, none⟩ = some (.int .i64 n3) := HBX7.out.cell 2
                have f0 : w7.frozen? ⟨wz6.heap.size, 0, none⟩ = false := HBX7.out.frozen 0
                have f1 : w7.frozen? ⟨wz6.heap.size, 1, none⟩ = false := HBX7.out.frozen 1
                have f2 : w7.frozen? ⟨wz6.heap.size, 2, none⟩ = false := HBX7.out.frozen 2
                have HQ := Lib.hid (show PartRel ⟨N, L, S⟩ q n wz6 (.int .i64 (sj + dj)) (.int .i64 ((j : Int) + 1)) (((w7.setCell ⟨wz6.heap.size, 0, none⟩ (.int .i64 p1)).setCell ⟨wz6.heap.size, 1, none⟩ (.int .i64 p2)).setCell ⟨wz6.heap.size, 2, none⟩ (.int .i64 p3)) from
                  ⟨j + 1, by omega, by first | rfl | go_num, by rw [HSUM.out], by rw [HBB.out]; exact HBX7.out.put3 _ _ _, Below.put3 HK7.out (Nat.le_refl _) _ _ _⟩)
                have hwr := HWR.out
                go_wp2
                go_roundw
                case rel =>
                  try rw [hwr]
                  exact HQ.out
                case measure =>
                  clear hwr
                  simp [intOf]; omega
              · obtain rfl : n = j := by omega
                have hfull : q.take n = q := by rw [← HN.out]; exact List.take_length
                rw [hfull, HM2q.out] at HBX
                rw [hfull, HLLq.out]
                have HA' := Lib.hid (Haz6.out.call HK.out)
                have HM' := Lib.hid (Hmz6.out.call HK.out)
                have c0 : wr.cell? ⟨wz6.heap.size, 0, none⟩ = some (.int .i64 a1) := HBX.out.cell 0
                have c1 : wr.cell? ⟨wz6.heap.size, 1, none⟩ = some (.int .i64 a2) := HBX.out.cell 1
                have c2 : wr.cell? ⟨wz6.heap.size, 2, none⟩ = some (.int .i64 a3) := HBX.out.cell 2
                have cl := HBX.out.lt
                have d0 : wr.cell? ⟨wz1.heap.size, 0, none⟩ = some (.int .i64 a1) := HA'.out.cell 0
                have d1 : wr.cell? ⟨wz1.heap.size, 1, none⟩ = some (.int .i64 a2) := HA'.out.cell 1
                have d2 : wr.cell? ⟨wz1.heap.size, 2, none⟩ = some (.int .i64 a3) := HA'.out.cell 2
                have dl := HA'.out.lt
                have e0 : wr.cell? ⟨w.heap.size, 0, none⟩ = some (.int .i64 N) := HM'.out.cell 0
                have e1 : wr.cell? ⟨w.heap.size, 1, none⟩ = some (.int .i64 L) := HM'.out.cell 1
                have e2 : wr.cell? ⟨w.heap.size, 2, none⟩ = some (.int .i64 S) := HM'.out.cell 2
                have el := HM'.out.lt
                have hea := eqMovS a1 a2 a3
                have hrs := HRS.out
                have hsb := HSB.out
                have hSS := HSS.out
                have hls' : LL.length ≤ 200 := by rw [HR0.out]; exact hls
                obtain ⟨T, hT⟩ : ∃ T, sumI LL = T := ⟨_, rfl⟩
                rw [hT] at hrs hsb ⊢
                have hww : wrap64 (S + T) = S + T := by unfold wrap64; omega
                have hww2 : wrap64 (S + T) = a3 := by rw [hww, hrs]
                have h33 : (a3 == a3) = true := beq_self_eq_true a3
                have HBE := Lib.hid (HBz6.out.trans (HK.out.mono HBz6.out.size))
                clear hrs hsb hSS hls' hT hfull hww
                go_wp2
                go_ret
                exact ⟨rfl, HBE.out⟩
    · skip
      have cr := run12_any ⟨N, L, S⟩ q (.slice ao n cap) w3 HL.out (by rw [HN.out]; omega)
      rw [show raM ⟨N, L, S⟩ q = mov0 from if_neg hE, show raL ⟨N, L, S⟩ q = [] from if_neg hE] at cr
      obtain ⟨E, hEE⟩ : ∃ E, raE ⟨N, L, S⟩ q = E := ⟨_, rfl⟩
      rw [hEE] at cr hE
      have gE : (E == 0) = false := beq_false_of_ne hE
      unfold movV mov0 at cr
      dsimp only at cr
      clear hEE hE
      have qm0_0 : w3.cell? ⟨w.heap.size, 0, none⟩ = some (.int .i64 N) := HM3.out.cell 0
      have qm1_0 : w3.cell? ⟨w.heap.size, 1, none⟩ = some (.int .i64 L) := HM3.out.cell 1
      have qm2_0 : w3.cell? ⟨w.heap.size, 2, none⟩ = some (.int .i64 S) := HM3.out.cell 2
      have lm_0 : w.heap.size < w3.heap.size := HM3.out.lt
      have hcz1 := cr
      go_wp2_with fail
      refine hcz1.mono ?_
      rintro e wz1 ⟨s1, rfl, hs1, kz1⟩
      clear hcz1 qm0_0 qm1_0 qm2_0 lm_0
      have HBz1 := Lib.hid (HB3.out.trans (kz1.mono (Nat.le_trans hbase HB3.out.size)))
      have Hmz1 := Lib.hid (HM3.out.call kz1)
      clear kz1
      obtain ⟨as1, cs1, rfl, -⟩ := id hs1.reads
      clear hs1 cr
      obtain ⟨wz2, hwz2⟩ : ∃ wz2, wz1.alloc (.cells #[.int .i64 0, .int .i64 0, .int .i64 0] 23) = wz2 := ⟨_, rfl⟩
      have kz2 : Below wz1.heap.size wz1 wz2 := by rw [← hwz2]; exact (Below.refl _ _).alloc (Nat.le_refl _) _
      have Haz2 := Lib.hid (show Has wz2 wz1.heap.size [.int .i64 0, .int .i64 0, .int .i64 0] 23 by rw [← hwz2]; exact Has.new _ _ _)
      have HWz2 := Lib.hid hwz2
      clear hwz2
      have HBz2 := Lib.hid (HBz1.out.trans (kz2.mono (Nat.le_trans hbase HBz1.out.size)))
      have Hmz2 := Lib.hid (Hmz1.out.call kz2)
      clear kz2
      go_upto_region 4 with fail
      rw [HWz2.out]
      have hcz3 := alive12_any wz2
      go_wp2_with fail
      refine hcz3.mono ?_
      rintro e wz3 ⟨rfl, kz3⟩
      clear hcz3
      have HBz3 := Lib.hid (HBz2.out.trans (kz3.mono (Nat.le_trans hbase HBz2.out.size)))
      have Hmz3 := Lib.hid (Hmz2.out.call kz3)
      have Haz3 := Lib.hid (Haz2.out.call kz3)
      clear kz3
      have qa0_3 : wz3.cell? ⟨wz1.heap.size, 0, none⟩ = some (.int .i64 0) := Haz3.out.cell 0
      have qa1_3 : wz3.cell? ⟨wz1.heap.size, 1, none⟩ = some (.int .i64 0) := Haz3.out.cell 1
      have qa2_3 : wz3.cell? ⟨wz1.heap.size, 2, none⟩ = some (.int .i64 0) := Haz3.out.cell 2
      have la_3 : wz1.heap.size < wz3.heap.size := Haz3.out.lt
      have hez := eqMovS 0 0 0
      go_wp2
      go_ret
      exact ⟨rfl, HBz3.out⟩
end Go.Proofs.Ytaegoomnenociaa
