/- The law of NelsonTurns: put together. -/
import Derived.Test.YtjonpcpcokapkaaNelR
/- The law of NelsonTurns: its walk. -/
namespace Go.Proofs.Ytjonpcpcokapkaa
open Go.RowKit

def turnP (m : Int) : Nat → Int
  | 0 => 0
  | k + 1 => turnP m k + (if bitB m ((k : Int) - 4) = true then ((2 ^ (8 - k) : Nat) : Int) else 0)
theorem turnP_all {m : Int} (h : 1 ≤ m ∧ m ≤ 511) : turnP m 9 = turnN m := by
  have tab : ∀ k : Fin 512, turnP (k.val : Int) 9 = turnN (k.val : Int) := by decide +kernel
  have := tab ⟨m.toNat, by omega⟩
  have e : ((m.toNat : Nat) : Int) = m := by omega
  dsimp only at this
  rwa [e] at this
theorem pow9 : ∀ e : Fin 9, wrap64 (2 ^ e.val) = ((2 ^ e.val : Nat) : Int) ∧ 2 ^ e.val ≤ 256 := by decide +kernel
theorem turnP_bounds (m : Int) : ∀ k, k ≤ 9 → 0 ≤ turnP m k ∧ turnP m k ≤ 256 * (k : Nat)
  | 0, _ => by unfold turnP; omega
  | k + 1, h => by
    have h1 := turnP_bounds m k (by omega)
    have h2 := (pow9 ⟨8 - k, by omega⟩).2
    unfold turnP
    dsimp only at h2
    generalize 2 ^ (8 - k) = x at *
    split <;> omega
def TrnRel (ms : List Int) (w1 : World) (v tv iv : Value) (wr : World) : Prop :=
  ∃ j : Nat, j ≤ ms.length ∧ iv = .int .i64 (j : Nat) ∧ IRow w1.heap.size tv ((ms.take j).map turnN) wr ∧ ReadsI wr v ms ∧ Below w1.heap.size w1 wr
def BitRel (m : Int) (w : World) (xv cv : Value) (wr : World) : Prop := ∃ k : Nat, k ≤ 9 ∧ xv = .int .i64 (turnP m k) ∧ cv = .int .i64 ((k : Int) - 4) ∧ w = wr
def PusRel (ms more : List Int) (T : Nat → Int) (w : World) (a : Nat) (v mv iv : Value) (wr : World) : Prop :=
  ∃ j : Nat, j ≤ ms.length ∧ iv = .int .i64 (j : Nat) ∧ ReadsI wr mv ((ms.take j).foldl pushN more) ∧ ReadsI wr v ms ∧ Has wr a [.int .i64 (T 1), .int .i64 (T 2), .int .i64 (T 3), .int .i64 (T 4), .int .i64 (T 5), .int .i64 (T 6), .int .i64 (T 7), .int .i64 (T 8)] 31 ∧ Below w.heap.size w wr
def EndRel4 (T C : Nat → Int) (w : World) (a c : Nat) (y : Value) (wr : World) : Prop :=
  ∃ i : Nat, i ≤ 8 ∧ y = .int .i64 (i : Nat) ∧ Has wr a [.int .i64 (T 1), .int .i64 (T 2), .int .i64 (T 3), .int .i64 (T 4), .int .i64 (T 5), .int .i64 (T 6), .int .i64 (T 7), .int .i64 (T 8)] 31 ∧ Has wr c [.int .i64 (C 1), .int .i64 (C 2), .int .i64 (C 3), .int .i64 (C 4), .int .i64 (C 5), .int .i64 (C 6), .int .i64 (C 7), .int .i64 (C 8)] 31 ∧ Below w.heap.size w wr
theorem long_at (i : Nat) (hi : i < 8) (w : World) : (Instr.index 31 (.agg #[.int .i64 1, .int .i64 9, .int .i64 6, .int .i64 14, .int .i64 3, .int .i64 5, .int .i64 15, .int .i64 8]) (.int .i64 (i : Nat))).run Try.prog w = .ok (.int .i64 (longN (i + 1) : Nat)) w := by
  rcases (by omega : i = 0 ∨ i = 1 ∨ i = 2 ∨ i = 3 ∨ i = 4 ∨ i = 5 ∨ i = 6 ∨ i = 7) with rfl | rfl | rfl | rfl | rfl | rfl | rfl | rfl <;> kernel_rfl
set_option linter.unusedSimpArgs false in
set_option linter.unusedVariables false in
set_option maxHeartbeats 16000000 in
set_option maxRecDepth 100000 in
theorem turns14_core (T C : Nat → Int) (ms more : List Int) (u v : Value) (w : World) (hl : ms.length ≤ 15) (hok : okM ms) (hml : more.length ≤ 15) (hmo : okM more)
    (ks : Calls Try.prog 20 #[u, .slice none 0 0] w fun e w' => ∃ mv cv, e = .returned (.tuple #[mv, cv]) ∧ ReadsI w' mv ms ∧ Below w.heap.size w w')
    (ks2 : ∀ W, Below w.heap.size w W → Calls Try.prog 20 #[v, .slice none 0 0] W fun e w' => ∃ mv cv, e = .returned (.tuple #[mv, cv]) ∧ ReadsI w' mv more ∧ Below W.heap.size W w')
    (ka : (∀ W, Calls Try.prog 11 #[] W fun e w' => e = .returned (.bool true) ∧ Below W.heap.size W w'))
    (kt : (∀ W v, ReadsI W v ms → Calls Try.prog 13 #[v] W fun e w' => e = .returned (.tuple #[.agg #[.int .i64 (T 1), .int .i64 (T 2), .int .i64 (T 3), .int .i64 (T 4), .int .i64 (T 5), .int .i64 (T 6), .int .i64 (T 7), .int .i64 (T 8)], .int .i64 0]) ∧ Below W.heap.size W w')) (kt2 : (∀ W v, ReadsI W v (ms.map turnN) → Calls Try.prog 13 #[v] W fun e w' => e = .returned (.tuple #[.agg #[.int .i64 (T 1), .int .i64 (T 2), .int .i64 (T 3), .int .i64 (T 4), .int .i64 (T 5), .int .i64 (T 6), .int .i64 (T 7), .int .i64 (T 8)], .int .i64 0]) ∧ Below W.heap.size W w'))
    (kp : ∀ l m W v, okM l → l.length ≤ 15 → (1 ≤ m ∧ m ≤ 511) → ReadsI W v l → Calls Try.prog 14 #[v, .int .i64 m] W fun e w' => ∃ v', e = .returned (.tuple #[v', .int .i64 0]) ∧ ReadsI w' v' (pushN l m) ∧ Below W.heap.size W w')
    (kc : (∀ W v, ReadsI W v (ms.foldl pushN more) → Calls Try.prog 13 #[v] W fun e w' => e = .returned (.tuple #[.agg #[.int .i64 (C 1), .int .i64 (C 2), .int .i64 (C 3), .int .i64 (C 4), .int .i64 (C 5), .int .i64 (C 6), .int .i64 (C 7), .int .i64 (C 8)], .int .i64 0]) ∧ Below W.heap.size W w'))
    (h1 : ∀ k, 1 ≤ k → k ≤ 8 → (longN k ≤ ms.length → C k = T k) ∧ (ms.length < longN k → T k = 0)) :
    Calls Try.prog 7 #[u, v] w fun e w' => e = .returned (.bool true) ∧ Below w.heap.size w w' := by
  have KS := Lib.hid ks; have KS2 := Lib.hid ks2; have KA := Lib.hid ka; have KT := Lib.hid kt; have KT2 := Lib.hid kt2; have KP := Lib.hid kp; have KC := Lib.hid kc; have H1 := Lib.hid h1; have HOK := Lib.hid hok; have HMO := Lib.hid hmo; have HML := Lib.hid hml
  have HB1 := Lib.hid (Below.refl w.heap.size w)
  have hbase := Nat.le_refl w.heap.size
  clear ks ks2 ka kt kt2 kp kc h1 hok hmo hml
  go_enter Try.func7, Try.ntmps7
  go_wp2_with fail
  refine KS.out.mono ?_
  rintro e w1 ⟨mv, cv, rfl, hmv, k1⟩
  obtain ⟨aoM, capM, hme⟩ := hmv.shape
  subst hme
  have HMV := Lib.hid hmv; have HW1 := Lib.hid k1
  obtain ⟨n, hn⟩ : ∃ n, ms.length = n := ⟨_, rfl⟩
  rw [hn] at HMV hmv hl ⊢
  have HN := Lib.hid hn
  have HST := Lib.hid (show TrnRel ms w1 (.slice aoM n capM) (.slice none 0 0) (.int .i64 0) w1 from ⟨0, Nat.zero_le _, rfl, IRow.nil _ _, hmv, Below.refl _ _⟩)
  clear k1 hn hmv
  go_wp2
  go_loopw [7, 33] (TrnRel ms w1 (.slice aoM n capM)) (fun _ i _ => n - (intOf i).toNat)
  case atStart => exact HST.out
  case round =>
    obtain ⟨j, hj, rfl, hrow, hrd, hb⟩ := hrel
    rw [HN.out] at hj
    obtain ⟨aoT, capT, hte⟩ := hrow.shape
    subst hte
    have HROW := Lib.hid hrow; have HRD := Lib.hid hrd; have HB := Lib.hid hb
    obtain ⟨acc, hacc⟩ : ∃ acc, (ms.take j).map turnN = acc := ⟨_, rfl⟩
    have hal : acc.length = j := by rw [← hacc, List.length_map, List.length_take, HN.out]; omega
    rw [hacc] at HROW hrow ⊢
    rw [hal] at HROW hrow ⊢
    have HACC := Lib.hid hacc; have HAL := Lib.hid hal
    by_cases hlt : j < n
    · obtain ⟨m, hm⟩ : ∃ m, ms[j]? = some m := ⟨_, List.getElem?_eq_getElem (by rw [HN.out]; exact hlt)⟩
      obtain ⟨bm, om, hao, hbl, hcm⟩ := hrd.spot hm
      subst hao
      have HM := Lib.hid hm
      have HMOK := Lib.hid (HOK.out m (List.mem_of_getElem? hm))
      have hjz : (j : Int) < (n : Int) := by omega
      have hjx : 0 ≤ (j : Int) ∧ (j : Int) < (n : Int) := by omega
      have HJN := Lib.hid hlt
      clear hrow hrd hb hm hacc hal hj hlt
      obtain ⟨W1, hW1⟩ : ∃ W : World, W = wr := ⟨_, rfl⟩
      rw [← hW1] at HROW HRD HB hbl hcm ⊢
      clear hW1
      go_upto_region 7 with fail
      clear hcm hbl
      go_wp2
      go_loopw [10, 11] (BitRel m W1) (fun _ c _ => (5 - intOf c).toNat)
      case atStart => exact ⟨0, by omega, rfl, rfl, rfl⟩
      case round =>
        obtain ⟨k, hk, rfl, rfl, rfl⟩ := hrel
        by_cases hk9 : k < 9
        · have hhas := rhas13_any m ((k : Int) - 4) W1
          have htb := turnP_bounds m k hk
          have htp : turnP m (k + 1) = turnP m k + (if bitB m ((k : Int) - 4) = true then ((2 ^ (8 - k) : Nat) : Int) else 0) := rfl
          obtain ⟨e, he⟩ : ∃ e, e = 8 - k := ⟨_, rfl⟩
          have hpw := pow9 ⟨8 - k, by omega⟩
          dsimp only at hpw
          rw [← he] at hpw htp
          obtain ⟨t, ht⟩ : ∃ t, turnP m k = t := ⟨_, rfl⟩
          rw [ht] at htb htp ⊢
          have hkz : (k : Int) - 4 ≤ 4 := by omega
          have hw1 : wrap64 (4 - ((k : Int) - 4)) = (e : Int) := by unfold wrap64; omega
          cases hX : bitB m ((k : Int) - 4) with
          | true =>
            rw [hX] at hhas htp
            rw [if_pos rfl] at htp
            have HC := Lib.hid hhas; have HTP := Lib.hid htp
            have he8 : e ≤ 8 := by omega
            obtain ⟨P, hP⟩ : ∃ P, ((2 ^ e : Nat) : Int) = P := ⟨_, rfl⟩
            have hPb : 0 ≤ P ∧ P ≤ 256 := ⟨by rw [← hP]; exact Int.natCast_nonneg _, by rw [← hP]; exact Int.ofNat_le.2 hpw.2⟩
            rw [hP] at HTP
            have hsh : wrap64 (2 ^ e) = P := by rw [hpw.1, hP]
            have HSH := Lib.hid (show wrap64 (2 ^ (4 - ((k : Int) - 4)).toNat) = P by rw [show (4 - ((k : Int) - 4)).toNat = e by omega]; exact hsh)
            have HQ := Lib.hid (show ∀ x : Int, x = t + P → BitRel m W1 (.int .i64 x) (.int .i64 ((k : Int) + 1 - 4)) W1 from fun x hx => ⟨k + 1, by omega, by rw [hx, HTP.out], by congr 1, rfl⟩)
            have hw2 : (k : Int) - 4 + 1 = (k : Int) + 1 - 4 := by omega
            have HW2 := Lib.hid hw2
            have HWS := Lib.hid (show wrap64 (t + P) = t + P by unfold wrap64; omega)
            clear hhas htp hpw hP hX ht he hw2 hk
            have hww := HWS.out
            go_wp2_with fail
            refine HC.out.mono ?_
            rintro e2 w3 ⟨rfl, rfl⟩
            go_wp2
            go_roundw
            case rel => (rw [← HW2.out] at HQ; first | exact HQ.out _ rfl | exact HQ.out _ (by rw [HSH.out]; exact hww) | exact HQ.out _ (by rw [HSH.out]))
            case measure => simp [intOf]; omega
          | false =>
            rw [hX] at hhas htp
            rw [if_neg (by decide)] at htp
            have HC := Lib.hid hhas
            have HQ := Lib.hid (show BitRel m W1 (.int .i64 t) (.int .i64 ((k : Int) - 4 + 1)) W1 from ⟨k + 1, by omega, by rw [htp]; congr 1; omega, by congr 1; omega, rfl⟩)
            clear hhas htp hpw hX ht he hw1
            go_wp2_with fail
            refine HC.out.mono ?_
            rintro e2 w3 ⟨rfl, rfl⟩
            go_wp2
            go_roundw
            case rel => exact HQ.out
            case measure => simp [intOf]; omega
        · obtain rfl : k = 9 := by omega
          have htn := turnP_all HMOK.out
          rw [htn]
          obtain ⟨t, ht⟩ : ∃ t, turnN m = t := ⟨_, rfl⟩
          rw [ht]
          have HTN := Lib.hid ht
          have hjn := HJN.out
          have hsz := HB.out.size
          clear htn ht hk hk9
          go_wp2_with (at_builtin; refine wpList_append_ints rfl (.tmp 49) (.tmp 51) rfl w1.heap.size _ acc [t] rfl (HROW.out.alloc _) (some ⟨W1.heap.size, 0, none⟩) 1 1 rfl (ReadsI.one W1 t) (by rw [HAL.out]; show j + 1 ≤ _; omega) (by simp; omega) ?_)
          intro v' w2 hi2 hg2
          have HBN := Lib.hid (IRow.pushed HB.out hsz HROW.out _ hg2)
          have HQ := Lib.hid (show TrnRel ms w1 (.slice (some ⟨bm, om, none⟩) n capM) v' (.int .i64 ((j : Int) + 1)) w2 from ⟨j + 1, by rw [HN.out]; omega, by first | rfl | go_num, by
            have e : (ms.take (j + 1)).map turnN = acc ++ [t] := by rw [List.take_add_one, HM.out, List.map_append, HACC.out, ← HTN.out]; rfl
            rw [e]
            exact hi2, HMV.out.below HBN.out, HBN.out⟩)
          clear hi2 hg2
          go_wp2
          go_roundw
          case rel => exact HQ.out
          case measure => simp [intOf]; omega
    · obtain rfl : j = n := by omega
      have e : ms.take j = ms := List.take_of_length_le (by rw [HN.out]; exact Nat.le_refl _)
      rw [e] at hacc
      have hrt := hrow.reads
      rw [← hacc] at hrt
      have HRT := Lib.hid hrt
      have HBW := Lib.hid (HW1.out.trans (hb.mono HW1.out.size))
      obtain ⟨W2, hW2⟩ : ∃ W : World, W = wr := ⟨_, rfl⟩
      rw [← hW2] at HRT HRD HBW ⊢
      clear hrow hrd hb hacc hal e hj hlt hrt hW2
      have hcz1 := KT.out W2 _ HRD.out
      go_wp2_with fail
      refine hcz1.mono ?_
      rintro e wz1 ⟨rfl, kz1⟩
      clear hcz1
      have HBz1 := Lib.hid (HBW.out.trans (kz1.mono (Nat.le_trans hbase HBW.out.size)))
      have Hmz1 := Lib.hid (HRD.out.below kz1)
      have Htz1 := Lib.hid (HRT.out.below kz1)
      clear kz1
      obtain ⟨wz2, hwz2⟩ : ∃ wz2, wz1.alloc (.cells #[.int .i64 (T 1), .int .i64 (T 2), .int .i64 (T 3), .int .i64 (T 4), .int .i64 (T 5), .int .i64 (T 6), .int .i64 (T 7), .int .i64 (T 8)] 31) = wz2 := ⟨_, rfl⟩
      have kz2 : Below wz1.heap.size wz1 wz2 := by rw [← hwz2]; exact (Below.refl _ _).alloc (Nat.le_refl _) _
      have Haz2 := Lib.hid (show Has wz2 wz1.heap.size [.int .i64 (T 1), .int .i64 (T 2), .int .i64 (T 3), .int .i64 (T 4), .int .i64 (T 5), .int .i64 (T 6), .int .i64 (T 7), .int .i64 (T 8)] 31 by rw [← hwz2]; exact Has.new _ _ _)
      have HWz2 := Lib.hid hwz2
      clear hwz2
      have HBz2 := Lib.hid (HBz1.out.trans (kz2.mono (Nat.le_trans hbase HBz1.out.size)))
      have Hmz2 := Lib.hid (Hmz1.out.below kz2)
      have Htz2 := Lib.hid (Htz1.out.below kz2)
      clear kz2
      go_upto_region 15 with fail
      rw [HWz2.out]
      have hcz3 := KT2.out wz2 _ Htz2.out
      go_wp2_with fail
      refine hcz3.mono ?_
      rintro e wz3 ⟨rfl, kz3⟩
      clear hcz3
      have HBz3 := Lib.hid (HBz2.out.trans (kz3.mono (Nat.le_trans hbase HBz2.out.size)))
      have Haz3 := Lib.hid (Haz2.out.call kz3)
      have Hmz3 := Lib.hid (Hmz2.out.below kz3)
      have Htz3 := Lib.hid (Htz2.out.below kz3)
      clear kz3
      obtain ⟨wz4, hwz4⟩ : ∃ wz4, wz3.alloc (.cells #[.int .i64 (T 1), .int .i64 (T 2), .int .i64 (T 3), .int .i64 (T 4), .int .i64 (T 5), .int .i64 (T 6), .int .i64 (T 7), .int .i64 (T 8)] 31) = wz4 := ⟨_, rfl⟩
      have kz4 : Below wz3.heap.size wz3 wz4 := by rw [← hwz4]; exact (Below.refl _ _).alloc (Nat.le_refl _) _
      have Hbz4 := Lib.hid (show Has wz4 wz3.heap.size [.int .i64 (T 1), .int .i64 (T 2), .int .i64 (T 3), .int .i64 (T 4), .int .i64 (T 5), .int .i64 (T 6), .int .i64 (T 7), .int .i64 (T 8)] 31 by rw [← hwz4]; exact Has.new _ _ _)
      have HWz4 := Lib.hid hwz4
      clear hwz4
      have HBz4 := Lib.hid (HBz3.out.trans (kz4.mono (Nat.le_trans hbase HBz3.out.size)))
      have Haz4 := Lib.hid (Haz3.out.call kz4)
      have Hmz4 := Lib.hid (Hmz3.out.below kz4)
      have Htz4 := Lib.hid (Htz3.out.below kz4)
      clear kz4
      go_upto_region 16 with fail
      rw [HWz4.out]
      have hq := eqI8 (T 1) (T 2) (T 3) (T 4) (T 5) (T 6) (T 7) (T 8)
      have qa0_4 : wz4.cell? ⟨wz1.heap.size, 0, none⟩ = some (.int .i64 (T 1)) := Haz4.out.cell 0
      have qa1_4 : wz4.cell? ⟨wz1.heap.size, 1, none⟩ = some (.int .i64 (T 2)) := Haz4.out.cell 1
      have qa2_4 : wz4.cell? ⟨wz1.heap.size, 2, none⟩ = some (.int .i64 (T 3)) := Haz4.out.cell 2
      have qa3_4 : wz4.cell? ⟨wz1.heap.size, 3, none⟩ = some (.int .i64 (T 4)) := Haz4.out.cell 3
      have qa4_4 : wz4.cell? ⟨wz1.heap.size, 4, none⟩ = some (.int .i64 (T 5)) := Haz4.out.cell 4
      have qa5_4 : wz4.cell? ⟨wz1.heap.size, 5, none⟩ = some (.int .i64 (T 6)) := Haz4.out.cell 5
      have qa6_4 : wz4.cell? ⟨wz1.heap.size, 6, none⟩ = some (.int .i64 (T 7)) := Haz4.out.cell 6
      have qa7_4 : wz4.cell? ⟨wz1.heap.size, 7, none⟩ = some (.int .i64 (T 8)) := Haz4.out.cell 7
      have la_4 : wz1.heap.size < wz4.heap.size := Haz4.out.lt
      have qb0_4 : wz4.cell? ⟨wz3.heap.size, 0, none⟩ = some (.int .i64 (T 1)) := Hbz4.out.cell 0
      have qb1_4 : wz4.cell? ⟨wz3.heap.size, 1, none⟩ = some (.int .i64 (T 2)) := Hbz4.out.cell 1
      have qb2_4 : wz4.cell? ⟨wz3.heap.size, 2, none⟩ = some (.int .i64 (T 3)) := Hbz4.out.cell 2
      have qb3_4 : wz4.cell? ⟨wz3.heap.size, 3, none⟩ = some (.int .i64 (T 4)) := Hbz4.out.cell 3
      have qb4_4 : wz4.cell? ⟨wz3.heap.size, 4, none⟩ = some (.int .i64 (T 5)) := Hbz4.out.cell 4
      have qb5_4 : wz4.cell? ⟨wz3.heap.size, 5, none⟩ = some (.int .i64 (T 6)) := Hbz4.out.cell 5
      have qb6_4 : wz4.cell? ⟨wz3.heap.size, 6, none⟩ = some (.int .i64 (T 7)) := Hbz4.out.cell 6
      have qb7_4 : wz4.cell? ⟨wz3.heap.size, 7, none⟩ = some (.int .i64 (T 8)) := Hbz4.out.cell 7
      have lb_4 : wz3.heap.size < wz4.heap.size := Hbz4.out.lt
      have hcz5 := KA.out wz4
      go_wp2_with fail
      refine hcz5.mono ?_
      rintro e wz5 ⟨rfl, kz5⟩
      clear hcz5 qa0_4 qa1_4 qa2_4 qa3_4 qa4_4 qa5_4 qa6_4 qa7_4 la_4 qb0_4 qb1_4 qb2_4 qb3_4 qb4_4 qb5_4 qb6_4 qb7_4 lb_4
      have HBz5 := Lib.hid (HBz4.out.trans (kz5.mono (Nat.le_trans hbase HBz4.out.size)))
      have Haz5 := Lib.hid (Haz4.out.call kz5)
      have Hbz5 := Lib.hid (Hbz4.out.call kz5)
      have Hmz5 := Lib.hid (Hmz4.out.below kz5)
      have Htz5 := Lib.hid (Htz4.out.below kz5)
      clear kz5
      clear hq
      have hcz6 := KS2.out wz5 HBz5.out
      go_wp2_with fail
      refine hcz6.mono ?_
      rintro e wz6 ⟨mv2, cv2, rfl, hmv2, kz6⟩
      clear hcz6
      have HBz6 := Lib.hid (HBz5.out.trans (kz6.mono (Nat.le_trans hbase HBz5.out.size)))
      have Haz6 := Lib.hid (Haz5.out.call kz6)
      have Hbz6 := Lib.hid (Hbz5.out.call kz6)
      have Hmz6 := Lib.hid (Hmz5.out.below kz6)
      have Htz6 := Lib.hid (Htz5.out.below kz6)
      clear kz6
      have HMV2 := Lib.hid hmv2
      clear hmv2
      obtain ⟨ba, hba⟩ : ∃ b, wz1.heap.size = b := ⟨_, rfl⟩
      have HA := Haz6
      rw [hba] at HA ⊢
      clear hba
      have HST2 := Lib.hid (show PusRel ms more T w ba (.slice aoM j capM) mv2 (.int .i64 0) wz6 from ⟨0, Nat.zero_le _, rfl, HMV2.out, Hmz6.out, HA.out, HBz6.out⟩)
      go_wp2
      go_loopw [16, 86] (PusRel ms more T w ba (.slice aoM j capM)) (fun _ i _ => j - (intOf i).toNat)
      case atStart => exact HST2.out
      case round =>
        obtain ⟨q, hq, rfl, hr1, hr2, hA, hb⟩ := hrel
        rw [HN.out] at hq
        obtain ⟨aoP, capP, hpe⟩ := hr1.shape
        subst hpe
        have HR1 := Lib.hid hr1; have HR2 := Lib.hid hr2; have HAA := Lib.hid hA; have HB := Lib.hid hb
        have hpl : ((ms.take q).foldl pushN more).length ≤ 15 ∧ okM ((ms.take q).foldl pushN more) := by
          have gen : ∀ (l acc : List Int), acc.length ≤ 15 → okM acc → (∀ m ∈ l, 1 ≤ m ∧ m ≤ 511) → (l.foldl pushN acc).length ≤ 15 ∧ okM (l.foldl pushN acc) := by
            intro l
            induction l with
            | nil => intro acc h1 h2 _; exact ⟨h1, h2⟩
            | cons m l ih =>
              intro acc h1 h2 h3
              have h4 := pushN_len h1 m
              exact ih _ (by omega) (pushN_ok h2 (h3 m (by simp))) (fun x hx => h3 x (by simp [hx]))
          exact gen _ _ HML.out HMO.out (fun m hm => HOK.out m (List.mem_of_mem_take hm))
        obtain ⟨L, hL⟩ : ∃ L, (ms.take q).foldl pushN more = L := ⟨_, rfl⟩
        rw [hL] at HR1 hr1 hpl ⊢
        have HL := Lib.hid hL
        obtain ⟨nL, hnL⟩ : ∃ z, L.length = z := ⟨_, rfl⟩
        rw [hnL] at HR1 hpl ⊢
        have HNL := Lib.hid hnL
        obtain ⟨hpl1, hpl2⟩ := hpl
        by_cases hlt : q < j
        · obtain ⟨m, hm⟩ : ∃ m, ms[q]? = some m := ⟨_, List.getElem?_eq_getElem (by rw [HN.out]; exact hlt)⟩
          obtain ⟨bm, om, hao, hbl, hcm⟩ := hr2.spot hm
          subst hao
          have HM := Lib.hid hm
          have hpush := KP.out L m wr _ hpl2 (by rw [hnL]; exact hpl1) (HOK.out m (List.mem_of_getElem? hm)) HR1.out
          have HPU := Lib.hid hpush
          have hlen := pushN_len (show L.length ≤ 15 by rw [hnL]; exact hpl1) m
          rw [hnL] at hlen
          have HLEN := Lib.hid hlen
          have hjz : (q : Int) < (j : Int) := by omega
          have hjx : 0 ≤ (q : Int) ∧ (q : Int) < (j : Int) := by omega
          clear hr1 hr2 hA hb hL hnL hpl2 hm hpush hlen hq hlt
          go_wp2_with fail
          refine HPU.out.mono ?_
          rintro e w5 ⟨v', rfl, hv', k5⟩
          obtain ⟨aoV, capV, hve⟩ := hv'.shape
          subst hve
          have HV := Lib.hid hv'
          have HR3 := Lib.hid (HR2.out.below k5); have HA5 := Lib.hid (HAA.out.call k5); have HB5 := Lib.hid (HB.out.trans (k5.mono HB.out.size))
          rw [HLEN.out] at HV ⊢
          have HQ := Lib.hid (show PusRel ms more T w ba (.slice (some ⟨bm, om, none⟩) j capM) (.slice aoV (min (nL + 1) 15) capV) (.int .i64 ((q : Int) + 1)) w5 from ⟨q + 1, by rw [HN.out]; omega, by first | rfl | go_num, by
            have e : (ms.take (q + 1)).foldl pushN more = pushN L m := by rw [List.take_add_one, HM.out, List.foldl_append, HL.out]; rfl
            rw [e]
            exact HV.out, HR3.out, HA5.out, HB5.out⟩)
          obtain ⟨z, hz⟩ : ∃ z, min (nL + 1) 15 = z := ⟨_, rfl⟩
          rw [hz] at HQ ⊢
          have hmin : min ((nL : Int) + 1) 15 = (z : Int) := by omega
          have hzz : ((z : Int) != (z : Int)) = false := by simp
          have hnn : wrap64 ((nL : Int) + 1) = (nL : Int) + 1 := by unfold wrap64; omega
          clear hv' k5 hcm hbl hz
          go_wp2
          go_roundw
          case rel => exact HQ.out
          case measure => simp [intOf]; omega
        · obtain rfl : q = j := by omega
          have e : ms.take q = ms := List.take_of_length_le (by rw [HN.out]; exact Nat.le_refl _)
          rw [e] at hL
          have hkc := KC.out wr _ (show ReadsI wr (.slice aoP nL capP) (ms.foldl pushN more) by rw [hL]; exact HR1.out)
          have HKC := Lib.hid hkc
          obtain ⟨W3, hW3⟩ : ∃ W : World, W = wr := ⟨_, rfl⟩
          rw [← hW3] at HKC HAA HB ⊢
          clear hr1 hr2 hA hb hL hnL hpl1 hpl2 e hkc hW3 hq hlt
          have hcz61 := HKC.out
          go_wp2_with fail
          refine hcz61.mono ?_
          rintro e wz61 ⟨rfl, kz61⟩
          clear hcz61
          have HBz61 := Lib.hid (HB.out.trans (kz61.mono (Nat.le_trans hbase HB.out.size)))
          have Haz61 := Lib.hid (HAA.out.call kz61)
          clear kz61
          obtain ⟨wz62, hwz62⟩ : ∃ wz62, wz61.alloc (.cells #[.int .i64 (C 1), .int .i64 (C 2), .int .i64 (C 3), .int .i64 (C 4), .int .i64 (C 5), .int .i64 (C 6), .int .i64 (C 7), .int .i64 (C 8)] 31) = wz62 := ⟨_, rfl⟩
          have kz62 : Below wz61.heap.size wz61 wz62 := by rw [← hwz62]; exact (Below.refl _ _).alloc (Nat.le_refl _) _
          have Hcz62 := Lib.hid (show Has wz62 wz61.heap.size [.int .i64 (C 1), .int .i64 (C 2), .int .i64 (C 3), .int .i64 (C 4), .int .i64 (C 5), .int .i64 (C 6), .int .i64 (C 7), .int .i64 (C 8)] 31 by rw [← hwz62]; exact Has.new _ _ _)
          have HWz62 := Lib.hid hwz62
          clear hwz62
          have HBz62 := Lib.hid (HBz61.out.trans (kz62.mono (Nat.le_trans hbase HBz61.out.size)))
          have Haz62 := Lib.hid (Haz61.out.call kz62)
          clear kz62
          go_upto_region 28 with fail
          rw [HWz62.out]
          obtain ⟨bc, hbc⟩ : ∃ b, wz61.heap.size = b := ⟨_, rfl⟩
          have HCC := Hcz62
          rw [hbc] at HCC ⊢
          clear hbc
          have HST3 := Lib.hid (show EndRel4 T C w ba bc (.int .i64 0) wz62 from ⟨0, by omega, rfl, Haz62.out, HCC.out, HBz62.out⟩)
          go_wp2
          obtain ⟨KV, hKV⟩ : ∃ V, Value.agg #[.int .i64 1, .int .i64 9, .int .i64 6, .int .i64 14, .int .i64 3, .int .i64 5, .int .i64 15, .int .i64 8] = V := ⟨_, rfl⟩
          have hix := fun i hi W => long_at i hi W
          rw [hKV] at hix
          have HIX := Lib.hid hix
          first | rw [hKV] | skip
          clear hix
          go_loopw [117] (EndRel4 T C w ba bc) (fun y _ => 8 - (intOf y).toNat)
          case atStart => exact HST3.out
          case round =>
            obtain ⟨i, hi, rfl, hA, hC, hb⟩ := hrel
            have HAA := Lib.hid hA; have HCC := Lib.hid hC; have HB := Lib.hid hb
            clear hA hC hb
            by_cases h8 : i < 8
            · have hix := HIX.out i h8
              obtain ⟨f1, f2⟩ := H1.out (i + 1) (by omega) (by omega)
              rw [HN.out] at f1 f2
              have hlt : (i : Int) < 8 := by omega
              have hlx : 0 ≤ (i : Int) ∧ (i : Int) < 8 := by omega
              have c1 : wr.cell? ⟨ba, i, none⟩ = some (.int .i64 (T (i + 1))) := (HAA.out.cell i).trans (li_at T i h8)
              have c2 : wr.cell? ⟨bc, i, none⟩ = some (.int .i64 (C (i + 1))) := (HCC.out.cell i).trans (li_at C i h8)
              have l1 := HAA.out.lt
              have l2 := HCC.out.lt
              have HQ := Lib.hid (show ∀ W, (∃ m, W = wr.drewN m) → EndRel4 T C w ba bc (.int .i64 ((i : Int) + 1)) W from fun W hW => by
                obtain ⟨m, rfl⟩ := hW
                exact ⟨i + 1, by omega, by first | rfl | go_num, HAA.out.of rfl, HCC.out.of rfl, Below.drewN HB.out m⟩)
              obtain ⟨t, ht⟩ : ∃ t, T (i + 1) = t := ⟨_, rfl⟩
              obtain ⟨s, hs⟩ : ∃ s, C (i + 1) = s := ⟨_, rfl⟩
              obtain ⟨g, hg⟩ : ∃ g, longN (i + 1) = g := ⟨_, rfl⟩
              rw [ht] at c1 f1 f2
              rw [hs] at c2 f1
              rw [hg] at hix f1 f2
              by_cases e : g ≤ q
              · obtain rfl := f1 e
                have g1 : (g : Int) ≤ (q : Int) := by omega
                have g2 : ¬ (q : Int) < (g : Int) := by omega
                clear f1 f2 hi ht hs hg e
                go_upto_region 33 with fail
                clear hix
                go_region
                all_goals
                  go_wp2
                  go_roundw
                  case rel => first | exact HQ.out _ ⟨0, rfl⟩ | exact HQ.out _ ⟨1, rfl⟩
                  case measure => simp [intOf]; omega
              · obtain rfl := f2 (by omega)
                have g1 : ¬ (g : Int) ≤ (q : Int) := by omega
                have g2 : (q : Int) < (g : Int) := by omega
                clear f1 f2 hi ht hs hg e
                go_upto_region 33 with fail
                clear hix
                go_region
                all_goals
                  go_wp2
                  go_roundw
                  case rel => first | exact HQ.out _ ⟨0, rfl⟩ | exact HQ.out _ ⟨1, rfl⟩
                  case measure => simp [intOf]; omega
            · obtain rfl : i = 8 := by omega
              go_wp2
              go_ret
              exact ⟨rfl, HB.out⟩
end Go.Proofs.Ytjonpcpcokapkaa

/- The law of NelsonTurns: put together. -/
namespace Go.Proofs.Ytjonpcpcokapkaa
open Go.RowKit

theorem push_okM : ∀ (l acc : List Int), acc.length ≤ 15 → okM acc → (∀ m ∈ l, 1 ≤ m ∧ m ≤ 511) → (l.foldl pushN acc).length ≤ 15 ∧ okM (l.foldl pushN acc)
  | [], acc, h1, h2, _ => ⟨h1, h2⟩
  | m :: l, acc, h1, h2, h3 => by
    have h4 := pushN_len h1 m
    exact push_okM l _ (by omega) (pushN_ok h2 (h3 m (by simp))) (fun x hx => h3 x (by simp [hx]))
theorem turns14_walk (H : NelCode) (l ah : List Int) (u v : Value) (w : World) (hr : ReadsI w u l) (hp : ReadsI w v ah) :
    Calls Try.prog 7 #[u, v] w fun e w' => e = .returned (.bool true) ∧ Below w.heap.size w w' := by
  have hs := some14_any l [] u (.slice Option.none 0 0) w hr (ReadsI.none w)
  have hs2 := fun W (hW : Below w.heap.size w W) => some14_any ah [] v (.slice Option.none 0 0) W (hp.below hW) (ReadsI.none W)
  obtain ⟨ms, hms⟩ : ∃ ms, (l.take 15).map mskOf = ms := ⟨_, rfl⟩
  obtain ⟨more, hmo⟩ : ∃ more, (ah.take 15).map mskOf = more := ⟨_, rfl⟩
  have hok : okM ms := by rw [← hms]; exact okM_some _
  have hml : ms.length ≤ 15 := by rw [← hms, List.length_map, List.length_take]; omega
  have hok2 : okM more := by rw [← hmo]; exact okM_some _
  have hml2 : more.length ≤ 15 := by rw [← hmo, List.length_map, List.length_take]; omega
  rw [hms] at hs
  rw [hmo] at hs2
  have e1 : ∀ q, okM q → q.length ≤ 15 → telE q = 0 ∧ ∀ j, telT q j = tellN j q := fun q h1 h2 => ⟨if_pos (masksB_of h1 h2), fun j => if_pos (masksB_of h1 h2)⟩
  have htell : ∀ q, okM q → q.length ≤ 15 → ∀ W v, ReadsI W v q → Calls Try.prog 13 #[v] W fun e w' => e = .returned (.tuple #[.agg #[.int .i64 (telT q 1), .int .i64 (telT q 2), .int .i64 (telT q 3), .int .i64 (telT q 4), .int .i64 (telT q 5), .int .i64 (telT q 6), .int .i64 (telT q 7), .int .i64 (telT q 8)], .int .i64 0]) ∧ Below W.heap.size W w' := fun q h1 h2 W v hv => by
    have := H.tell q v W (by omega) hv
    rw [(e1 q h1 h2).1] at this
    exact this
  have hokt : okM (ms.map turnN) := fun m hm => by
    obtain ⟨x, hx, rfl⟩ := List.mem_map.1 hm
    exact turn_bounds (hok x hx)
  have hlt : (ms.map turnN).length ≤ 15 := by rw [List.length_map]; exact hml
  have htt : ∀ j, telT (ms.map turnN) j = telT ms j := fun j => by rw [(e1 _ hokt hlt).2, (e1 _ hok hml).2]; exact tell_turn hok
  obtain ⟨hpl, hpo⟩ := push_okM ms more hml2 hok2 hok
  refine turns14_core (telT ms) (telT (ms.foldl pushN more)) ms more u v w hml hok hml2 hok2 (hs.mono fun e w' ⟨mv, cv, q1, q2, q3, q4⟩ => ⟨mv, cv, q1, q2.reads, q4⟩) (fun W hW => (hs2 W hW).mono fun e w' ⟨mv, cv, q1, q2, q3, q4⟩ => ⟨mv, cv, q1, q2.reads, q4⟩)
    (fun W => alive14_any H W) (htell ms hok hml) (fun W v hv => ?_) (fun q m W v h1 h2 h3 hv => ?_) (htell _ hpo hpl) (fun k h1 h8 => ⟨fun h => ?_, fun h => ?_⟩)
  · have := htell _ hokt hlt W v hv
    rw [htt 1, htt 2, htt 3, htt 4, htt 5, htt 6, htt 7, htt 8] at this
    exact this
  · have := H.push q m v W (by omega) hv
    have hc : (masksB q && maskB m) = true := by rw [masksB_of h1 h2, show maskB m = true from decide_eq_true h3]; rfl
    rw [show pshE q m = 0 from if_pos hc, show pshL q m = pushN q m from if_pos hc] at this
    exact this
  · rw [(e1 _ hpo hpl).2, (e1 _ hok hml).2]
    obtain ⟨p, e, _⟩ := push_last ms more hml2 hml
    rw [e]
    exact tell_append h
  · rw [(e1 _ hok hml).2]
    exact tell_short h
end Go.Proofs.Ytjonpcpcokapkaa
