/- The law of NelsonNarrows: its walk. -/
import Derived.Test.YtjonpcpcokapkaaNelP
import Derived.Test.YtjonpcpcokapkaaNelQ
namespace Go.Proofs.Ytjonpcpcokapkaa
open Go.RowKit

theorem ReadsI.none (w : World) : ReadsI w (.slice none 0 0) [] := ⟨Option.none, 0, rfl, Nat.le_refl _, Nat.zero_le _, fun _ hi => absurd hi (Nat.not_lt_zero _)⟩
def NarRel (X Y : Nat → Int) (w : World) (b c : Nat) (y : Value) (wr : World) : Prop :=
  ∃ i : Nat, i ≤ 8 ∧ y = .int .i64 (i : Nat) ∧ Has wr b [.int .i64 (X 1), .int .i64 (X 2), .int .i64 (X 3), .int .i64 (X 4), .int .i64 (X 5), .int .i64 (X 6), .int .i64 (X 7), .int .i64 (X 8)] 31 ∧ Has wr c [.int .i64 (Y 1), .int .i64 (Y 2), .int .i64 (Y 3), .int .i64 (Y 4), .int .i64 (Y 5), .int .i64 (Y 6), .int .i64 (Y 7), .int .i64 (Y 8)] 31 ∧ Below w.heap.size w wr
set_option linter.unusedSimpArgs false in
set_option linter.unusedVariables false in
set_option maxHeartbeats 8000000 in
set_option maxRecDepth 100000 in
theorem narrows14_core (T X Y : Nat → Int) (ms : List Int) (at' part m : Int) (k : Nat) (u : Value) (w : World) (hl : ms.length ≤ 15)
    (ks : Calls Try.prog 20 #[u, .slice none 0 0] w fun e w' => ∃ mv cv, e = .returned (.tuple #[mv, cv]) ∧ IRow w.heap.size mv ms w' ∧ Below w.heap.size w w')
    (ka : (∀ W, Calls Try.prog 11 #[] W fun e w' => e = .returned (.bool true) ∧ Below W.heap.size W w'))
    (hk : 1 ≤ ms.length → ms[k]? = some m ∧ pickI at' ms.length = (k : Int))
    (kt : (∀ W v, ReadsI W v ms → Calls Try.prog 13 #[v] W fun e w' => e = .returned (.tuple #[.agg #[.int .i64 (T 1), .int .i64 (T 2), .int .i64 (T 3), .int .i64 (T 4), .int .i64 (T 5), .int .i64 (T 6), .int .i64 (T 7), .int .i64 (T 8)], .int .i64 0]) ∧ Below W.heap.size W w'))
    (kx : (bits .and .i64 m part) ≠ 0 → (bits .andNot .i64 m part) ≠ 0 → (∀ W v, ReadsI W v (ms.set k (bits .and .i64 m part)) → Calls Try.prog 13 #[v] W fun e w' => e = .returned (.tuple #[.agg #[.int .i64 (X 1), .int .i64 (X 2), .int .i64 (X 3), .int .i64 (X 4), .int .i64 (X 5), .int .i64 (X 6), .int .i64 (X 7), .int .i64 (X 8)], .int .i64 0]) ∧ Below W.heap.size W w'))
    (ky : (bits .and .i64 m part) ≠ 0 → (bits .andNot .i64 m part) ≠ 0 → (∀ W v, ReadsI W v (ms.set k (bits .andNot .i64 m part)) → Calls Try.prog 13 #[v] W fun e w' => e = .returned (.tuple #[.agg #[.int .i64 (Y 1), .int .i64 (Y 2), .int .i64 (Y 3), .int .i64 (Y 4), .int .i64 (Y 5), .int .i64 (Y 6), .int .i64 (Y 7), .int .i64 (Y 8)], .int .i64 0]) ∧ Below W.heap.size W w'))
    (h1 : (bits .and .i64 m part) ≠ 0 → (bits .andNot .i64 m part) ≠ 0 → 1 ≤ ms.length → ∀ j, 1 ≤ j → j ≤ 8 → T j = if X j = Y j then X j else 1) :
    Calls Try.prog 6 #[u, .int .i64 at', .int .i64 part] w fun e w' => e = .returned (.bool true) ∧ Below w.heap.size w w' := by
  have KS := Lib.hid ks; have KA := Lib.hid ka; have KT := Lib.hid kt; have KX := Lib.hid kx; have KY := Lib.hid ky; have H1 := Lib.hid h1; have HKK := Lib.hid hk
  have HB1 := Lib.hid (Below.refl w.heap.size w)
  have hbase := Nat.le_refl w.heap.size
  clear ks ka kt kx ky h1 hk
  go_enter Try.func6, Try.ntmps6
  go_wp2_with fail
  refine KS.out.mono ?_
  rintro e w1 ⟨mv, cv, rfl, hmv, k1⟩
  obtain ⟨aoM, capM, hme⟩ := hmv.shape
  subst hme
  have HMV := Lib.hid hmv; have HW1 := Lib.hid k1
  obtain ⟨n, hn⟩ : ∃ n, ms.length = n := ⟨_, rfl⟩
  rw [hn] at HMV hl HKK ⊢
  have HN := Lib.hid hn
  clear k1 hn
  by_cases h0 : n = 0
  · subst h0
    clear hmv hl
    go_wp2_with fail
    refine (KA.out _).mono ?_
    rintro e w2 ⟨rfl, k2⟩
    have HF := Lib.hid (HW1.out.trans (k2.mono HW1.out.size))
    clear k2
    go_wp2
    go_ret
    exact ⟨rfl, HF.out⟩
  · have hn1 : 1 ≤ n := by omega
    obtain ⟨hm, hpk⟩ := HKK.out hn1
    obtain ⟨gm, hg⟩ := IRow.ptr hmv (by rw [HN.out]; omega)
    subst hg
    have hkn : k < n := by rw [← HN.out]; exact (List.getElem?_eq_some_iff.1 hm).1
    have hcm := HMV.out.cellAt (k := k) (by rw [HN.out]; exact hkn)
    have hgd : ms.getD k 0 = m := by rw [List.getD_eq_getElem?_getD, hm]; rfl
    rw [hgd] at hcm
    have hgl := (World.ownsRow.lt HMV.out gm rfl).2
    have HGL := Lib.hid hgl
    obtain ⟨p1, p2, p3, p4⟩ := pickI_nums at' n hn1
    have hpk2 : (at'.tmod (n : Int) + (n : Int)).tmod (n : Int) = (k : Int) := hpk
    obtain ⟨P1, hP1⟩ : ∃ P, at'.tmod (n : Int) = P := ⟨_, rfl⟩
    rw [hP1] at hpk2 p1 p2
    have hnz : ¬ (n : Int) = 0 := by omega
    have hnz2 : ((n : Int) == 0) = false := beq_false_of_ne hnz
    have hkx : 0 ≤ (k : Int) ∧ (k : Int) < (n : Int) := by omega
    have hkz : (k : Int) < (n : Int) := by omega
    have HKN := Lib.hid hkn
    clear hmv hm hpk p3 p4 hgd h0 hkn
    go_upto_region 7 with fail
    clear hpk2 hP1 p1 p2 hnz hnz2 hcm hgl
    by_cases z1 : (bits .and .i64 m part) = 0
    · have g1 : ((bits .and .i64 m part) == 0) = true := by rw [z1]; rfl
      clear z1
      go_wp2_with fail
      refine (KA.out _).mono ?_
      rintro e w2 ⟨rfl, k2⟩
      have HF := Lib.hid (HW1.out.trans (k2.mono HW1.out.size))
      clear k2
      go_wp2
      go_ret
      exact ⟨rfl, HF.out⟩
    · have g1 : ((bits .and .i64 m part) == 0) = false := beq_false_of_ne z1
      by_cases z2 : (bits .andNot .i64 m part) = 0
      · have g2 : ((bits .andNot .i64 m part) == 0) = true := by rw [z2]; rfl
        clear z1 z2
        go_wp2_with fail
        refine (KA.out _).mono ?_
        rintro e w2 ⟨rfl, k2⟩
        have HF := Lib.hid (HW1.out.trans (k2.mono HW1.out.size))
        clear k2
        go_wp2
        go_ret
        exact ⟨rfl, HF.out⟩
      · have g2 : ((bits .andNot .i64 m part) == 0) = false := beq_false_of_ne z2
        have K3 := Lib.hid (KX.out z1 z2); have K4 := Lib.hid (KY.out z1 z2); have H2 := Lib.hid (H1.out z1 z2 (by rw [HN.out]; exact hn1))
        clear z1 z2
        go_upto_region 9 with fail
        clear g1 g2
        obtain ⟨o1, ho1⟩ : ∃ o, (bits .and .i64 m part) = o := ⟨_, rfl⟩
        obtain ⟨o2, ho2⟩ : ∃ o, (bits .andNot .i64 m part) = o := ⟨_, rfl⟩
        rw [ho1] at K3 ⊢
        rw [ho2] at K4 ⊢
        clear ho1 ho2
        have hs1 : (w1.alloc (.cells #[] 3)).heap.size = w1.heap.size + 1 := by simp
        have HS1 := Lib.hid hs1
        have HM1 := Lib.hid (HMV.out.alloc (.cells #[] 3))
        clear hs1
        go_wp2_with (at_builtin; refine wpList_append_ints rfl (.tmp 60) (.tmp 61) rfl w1.heap.size _ [] ms rfl (IRow.made w1) (some ⟨gm, 0, none⟩) n capM rfl HM1.out.reads (by rw [HN.out]; show 0 + n ≤ _; omega) (by rw [HS1.out]; omega) ?_)
        intro va w2 hia hga
        replace hia : IRow w1.heap.size va ms w2 := hia
        have HIA := Lib.hid hia
        have hb2 : Below w1.heap.size w1 w2 := by
          have hq : Below w1.heap.size w1 (w1.alloc (.cells #[] 3)) := (Below.refl _ _).alloc (Nat.le_refl _) _
          exact ⟨hga.os.trans hq.os, hga.tape.trans hq.tape, hga.output.trans hq.output, Nat.le_trans hq.size hga.size, fun k hk => (hga.block k (by rw [HS1.out]; omega) (fun e => by injection e with e; have e2 : k = w1.heap.size := e; omega)).trans (hq.block k hk)⟩
        have HB2 := Lib.hid hb2
        have HM2 := Lib.hid (HMV.out.below hb2)
        clear hia hga hb2
        have hs2 : (w2.alloc (.cells #[] 3)).heap.size = w2.heap.size + 1 := by simp
        have HS2 := Lib.hid hs2
        have HM3 := Lib.hid (HM2.out.alloc (.cells #[] 3))
        clear hs2
        go_wp2_with (at_builtin; refine wpList_append_ints rfl (.tmp 63) (.tmp 64) rfl w2.heap.size _ [] ms rfl (IRow.made w2) (some ⟨gm, 0, none⟩) n capM rfl HM3.out.reads (by rw [HN.out]; show 0 + n ≤ _; omega) (by rw [HS2.out]; omega) ?_)
        intro vb w3 hib hgb
        replace hib : IRow w2.heap.size vb ms w3 := hib
        have HIB := Lib.hid hib
        have hb3 : Below w2.heap.size w2 w3 := by
          have hq : Below w2.heap.size w2 (w2.alloc (.cells #[] 3)) := (Below.refl _ _).alloc (Nat.le_refl _) _
          exact ⟨hgb.os.trans hq.os, hgb.tape.trans hq.tape, hgb.output.trans hq.output, Nat.le_trans hq.size hgb.size, fun k hk => (hgb.block k (by rw [HS2.out]; omega) (fun e => by injection e with e; have e2 : k = w2.heap.size := e; omega)).trans (hq.block k hk)⟩
        have HM4 := Lib.hid (HM2.out.below hb3)
        have HIA3 := Lib.hid (HIA.out.below hb3)
        have HB3 := Lib.hid ((HW1.out.trans (HB2.out.mono HW1.out.size)).trans (hb3.mono (Nat.le_trans HW1.out.size HB2.out.size)))
        clear hib hgb hb3
        obtain ⟨aoA, capA, hae⟩ := HIA.out.shape
        subst hae
        obtain ⟨aoB, capB, hbe⟩ := HIB.out.shape
        subst hbe
        rw [HN.out] at HIA HIA3 HIB ⊢
        obtain ⟨ga, hga⟩ := IRow.ptr HIA.out (by rw [HN.out]; omega)
        subst hga
        obtain ⟨gb, hgb⟩ := IRow.ptr HIB.out (by rw [HN.out]; omega)
        subst hgb
        have la := World.ownsRow.lt HIA.out ga rfl
        have lb := World.ownsRow.lt HIB.out gb rfl
        have lm := HGL.out
        have ca := HIA3.out.cellAt (k := k) (by rw [HN.out]; exact HKN.out)
        have cb := HIB.out.cellAt (k := k) (by rw [HN.out]; exact HKN.out)
        have fa := HIA3.out.thaw k
        have fb := HIB.out.thaw k
        have hne : gb ≠ ga := by omega
        have la3 : ga < w3.heap.size := (World.ownsRow.lt HIA3.out ga rfl).2
        have hw1 := HW1.out.size
        have HX4 := Lib.hid (show IRow w1.heap.size (.slice (some ⟨ga, 0, none⟩) n capA) (ms.set k o1) ((w3.setCell ⟨ga, k, none⟩ (.int .i64 o1)).setCell ⟨gb, k, none⟩ (.int .i64 o2)) from ownsRow_setCell_other (HIA3.out.setAt k o1) (fun c => by injection c with c; have c2 : ga = gb := c; omega) _)
        have HY4 := Lib.hid (show IRow w2.heap.size (.slice (some ⟨gb, 0, none⟩) n capB) (ms.set k o2) ((w3.setCell ⟨ga, k, none⟩ (.int .i64 o1)).setCell ⟨gb, k, none⟩ (.int .i64 o2)) from IRow.setAt (ownsRow_setCell_other HIB.out (fun c => by injection c with c; have c2 : gb = ga := c; omega) _) k o2)
        have HZ4 := Lib.hid (show IRow w.heap.size (.slice (some ⟨gm, 0, none⟩) n capM) ms ((w3.setCell ⟨ga, k, none⟩ (.int .i64 o1)).setCell ⟨gb, k, none⟩ (.int .i64 o2)) from ownsRow_setCell_other (ownsRow_setCell_other HM4.out (fun c => by injection c with c; have c2 : gm = ga := c; omega) _) (fun c => by injection c with c; have c2 : gm = gb := c; omega) _)
        have HW4 := Lib.hid (show Below w.heap.size w ((w3.setCell ⟨ga, k, none⟩ (.int .i64 o1)).setCell ⟨gb, k, none⟩ (.int .i64 o2)) from (HB3.out.setCell (by dsimp only; omega) _).setCell (by dsimp only; omega) _)
        clear la lb lm hw1
        go_upto_region 11 with fail
        clear ca cb fa fb hne la3
        obtain ⟨w4, hw4⟩ : ∃ w4, (w3.setCell ⟨ga, k, none⟩ (.int .i64 o1)).setCell ⟨gb, k, none⟩ (.int .i64 o2) = w4 := ⟨_, rfl⟩
        rw [hw4] at HX4 HY4 HZ4 HW4 ⊢
        clear hw4
        have HRX := Lib.hid HX4.out.reads; have HRY := Lib.hid HY4.out.reads; have HRZ := Lib.hid HZ4.out.reads
        have hcz1 := KT.out w4 _ HRZ.out
        go_wp2_with fail
        refine hcz1.mono ?_
        rintro e wz1 ⟨rfl, kz1⟩
        clear hcz1
        have HBz1 := Lib.hid (HW4.out.trans (kz1.mono (Nat.le_trans hbase HW4.out.size)))
        have Hmz1 := Lib.hid (HRZ.out.below kz1)
        have Hxz1 := Lib.hid (HRX.out.below kz1)
        have Hyz1 := Lib.hid (HRY.out.below kz1)
        clear kz1
        obtain ⟨wz2, hwz2⟩ : ∃ wz2, wz1.alloc (.cells #[.int .i64 (T 1), .int .i64 (T 2), .int .i64 (T 3), .int .i64 (T 4), .int .i64 (T 5), .int .i64 (T 6), .int .i64 (T 7), .int .i64 (T 8)] 31) = wz2 := ⟨_, rfl⟩
        have kz2 : Below wz1.heap.size wz1 wz2 := by rw [← hwz2]; exact (Below.refl _ _).alloc (Nat.le_refl _) _
        have Haz2 := Lib.hid (show Has wz2 wz1.heap.size [.int .i64 (T 1), .int .i64 (T 2), .int .i64 (T 3), .int .i64 (T 4), .int .i64 (T 5), .int .i64 (T 6), .int .i64 (T 7), .int .i64 (T 8)] 31 by rw [← hwz2]; exact Has.new _ _ _)
        have HWz2 := Lib.hid hwz2
        clear hwz2
        have HBz2 := Lib.hid (HBz1.out.trans (kz2.mono (Nat.le_trans hbase HBz1.out.size)))
        have Hmz2 := Lib.hid (Hmz1.out.below kz2)
        have Hxz2 := Lib.hid (Hxz1.out.below kz2)
        have Hyz2 := Lib.hid (Hyz1.out.below kz2)
        clear kz2
        go_upto_region 12 with fail
        rw [HWz2.out]
        have hcz3 := K3.out wz2 _ Hxz2.out
        go_wp2_with fail
        refine hcz3.mono ?_
        rintro e wz3 ⟨rfl, kz3⟩
        clear hcz3
        have HBz3 := Lib.hid (HBz2.out.trans (kz3.mono (Nat.le_trans hbase HBz2.out.size)))
        have Haz3 := Lib.hid (Haz2.out.call kz3)
        have Hmz3 := Lib.hid (Hmz2.out.below kz3)
        have Hxz3 := Lib.hid (Hxz2.out.below kz3)
        have Hyz3 := Lib.hid (Hyz2.out.below kz3)
        clear kz3
        obtain ⟨wz4, hwz4⟩ : ∃ wz4, wz3.alloc (.cells #[.int .i64 (X 1), .int .i64 (X 2), .int .i64 (X 3), .int .i64 (X 4), .int .i64 (X 5), .int .i64 (X 6), .int .i64 (X 7), .int .i64 (X 8)] 31) = wz4 := ⟨_, rfl⟩
        have kz4 : Below wz3.heap.size wz3 wz4 := by rw [← hwz4]; exact (Below.refl _ _).alloc (Nat.le_refl _) _
        have Hbz4 := Lib.hid (show Has wz4 wz3.heap.size [.int .i64 (X 1), .int .i64 (X 2), .int .i64 (X 3), .int .i64 (X 4), .int .i64 (X 5), .int .i64 (X 6), .int .i64 (X 7), .int .i64 (X 8)] 31 by rw [← hwz4]; exact Has.new _ _ _)
        have HWz4 := Lib.hid hwz4
        clear hwz4
        have HBz4 := Lib.hid (HBz3.out.trans (kz4.mono (Nat.le_trans hbase HBz3.out.size)))
        have Haz4 := Lib.hid (Haz3.out.call kz4)
        have Hmz4 := Lib.hid (Hmz3.out.below kz4)
        have Hxz4 := Lib.hid (Hxz3.out.below kz4)
        have Hyz4 := Lib.hid (Hyz3.out.below kz4)
        clear kz4
        go_upto_region 13 with fail
        rw [HWz4.out]
        have hcz5 := K4.out wz4 _ Hyz4.out
        go_wp2_with fail
        refine hcz5.mono ?_
        rintro e wz5 ⟨rfl, kz5⟩
        clear hcz5
        have HBz5 := Lib.hid (HBz4.out.trans (kz5.mono (Nat.le_trans hbase HBz4.out.size)))
        have Haz5 := Lib.hid (Haz4.out.call kz5)
        have Hbz5 := Lib.hid (Hbz4.out.call kz5)
        have Hmz5 := Lib.hid (Hmz4.out.below kz5)
        have Hxz5 := Lib.hid (Hxz4.out.below kz5)
        have Hyz5 := Lib.hid (Hyz4.out.below kz5)
        clear kz5
        obtain ⟨wz6, hwz6⟩ : ∃ wz6, wz5.alloc (.cells #[.int .i64 (Y 1), .int .i64 (Y 2), .int .i64 (Y 3), .int .i64 (Y 4), .int .i64 (Y 5), .int .i64 (Y 6), .int .i64 (Y 7), .int .i64 (Y 8)] 31) = wz6 := ⟨_, rfl⟩
        have kz6 : Below wz5.heap.size wz5 wz6 := by rw [← hwz6]; exact (Below.refl _ _).alloc (Nat.le_refl _) _
        have Hcz6 := Lib.hid (show Has wz6 wz5.heap.size [.int .i64 (Y 1), .int .i64 (Y 2), .int .i64 (Y 3), .int .i64 (Y 4), .int .i64 (Y 5), .int .i64 (Y 6), .int .i64 (Y 7), .int .i64 (Y 8)] 31 by rw [← hwz6]; exact Has.new _ _ _)
        have HWz6 := Lib.hid hwz6
        clear hwz6
        have HBz6 := Lib.hid (HBz5.out.trans (kz6.mono (Nat.le_trans hbase HBz5.out.size)))
        have Haz6 := Lib.hid (Haz5.out.call kz6)
        have Hbz6 := Lib.hid (Hbz5.out.call kz6)
        have Hmz6 := Lib.hid (Hmz5.out.below kz6)
        have Hxz6 := Lib.hid (Hxz5.out.below kz6)
        have Hyz6 := Lib.hid (Hyz5.out.below kz6)
        clear kz6
        go_upto_region 14 with fail
        rw [HWz6.out]
        have hcz7 := KA.out wz6
        go_wp2_with fail
        refine hcz7.mono ?_
        rintro e wz7 ⟨rfl, kz7⟩
        clear hcz7
        have HBz7 := Lib.hid (HBz6.out.trans (kz7.mono (Nat.le_trans hbase HBz6.out.size)))
        have Haz7 := Lib.hid (Haz6.out.call kz7)
        have Hbz7 := Lib.hid (Hbz6.out.call kz7)
        have Hcz7 := Lib.hid (Hcz6.out.call kz7)
        have Hmz7 := Lib.hid (Hmz6.out.below kz7)
        have Hxz7 := Lib.hid (Hxz6.out.below kz7)
        have Hyz7 := Lib.hid (Hyz6.out.below kz7)
        clear kz7
        have qa0_7 : wz7.cell? ⟨wz1.heap.size, 0, none⟩ = some (.int .i64 (T 1)) := Haz7.out.cell 0
        have qa1_7 : wz7.cell? ⟨wz1.heap.size, 1, none⟩ = some (.int .i64 (T 2)) := Haz7.out.cell 1
        have qa2_7 : wz7.cell? ⟨wz1.heap.size, 2, none⟩ = some (.int .i64 (T 3)) := Haz7.out.cell 2
        have qa3_7 : wz7.cell? ⟨wz1.heap.size, 3, none⟩ = some (.int .i64 (T 4)) := Haz7.out.cell 3
        have qa4_7 : wz7.cell? ⟨wz1.heap.size, 4, none⟩ = some (.int .i64 (T 5)) := Haz7.out.cell 4
        have qa5_7 : wz7.cell? ⟨wz1.heap.size, 5, none⟩ = some (.int .i64 (T 6)) := Haz7.out.cell 5
        have qa6_7 : wz7.cell? ⟨wz1.heap.size, 6, none⟩ = some (.int .i64 (T 7)) := Haz7.out.cell 6
        have qa7_7 : wz7.cell? ⟨wz1.heap.size, 7, none⟩ = some (.int .i64 (T 8)) := Haz7.out.cell 7
        have la_7 : wz1.heap.size < wz7.heap.size := Haz7.out.lt
        have HST := Lib.hid (show NarRel X Y w wz3.heap.size (wz5.heap.size) (.int .i64 0) wz7 from ⟨0, by omega, rfl, Hbz7.out, Hcz7.out, HBz7.out⟩)
        go_wp2
        clear qa0_7 qa1_7 qa2_7 qa3_7 qa4_7 qa5_7 qa6_7 qa7_7 la_7
        obtain ⟨bb, hbb⟩ : ∃ b, wz3.heap.size = b := ⟨_, rfl⟩
        obtain ⟨bc, hbc⟩ : ∃ b, wz5.heap.size = b := ⟨_, rfl⟩
        rw [hbb, hbc] at HST ⊢
        clear hbb hbc
        obtain ⟨TV, hTV⟩ : ∃ V, Value.agg #[.int .i64 (T 1), .int .i64 (T 2), .int .i64 (T 3), .int .i64 (T 4), .int .i64 (T 5), .int .i64 (T 6), .int .i64 (T 7), .int .i64 (T 8)] = V := ⟨_, rfl⟩
        have hix := fun i hi W => lx_at T i hi W
        rw [hTV] at hix
        have HIX := Lib.hid hix
        first | rw [hTV] | skip
        clear hix
        go_loopw [104] (NarRel X Y w bb bc) (fun y _ => 8 - (intOf y).toNat)
        case atStart => exact HST.out
        case round =>
          obtain ⟨i, hi, rfl, hB, hC, hb⟩ := hrel
          have HBB := Lib.hid hB; have HCC := Lib.hid hC; have HB := Lib.hid hb
          clear hB hC hb
          by_cases h8 : i < 8
          · have hix := HIX.out i h8
            have f1 := H2.out (i + 1) (by omega) (by omega)
            have hlt : (i : Int) < 8 := by omega
            have hlx : 0 ≤ (i : Int) ∧ (i : Int) < 8 := by omega
            have c1 : wr.cell? ⟨bb, i, none⟩ = some (.int .i64 (X (i + 1))) := (HBB.out.cell i).trans (li_at X i h8)
            have c2 : wr.cell? ⟨bc, i, none⟩ = some (.int .i64 (Y (i + 1))) := (HCC.out.cell i).trans (li_at Y i h8)
            have l1 := HBB.out.lt
            have l2 := HCC.out.lt
            have HQ := Lib.hid (show ∀ W, (∃ m, W = wr.drewN m) → NarRel X Y w bb bc (.int .i64 ((i : Int) + 1)) W from fun W hW => by
              obtain ⟨m, rfl⟩ := hW
              exact ⟨i + 1, by omega, by first | rfl | go_num, HBB.out.of rfl, HCC.out.of rfl, Below.drewN HB.out m⟩)
            obtain ⟨t, ht⟩ : ∃ t, T (i + 1) = t := ⟨_, rfl⟩
            obtain ⟨s, hs⟩ : ∃ s, X (i + 1) = s := ⟨_, rfl⟩
            obtain ⟨r, hr⟩ : ∃ r, Y (i + 1) = r := ⟨_, rfl⟩
            rw [ht] at hix f1
            rw [hs] at c1 f1
            rw [hr] at c2 f1
            by_cases e : s = r
            · rw [if_pos e] at f1
              subst e f1
              have g0 : (t == t) = true := beq_self_eq_true t
              have g5 : (t != t) = false := by rw [bne, g0]; rfl
              clear hi ht hs hr
              go_upto_region 20 with fail
              go_region
              all_goals
                go_wp2
                go_roundw
                case rel => first | exact HQ.out _ ⟨0, rfl⟩ | exact HQ.out _ ⟨1, rfl⟩
                case measure => simp [intOf]; omega
            · rw [if_neg e] at f1
              subst f1
              have g0 : (s == r) = false := beq_false_of_ne e
              clear hi ht hs hr e
              go_upto_region 20 with fail
              go_region
              all_goals
                go_wp2
                go_roundw
                case rel => first | exact HQ.out _ ⟨0, rfl⟩ | exact HQ.out _ ⟨1, rfl⟩
                case measure => simp [intOf]; omega
          · obtain rfl : i = 8 := by omega
            go_wp2
            go_ret
            exact ⟨rfl, HB.out⟩
theorem narrows14_walk (H : NelCode) (l : List Int) (at' part : Int) (u : Value) (w : World) (hr : ReadsI w u l) :
    Calls Try.prog 6 #[u, .int .i64 at', .int .i64 part] w fun e w' => e = .returned (.bool true) ∧ Below w.heap.size w w' := by
  obtain ⟨L, hL⟩ : ∃ L, l.take 15 = L := ⟨_, rfl⟩
  have h15 : L.length ≤ 15 := by rw [← hL, List.length_take]; omega
  have hs := some14_any l [] u (.slice Option.none 0 0) w hr (ReadsI.none w)
  rw [hL] at hs
  obtain ⟨ms, hms⟩ : ∃ ms, L.map mskOf = ms := ⟨_, rfl⟩
  have hok : okM ms := by rw [← hms]; exact okM_some L
  have hml : ms.length ≤ 15 := by rw [← hms, List.length_map]; exact h15
  rw [hms] at hs
  obtain ⟨k, hk⟩ : ∃ k : Nat, (1 ≤ ms.length → k < ms.length ∧ pickI at' ms.length = (k : Int)) := ⟨(pickI at' ms.length).toNat, fun h => by
    have := pickI_nums at' ms.length h
    omega⟩
  obtain ⟨m, hm⟩ : ∃ m, ms.getD k 0 = m := ⟨_, rfl⟩
  have hmk : 1 ≤ ms.length → ms[k]? = some m := fun h => by
    rw [← hm, List.getD_eq_getElem?_getD, List.getElem?_eq_getElem (hk h).1]
    rfl
  have e1 : ∀ q, okM q → q.length ≤ 15 → telE q = 0 ∧ ∀ j, telT q j = tellN j q := fun q h1 h2 => ⟨if_pos (masksB_of h1 h2), fun j => if_pos (masksB_of h1 h2)⟩
  have hset : ∀ o : Int, (1 ≤ o ∧ o ≤ 511) → okM (ms.set k o) := fun o ho x hx => by
    rcases List.mem_or_eq_of_mem_set hx with h | h
    · exact hok x h
    · rw [h]; exact ho
  have hsl : ∀ o : Int, (ms.set k o).length ≤ 15 := fun o => by rw [List.length_set]; exact hml
  have htell : ∀ q, okM q → q.length ≤ 15 → ∀ W v, ReadsI W v q → Calls Try.prog 13 #[v] W fun e w' => e = .returned (.tuple #[.agg #[.int .i64 (telT q 1), .int .i64 (telT q 2), .int .i64 (telT q 3), .int .i64 (telT q 4), .int .i64 (telT q 5), .int .i64 (telT q 6), .int .i64 (telT q 7), .int .i64 (telT q 8)], .int .i64 0]) ∧ Below W.heap.size W w' := fun q h1 h2 W v hv => by
    have := H.tell q v W (by omega) hv
    rw [(e1 q h1 h2).1] at this
    exact this
  have hparts : (bits .and .i64 m part) ≠ 0 → (bits .andNot .i64 m part) ≠ 0 → 1 ≤ ms.length → (1 ≤ (bits .and .i64 m part) ∧ (bits .and .i64 m part) ≤ 511) ∧ (1 ≤ (bits .andNot .i64 m part) ∧ (bits .andNot .i64 m part) ≤ 511) ∧ Parts m (bits .and .i64 m part) (bits .andNot .i64 m part) := fun z1 z2 hl => parts_of (hok m (List.mem_of_getElem? (hmk hl))) z1 z2
  by_cases hl0 : 1 ≤ ms.length
  · refine narrows14_core (telT ms) (telT (ms.set k (bits .and .i64 m part))) (telT (ms.set k (bits .andNot .i64 m part))) ms at' part m k u w hml (hs.mono fun e w' ⟨mv, cv, q1, q2, q3, q4⟩ => ⟨mv, cv, q1, q2, q4⟩) (fun W => alive14_any H W) (fun h => ⟨hmk h, (hk h).2⟩) (htell ms hok hml) (fun z1 z2 => htell _ (hset _ (hparts z1 z2 hl0).1) (hsl _)) (fun z1 z2 => htell _ (hset _ (hparts z1 z2 hl0).2.1) (hsl _)) (fun z1 z2 hl j h1 h8 => ?_)
    obtain ⟨q1, q2, q3⟩ := hparts z1 z2 hl
    rw [(e1 ms hok hml).2, (e1 _ (hset _ q1) (hsl _)).2, (e1 _ (hset _ q2) (hsl _)).2]
    have hkl := (hk hl).1
    have hsp : ms = ms.take k ++ m :: ms.drop (k + 1) := by
      have e := List.getElem?_eq_some_iff.1 (hmk hl)
      obtain ⟨h3, h4⟩ := e
      rw [← h4, List.getElem_cons_drop, List.take_append_drop]
    have hst : ∀ o : Int, ms.set k o = ms.take k ++ o :: ms.drop (k + 1) := fun o => List.set_eq_take_append_cons_drop .. |>.trans (if_pos hkl)
    have t1 := hset _ q1
    have t2 := hset _ q2
    rw [hst] at t1 t2
    rw [hst, hst]
    conv => lhs; rw [hsp]
    exact tell_parts q3 t1 t2
  · have hnil : ms = [] := List.eq_nil_of_length_eq_zero (by omega)
    subst hnil
    exact narrows14_core (telT []) (telT []) (telT []) [] at' part m k u w (by simp) (hs.mono fun e w' ⟨mv, cv, q1, q2, q3, q4⟩ => ⟨mv, cv, q1, q2, q4⟩) (fun W => alive14_any H W) (fun h => by simp at h) (htell [] hok hml) (fun _ _ => htell [] hok hml) (fun _ _ => htell [] hok hml) (fun _ _ h => by simp at h)
end Go.Proofs.Ytjonpcpcokapkaa
