/- The law of StatsSpread: its walk. -/
import Derived.Test.YtbpdapggdccmiaaStaL
import Derived.Test.YtbpdapggdccmiaaStaF
import Derived.Test.YtbpdapggdccmiaaStaT
namespace Go.Proofs.Ytbpdapggdccmiaa
open Go.RowKit

def SprOut (k : List Int) (n d b5 b7 : Nat) (w : World) (s i : Value) (wr : World) : Prop :=
  ∃ p : Nat, p ≤ n ∧ i = .int .i64 (p : Nat) ∧ s = .bool (decide (farO k p = 0)) ∧ Has wr b7 [.int .u64 (hi (farO k p) : Nat), .int .u64 (lo (farO k p) : Nat)] 25 ∧ Has wr b5 [.int .u64 (hi (d) : Nat), .int .u64 (lo (d) : Nat)] 25 ∧ Below w.heap.size w wr
def SprIn (k : List Int) (p M d b5 b7 : Nat) (w : World) (s j : Value) (wr : World) : Prop :=
  ∃ q : Nat, q ≤ M ∧ j = .int .i64 (q : Nat) ∧ s = .bool (decide (farO k p + farI k p q = 0)) ∧ Has wr b7 [.int .u64 (hi (farO k p + farI k p q) : Nat), .int .u64 (lo (farO k p + farI k p q) : Nat)] 25 ∧ Has wr b5 [.int .u64 (hi (d) : Nat), .int .u64 (lo (d) : Nat)] 25 ∧ Below w.heap.size w wr
set_option linter.unusedSimpArgs false in
set_option maxHeartbeats 16000000 in
set_option maxRecDepth 100000 in
theorem spreadLaw_walk (l : List Int) (v : Value) (w : World) (hr : ReadsI w v l) :
    Calls Try.prog 5 #[v] w fun e w' => e = .returned (.bool true) ∧ Below w.heap.size w w' := by
  have hso : Calls Try.prog 18 #[v, .int .i64 40] w fun e w' => ∃ v', e = .returned v' ∧ IRow w.heap.size v' (someN l 40) w' ∧ Below w.heap.size w w' := some11_any l v 40 w (by decide) hr
  have hin := someN_in l 40
  have hlen := someN_len l 40
  generalize someN l 40 = k at *
  have cof := fun W u (h : ReadsI W u k) => of11_any k u W h (by omega)
  rw [show ofS k = staOf k from if_pos hin, show ofE k = 0 from if_pos hin] at cof
  have hsq : (staOf k).sq < M128 := by have := staOf_bounds hin (by omega); unfold M128; omega
  have csp := fun W => spread11_any (staOf k) hsq W
  have hri := staOf_right hin (by omega)
  have hfo := farO_all k
  have HI := Lib.hid hin
  obtain ⟨n, hn⟩ : ∃ n, k.length = n := ⟨_, rfl⟩
  have hstn : (staOf k).n = (n : Int) := by rw [← hn]; rfl
  have hsN : sprN (staOf k) = if n = 0 then 0 else spreadN (staOf k) := by
    unfold sprN
    by_cases c : n = 0
    · rw [if_pos c, if_neg (fun h => h.2 (by omega))]
    · rw [if_neg c, if_pos ⟨hri, by omega⟩]
  have hsE : sprE (staOf k) = if n = 0 then 6 else 0 := by
    unfold sprE
    rw [if_pos hri]
    by_cases c : n = 0
    · rw [if_pos c, if_pos (by omega)]
    · rw [if_neg c, if_neg (by omega)]
  rw [hsN, hsE] at csp
  obtain ⟨d, hd⟩ : ∃ d, spreadN (staOf k) = d := ⟨_, rfl⟩
  rw [hd] at csp hfo
  rw [hn] at hfo hlen
  clear hd hri hsN hsE hsq hin
  generalize staOf k = st at *
  obtain ⟨sn, z3, q3, l3, g3⟩ := st
  dsimp only at hstn
  subst hstn
  unfold staV at cof csp
  dsimp only at cof csp
  have COF := Lib.hid cof
  have CSP := Lib.hid csp
  have HFO := Lib.hid hfo
  have HN := Lib.hid hn
  clear cof csp hfo hn hr
  go_enter Try.func5, Try.ntmps5
  go_upto_region 1 with fail
  go_wp2_with fail
  refine hso.mono ?_
  rintro e w1 ⟨u, rfl, hrow, k1⟩
  have HBW := Lib.hid k1
  have HB1 := Lib.hid (Below.refl w1.heap.size w1)
  have hrd := hrow.reads
  obtain ⟨ao, cap, rfl, hlc, hcm, -⟩ := id hrd
  rw [HN.out] at hrd hlc ⊢
  unfold maxLen at hcm
  have HL := Lib.hid hrd
  have hbase := Nat.le_refl w1.heap.size
  clear hso k1 hrow hrd
  go_upto_region 2 with fail
  have hcz1 := COF.out w1 _ HL.out
  go_wp2_with fail
  refine hcz1.mono ?_
  rintro e wz1 ⟨rfl, kz1⟩
  clear hcz1
  have HBz1 := Lib.hid (HB1.out.trans (kz1.mono (Nat.le_trans hbase HB1.out.size)))
  clear kz1
  obtain ⟨wz2, hwz2⟩ : ∃ wz2, wz1.alloc (.cells #[.int .i64 (n : Int), .int .i64 z3, .int .u64 (hi q3 : Nat), .int .u64 (lo q3 : Nat), .int .i64 l3, .int .i64 g3] 27) = wz2 := ⟨_, rfl⟩
  have kz2 : Below wz1.heap.size wz1 wz2 := by rw [← hwz2]; exact (Below.refl _ _).alloc (Nat.le_refl _) _
  have Hsz2 := Lib.hid (show Has wz2 wz1.heap.size [.int .i64 (n : Int), .int .i64 z3, .int .u64 (hi q3 : Nat), .int .u64 (lo q3 : Nat), .int .i64 l3, .int .i64 g3] 27 by rw [← hwz2]; exact Has.new _ _ _)
  have HWz2 := Lib.hid hwz2
  clear hwz2
  have HBz2 := Lib.hid (HBz1.out.trans (kz2.mono (Nat.le_trans hbase HBz1.out.size)))
  clear kz2
  go_upto_region 3 with fail
  rw [HWz2.out]
  have qs0_2 : wz2.cell? ⟨wz1.heap.size, 0, none⟩ = some (.int .i64 (n : Int)) := Hsz2.out.cell 0
  have qs1_2 : wz2.cell? ⟨wz1.heap.size, 1, none⟩ = some (.int .i64 z3) := Hsz2.out.cell 1
  have qs2_2 : wz2.cell? ⟨wz1.heap.size, 2, none⟩ = some (.int .u64 (hi q3 : Nat)) := Hsz2.out.cell 2
  have qs3_2 : wz2.cell? ⟨wz1.heap.size, 3, none⟩ = some (.int .u64 (lo q3 : Nat)) := Hsz2.out.cell 3
  have qs4_2 : wz2.cell? ⟨wz1.heap.size, 4, none⟩ = some (.int .i64 l3) := Hsz2.out.cell 4
  have qs5_2 : wz2.cell? ⟨wz1.heap.size, 5, none⟩ = some (.int .i64 g3) := Hsz2.out.cell 5
  have ls_2 : wz1.heap.size < wz2.heap.size := Hsz2.out.lt
  by_cases hz : n = 0
  · subst hz
    have hcy3 := CSP.out wz2
    have hcz3 : Calls Try.prog 9 #[.agg #[(.int .i64 0 : Value), .int .i64 z3, .int .u64 (hi q3 : Nat), .int .u64 (lo q3 : Nat), .int .i64 l3, .int .i64 g3]] wz2 fun e w' => e = .returned (.tuple #[.agg #[.int .u64 0, .int .u64 0], .int .i64 6]) ∧ Below wz2.heap.size wz2 w' := by
      rw [if_pos rfl, if_pos rfl] at hcy3
      exact hcy3
    clear hcy3
    go_wp2_with fail
    refine hcz3.mono ?_
    rintro e wz3 ⟨rfl, kz3⟩
    clear hcz3 qs0_2 qs1_2 qs2_2 qs3_2 qs4_2 qs5_2 ls_2
    have HBz3 := Lib.hid (HBz2.out.trans (kz3.mono (Nat.le_trans hbase HBz2.out.size)))
    have Hsz3 := Lib.hid (Hsz2.out.call kz3)
    clear kz3
    obtain ⟨wz4, hwz4⟩ : ∃ wz4, wz3.alloc (.cells #[.int .u64 0, .int .u64 0] 25) = wz4 := ⟨_, rfl⟩
    have kz4 : Below wz3.heap.size wz3 wz4 := by rw [← hwz4]; exact (Below.refl _ _).alloc (Nat.le_refl _) _
    have Hdz4 := Lib.hid (show Has wz4 wz3.heap.size [.int .u64 0, .int .u64 0] 25 by rw [← hwz4]; exact Has.new _ _ _)
    have HWz4 := Lib.hid hwz4
    clear hwz4
    have HBz4 := Lib.hid (HBz3.out.trans (kz4.mono (Nat.le_trans hbase HBz3.out.size)))
    have Hsz4 := Lib.hid (Hsz3.out.call kz4)
    clear kz4
    go_upto_region 4 with fail
    rw [HWz4.out]
    have hcz5 := alive11_any wz4
    go_wp2_with fail
    refine hcz5.mono ?_
    rintro e wz5 ⟨rfl, kz5⟩
    clear hcz5
    have HBz5 := Lib.hid (HBz4.out.trans (kz5.mono (Nat.le_trans hbase HBz4.out.size)))
    have Hsz5 := Lib.hid (Hsz4.out.call kz5)
    have Hdz5 := Lib.hid (Hdz4.out.call kz5)
    clear kz5
    have qd0_5 : wz5.cell? ⟨wz3.heap.size, 0, none⟩ = some (.int .u64 0) := Hdz5.out.cell 0
    have qd1_5 : wz5.cell? ⟨wz3.heap.size, 1, none⟩ = some (.int .u64 0) := Hdz5.out.cell 1
    have ld_5 : wz3.heap.size < wz5.heap.size := Hdz5.out.lt
    have hezw := eqWords 0 0 0 0
    go_wp2
    go_ret
    exact ⟨rfl, HBW.out.trans (HBz5.out.mono HBW.out.size)⟩
  · have hz1 : ((n : Int) == 0) = false := beq_false_of_ne (by omega)
    have hcz3 := CSP.out wz2
    rw [if_neg hz, if_neg hz] at hcz3
    go_wp2_with fail
    refine hcz3.mono ?_
    rintro e wz3 ⟨rfl, kz3⟩
    clear hcz3 qs0_2 qs1_2 qs2_2 qs3_2 qs4_2 qs5_2 ls_2
    have HBz3 := Lib.hid (HBz2.out.trans (kz3.mono (Nat.le_trans hbase HBz2.out.size)))
    have Hsz3 := Lib.hid (Hsz2.out.call kz3)
    clear kz3
    obtain ⟨wz4, hwz4⟩ : ∃ wz4, wz3.alloc (.cells #[.int .u64 (hi (d) : Nat), .int .u64 (lo (d) : Nat)] 25) = wz4 := ⟨_, rfl⟩
    have kz4 : Below wz3.heap.size wz3 wz4 := by rw [← hwz4]; exact (Below.refl _ _).alloc (Nat.le_refl _) _
    have Hdz4 := Lib.hid (show Has wz4 wz3.heap.size [.int .u64 (hi (d) : Nat), .int .u64 (lo (d) : Nat)] 25 by rw [← hwz4]; exact Has.new _ _ _)
    have HWz4 := Lib.hid hwz4
    clear hwz4
    have HBz4 := Lib.hid (HBz3.out.trans (kz4.mono (Nat.le_trans hbase HBz3.out.size)))
    have Hsz4 := Lib.hid (Hsz3.out.call kz4)
    clear kz4
    go_upto_region 4 with fail
    rw [HWz4.out]
    have hcz5 := alive11_any wz4
    go_wp2_with fail
    refine hcz5.mono ?_
    rintro e wz5 ⟨rfl, kz5⟩
    clear hcz5
    have HBz5 := Lib.hid (HBz4.out.trans (kz5.mono (Nat.le_trans hbase HBz4.out.size)))
    have Hsz5 := Lib.hid (Hsz4.out.call kz5)
    have Hdz5 := Lib.hid (Hdz4.out.call kz5)
    clear kz5
    go_upto_region 8 with fail
    obtain ⟨wz6, hwz6⟩ : ∃ wz6, wz5.alloc (.cells #[.int .u64 0, .int .u64 0] 25) = wz6 := ⟨_, rfl⟩
    have kz6 : Below wz5.heap.size wz5 wz6 := by rw [← hwz6]; exact (Below.refl _ _).alloc (Nat.le_refl _) _
    have Htz6 := Lib.hid (show Has wz6 wz5.heap.size [.int .u64 0, .int .u64 0] 25 by rw [← hwz6]; exact Has.new _ _ _)
    have HWz6 := Lib.hid hwz6
    clear hwz6
    have HBz6 := Lib.hid (HBz5.out.trans (kz6.mono (Nat.le_trans hbase HBz5.out.size)))
    have Hsz6 := Lib.hid (Hsz5.out.call kz6)
    have Hdz6 := Lib.hid (Hdz5.out.call kz6)
    clear kz6
    go_upto_region 10 with fail
    rw [HWz6.out]
    go_wp2_with fail
    have hne : wz3.heap.size < wz5.heap.size := Hdz5.out.lt
    have hb7 : w1.heap.size ≤ wz5.heap.size := HBz5.out.size
    go_loopw [8, 45] (SprOut k n d wz3.heap.size wz5.heap.size w1) (fun _ i _ => n - (intOf i).toNat)
    case atStart => exact ⟨0, Nat.zero_le _, rfl, rfl, by rw [show farO k 0 = 0 from rfl]; exact Htz6.out, Hdz6.out, HBz6.out⟩
    case round =>
      obtain ⟨p, hp, rfl, rfl, htH, hdH, hb⟩ := hrel
      have HT := Lib.hid htH
      have HD := Lib.hid hdH
      have HB := Lib.hid hb
      by_cases hpn : p < n
      · obtain ⟨ao', cp', e0, -, -, hcl'⟩ := HL.out.below hb
        injection e0 with e1 e2 e3
        subst e1 e3
        obtain ⟨b, off, rfl, hltb, hxc⟩ := hcl' p (by rw [HN.out]; exact hpn)
        obtain ⟨x, hxq⟩ : ∃ x, k.getD p 0 = x := ⟨_, rfl⟩
        rw [hxq] at hxc
        have hpi : (p : Int) < (n : Int) := by omega
        obtain ⟨ao2, hsl2, hrd2⟩ := slice_lo (some ⟨b, off, none⟩) n cap (p + 1) (by omega) hlc
        obtain ⟨M, hM⟩ : ∃ M, n - (p + 1) = M := ⟨_, rfl⟩
        obtain ⟨cap2, hcap2⟩ : ∃ c, cap - (p + 1) = c := ⟨_, rfl⟩
        rw [hM, hcap2] at hsl2 hrd2
        have hsl3 : ∀ W, (Instr.slice 22 (.slice (some ⟨b, off, none⟩) n cap) (some (.int .i64 ((p : Int) + 1))) none none).run Try.prog W = .ok (.slice ao2 M cap2) W := hsl2
        have HXQ := Lib.hid hxq
        have HR2 := Lib.hid hrd2
        have HM := Lib.hid hM
        clear hcl' e2 hxq htH hdH hb hsl2 hrd2 hcap2 hM
        go_wp2_with fail
        obtain ⟨wo, hwo⟩ : ∃ wo : World, wo = wr := ⟨_, rfl⟩
        rw [← hwo] at HT HD HB hxc ⊢
        clear hwo
        have hM4 : M ≤ 40 := by have := HM.out; omega
        go_loopw [8, 55] (SprIn k p M d wz3.heap.size wz5.heap.size w1) (fun _ i _ => M - (intOf i).toNat)
        case atStart => exact ⟨0, Nat.zero_le _, rfl, rfl, by rw [show farO k p + farI k p 0 = farO k p from rfl]; exact HT.out, HD.out, HB.out⟩
        case round =>
          obtain ⟨q, hq, rfl, rfl, htH, hdH, hb⟩ := hrel
          have HT2 := Lib.hid htH
          have HD2 := Lib.hid hdH
          have HB2 := Lib.hid hb
          by_cases hqM : q < M
          · obtain ⟨ao3, cp3, e3, -, -, hcl3⟩ := HR2.out _ _ (HL.out.below hb)
            injection e3 with e4 e5 e6
            subst e4 e6
            have hdl : (k.drop (p + 1)).length = M := by rw [List.length_drop, HN.out]; exact HM.out
            obtain ⟨b2, off2, rfl, hltb2, hyc⟩ := hcl3 q (by rw [hdl]; exact hqM)
            have hgy : (k.drop (p + 1)).getD q 0 = k.getD (p + 1 + q) 0 := by rw [List.getD_eq_getElem?_getD, List.getD_eq_getElem?_getD, List.getElem?_drop]
            rw [hgy] at hyc
            have hM' := HM.out
            have hfq := far_sq HI.out p (p + 1 + q) (by rw [HN.out]; exact hpn) (by rw [HN.out]; omega)
            have hfO := farO_le HI.out (by rw [HN.out]; omega) p (by rw [HN.out]; omega)
            have hfI := farI_le HI.out p q (by rw [HN.out]; omega)
            have hst : farI k p (q + 1) = farI k p q + ((k.getD p 0 - k.getD (p + 1 + q) 0) * (k.getD p 0 - k.getD (p + 1 + q) 0)).toNat := rfl
            have hxb : -1000000 ≤ k.getD p 0 ∧ k.getD p 0 ≤ 1000000 := by
              refine inB_of HI.out _ ?_
              rw [List.getD_eq_getElem?_getD, List.getElem?_eq_getElem (by rw [HN.out]; exact hpn)]
              exact List.getElem_mem _
            have hyb : -1000000 ≤ k.getD (p + 1 + q) 0 ∧ k.getD (p + 1 + q) 0 ≤ 1000000 := by
              refine inB_of HI.out _ ?_
              rw [List.getD_eq_getElem?_getD, List.getElem?_eq_getElem (by rw [HN.out]; omega)]
              exact List.getElem_mem _
            rw [HXQ.out] at hfq hst hxb
            obtain ⟨y, hyq⟩ : ∃ y, k.getD (p + 1 + q) 0 = y := ⟨_, rfl⟩
            rw [hyq] at hyc hfq hst hyb
            obtain ⟨S, hS⟩ : ∃ S, farO k p + farI k p q = S := ⟨_, rfl⟩
            rw [hS] at HT2 ⊢
            obtain ⟨D, hDD⟩ : ∃ D : Nat, D = (x - y).natAbs := ⟨_, rfl⟩
            have hsqe : ((x - y) * (x - y)).toNat = D * D := by
              have h := Int.natAbs_mul_self (a := x - y)
              rw [hDD]; omega
            rw [hsqe] at hfq hst
            have hnew : farO k p + farI k p (q + 1) = S + D * D := by rw [hst]; omega
            have hDb : D ≤ 2000000 := by omega
            have hz0 : decide (S + D * D = 0) = (decide (S = 0) && (x == y)) := by
              by_cases c : x = y
              · have : D = 0 := by rw [hDD, c]; simp
                rw [this, c]; simp
              · have hD0 : 0 < D := by omega
                have : 0 < D * D := Nat.mul_pos hD0 hD0
                rw [beq_false_of_ne c, Bool.and_false]
                exact decide_eq_false (by omega)
            have HZ0 := Lib.hid hz0
            have HNW := Lib.hid hnew
            have hSb : S ≤ 40 * 160000000000000 + 40 * 4000000000000 := by
              have h1 : p * 160000000000000 ≤ 40 * 160000000000000 := Nat.mul_le_mul (by omega) (Nat.le_refl _)
              have h2 : q * 4000000000000 ≤ 40 * 4000000000000 := Nat.mul_le_mul (by omega) (Nat.le_refl _)
              omega
            have mmu := fun W => (mul_any D D (by unfold B64; omega) (by unfold B64; omega) W).mono fun e w' h => (⟨h.1, h.2 ▸ (Below.refl _ _).alloc (Nat.le_refl _) _⟩ : e = _ ∧ Below W.heap.size W w')
            have mad := fun W => add_num S (D * D) W
            rw [addW_fit _ _ (by unfold M128; omega)] at mad
            have MMU := Lib.hid mmu
            have MAD := Lib.hid mad
            have HDD := Lib.hid hDD
            obtain ⟨wj, hwj⟩ : ∃ wj : World, wj = wr := ⟨_, rfl⟩
            rw [← hwj] at HT2 HD2 HB2 hyc ⊢
            clear hwj
            obtain ⟨hx1, hx2⟩ := hxb
            obtain ⟨hy1, hy2⟩ := hyb
            have hqi : (q : Int) < (M : Int) := by omega
            clear hcl3 e5 hdl hgy hyq hS hsqe hfq hst hnew hz0 hfO hfI hSb mmu mad hDD hDb htH hdH hb hM'
            go_upto_region 16 with fail
            have hdx : wrap64 (x - y) = x - y := by unfold wrap64; omega
            have hdy : wrap64 (y - x) = y - x := by unfold wrap64; omega
            go_cut [13, 55] (fun s13 s55 wx => s13 = .int .u64 (D : Int) ∧ s55 = .int .i64 (q : Int) ∧ wx = wj)
            case first =>
              rcases Int.lt_trichotomy (x - y) (y - x) with hc | hc | hc
              · have g1 : x - y < y - x := by omega
                have g2 : ¬ y - x < x - y := by omega
                have g3 : ¬ y - x ≤ x - y := by omega
                have g4 : x - y ≤ y - x := by omega
                have hv : IntKind.u64.wrap (y - x) = (D : Int) := by rw [HDD.out, IntKind.wrap_u64]; omega
                clear hx1 hx2 hy1 hy2 hc
                go_wp2_with fail
                go_meet
                exact ⟨rfl, rfl, rfl⟩
              · obtain rfl : x = y := by omega
                have h0 : x - x = 0 := by omega
                have hv : IntKind.u64.wrap 0 = (D : Int) := by rw [HDD.out, IntKind.wrap_u64]; omega
                clear hx1 hx2 hy1 hy2 hc
                go_wp2_with fail
                go_meet
                exact ⟨rfl, rfl, rfl⟩
              · have g1 : y - x < x - y := by omega
                have g2 : ¬ x - y < y - x := by omega
                have g3 : ¬ x - y ≤ y - x := by omega
                have g4 : y - x ≤ x - y := by omega
                have hv : IntKind.u64.wrap (x - y) = (D : Int) := by rw [HDD.out, IntKind.wrap_u64]; omega
                clear hx1 hx2 hy1 hy2 hc
                go_wp2_with fail
                go_meet
                exact ⟨rfl, rfl, rfl⟩
            case rest =>
              obtain ⟨rfl, rfl, hwx⟩ := hcut
              rw [hwx]
              clear hwx hdx hdy hx1 hx2 hy1 hy2
              go_upto_region 17 with fail
              have tc0 : wj.cell? ⟨wz5.heap.size, 0, none⟩ = some (.int .u64 (hi (S) : Nat)) := HT2.out.cell 0
              have tf0 : wj.frozen? ⟨wz5.heap.size, 0, none⟩ = false := HT2.out.frozen 0
              have tc1 : wj.cell? ⟨wz5.heap.size, 1, none⟩ = some (.int .u64 (lo (S) : Nat)) := HT2.out.cell 1
              have tf1 : wj.frozen? ⟨wz5.heap.size, 1, none⟩ = false := HT2.out.frozen 1
              go_cut [55] (fun s55 wx => s55 = .int .i64 (q : Int) ∧ Has wx wz5.heap.size [.int .u64 (hi (S + D * D) : Nat), .int .u64 (lo (S + D * D) : Nat)] 25 ∧ Has wx wz3.heap.size [.int .u64 (hi (d) : Nat), .int .u64 (lo (d) : Nat)] 25 ∧ Below w1.heap.size w1 wx)
              case first =>
                go_region_with (first | (go_at_call 20; refine (MMU.out _).mono ?_; rintro e wr1 ⟨rfl, kr1⟩; (have HBr1 := Lib.hid (show Below w1.heap.size w1 wr1 by first | exact (HB2.out).trans (kr1.mono (by have := HB2.out.size; first | omega | (simp; omega) | simp)) | exact (Below.drew (HB2.out)).trans (kr1.mono (by have := HB2.out.size; first | omega | (simp; omega) | simp)) | exact (Below.drew (Below.drew (HB2.out))).trans (kr1.mono (by have := HB2.out.size; first | omega | (simp; omega) | simp)) | exact (Below.drew (Below.drew (Below.drew (HB2.out)))).trans (kr1.mono (by have := HB2.out.size; first | omega | (simp; omega) | simp)))); (have Htr1 := Lib.hid (show Has wr1 (wz5.heap.size) [.int .u64 (hi (S) : Nat), .int .u64 (lo (S) : Nat)] 25 from HT2.out.step kr1 rfl)); (have yt10 : wr1.cell? ⟨wz5.heap.size, 0, none⟩ = some (.int .u64 (hi (S) : Nat)) := Htr1.out.cell 0); (have yt11 : wr1.cell? ⟨wz5.heap.size, 1, none⟩ = some (.int .u64 (lo (S) : Nat)) := Htr1.out.cell 1); (have ft10 : wr1.frozen? ⟨wz5.heap.size, 0, none⟩ = false := Htr1.out.frozen 0); (have ft11 : wr1.frozen? ⟨wz5.heap.size, 1, none⟩ = false := Htr1.out.frozen 1); (have lt1 : wz5.heap.size < wr1.heap.size := Htr1.out.lt); (have Hdr1 := Lib.hid (show Has wr1 (wz3.heap.size) [.int .u64 (hi (d) : Nat), .int .u64 (lo (d) : Nat)] 25 from HD2.out.step kr1 rfl)); (have yd10 : wr1.cell? ⟨wz3.heap.size, 0, none⟩ = some (.int .u64 (hi (d) : Nat)) := Hdr1.out.cell 0); (have yd11 : wr1.cell? ⟨wz3.heap.size, 1, none⟩ = some (.int .u64 (lo (d) : Nat)) := Hdr1.out.cell 1); (have ld1 : wz3.heap.size < wr1.heap.size := Hdr1.out.lt)) | (go_at_call 19; refine (MAD.out _).mono ?_; rintro e wr2 ⟨rfl, kr2⟩; (have HBr2 := Lib.hid (show Below w1.heap.size w1 wr2 by first | exact (HBr1.out).trans (kr2.mono (by have := HBr1.out.size; first | omega | (simp; omega) | simp)) | exact (Below.drew (HBr1.out)).trans (kr2.mono (by have := HBr1.out.size; first | omega | (simp; omega) | simp)) | exact (Below.drew (Below.drew (HBr1.out))).trans (kr2.mono (by have := HBr1.out.size; first | omega | (simp; omega) | simp)) | exact (Below.drew (Below.drew (Below.drew (HBr1.out)))).trans (kr2.mono (by have := HBr1.out.size; first | omega | (simp; omega) | simp)))); (have Htr2 := Lib.hid (show Has wr2 (wz5.heap.size) [.int .u64 (hi (S) : Nat), .int .u64 (lo (S) : Nat)] 25 from Htr1.out.step kr2 rfl)); (have yt20 : wr2.cell? ⟨wz5.heap.size, 0, none⟩ = some (.int .u64 (hi (S) : Nat)) := Htr2.out.cell 0); (have yt21 : wr2.cell? ⟨wz5.heap.size, 1, none⟩ = some (.int .u64 (lo (S) : Nat)) := Htr2.out.cell 1); (have ft20 : wr2.frozen? ⟨wz5.heap.size, 0, none⟩ = false := Htr2.out.frozen 0); (have ft21 : wr2.frozen? ⟨wz5.heap.size, 1, none⟩ = false := Htr2.out.frozen 1); (have lt2 : wz5.heap.size < wr2.heap.size := Htr2.out.lt); (have Hdr2 := Lib.hid (show Has wr2 (wz3.heap.size) [.int .u64 (hi (d) : Nat), .int .u64 (lo (d) : Nat)] 25 from Hdr1.out.step kr2 rfl)); (have yd20 : wr2.cell? ⟨wz3.heap.size, 0, none⟩ = some (.int .u64 (hi (d) : Nat)) := Hdr2.out.cell 0); (have yd21 : wr2.cell? ⟨wz3.heap.size, 1, none⟩ = some (.int .u64 (lo (d) : Nat)) := Hdr2.out.cell 1); (have ld2 : wz3.heap.size < wr2.heap.size := Hdr2.out.lt)))
                all_goals (go_wp2_with fail; go_meet)
                all_goals exact ⟨rfl, (Htr2.out.set 0 (.int .u64 (hi (S + D * D) : Nat))).set 1 (.int .u64 (lo (S + D * D) : Nat)), (Hdr2.out.other (p := ⟨wz5.heap.size, 0, none⟩) (by dsimp only; omega) _).other (p := ⟨wz5.heap.size, 1, none⟩) (by dsimp only; omega) _, (HBr2.out.setCell (p := ⟨wz5.heap.size, 0, none⟩) hb7 _).setCell (p := ⟨wz5.heap.size, 1, none⟩) hb7 _⟩
              case rest =>
                obtain ⟨rfl, htH, hdH, hb⟩ := hcut
                rw [← HNW.out] at htH
                have HQ := Lib.hid (show ∀ B : Bool, B = (decide (S = 0) && (x == y)) → SprIn k p M d wz3.heap.size wz5.heap.size w1 (.bool B) (.int .i64 ((q : Int) + 1)) wc from fun B hB => ⟨q + 1, by omega, by first | rfl | go_num, by rw [HNW.out, HZ0.out, hB], htH, hdH, hb⟩)
                clear htH hdH hb tc0 tc1 tf0 tf1
                by_cases hS0 : S = 0
                · have hd0 : decide (S = 0) = true := decide_eq_true hS0
                  rw [hd0] at HQ ⊢
                  clear hd0 hS0
                  cases hxy : (x == y) with
                  | false =>
                    rw [hxy] at HQ
                    go_wp2
                    go_roundw
                    case rel => exact HQ.out _ rfl
                    case measure => simp [intOf]; omega
                  | true =>
                    rw [hxy] at HQ
                    go_wp2
                    go_roundw
                    case rel => exact HQ.out _ rfl
                    case measure => simp [intOf]; omega
                · have hd0 : decide (S = 0) = false := decide_eq_false hS0
                  rw [hd0] at HQ ⊢
                  clear hd0 hS0
                  go_wp2
                  go_roundw
                  case rel => exact HQ.out _ rfl
                  case measure => simp [intOf]; omega
          · obtain rfl : q = M := by omega
            have hfe : farO k p + farI k p q = farO k (p + 1) := by
              have := HM.out
              show _ = farO k p + farI k p (k.length - (p + 1))
              rw [HN.out, this]
            rw [hfe] at htH ⊢
            have HQ := Lib.hid (show SprOut k n d wz3.heap.size wz5.heap.size w1 (.bool (decide (farO k (p + 1) = 0))) (.int .i64 ((p : Int) + 1)) wr from ⟨p + 1, by omega, by first | rfl | go_num, rfl, htH, hdH, hb⟩)
            clear htH hdH hb hfe
            go_wp2
            go_roundw
            case rel => exact HQ.out
            case measure => simp [intOf]; omega
      · obtain rfl : p = n := by omega
        rw [HFO.out] at htH ⊢
        have hE := HBW.out.trans (hb.mono HBW.out.size)
        have heqd := eqWide d d
        have heqz := eqZero d
        rw [decide_eq_true rfl] at heqd
        have tc0 : wr.cell? ⟨wz5.heap.size, 0, none⟩ = some (.int .u64 (hi (d) : Nat)) := htH.cell 0
        have tc1 : wr.cell? ⟨wz5.heap.size, 1, none⟩ = some (.int .u64 (lo (d) : Nat)) := htH.cell 1
        have uc0 : wr.cell? ⟨wz3.heap.size, 0, none⟩ = some (.int .u64 (hi (d) : Nat)) := hdH.cell 0
        have uc1 : wr.cell? ⟨wz3.heap.size, 1, none⟩ = some (.int .u64 (lo (d) : Nat)) := hdH.cell 1
        clear htH hdH hb
        cases hD0 : decide (d = 0) with
        | false =>
          rw [hD0] at heqz
          clear hD0
          go_wp2
          go_ret
          exact ⟨rfl, hE⟩
        | true =>
          rw [hD0] at heqz
          clear hD0
          go_wp2
          go_ret
          exact ⟨rfl, hE⟩
end Go.Proofs.Ytbpdapggdccmiaa
