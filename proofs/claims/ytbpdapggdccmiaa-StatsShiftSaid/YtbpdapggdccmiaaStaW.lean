/- The law of StatsShift: its walk. -/
import Derived.Test.YtbpdapggdccmiaaStaL
import Derived.Test.YtbpdapggdccmiaaStaV
import Derived.Test.YtbpdapggdccmiaaTwo
import Derived.Test.YtbpdapggdccmiaaStaX
namespace Go.Proofs.Ytbpdapggdccmiaa
open Go.RowKit

def ShRel (L : List Int) (n : Nat) (c t : Int) (sl : Value) (w : World) (mv gv i : Value) (wr : World) : Prop := ∃ k : Nat, k ≤ n ∧ i = .int .i64 (k : Nat) ∧ TwoJ w.heap.size w sl mv gv (cutL L k) (movL L c k) (groL L t k) 0 0 false false false false wr undef undef undef undef
set_option linter.unusedSimpArgs false in
set_option maxHeartbeats 16000000 in
set_option maxRecDepth 100000 in
theorem shift_walk (l : List Int) (by_ times : Int) (v : Value) (w : World) (hr : ReadsI w v l) :
    Calls Try.prog 6 #[v, .int .i64 by_, .int .i64 times] w fun e w' => e = .returned (.bool true) ∧ Below w.heap.size w w' := by
  have hso : Calls Try.prog 18 #[v, .int .i64 100] w fun e w' => ∃ v', e = .returned v' ∧ IRow w.heap.size v' (someN l 100) w' ∧ Below w.heap.size w w' := some11_any l v 100 w (by decide) hr
  have hin := someN_in l 100
  have hlen := someN_len l 100
  generalize someN l 100 = L at *
  have HI := Lib.hid hin
  obtain ⟨n, hn⟩ : ∃ n, L.length = n := ⟨_, rfl⟩
  rw [hn] at hlen
  obtain ⟨c, hc⟩ : ∃ c, by_.tmod 1000 = c := ⟨_, rfl⟩
  obtain ⟨t, ht⟩ : ∃ t, times.tmod 10 = t := ⟨_, rfl⟩
  have hc1 : -1000 < c := by rw [← hc]; exact Int.lt_tmod_of_pos by_ (by omega)
  have hc2 : c < 1000 := by rw [← hc]; exact Int.tmod_lt_of_pos by_ (by omega)
  have ht1 : -10 < t := by rw [← ht]; exact Int.lt_tmod_of_pos times (by omega)
  have ht2 : t < 10 := by rw [← ht]; exact Int.tmod_lt_of_pos times (by omega)
  have HN := Lib.hid hn
  clear hin hn hr
  go_enter Try.func6, Try.ntmps6
  go_upto_region 1 with fail
  go_wp2_with fail
  refine hso.mono ?_
  rintro e w1 ⟨u, rfl, hrow, k1⟩
  obtain ⟨ao, cap, rfl, hlc, hcm, -⟩ := id hrow.reads
  rw [HN.out] at hlc ⊢
  unfold maxLen at hcm
  have HROW := Lib.hid hrow
  have HK1 := Lib.hid k1
  clear hso hrow k1
  go_upto_region 3 with fail
  clear hc ht
  go_wp2_with fail
  have hstart : ShRel L n c t (.slice ao n cap) w (.slice none 0 0) (.slice none 0 0) (.int .i64 0) w1 := by
    refine ⟨0, Nat.zero_le _, rfl, ?_⟩
    have hrow := HROW.out
    rw [HN.out] at hrow
    exact ⟨HK1.out, HK1.out.size, hrow, IRow.nil _ _, IRow.nil _ _, fun _ _ h => (by cases h), fun _ _ h => (by cases h), fun _ h => (by cases h), fun a => (by cases a), fun a => (by cases a)⟩
  have HST := Lib.hid hstart
  clear hstart
  go_loopw [7, 8, 33] (ShRel L n c t (.slice ao n cap) w) (fun _ _ i _ => n - (intOf i).toNat)
  case atStart => exact HST.out
  case round =>
    obtain ⟨k, hk, rfl, hJ⟩ := hrel
    by_cases hkn : k < n
    · have hcl : (cutL L k).length = n := by rw [cutL_len, HN.out]
      obtain ⟨g, rfl⟩ := hJ.lr.ptr (by omega)
      have hx0 := hJ.lr.cellAt (k := k) (by omega)
      rw [cutL_at (by rw [HN.out]; exact hkn)] at hx0
      have hf0 := hJ.lr.thaw k
      have hset := hJ.setL k (tenI (L.getD k 0))
      rw [cutL_set (by rw [HN.out]; exact hkn)] at hset
      have hmo := movL_one (l := L) (c := c) (k := k) (by rw [HN.out]; exact hkn)
      have hgo := groL_one (l := L) (t := t) (k := k) (by rw [HN.out]; exact hkn)
      have hxb : -1000000 ≤ L.getD k 0 ∧ L.getD k 0 ≤ 1000000 := by
        refine inB_of HI.out _ ?_
        rw [List.getD_eq_getElem?_getD, List.getElem?_eq_getElem (by rw [HN.out]; exact hkn)]
        exact List.getElem_mem _
      have htb := tenI_b hxb
      have htm : (L.getD k 0).tdiv 10 = tenI (L.getD k 0) := rfl
      have hlt := (hJ.lr.lt' g rfl).2
      obtain ⟨x, hxq⟩ : ∃ x, L.getD k 0 = x := ⟨_, rfl⟩
      rw [hxq] at hx0 hset hmo hgo htb htm
      obtain ⟨x2, hx2⟩ : ∃ y, tenI x = y := ⟨_, rfl⟩
      rw [hx2] at hset hmo hgo htb htm
      have hmb := mul_b (x := x2) (t := t) htb ⟨by omega, by omega⟩
      have HSET := Lib.hid hset
      have HXQ := Lib.hid hxq
      have HMO := Lib.hid hmo
      have HGO := Lib.hid hgo
      have HMB := Lib.hid hmb
      have HTB := Lib.hid htb
      have hki : (k : Int) < (n : Int) := by omega
      have htb1 := htb.1
      have htb2 := htb.2
      clear hset hmo hgo hxq hxb hJ hmb htb
      have hcl2 : k < (cutL L (k + 1)).length := by rw [cutL_len, HN.out]; exact hkn
      have hgd : (cutL L (k + 1)).getD k 0 = x2 := by
        have h := HSET.out.lr
        rw [← cutL_set (by rw [HN.out]; exact hkn), HXQ.out, hx2, List.getD_eq_getElem?_getD, List.getElem?_set_self (by rw [cutL_len, HN.out]; exact hkn)]
        rfl
      have HGD := Lib.hid hgd
      have HCL2 := Lib.hid hcl2
      clear hgd hcl2 hcl hx2
      go_upto_region 7 with fail
      have hlm : (movL L c k).length + 1 ≤ 1000000 := by unfold movL; rw [List.length_map, List.length_take]; omega
      have hlg : (groL L t k).length + 1 ≤ 1000000 := by unfold groL; rw [List.length_map, List.length_take]; omega
      refine sh_region (B := w.heap.size) (g := g) (n := n) (cap := cap) (k := k) (W0 := w) (LL := cutL L (k + 1)) (Lm := movL L c k) (Lg := groL L t k) (x := x2) (c := c) (t := t) (y := x2 + c) (z := x2 * t) _ _ (show 60 < 191 by decide) rfl rfl rfl rfl rfl rfl HSET.out HCL2.out HGD.out hkn (by unfold wrap64; omega) (by have := HMB.out; unfold wrap64; omega) hlm hlg ?_
      intro vals w' hT
      rw [← HMO.out, ← HGO.out] at hT
      clear hlm hlg
      generalize vals 0 = r0
      generalize vals 1 = r1
      generalize vals 2 = r2
      generalize vals 3 = r3
      generalize vals 4 = r4
      generalize vals 5 = r5
      generalize vals 6 = r6
      generalize vals 7 = r7
      generalize vals 8 = r8
      generalize vals 9 = r9
      generalize vals 10 = r10
      generalize vals 11 = r11
      generalize vals 12 = r12
      generalize vals 13 = r13
      generalize vals 14 = r14
      generalize vals 15 = r15
      generalize vals 16 = r16
      generalize vals 17 = r17
      generalize vals 18 = r18 at *
      generalize vals 19 = r19 at *
      have HQ := Lib.hid (show ShRel L n c t (.slice (some ⟨g, 0, none⟩) n cap) w r18 r19 (.int .i64 ((k : Int) + 1)) w' from ⟨k + 1, by omega, by first | rfl | go_num, hT⟩)
      clear hT
      simp only [Act.put]
      go_wp2
      go_roundw
      case rel => exact HQ.out
      case measure => simp [intOf]; omega
    · obtain rfl : k = n := by omega
      have hA1 : cutL L k = L.map tenI := by rw [← HN.out]; exact cutL_all L
      have hA2 : movL L c k = (L.map tenI).map (· + c) := by rw [← HN.out]; exact movL_all L c
      have hA3 : groL L t k = (L.map tenI).map (· * t) := by rw [← HN.out]; exact groL_all L t
      have hbel := hJ.bel
      have hr1 : ReadsI wr (.slice ao k cap) (cutL L k) := hJ.lr.reads
      have hr2 := hJ.mr.reads
      have hr3 := hJ.gr.reads
      dsimp only [cond_false] at hr2 hr3
      rw [hA1] at hr1
      rw [hA2] at hr2
      rw [hA3] at hr3
      have hAb := ten_in HI.out
      obtain ⟨A, hA⟩ : ∃ A, L.map tenI = A := ⟨_, rfl⟩
      have hAl : A.length = k := by rw [← hA, List.length_map, HN.out]
      rw [hA] at hr1 hr2 hr3 hAb
      have hi1 : inB A = true := inB_mk fun x hx => by have := hAb x hx; omega
      have hi2 : inB (A.map (· + c)) = true := inB_mk fun x hx => by
        obtain ⟨y, hy, rfl⟩ := List.mem_map.1 hx
        have := hAb y hy
        omega
      have hi3 : inB (A.map (· * t)) = true := inB_mk fun x hx => by
        obtain ⟨y, hy, rfl⟩ := List.mem_map.1 hx
        have := mul_b (hAb y hy) (t := t) ⟨by omega, by omega⟩
        omega
      have hle2 : (A.map (· + c)).length = k := by rw [List.length_map, hAl]
      have hle3 : (A.map (· * t)).length = k := by rw [List.length_map, hAl]
      have co1 := fun W (h : Below wr.heap.size wr W) => of11_any A _ W (hr1.below h) (by omega)
      have co2 := fun W (h : Below wr.heap.size wr W) => of11_any _ _ W (hr2.below h) (by omega)
      have co3 := fun W (h : Below wr.heap.size wr W) => of11_any _ _ W (hr3.below h) (by omega)
      rw [show ofS A = staOf A from if_pos hi1, show ofE A = 0 from if_pos hi1] at co1
      rw [show ofS (A.map (· + c)) = staOf (A.map (· + c)) from if_pos hi2, show ofE (A.map (· + c)) = 0 from if_pos hi2] at co2
      rw [show ofS (A.map (· * t)) = staOf (A.map (· * t)) from if_pos hi3, show ofE (A.map (· * t)) = 0 from if_pos hi3] at co3
      have hri1 := staOf_right hi1 (by omega)
      have hri2 := staOf_right hi2 (by omega)
      have hri3 := staOf_right hi3 (by omega)
      have hb1 := staOf_bounds hi1 (by omega)
      have hb2 := staOf_bounds hi2 (by omega)
      have hb3 := staOf_bounds hi3 (by omega)
      have cs1 := fun W => spread11_any (staOf A) (by have := hb1.2.2.2.2; unfold M128; omega) W
      have cs2 := fun W => spread11_any (staOf (A.map (· + c))) (by have := hb2.2.2.2.2; unfold M128; omega) W
      have cs3 := fun W => spread11_any (staOf (A.map (· * t))) (by have := hb3.2.2.2.2; unfold M128; omega) W
      obtain ⟨u, hu⟩ : ∃ u : Nat, (u : Int) = t * t := ⟨(t * t).toNat, by have := sq_nonneg' t; omega⟩
      have hub : u ≤ 81 := by have := sq_le (x := t) (b := 9) (by omega) (by omega); omega
      have hd1 := spreadN_le hi1 (by omega)
      have hd2 := spreadN_mov A c
      have hd3 := spreadN_gro A t u hu
      have hz2 : (staOf (A.map (· + c))).sum = (staOf A).sum + c * (k : Int) := by rw [← hAl]; exact ssum_add c A
      have hz3 : (staOf (A.map (· * t))).sum = (staOf A).sum * t := ssum_mul t A
      have hl2 : 0 < k → (staOf (A.map (· + c))).lo = (staOf A).lo + c := fun h => lmin_add c (fun e => by rw [e] at hAl; simp at hAl; omega)
      have hg2 : 0 < k → (staOf (A.map (· + c))).hi = (staOf A).hi + c := fun h => lmax_add c (fun e => by rw [e] at hAl; simp at hAl; omega)
      have hlo : 0 < k → -100000 ≤ (staOf A).lo ∧ (staOf A).lo ≤ 100000 := fun h => hAb _ (lmin_mem (fun e => by rw [e] at hAl; simp at hAl; omega))
      have hhi : 0 < k → -100000 ≤ (staOf A).hi ∧ (staOf A).hi ≤ 100000 := fun h => hAb _ (lmax_mem (fun e => by rw [e] at hAl; simp at hAl; omega))
      have hn1 : (staOf A).n = (k : Int) := by rw [← hAl]; rfl
      have hn2 : (staOf (A.map (· + c))).n = (k : Int) := by rw [← hle2]; rfl
      have hn3 : (staOf (A.map (· * t))).n = (k : Int) := by rw [← hle3]; rfl
      have hsp : ∀ s : Sta, staB s = true → s.n = (k : Int) → sprN s = (if k = 0 then 0 else spreadN s) ∧ sprE s = if k = 0 then 6 else 0 := fun s h1 h2 => by
        by_cases hk0 : k = 0
        · rw [if_pos hk0, if_pos hk0]
          exact ⟨if_neg (fun h => h.2 (by omega)), by unfold sprE; rw [if_pos h1, if_pos (by omega)]⟩
        · rw [if_neg hk0, if_neg hk0]
          exact ⟨if_pos ⟨h1, by omega⟩, by unfold sprE; rw [if_pos h1, if_neg (by omega)]⟩
      rw [(hsp _ hri1 hn1).1, (hsp _ hri1 hn1).2] at cs1
      rw [(hsp _ hri2 hn2).1, (hsp _ hri2 hn2).2, hd2] at cs2
      rw [(hsp _ hri3 hn3).1, (hsp _ hri3 hn3).2, hd3] at cs3
      have hct := fun W => times_num (spreadN (staOf A)) u (by unfold M128; omega) (by unfold M128; omega) W
      have hmu : spreadN (staOf A) * u ≤ 10000000000000000 * 81 := Nat.mul_le_mul hd1 hub
      rw [mulW_fit _ _ (by unfold M128; omega), hi_low u (by unfold B64; omega), lo_low u (by unfold B64; omega)] at hct
      generalize spreadN (staOf A) * u = du at *
      generalize spreadN (staOf A) = d at *
      clear hd2 hd3 hri1 hri2 hri3 hi1 hi2 hi3 hsp hA1 hA2 hA3 hr1 hr2 hr3 hJ hA hAb
      generalize staOf (A.map (· + c)) = s2 at *
      generalize staOf (A.map (· * t)) = s3 at *
      generalize staOf A = s1 at *
      obtain ⟨m1, z1, q1, l1, g1⟩ := s1
      obtain ⟨m2, z2, q2, l2, g2⟩ := s2
      obtain ⟨m3, z3, q3, l3, g3⟩ := s3
      dsimp only at hn1 hn2 hn3 hz2 hz3 hl2 hg2 hlo hhi hb1 hb2 hb3
      subst hn1 hn2 hn3
      unfold staV at co1 co2 co3 cs1 cs2 cs3
      dsimp only at co1 co2 co3 cs1 cs2 cs3
      have CO1 := Lib.hid co1
      have CO2 := Lib.hid co2
      have CO3 := Lib.hid co3
      have CS1 := Lib.hid cs1
      have CS2 := Lib.hid cs2
      have CS3 := Lib.hid cs3
      have CT := Lib.hid hct
      have HF := Lib.hid (And.intro (And.intro hz2 hz3) (And.intro (And.intro hl2 hg2) (And.intro hlo hhi)))
      have HBS := Lib.hid (And.intro hb1 (And.intro hb2 hb3))
      have HU := Lib.hid (And.intro hu hub)
      have HB0 := Lib.hid (Below.refl wr.heap.size wr)
      have HBEL := Lib.hid hbel
      have hbase := Nat.le_refl wr.heap.size
      clear co1 co2 co3 cs1 cs2 cs3 hct hz2 hz3 hl2 hg2 hlo hhi hb1 hb2 hb3 hu hub hbel hle2 hle3 hAl hmu hd1
      go_upto_region 9 with fail
      have hcz1 := CO1.out wr HB0.out
      go_wp2_with fail
      refine hcz1.mono ?_
      rintro e wz1 ⟨rfl, kz1⟩
      clear hcz1
      have HBz1 := Lib.hid (HB0.out.trans (kz1.mono (Nat.le_trans hbase HB0.out.size)))
      clear kz1
      obtain ⟨wz2, hwz2⟩ : ∃ wz2, wz1.alloc (.cells #[.int .i64 (k : Int), .int .i64 z1, .int .u64 (hi q1 : Nat), .int .u64 (lo q1 : Nat), .int .i64 l1, .int .i64 g1] 27) = wz2 := ⟨_, rfl⟩
      have kz2 : Below wz1.heap.size wz1 wz2 := by rw [← hwz2]; exact (Below.refl _ _).alloc (Nat.le_refl _) _
      have Hs1z2 := Lib.hid (show Has wz2 wz1.heap.size [.int .i64 (k : Int), .int .i64 z1, .int .u64 (hi q1 : Nat), .int .u64 (lo q1 : Nat), .int .i64 l1, .int .i64 g1] 27 by rw [← hwz2]; exact Has.new _ _ _)
      have HWz2 := Lib.hid hwz2
      clear hwz2
      have HBz2 := Lib.hid (HBz1.out.trans (kz2.mono (Nat.le_trans hbase HBz1.out.size)))
      clear kz2
      go_upto_region 10 with fail
      rw [HWz2.out]
      have hcz3 := CO2.out wz2 HBz2.out
      go_wp2_with fail
      refine hcz3.mono ?_
      rintro e wz3 ⟨rfl, kz3⟩
      clear hcz3
      have HBz3 := Lib.hid (HBz2.out.trans (kz3.mono (Nat.le_trans hbase HBz2.out.size)))
      have Hs1z3 := Lib.hid (Hs1z2.out.call kz3)
      clear kz3
      obtain ⟨wz4, hwz4⟩ : ∃ wz4, wz3.alloc (.cells #[.int .i64 (k : Int), .int .i64 z2, .int .u64 (hi q2 : Nat), .int .u64 (lo q2 : Nat), .int .i64 l2, .int .i64 g2] 27) = wz4 := ⟨_, rfl⟩
      have kz4 : Below wz3.heap.size wz3 wz4 := by rw [← hwz4]; exact (Below.refl _ _).alloc (Nat.le_refl _) _
      have Hs2z4 := Lib.hid (show Has wz4 wz3.heap.size [.int .i64 (k : Int), .int .i64 z2, .int .u64 (hi q2 : Nat), .int .u64 (lo q2 : Nat), .int .i64 l2, .int .i64 g2] 27 by rw [← hwz4]; exact Has.new _ _ _)
      have HWz4 := Lib.hid hwz4
      clear hwz4
      have HBz4 := Lib.hid (HBz3.out.trans (kz4.mono (Nat.le_trans hbase HBz3.out.size)))
      have Hs1z4 := Lib.hid (Hs1z3.out.call kz4)
      clear kz4
      go_upto_region 11 with fail
      rw [HWz4.out]
      have hcz5 := CO3.out wz4 HBz4.out
      go_wp2_with fail
      refine hcz5.mono ?_
      rintro e wz5 ⟨rfl, kz5⟩
      clear hcz5
      have HBz5 := Lib.hid (HBz4.out.trans (kz5.mono (Nat.le_trans hbase HBz4.out.size)))
      have Hs1z5 := Lib.hid (Hs1z4.out.call kz5)
      have Hs2z5 := Lib.hid (Hs2z4.out.call kz5)
      clear kz5
      obtain ⟨wz6, hwz6⟩ : ∃ wz6, wz5.alloc (.cells #[.int .i64 (k : Int), .int .i64 z3, .int .u64 (hi q3 : Nat), .int .u64 (lo q3 : Nat), .int .i64 l3, .int .i64 g3] 27) = wz6 := ⟨_, rfl⟩
      have kz6 : Below wz5.heap.size wz5 wz6 := by rw [← hwz6]; exact (Below.refl _ _).alloc (Nat.le_refl _) _
      have Hs3z6 := Lib.hid (show Has wz6 wz5.heap.size [.int .i64 (k : Int), .int .i64 z3, .int .u64 (hi q3 : Nat), .int .u64 (lo q3 : Nat), .int .i64 l3, .int .i64 g3] 27 by rw [← hwz6]; exact Has.new _ _ _)
      have HWz6 := Lib.hid hwz6
      clear hwz6
      have HBz6 := Lib.hid (HBz5.out.trans (kz6.mono (Nat.le_trans hbase HBz5.out.size)))
      have Hs1z6 := Lib.hid (Hs1z5.out.call kz6)
      have Hs2z6 := Lib.hid (Hs2z5.out.call kz6)
      clear kz6
      go_upto_region 12 with fail
      rw [HWz6.out]
      have hcz7 := alive11_any wz6
      go_wp2_with fail
      refine hcz7.mono ?_
      rintro e wz7 ⟨rfl, kz7⟩
      clear hcz7
      have HBz7 := Lib.hid (HBz6.out.trans (kz7.mono (Nat.le_trans hbase HBz6.out.size)))
      have Hs1z7 := Lib.hid (Hs1z6.out.call kz7)
      have Hs2z7 := Lib.hid (Hs2z6.out.call kz7)
      have Hs3z7 := Lib.hid (Hs3z6.out.call kz7)
      clear kz7
      by_cases hk0 : k = 0
      · have hk1 : ((k : Int) == 0) = true := beq_iff_eq.2 (by omega)
        clear hk0
        have qs10_7 : wz7.cell? ⟨wz1.heap.size, 0, none⟩ = some (.int .i64 (k : Int)) := Hs1z7.out.cell 0
        have qs11_7 : wz7.cell? ⟨wz1.heap.size, 1, none⟩ = some (.int .i64 z1) := Hs1z7.out.cell 1
        have qs12_7 : wz7.cell? ⟨wz1.heap.size, 2, none⟩ = some (.int .u64 (hi q1 : Nat)) := Hs1z7.out.cell 2
        have qs13_7 : wz7.cell? ⟨wz1.heap.size, 3, none⟩ = some (.int .u64 (lo q1 : Nat)) := Hs1z7.out.cell 3
        have qs14_7 : wz7.cell? ⟨wz1.heap.size, 4, none⟩ = some (.int .i64 l1) := Hs1z7.out.cell 4
        have qs15_7 : wz7.cell? ⟨wz1.heap.size, 5, none⟩ = some (.int .i64 g1) := Hs1z7.out.cell 5
        have ls1_7 : wz1.heap.size < wz7.heap.size := Hs1z7.out.lt
        have qs20_7 : wz7.cell? ⟨wz3.heap.size, 0, none⟩ = some (.int .i64 (k : Int)) := Hs2z7.out.cell 0
        have qs21_7 : wz7.cell? ⟨wz3.heap.size, 1, none⟩ = some (.int .i64 z2) := Hs2z7.out.cell 1
        have qs22_7 : wz7.cell? ⟨wz3.heap.size, 2, none⟩ = some (.int .u64 (hi q2 : Nat)) := Hs2z7.out.cell 2
        have qs23_7 : wz7.cell? ⟨wz3.heap.size, 3, none⟩ = some (.int .u64 (lo q2 : Nat)) := Hs2z7.out.cell 3
        have qs24_7 : wz7.cell? ⟨wz3.heap.size, 4, none⟩ = some (.int .i64 l2) := Hs2z7.out.cell 4
        have qs25_7 : wz7.cell? ⟨wz3.heap.size, 5, none⟩ = some (.int .i64 g2) := Hs2z7.out.cell 5
        have ls2_7 : wz3.heap.size < wz7.heap.size := Hs2z7.out.lt
        have qs30_7 : wz7.cell? ⟨wz5.heap.size, 0, none⟩ = some (.int .i64 (k : Int)) := Hs3z7.out.cell 0
        have qs31_7 : wz7.cell? ⟨wz5.heap.size, 1, none⟩ = some (.int .i64 z3) := Hs3z7.out.cell 1
        have qs32_7 : wz7.cell? ⟨wz5.heap.size, 2, none⟩ = some (.int .u64 (hi q3 : Nat)) := Hs3z7.out.cell 2
        have qs33_7 : wz7.cell? ⟨wz5.heap.size, 3, none⟩ = some (.int .u64 (lo q3 : Nat)) := Hs3z7.out.cell 3
        have qs34_7 : wz7.cell? ⟨wz5.heap.size, 4, none⟩ = some (.int .i64 l3) := Hs3z7.out.cell 4
        have qs35_7 : wz7.cell? ⟨wz5.heap.size, 5, none⟩ = some (.int .i64 g3) := Hs3z7.out.cell 5
        have ls3_7 : wz5.heap.size < wz7.heap.size := Hs3z7.out.lt
        go_wp2
        go_ret
        exact ⟨rfl, HBEL.out.trans (HBz7.out.mono HBEL.out.size)⟩
      · have hk1 : ((k : Int) == 0) = false := beq_false_of_ne (by omega)
        go_upto_region 16 with fail
        have qs10_7 : wz7.cell? ⟨wz1.heap.size, 0, none⟩ = some (.int .i64 (k : Int)) := Hs1z7.out.cell 0
        have qs11_7 : wz7.cell? ⟨wz1.heap.size, 1, none⟩ = some (.int .i64 z1) := Hs1z7.out.cell 1
        have qs12_7 : wz7.cell? ⟨wz1.heap.size, 2, none⟩ = some (.int .u64 (hi q1 : Nat)) := Hs1z7.out.cell 2
        have qs13_7 : wz7.cell? ⟨wz1.heap.size, 3, none⟩ = some (.int .u64 (lo q1 : Nat)) := Hs1z7.out.cell 3
        have qs14_7 : wz7.cell? ⟨wz1.heap.size, 4, none⟩ = some (.int .i64 l1) := Hs1z7.out.cell 4
        have qs15_7 : wz7.cell? ⟨wz1.heap.size, 5, none⟩ = some (.int .i64 g1) := Hs1z7.out.cell 5
        have ls1_7 : wz1.heap.size < wz7.heap.size := Hs1z7.out.lt
        have hcz8 := CS1.out wz7
        rw [if_neg hk0, if_neg hk0] at hcz8
        go_wp2_with fail
        refine hcz8.mono ?_
        rintro e wz8 ⟨rfl, kz8⟩
        clear hcz8 qs10_7 qs11_7 qs12_7 qs13_7 qs14_7 qs15_7 ls1_7
        have HBz8 := Lib.hid (HBz7.out.trans (kz8.mono (Nat.le_trans hbase HBz7.out.size)))
        have Hs1z8 := Lib.hid (Hs1z7.out.call kz8)
        have Hs2z8 := Lib.hid (Hs2z7.out.call kz8)
        have Hs3z8 := Lib.hid (Hs3z7.out.call kz8)
        clear kz8
        obtain ⟨wz9, hwz9⟩ : ∃ wz9, wz8.alloc (.cells #[.int .u64 (hi d : Nat), .int .u64 (lo d : Nat)] 25) = wz9 := ⟨_, rfl⟩
        have kz9 : Below wz8.heap.size wz8 wz9 := by rw [← hwz9]; exact (Below.refl _ _).alloc (Nat.le_refl _) _
        have Hd1z9 := Lib.hid (show Has wz9 wz8.heap.size [.int .u64 (hi d : Nat), .int .u64 (lo d : Nat)] 25 by rw [← hwz9]; exact Has.new _ _ _)
        have HWz9 := Lib.hid hwz9
        clear hwz9
        have HBz9 := Lib.hid (HBz8.out.trans (kz9.mono (Nat.le_trans hbase HBz8.out.size)))
        have Hs1z9 := Lib.hid (Hs1z8.out.call kz9)
        have Hs2z9 := Lib.hid (Hs2z8.out.call kz9)
        have Hs3z9 := Lib.hid (Hs3z8.out.call kz9)
        clear kz9
        go_upto_region 17 with fail
        rw [HWz9.out]
        have qs20_9 : wz9.cell? ⟨wz3.heap.size, 0, none⟩ = some (.int .i64 (k : Int)) := Hs2z9.out.cell 0
        have qs21_9 : wz9.cell? ⟨wz3.heap.size, 1, none⟩ = some (.int .i64 z2) := Hs2z9.out.cell 1
        have qs22_9 : wz9.cell? ⟨wz3.heap.size, 2, none⟩ = some (.int .u64 (hi q2 : Nat)) := Hs2z9.out.cell 2
        have qs23_9 : wz9.cell? ⟨wz3.heap.size, 3, none⟩ = some (.int .u64 (lo q2 : Nat)) := Hs2z9.out.cell 3
        have qs24_9 : wz9.cell? ⟨wz3.heap.size, 4, none⟩ = some (.int .i64 l2) := Hs2z9.out.cell 4
        have qs25_9 : wz9.cell? ⟨wz3.heap.size, 5, none⟩ = some (.int .i64 g2) := Hs2z9.out.cell 5
        have ls2_9 : wz3.heap.size < wz9.heap.size := Hs2z9.out.lt
        have hcz10 := CS2.out wz9
        rw [if_neg hk0, if_neg hk0] at hcz10
        go_wp2_with fail
        refine hcz10.mono ?_
        rintro e wz10 ⟨rfl, kz10⟩
        clear hcz10 qs20_9 qs21_9 qs22_9 qs23_9 qs24_9 qs25_9 ls2_9
        have HBz10 := Lib.hid (HBz9.out.trans (kz10.mono (Nat.le_trans hbase HBz9.out.size)))
        have Hs1z10 := Lib.hid (Hs1z9.out.call kz10)
        have Hs2z10 := Lib.hid (Hs2z9.out.call kz10)
        have Hs3z10 := Lib.hid (Hs3z9.out.call kz10)
        have Hd1z10 := Lib.hid (Hd1z9.out.call kz10)
        clear kz10
        obtain ⟨wz11, hwz11⟩ : ∃ wz11, wz10.alloc (.cells #[.int .u64 (hi d : Nat), .int .u64 (lo d : Nat)] 25) = wz11 := ⟨_, rfl⟩
        have kz11 : Below wz10.heap.size wz10 wz11 := by rw [← hwz11]; exact (Below.refl _ _).alloc (Nat.le_refl _) _
        have Hd2z11 := Lib.hid (show Has wz11 wz10.heap.size [.int .u64 (hi d : Nat), .int .u64 (lo d : Nat)] 25 by rw [← hwz11]; exact Has.new _ _ _)
        have HWz11 := Lib.hid hwz11
        clear hwz11
        have HBz11 := Lib.hid (HBz10.out.trans (kz11.mono (Nat.le_trans hbase HBz10.out.size)))
        have Hs1z11 := Lib.hid (Hs1z10.out.call kz11)
        have Hs2z11 := Lib.hid (Hs2z10.out.call kz11)
        have Hs3z11 := Lib.hid (Hs3z10.out.call kz11)
        have Hd1z11 := Lib.hid (Hd1z10.out.call kz11)
        clear kz11
        go_upto_region 18 with fail
        rw [HWz11.out]
        have qs30_11 : wz11.cell? ⟨wz5.heap.size, 0, none⟩ = some (.int .i64 (k : Int)) := Hs3z11.out.cell 0
        have qs31_11 : wz11.cell? ⟨wz5.heap.size, 1, none⟩ = some (.int .i64 z3) := Hs3z11.out.cell 1
        have qs32_11 : wz11.cell? ⟨wz5.heap.size, 2, none⟩ = some (.int .u64 (hi q3 : Nat)) := Hs3z11.out.cell 2
        have qs33_11 : wz11.cell? ⟨wz5.heap.size, 3, none⟩ = some (.int .u64 (lo q3 : Nat)) := Hs3z11.out.cell 3
        have qs34_11 : wz11.cell? ⟨wz5.heap.size, 4, none⟩ = some (.int .i64 l3) := Hs3z11.out.cell 4
        have qs35_11 : wz11.cell? ⟨wz5.heap.size, 5, none⟩ = some (.int .i64 g3) := Hs3z11.out.cell 5
        have ls3_11 : wz5.heap.size < wz11.heap.size := Hs3z11.out.lt
        have hcz12 := CS3.out wz11
        rw [if_neg hk0, if_neg hk0] at hcz12
        go_wp2_with fail
        refine hcz12.mono ?_
        rintro e wz12 ⟨rfl, kz12⟩
        clear hcz12 qs30_11 qs31_11 qs32_11 qs33_11 qs34_11 qs35_11 ls3_11
        have HBz12 := Lib.hid (HBz11.out.trans (kz12.mono (Nat.le_trans hbase HBz11.out.size)))
        have Hs1z12 := Lib.hid (Hs1z11.out.call kz12)
        have Hs2z12 := Lib.hid (Hs2z11.out.call kz12)
        have Hs3z12 := Lib.hid (Hs3z11.out.call kz12)
        have Hd1z12 := Lib.hid (Hd1z11.out.call kz12)
        have Hd2z12 := Lib.hid (Hd2z11.out.call kz12)
        clear kz12
        obtain ⟨wz13, hwz13⟩ : ∃ wz13, wz12.alloc (.cells #[.int .u64 (hi du : Nat), .int .u64 (lo du : Nat)] 25) = wz13 := ⟨_, rfl⟩
        have kz13 : Below wz12.heap.size wz12 wz13 := by rw [← hwz13]; exact (Below.refl _ _).alloc (Nat.le_refl _) _
        have Hd3z13 := Lib.hid (show Has wz13 wz12.heap.size [.int .u64 (hi du : Nat), .int .u64 (lo du : Nat)] 25 by rw [← hwz13]; exact Has.new _ _ _)
        have HWz13 := Lib.hid hwz13
        clear hwz13
        have HBz13 := Lib.hid (HBz12.out.trans (kz13.mono (Nat.le_trans hbase HBz12.out.size)))
        have Hs1z13 := Lib.hid (Hs1z12.out.call kz13)
        have Hs2z13 := Lib.hid (Hs2z12.out.call kz13)
        have Hs3z13 := Lib.hid (Hs3z12.out.call kz13)
        have Hd1z13 := Lib.hid (Hd1z12.out.call kz13)
        have Hd2z13 := Lib.hid (Hd2z12.out.call kz13)
        clear kz13
        go_upto_region 19 with fail
        rw [HWz13.out]
        obtain ⟨hu, hub⟩ := HU.out
        have hut : wrap64 (t * t) = (u : Int) := by rw [← hu]; unfold wrap64; omega
        have huv : IntKind.u64.wrap (u : Int) = (u : Int) := by rw [IntKind.wrap_u64]; omega
        clear hu
        have qd10_13 : wz13.cell? ⟨wz8.heap.size, 0, none⟩ = some (.int .u64 (hi d : Nat)) := Hd1z13.out.cell 0
        have qd11_13 : wz13.cell? ⟨wz8.heap.size, 1, none⟩ = some (.int .u64 (lo d : Nat)) := Hd1z13.out.cell 1
        have ld1_13 : wz8.heap.size < wz13.heap.size := Hd1z13.out.lt
        have hcz14 := CT.out wz13
        go_wp2_with fail
        refine hcz14.mono ?_
        rintro e wz14 ⟨rfl, kz14⟩
        clear hcz14 qd10_13 qd11_13 ld1_13
        have HBz14 := Lib.hid (HBz13.out.trans (kz14.mono (Nat.le_trans hbase HBz13.out.size)))
        have Hs1z14 := Lib.hid (Hs1z13.out.call kz14)
        have Hs2z14 := Lib.hid (Hs2z13.out.call kz14)
        have Hs3z14 := Lib.hid (Hs3z13.out.call kz14)
        have Hd1z14 := Lib.hid (Hd1z13.out.call kz14)
        have Hd2z14 := Lib.hid (Hd2z13.out.call kz14)
        have Hd3z14 := Lib.hid (Hd3z13.out.call kz14)
        clear kz14
        obtain ⟨wz15, hwz15⟩ : ∃ wz15, wz14.alloc (.cells #[.int .u64 (hi du : Nat), .int .u64 (lo du : Nat)] 25) = wz15 := ⟨_, rfl⟩
        have kz15 : Below wz14.heap.size wz14 wz15 := by rw [← hwz15]; exact (Below.refl _ _).alloc (Nat.le_refl _) _
        have Hd4z15 := Lib.hid (show Has wz15 wz14.heap.size [.int .u64 (hi du : Nat), .int .u64 (lo du : Nat)] 25 by rw [← hwz15]; exact Has.new _ _ _)
        have HWz15 := Lib.hid hwz15
        clear hwz15
        have HBz15 := Lib.hid (HBz14.out.trans (kz15.mono (Nat.le_trans hbase HBz14.out.size)))
        have Hs1z15 := Lib.hid (Hs1z14.out.call kz15)
        have Hs2z15 := Lib.hid (Hs2z14.out.call kz15)
        have Hs3z15 := Lib.hid (Hs3z14.out.call kz15)
        have Hd1z15 := Lib.hid (Hd1z14.out.call kz15)
        have Hd2z15 := Lib.hid (Hd2z14.out.call kz15)
        have Hd3z15 := Lib.hid (Hd3z14.out.call kz15)
        clear kz15
        clear hut huv hub
        go_upto_region 20 with fail
        rw [HWz15.out]
        obtain ⟨⟨hz2, hz3⟩, ⟨hl2, hg2⟩, hlo, hhi⟩ := HF.out
        obtain ⟨hb1, hb2, hb3⟩ := HBS.out
        have hl2 := hl2 (by omega)
        have hg2 := hg2 (by omega)
        have hlo := hlo (by omega)
        have hhi := hhi (by omega)
        obtain ⟨P, hP⟩ : ∃ P, c * (k : Int) = P := ⟨_, rfl⟩
        rw [hP] at hz2
        have hPw : wrap64 (c * (k : Int)) = P := by rw [hP]; unfold wrap64; omega
        have hzw : wrap64 (z1 + P) = z2 := by unfold wrap64; omega
        have hlw : wrap64 (l1 + c) = l2 := by unfold wrap64; omega
        have hgw : wrap64 (g1 + c) = g2 := by unfold wrap64; omega
        have htw : wrap64 (z1 * t) = z3 := by rw [← hz3]; unfold wrap64; omega
        have hew := fun W => eqWide d d W
        have hev := fun W => eqWide du du W
        rw [decide_eq_true rfl] at hew hev
        clear hP hz2 hz3 hl2 hg2 hlo hhi hb1 hb2 hb3
        have qs10_15 : wz15.cell? ⟨wz1.heap.size, 0, none⟩ = some (.int .i64 (k : Int)) := Hs1z15.out.cell 0
        have qs11_15 : wz15.cell? ⟨wz1.heap.size, 1, none⟩ = some (.int .i64 z1) := Hs1z15.out.cell 1
        have qs12_15 : wz15.cell? ⟨wz1.heap.size, 2, none⟩ = some (.int .u64 (hi q1 : Nat)) := Hs1z15.out.cell 2
        have qs13_15 : wz15.cell? ⟨wz1.heap.size, 3, none⟩ = some (.int .u64 (lo q1 : Nat)) := Hs1z15.out.cell 3
        have qs14_15 : wz15.cell? ⟨wz1.heap.size, 4, none⟩ = some (.int .i64 l1) := Hs1z15.out.cell 4
        have qs15_15 : wz15.cell? ⟨wz1.heap.size, 5, none⟩ = some (.int .i64 g1) := Hs1z15.out.cell 5
        have ls1_15 : wz1.heap.size < wz15.heap.size := Hs1z15.out.lt
        have qs20_15 : wz15.cell? ⟨wz3.heap.size, 0, none⟩ = some (.int .i64 (k : Int)) := Hs2z15.out.cell 0
        have qs21_15 : wz15.cell? ⟨wz3.heap.size, 1, none⟩ = some (.int .i64 z2) := Hs2z15.out.cell 1
        have qs22_15 : wz15.cell? ⟨wz3.heap.size, 2, none⟩ = some (.int .u64 (hi q2 : Nat)) := Hs2z15.out.cell 2
        have qs23_15 : wz15.cell? ⟨wz3.heap.size, 3, none⟩ = some (.int .u64 (lo q2 : Nat)) := Hs2z15.out.cell 3
        have qs24_15 : wz15.cell? ⟨wz3.heap.size, 4, none⟩ = some (.int .i64 l2) := Hs2z15.out.cell 4
        have qs25_15 : wz15.cell? ⟨wz3.heap.size, 5, none⟩ = some (.int .i64 g2) := Hs2z15.out.cell 5
        have ls2_15 : wz3.heap.size < wz15.heap.size := Hs2z15.out.lt
        have qs30_15 : wz15.cell? ⟨wz5.heap.size, 0, none⟩ = some (.int .i64 (k : Int)) := Hs3z15.out.cell 0
        have qs31_15 : wz15.cell? ⟨wz5.heap.size, 1, none⟩ = some (.int .i64 z3) := Hs3z15.out.cell 1
        have qs32_15 : wz15.cell? ⟨wz5.heap.size, 2, none⟩ = some (.int .u64 (hi q3 : Nat)) := Hs3z15.out.cell 2
        have qs33_15 : wz15.cell? ⟨wz5.heap.size, 3, none⟩ = some (.int .u64 (lo q3 : Nat)) := Hs3z15.out.cell 3
        have qs34_15 : wz15.cell? ⟨wz5.heap.size, 4, none⟩ = some (.int .i64 l3) := Hs3z15.out.cell 4
        have qs35_15 : wz15.cell? ⟨wz5.heap.size, 5, none⟩ = some (.int .i64 g3) := Hs3z15.out.cell 5
        have ls3_15 : wz5.heap.size < wz15.heap.size := Hs3z15.out.lt
        have qd10_15 : wz15.cell? ⟨wz8.heap.size, 0, none⟩ = some (.int .u64 (hi d : Nat)) := Hd1z15.out.cell 0
        have qd11_15 : wz15.cell? ⟨wz8.heap.size, 1, none⟩ = some (.int .u64 (lo d : Nat)) := Hd1z15.out.cell 1
        have ld1_15 : wz8.heap.size < wz15.heap.size := Hd1z15.out.lt
        have qd20_15 : wz15.cell? ⟨wz10.heap.size, 0, none⟩ = some (.int .u64 (hi d : Nat)) := Hd2z15.out.cell 0
        have qd21_15 : wz15.cell? ⟨wz10.heap.size, 1, none⟩ = some (.int .u64 (lo d : Nat)) := Hd2z15.out.cell 1
        have ld2_15 : wz10.heap.size < wz15.heap.size := Hd2z15.out.lt
        have qd30_15 : wz15.cell? ⟨wz12.heap.size, 0, none⟩ = some (.int .u64 (hi du : Nat)) := Hd3z15.out.cell 0
        have qd31_15 : wz15.cell? ⟨wz12.heap.size, 1, none⟩ = some (.int .u64 (lo du : Nat)) := Hd3z15.out.cell 1
        have ld3_15 : wz12.heap.size < wz15.heap.size := Hd3z15.out.lt
        have qd40_15 : wz15.cell? ⟨wz14.heap.size, 0, none⟩ = some (.int .u64 (hi du : Nat)) := Hd4z15.out.cell 0
        have qd41_15 : wz15.cell? ⟨wz14.heap.size, 1, none⟩ = some (.int .u64 (lo du : Nat)) := Hd4z15.out.cell 1
        have ld4_15 : wz14.heap.size < wz15.heap.size := Hd4z15.out.lt
        go_wp2
        go_ret
        exact ⟨rfl, HBEL.out.trans (HBz15.out.mono HBEL.out.size)⟩
end Go.Proofs.Ytbpdapggdccmiaa
