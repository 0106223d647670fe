/- The law of CollectParts. -/
import Derived.Test.YtnpgofkdfckioaaColY
import Derived.Test.YtnpgofkdfckioaaColW
namespace Go.Proofs.Ytnpgofkdfckioaa
open Go.RowKit

set_option linter.unusedSimpArgs false in
set_option maxHeartbeats 4000000 in
set_option maxRecDepth 100000 in
theorem parts_walk (s lo hi : Int) (xs l : List Int) (c : Int) (hc : -9223372036854775808 ≤ c ∧ c ≤ 9223372036854775807) (v vl : Value) (w : World) (hr : ReadsI w v xs) (hl : ReadsI w vl l) :
    Calls Try.prog 6 #[.agg #[.int .i64 s, .int .i64 lo, .int .i64 hi, v], vl, .int .i64 c] w fun e w' => e = .returned (.bool true) ∧ Below w.heap.size w w' := by
  obtain ⟨al, cl, rfl, hll, hlm, -⟩ := id hl
  obtain ⟨ao, cap, rfl, hlc, hcm, -⟩ := id hr
  obtain ⟨nl, hnl⟩ : ∃ nl, l.length = nl := ⟨_, rfl⟩
  obtain ⟨n, hn⟩ : ∃ n, xs.length = n := ⟨_, rfl⟩
  rw [hnl] at hll hl ⊢
  rw [hn] at hlc hr ⊢
  obtain ⟨k, hk⟩ : ∃ k, k = min n 12 := ⟨_, rfl⟩
  obtain ⟨m, hm⟩ : ∃ m, m = min nl 200 := ⟨_, rfl⟩
  have hfew := fun W => few10_any s lo hi ao n cap k W hk hlc hcm
  unfold maxLen at hlm hcm
  have HX := Lib.hid (hr.few 12 k hk)
  have HL := Lib.hid (hl.few 200 m hm)
  have hkl : (xs.take 12).length = k := by rw [List.length_take, hn, hk, Nat.min_comm]
  have hml : (l.take 200).length = m := by rw [List.length_take, hnl, hm, Nat.min_comm]
  have hm2 : m ≤ 200 := by omega
  have hB := (Below.refl w.heap.size w).alloc (Nat.le_refl _) (.cells #[.int .i64 s, .int .i64 lo, .int .i64 hi, .slice ao n cap] 24)
  have hx := Has.new w [.int .i64 s, .int .i64 lo, .int .i64 hi, .slice ao n cap] 24
  have hs1 : (w.alloc (.cells #[.int .i64 s, .int .i64 lo, .int .i64 hi, .slice ao n cap] 24)).heap.size = w.heap.size + 1 := by simp
  have HB := Lib.hid hB
  have HXB := Lib.hid hx
  have HM := Lib.hid hm
  have HCL := Lib.hid (And.intro hlm hll)
  clear hr hl hn hnl hk hm hB hx
  generalize xs.take 12 = xs at *
  generalize l.take 200 = l at *
  go_enter Try.func6, Try.ntmps6
  go_upto_region 1 with fail
  go_cut [1] (fun s1 wx => s1 = .slice al m cl ∧ Below w.heap.size w wx ∧ Has wx w.heap.size [.int .i64 s, .int .i64 lo, .int .i64 hi, .slice ao k cap] 24)
  case first =>
    have hll := HCL.out.2
    have hlm := HCL.out.1
    have hm := HM.out
    rcases Nat.lt_or_ge 200 nl with c | c
    · obtain rfl : m = 200 := by omega
      have g1 : (200 : Int) < (nl : Int) := by omega
      have g2 : min (nl : Int) 200 = 200 := by omega
      have hsl : ∀ W, (Instr.slice 22 (.slice al nl cl) none (some (.int .i64 200)) none).run Try.prog W = .ok (.slice al 200 cl) W := slice_hi al nl cl 200 (by omega)
      clear hm
      go_region_with (go_at_call 7; refine (hfew _).mono ?_; rintro e w2 ⟨rfl, k2⟩; (have hx2 : Has w2 w.heap.size [.int .i64 s, .int .i64 lo, .int .i64 hi, .slice ao n cap] 24 := HXB.out.of (k2.block w.heap.size (by simp))); (have hb2 : Below w.heap.size w w2 := by first | exact HB.out.trans (k2.mono (by simp)) | exact HB.out.drew.trans (k2.mono (by simp)) | exact HB.out.drew.drew.trans (k2.mono (by simp)) | exact HB.out.drew.drew.drew.trans (k2.mono (by simp))); (have HX2 := Lib.hid hx2); (have HB2 := Lib.hid hb2); (have x0 : w2.cell? ⟨w.heap.size, 0, none⟩ = some (.int .i64 s) := hx2.cell 0); (have x1 : w2.cell? ⟨w.heap.size, 1, none⟩ = some (.int .i64 lo) := hx2.cell 1); (have x2 : w2.cell? ⟨w.heap.size, 2, none⟩ = some (.int .i64 hi) := hx2.cell 2); (have x3 : w2.cell? ⟨w.heap.size, 3, none⟩ = some (.slice ao n cap) := hx2.cell 3); (have f0 : w2.frozen? ⟨w.heap.size, 0, none⟩ = false := hx2.frozen 0); (have f1 : w2.frozen? ⟨w.heap.size, 1, none⟩ = false := hx2.frozen 1); (have f2 : w2.frozen? ⟨w.heap.size, 2, none⟩ = false := hx2.frozen 2); (have f3 : w2.frozen? ⟨w.heap.size, 3, none⟩ = false := hx2.frozen 3); clear hx2 hb2 k2)
      all_goals (go_wp2_with fail; go_meet)
      all_goals (exact ⟨rfl, by first | exact Below.put4 HB2.out (Nat.le_refl _) _ _ _ _ | exact Below.drew (Below.put4 HB2.out (Nat.le_refl _) _ _ _ _) | exact Below.drew (Below.drew (Below.put4 HB2.out (Nat.le_refl _) _ _ _ _)) | exact Below.drew (Below.drew (Below.drew (Below.put4 HB2.out (Nat.le_refl _) _ _ _ _))), HX2.out.put4 _ _ _ _⟩)
    · obtain rfl : m = nl := by omega
      have g1 : ¬ (200 : Int) < (m : Int) := by omega
      have g2 : min (m : Int) 200 = (m : Int) := by omega
      have hsl : ∀ W, (Instr.slice 22 (.slice al m cl) none (some (.int .i64 (m : Int))) none).run Try.prog W = .ok (.slice al m cl) W := slice_hi al m cl m (by omega)
      clear hm
      go_region_with (go_at_call 7; refine (hfew _).mono ?_; rintro e w2 ⟨rfl, k2⟩; (have hx2 : Has w2 w.heap.size [.int .i64 s, .int .i64 lo, .int .i64 hi, .slice ao n cap] 24 := HXB.out.of (k2.block w.heap.size (by simp))); (have hb2 : Below w.heap.size w w2 := by first | exact HB.out.trans (k2.mono (by simp)) | exact HB.out.drew.trans (k2.mono (by simp)) | exact HB.out.drew.drew.trans (k2.mono (by simp)) | exact HB.out.drew.drew.drew.trans (k2.mono (by simp))); (have HX2 := Lib.hid hx2); (have HB2 := Lib.hid hb2); (have x0 : w2.cell? ⟨w.heap.size, 0, none⟩ = some (.int .i64 s) := hx2.cell 0); (have x1 : w2.cell? ⟨w.heap.size, 1, none⟩ = some (.int .i64 lo) := hx2.cell 1); (have x2 : w2.cell? ⟨w.heap.size, 2, none⟩ = some (.int .i64 hi) := hx2.cell 2); (have x3 : w2.cell? ⟨w.heap.size, 3, none⟩ = some (.slice ao n cap) := hx2.cell 3); (have f0 : w2.frozen? ⟨w.heap.size, 0, none⟩ = false := hx2.frozen 0); (have f1 : w2.frozen? ⟨w.heap.size, 1, none⟩ = false := hx2.frozen 1); (have f2 : w2.frozen? ⟨w.heap.size, 2, none⟩ = false := hx2.frozen 2); (have f3 : w2.frozen? ⟨w.heap.size, 3, none⟩ = false := hx2.frozen 3); clear hx2 hb2 k2)
      all_goals (go_wp2_with fail; go_meet)
      all_goals (exact ⟨rfl, by first | exact Below.put4 HB2.out (Nat.le_refl _) _ _ _ _ | exact Below.drew (Below.put4 HB2.out (Nat.le_refl _) _ _ _ _) | exact Below.drew (Below.drew (Below.put4 HB2.out (Nat.le_refl _) _ _ _ _)) | exact Below.drew (Below.drew (Below.drew (Below.put4 HB2.out (Nat.le_refl _) _ _ _ _))), HX2.out.put4 _ _ _ _⟩)
  case rest =>
    obtain ⟨wA, hwA⟩ : ∃ wA : World, wA = wc := ⟨_, rfl⟩
    subst hwA
    obtain ⟨rfl, hb1, bH⟩ := hcut
    have hs1 := hb1.size
    have hbase := Nat.le_refl w.heap.size
    have HB1 := Lib.hid hb1
    have HB0 := Lib.hid bH
    clear hfew hb1 bH hs1
    obtain ⟨t, ht⟩ : ∃ t, c.tmod ((m : Int) + 1) = t := ⟨_, rfl⟩
    have ht1 : -((m : Int) + 1) < t := by rw [← ht]; exact Int.lt_tmod_of_pos _ (by omega)
    have ht2 : t < (m : Int) + 1 := by rw [← ht]; exact Int.tmod_lt_of_pos _ (by omega)
    obtain ⟨kk, hkk⟩ : ∃ kk : Nat, (t + (m : Int) + 1).tmod ((m : Int) + 1) = (kk : Int) := ⟨((t + (m : Int) + 1).tmod ((m : Int) + 1)).toNat, by
      rw [Int.toNat_of_nonneg]
      exact Int.tmod_nonneg _ (by omega)⟩
    have hkm : kk ≤ m := by
      have := Int.tmod_lt_of_pos (t + (m : Int) + 1) (show (0 : Int) < (m : Int) + 1 by omega)
      omega
    go_upto_region 2 with fail
    go_cut [2] (fun s2 wx => s2 = .int .i64 (kk : Nat) ∧ wx = wA)
    case first =>
      have hc1 := hc.1
      have hc2 := hc.2
      go_wp2_with fail
      go_meet
      exact ⟨rfl, rfl⟩
    case rest =>
      obtain ⟨rfl, hwx⟩ := hcut
      rw [hwx]
      have hmcl : m ≤ cl := by have := HCL.out.2; have := HM.out; omega
      have hsl1 := slice_hi al m cl kk (by omega)
      obtain ⟨al2, hsl2, hrd2⟩ := slice_lo al m cl kk hkm hmcl
      have HL1 := Lib.hid (HL.out.take kk hkm)
      have HL2 := Lib.hid (hrd2 _ _ HL.out)
      have hl1 : (l.take kk).length = kk := by rw [List.length_take]; omega
      have hl2 : (l.drop kk).length = m - kk := by rw [List.length_drop, hml]
      have HPL := Lib.hid (List.take_append_drop kk l)
      have hlm2 := HCL.out.1
      clear hrd2 hwx ht hkk ht1 ht2 hc
      cases hg : grightB ⟨s, lo, hi, xs⟩ with
      | false =>
        have qb0_0 : wA.cell? ⟨w.heap.size, 0, none⟩ = some (.int .i64 s) := HB0.out.cell 0
        have qb1_0 : wA.cell? ⟨w.heap.size, 1, none⟩ = some (.int .i64 lo) := HB0.out.cell 1
        have qb2_0 : wA.cell? ⟨w.heap.size, 2, none⟩ = some (.int .i64 hi) := HB0.out.cell 2
        have qb3_0 : wA.cell? ⟨w.heap.size, 3, none⟩ = some (.slice ao k cap) := HB0.out.cell 3
        have lb_0 : w.heap.size < wA.heap.size := HB0.out.lt
        have hcz1 := feed_no s lo hi xs l _ _ wA (HX.out.below HB1.out) (HL.out.below HB1.out) hg
        go_wp2_with fail
        refine hcz1.mono ?_
        rintro e wz1 ⟨rfl, kz1⟩
        clear hcz1 qb0_0 qb1_0 qb2_0 qb3_0 lb_0
        have HBz1 := Lib.hid (HB1.out.trans (kz1.mono (Nat.le_trans hbase HB1.out.size)))
        have Hbz1 := Lib.hid (HB0.out.call kz1)
        clear kz1
        obtain ⟨wz2, hwz2⟩ : ∃ wz2, wz1.alloc (.cells #[.int .i64 0, .int .i64 0, .int .i64 0, .slice none 0 0] 24) = wz2 := ⟨_, rfl⟩
        have kz2 : Below wz1.heap.size wz1 wz2 := by rw [← hwz2]; exact (Below.refl _ _).alloc (Nat.le_refl _) _
        have Haz2 := Lib.hid (show Has wz2 wz1.heap.size [.int .i64 0, .int .i64 0, .int .i64 0, .slice none 0 0] 24 by rw [← hwz2]; exact Has.new _ _ _)
        have HWz2 := Lib.hid hwz2
        clear hwz2
        have HBz2 := Lib.hid (HBz1.out.trans (kz2.mono (Nat.le_trans hbase HBz1.out.size)))
        have Hbz2 := Lib.hid (Hbz1.out.call kz2)
        clear kz2
        have hcz3 := alive10_any wz2
        go_wp2_with fail
        rw [HWz2.out]
        refine hcz3.mono ?_
        rintro e wz3 ⟨rfl, kz3⟩
        clear hcz3
        have HBz3 := Lib.hid (HBz2.out.trans (kz3.mono (Nat.le_trans hbase HBz2.out.size)))
        have Hbz3 := Lib.hid (Hbz2.out.call kz3)
        have Haz3 := Lib.hid (Haz2.out.call kz3)
        clear kz3
        go_wp2
        go_ret
        exact ⟨rfl, HBz3.out⟩
      | true =>
        have hg0 := hg
        have hs1 := feedN_same (l.take kk) ⟨s, lo, hi, xs⟩
        have hg1 := feedN_right (l.take kk) _ hg
        have hc1 := feedN_count (l.take kk) ⟨s, lo, hi, xs⟩
        have hn1 := feedN_rows_len (l.take kk) ⟨s, lo, hi, xs⟩
        have hp := feedN_parts (l.take kk) (l.drop kk) ⟨s, lo, hi, xs⟩
        rw [HPL.out] at hp
        obtain ⟨ys1, L1, r1, hR1⟩ : ∃ ys1 L1 r1, feedN ⟨s, lo, hi, xs⟩ (l.take kk) = (⟨s, lo, hi, ys1⟩, L1, r1) := by
          cases hq : feedN ⟨s, lo, hi, xs⟩ (l.take kk) with
          | mk g1 p =>
            obtain ⟨sa, la, ha, ya⟩ := g1
            rw [hq] at hs1
            dsimp only at hs1
            exact ⟨ya, p.1, p.2, by rw [hs1.1, hs1.2.1, hs1.2.2]⟩
        rw [hR1] at hg1 hc1 hn1 hp
        dsimp only at hg1 hc1 hn1 hp
        have hs2 := feedN_same (l.drop kk) ⟨s, lo, hi, ys1⟩
        have hc2 := feedN_count (l.drop kk) ⟨s, lo, hi, ys1⟩
        have hn2 := feedN_rows_len (l.drop kk) ⟨s, lo, hi, ys1⟩
        obtain ⟨ys2, L2, r2, hR2⟩ : ∃ ys2 L2 r2, feedN ⟨s, lo, hi, ys1⟩ (l.drop kk) = (⟨s, lo, hi, ys2⟩, L2, r2) := by
          cases hq : feedN ⟨s, lo, hi, ys1⟩ (l.drop kk) with
          | mk g1 p =>
            obtain ⟨sa, la, ha, ya⟩ := g1
            rw [hq] at hs2
            dsimp only at hs2
            exact ⟨ya, p.1, p.2, by rw [hs2.1, hs2.2.1, hs2.2.2]⟩
        rw [hR2] at hc2 hn2 hp
        dsimp only at hc2 hn2 hp
        obtain ⟨LL, hLL⟩ : ∃ LL, L1 ++ L2 = LL := ⟨_, rfl⟩
        obtain ⟨rr, hrr⟩ : ∃ rr, r1 + r2 = rr := ⟨_, rfl⟩
        rw [hLL, hrr] at hp
        have hr1 : r1 ≤ 200 := by omega
        have hr2 : r2 ≤ 200 := by omega
        have hq1 : ((rr : Int) != (r1 : Int) + (r2 : Int)) = false := by
          have : (rr : Int) = (r1 : Int) + (r2 : Int) := by omega
          rw [this]
          simp
        have hq2 : ((rr : Int) == (r1 : Int) + (r2 : Int)) = true := by
          rw [beq_iff_eq]
          omega
        have hLb : L1.length + L2.length ≤ 1000 := by omega
        have hgo := (grightB_out hg1).1
        dsimp only at hgo
        have hyl : ys1.length ≤ 10 := by omega
        have hsz : sizesB s lo hi = true := decide_eq_true ⟨hgo.1, hgo.2.1, hgo.2.2.1, hgo.2.2.2.1, hgo.2.2.2.2.1⟩
        have HG1 := Lib.hid hg1
        have HG0 := Lib.hid hg0
        have HSZ := Lib.hid hsz
        have HR1E := Lib.hid hR1
        have HR2E := Lib.hid hR2
        have HPE := Lib.hid hp
        have HLL := Lib.hid hLL
        have HLB := Lib.hid hLb
        have HLN := Lib.hid (And.intro hl1 hl2)
        have HML := Lib.hid hml
        clear hg hg0 hg1 hs1 hc1 hn1 hp hs2 hc2 hn2 hR1 hR2 hLL hrr hLb hgo hsz hl1 hl2 hml hkl HM HCL HXB HB
        have qb0_0 : wA.cell? ⟨w.heap.size, 0, none⟩ = some (.int .i64 s) := HB0.out.cell 0
        have qb1_0 : wA.cell? ⟨w.heap.size, 1, none⟩ = some (.int .i64 lo) := HB0.out.cell 1
        have qb2_0 : wA.cell? ⟨w.heap.size, 2, none⟩ = some (.int .i64 hi) := HB0.out.cell 2
        have qb3_0 : wA.cell? ⟨w.heap.size, 3, none⟩ = some (.slice ao k cap) := HB0.out.cell 3
        have lb_0 : w.heap.size < wA.heap.size := HB0.out.lt
        have hcz1 := feed_any s lo hi xs l _ _ wA (HX.out.below HB1.out) (HL.out.below HB1.out) (by rw [HML.out]; omega) HG0.out
        rw [HPE.out] at hcz1
        dsimp only at hcz1
        go_wp2_with fail
        refine hcz1.mono ?_
        rintro e wz1 ⟨va, ra, rfl, hva, hra, kz1⟩
        clear hcz1 qb0_0 qb1_0 qb2_0 qb3_0 lb_0
        have HBz1 := Lib.hid (HB1.out.trans (kz1.mono (Nat.le_trans hbase HB1.out.size)))
        have Hbz1 := Lib.hid (HB0.out.call kz1)
        clear kz1
        obtain ⟨ava, cva, rfl, -⟩ := id hva
        obtain ⟨ara, cra, rfl, -⟩ := id hra
        have HVA := Lib.hid hva
        have HRA := Lib.hid hra
        clear hva hra
        obtain ⟨wz2, hwz2⟩ : ∃ wz2, wz1.alloc (.cells #[.int .i64 s, .int .i64 lo, .int .i64 hi, .slice ava ys2.length cva] 24) = wz2 := ⟨_, rfl⟩
        have kz2 : Below wz1.heap.size wz1 wz2 := by rw [← hwz2]; exact (Below.refl _ _).alloc (Nat.le_refl _) _
        have Haz2 := Lib.hid (show Has wz2 wz1.heap.size [.int .i64 s, .int .i64 lo, .int .i64 hi, .slice ava ys2.length cva] 24 by rw [← hwz2]; exact Has.new _ _ _)
        have HWz2 := Lib.hid hwz2
        clear hwz2
        have HBz2 := Lib.hid (HBz1.out.trans (kz2.mono (Nat.le_trans hbase HBz1.out.size)))
        have Hbz2 := Lib.hid (Hbz1.out.call kz2)
        have Hvaz2 := Lib.hid (HVA.out.below kz2)
        have Hraz2 := Lib.hid (HRA.out.below kz2)
        clear kz2
        
        go_upto_region 6 with fail
        rw [HWz2.out]
        have qb0_2 : wz2.cell? ⟨w.heap.size, 0, none⟩ = some (.int .i64 s) := Hbz2.out.cell 0
        have qb1_2 : wz2.cell? ⟨w.heap.size, 1, none⟩ = some (.int .i64 lo) := Hbz2.out.cell 1
        have qb2_2 : wz2.cell? ⟨w.heap.size, 2, none⟩ = some (.int .i64 hi) := Hbz2.out.cell 2
        have qb3_2 : wz2.cell? ⟨w.heap.size, 3, none⟩ = some (.slice ao k cap) := Hbz2.out.cell 3
        have lb_2 : w.heap.size < wz2.heap.size := Hbz2.out.lt
        have hf6 := fun W (h : Below wz2.heap.size wz2 W) => feed_all s lo hi xs (l.take kk) _ _ W (HX.out.below (HBz2.out.trans (h.mono HBz2.out.size))) (HL1.out.below (HBz2.out.trans (h.mono HBz2.out.size))) (by rw [HLN.out.1]; omega) HG0.out
        rw [HR1E.out] at hf6
        dsimp only at hf6
        go_upto_region 6 with fail
        go_cut [11, 12, 13, 14] (fun s1 s2 s3 s4 wx => ∃ (b : Nat) (av : Option Addr) (cv : Nat) (ar : Option Addr) (cr : Nat), s1 = .pointer (some ⟨b, 0, none⟩) ∧ s2 = .slice ar L1.length cr ∧ s3 = .int .i64 (r1 : Nat) ∧ s4 = .int .i64 0 ∧ wz2.heap.size ≤ b ∧ Has wx b [.int .i64 s, .int .i64 lo, .int .i64 hi, .slice av ys1.length cv] 24 ∧ ReadsI wx (.slice av ys1.length cv) ys1 ∧ ReadsR wx (.slice ar L1.length cr) L1 ∧ Below wz2.heap.size wz2 wx)
        case first =>
          go_region_with (go_at_call 19; refine (hf6 _ (by first | exact Below.refl wz2.heap.size wz2 | exact Below.drew (Below.refl wz2.heap.size wz2) | exact Below.drew (Below.drew (Below.refl wz2.heap.size wz2)) | exact Below.drew (Below.drew (Below.drew (Below.refl wz2.heap.size wz2))) | exact (Below.refl wz2.heap.size wz2).alloc (Nat.le_refl _) (.cells #[.int .i64 0, .int .i64 0, .int .i64 0, .slice none 0 0] 24) | exact Below.drew ((Below.refl wz2.heap.size wz2).alloc (Nat.le_refl _) (.cells #[.int .i64 0, .int .i64 0, .int .i64 0, .slice none 0 0] 24)) | exact Below.drew (Below.drew ((Below.refl wz2.heap.size wz2).alloc (Nat.le_refl _) (.cells #[.int .i64 0, .int .i64 0, .int .i64 0, .slice none 0 0] 24))) | exact Below.drew (Below.drew (Below.drew ((Below.refl wz2.heap.size wz2).alloc (Nat.le_refl _) (.cells #[.int .i64 0, .int .i64 0, .int .i64 0, .slice none 0 0] 24)))))).mono ?_; rintro e w6 ⟨v1, rv1, rfl, hst, k6⟩; (have hrd6 := hst w6 (Nat.le_refl _) (fun _ _ _ => rfl)); (obtain ⟨av6, cv6, rfl, -⟩ := hrd6.1); (obtain ⟨ar6, cr6, rfl, -⟩ := hrd6.2); (have HST := Lib.hid hst); (have HB6 := Lib.hid (show Below wz2.heap.size wz2 w6 by first | exact (Below.refl wz2.heap.size wz2).trans (k6.mono (Nat.le_refl _)) | exact (Below.drew (Below.refl wz2.heap.size wz2)).trans (k6.mono (Nat.le_refl _)) | exact (Below.drew (Below.drew (Below.refl wz2.heap.size wz2))).trans (k6.mono (Nat.le_refl _)) | exact (Below.drew (Below.drew (Below.drew (Below.refl wz2.heap.size wz2)))).trans (k6.mono (Nat.le_refl _)) | exact ((Below.refl wz2.heap.size wz2).alloc (Nat.le_refl _) (.cells #[.int .i64 0, .int .i64 0, .int .i64 0, .slice none 0 0] 24)).trans (k6.mono (by simp [World.drew])) | exact (Below.drew ((Below.refl wz2.heap.size wz2).alloc (Nat.le_refl _) (.cells #[.int .i64 0, .int .i64 0, .int .i64 0, .slice none 0 0] 24))).trans (k6.mono (by simp [World.drew])) | exact (Below.drew (Below.drew ((Below.refl wz2.heap.size wz2).alloc (Nat.le_refl _) (.cells #[.int .i64 0, .int .i64 0, .int .i64 0, .slice none 0 0] 24)))).trans (k6.mono (by simp [World.drew])) | exact (Below.drew (Below.drew (Below.drew ((Below.refl wz2.heap.size wz2).alloc (Nat.le_refl _) (.cells #[.int .i64 0, .int .i64 0, .int .i64 0, .slice none 0 0] 24))))).trans (k6.mono (by simp [World.drew])))); (have hs6 := HB6.out.size); (try have zH : Has w6 wz2.heap.size [.int .i64 0, .int .i64 0, .int .i64 0, .slice none 0 0] 24 := (Has.new wz2 [.int .i64 0, .int .i64 0, .int .i64 0, .slice none 0 0] 24).step k6 rfl); (try have z0 : w6.cell? ⟨wz2.heap.size, 0, none⟩ = some (.int .i64 0) := zH.cell 0); (try have z1 : w6.cell? ⟨wz2.heap.size, 1, none⟩ = some (.int .i64 0) := zH.cell 1); (try have z2 : w6.cell? ⟨wz2.heap.size, 2, none⟩ = some (.int .i64 0) := zH.cell 2); (try have z3 : w6.cell? ⟨wz2.heap.size, 3, none⟩ = some (.slice none 0 0) := zH.cell 3); (try have zf0 : w6.frozen? ⟨wz2.heap.size, 0, none⟩ = false := zH.frozen 0); (try have zf1 : w6.frozen? ⟨wz2.heap.size, 1, none⟩ = false := zH.frozen 1); (try have zf2 : w6.frozen? ⟨wz2.heap.size, 2, none⟩ = false := zH.frozen 2); (try have zf3 : w6.frozen? ⟨wz2.heap.size, 3, none⟩ = false := zH.frozen 3); (try have HZ6 := Lib.hid zH); (try clear zH); clear hrd6 hst)
          all_goals (go_wp2_with fail; go_meet)
          all_goals first
            | exact ⟨_, _, _, _, _, rfl, rfl, rfl, rfl, hs6, Has.new w6 _ _, (HST.out _ (by simp [World.drew]) (fun j _ hj => Below.heap_alloc w6 (.cells #[.int .i64 s, .int .i64 lo, .int .i64 hi, .slice av6 ys1.length cv6] 24) j hj)).1, (HST.out _ (by simp [World.drew]) (fun j _ hj => Below.heap_alloc w6 (.cells #[.int .i64 s, .int .i64 lo, .int .i64 hi, .slice av6 ys1.length cv6] 24) j hj)).2, by first | exact HB6.out.alloc HB6.out.size (.cells #[.int .i64 s, .int .i64 lo, .int .i64 hi, .slice av6 ys1.length cv6] 24) | exact Below.drew (HB6.out.alloc HB6.out.size (.cells #[.int .i64 s, .int .i64 lo, .int .i64 hi, .slice av6 ys1.length cv6] 24)) | exact Below.drew (Below.drew (HB6.out.alloc HB6.out.size (.cells #[.int .i64 s, .int .i64 lo, .int .i64 hi, .slice av6 ys1.length cv6] 24))) | exact Below.drew (Below.drew (Below.drew (HB6.out.alloc HB6.out.size (.cells #[.int .i64 s, .int .i64 lo, .int .i64 hi, .slice av6 ys1.length cv6] 24))))⟩
            | exact ⟨_, _, _, _, _, rfl, rfl, rfl, rfl, Nat.le_refl _, HZ6.out.put4 (.int .i64 s) (.int .i64 lo) (.int .i64 hi) (.slice av6 ys1.length cv6), (HST.out _ (by simp [World.drew]) (fun j hj _ => put4_block w6 wz2.heap.size j (by simp [World.drew] at hj; omega) (.int .i64 s) (.int .i64 lo) (.int .i64 hi) (.slice av6 ys1.length cv6))).1, (HST.out _ (by simp [World.drew]) (fun j hj _ => put4_block w6 wz2.heap.size j (by simp [World.drew] at hj; omega) (.int .i64 s) (.int .i64 lo) (.int .i64 hi) (.slice av6 ys1.length cv6))).2, by first | exact Below.put4 HB6.out (Nat.le_refl _) (.int .i64 s) (.int .i64 lo) (.int .i64 hi) (.slice av6 ys1.length cv6) | exact Below.drew (Below.put4 HB6.out (Nat.le_refl _) (.int .i64 s) (.int .i64 lo) (.int .i64 hi) (.slice av6 ys1.length cv6)) | exact Below.drew (Below.drew (Below.put4 HB6.out (Nat.le_refl _) (.int .i64 s) (.int .i64 lo) (.int .i64 hi) (.slice av6 ys1.length cv6))) | exact Below.drew (Below.drew (Below.drew (Below.put4 HB6.out (Nat.le_refl _) (.int .i64 s) (.int .i64 lo) (.int .i64 hi) (.slice av6 ys1.length cv6))))⟩
        case rest =>
          obtain ⟨wB1, hwB1⟩ : ∃ wB : World, wB = wc := ⟨_, rfl⟩
          subst hwB1
          obtain ⟨b1, av1, cv1, ar1, cr1, rfl, rfl, rfl, rfl, hbs1, hbH1, hbv1, hbr1, kB1⟩ := hcut
          have HO1 := Lib.hid hbH1
          have HBV1 := Lib.hid hbv1
          have HBR1 := Lib.hid hbr1
          clear hbH1 hbv1 hbr1 hf6 qb0_2 qb1_2 qb2_2 qb3_2 lb_2
          have HBz3 := Lib.hid (HBz2.out.trans (kB1.mono (Nat.le_trans hbase HBz2.out.size)))
          have Hbz3 := Lib.hid (Hbz2.out.call kB1)
          have Haz3 := Lib.hid (Haz2.out.call kB1)
          have Hvaz3 := Lib.hid (Hvaz2.out.below kB1)
          have Hraz3 := Lib.hid (Hraz2.out.below kB1)
          clear kB1
          go_upto_region 7 with fail
          have qo10_3 : wB1.cell? ⟨b1, 0, none⟩ = some (.int .i64 s) := HO1.out.cell 0
          have qo11_3 : wB1.cell? ⟨b1, 1, none⟩ = some (.int .i64 lo) := HO1.out.cell 1
          have qo12_3 : wB1.cell? ⟨b1, 2, none⟩ = some (.int .i64 hi) := HO1.out.cell 2
          have qo13_3 : wB1.cell? ⟨b1, 3, none⟩ = some (.slice av1 ys1.length cv1) := HO1.out.cell 3
          have lo1_3 : b1 < wB1.heap.size := HO1.out.lt
          have hf7 := fun W (h : Below wB1.heap.size wB1 W) => feed_all s lo hi ys1 (l.drop kk) _ _ W (HBV1.out.below h) (HL2.out.below (HBz3.out.trans (h.mono HBz3.out.size))) (by rw [HLN.out.2]; omega) HG1.out
          rw [HR2E.out] at hf7
          dsimp only at hf7
          go_upto_region 7 with fail
          go_cut [15, 16, 17, 18] (fun s1 s2 s3 s4 wx => ∃ (b : Nat) (av : Option Addr) (cv : Nat) (ar : Option Addr) (cr : Nat), s1 = .pointer (some ⟨b, 0, none⟩) ∧ s2 = .slice ar L2.length cr ∧ s3 = .int .i64 (r2 : Nat) ∧ s4 = .int .i64 0 ∧ wB1.heap.size ≤ b ∧ Has wx b [.int .i64 s, .int .i64 lo, .int .i64 hi, .slice av ys2.length cv] 24 ∧ ReadsI wx (.slice av ys2.length cv) ys2 ∧ ReadsR wx (.slice ar L2.length cr) L2 ∧ Below wB1.heap.size wB1 wx)
          case first =>
            go_region_with (go_at_call 19; refine (hf7 _ (by first | exact Below.refl wB1.heap.size wB1 | exact Below.drew (Below.refl wB1.heap.size wB1) | exact Below.drew (Below.drew (Below.refl wB1.heap.size wB1)) | exact Below.drew (Below.drew (Below.drew (Below.refl wB1.heap.size wB1))) | exact (Below.refl wB1.heap.size wB1).alloc (Nat.le_refl _) (.cells #[.int .i64 0, .int .i64 0, .int .i64 0, .slice none 0 0] 24) | exact Below.drew ((Below.refl wB1.heap.size wB1).alloc (Nat.le_refl _) (.cells #[.int .i64 0, .int .i64 0, .int .i64 0, .slice none 0 0] 24)) | exact Below.drew (Below.drew ((Below.refl wB1.heap.size wB1).alloc (Nat.le_refl _) (.cells #[.int .i64 0, .int .i64 0, .int .i64 0, .slice none 0 0] 24))) | exact Below.drew (Below.drew (Below.drew ((Below.refl wB1.heap.size wB1).alloc (Nat.le_refl _) (.cells #[.int .i64 0, .int .i64 0, .int .i64 0, .slice none 0 0] 24)))))).mono ?_; rintro e w6 ⟨v1, rv1, rfl, hst, k6⟩; (have hrd6 := hst w6 (Nat.le_refl _) (fun _ _ _ => rfl)); (obtain ⟨av6, cv6, rfl, -⟩ := hrd6.1); (obtain ⟨ar6, cr6, rfl, -⟩ := hrd6.2); (have HST := Lib.hid hst); (have HB6 := Lib.hid (show Below wB1.heap.size wB1 w6 by first | exact (Below.refl wB1.heap.size wB1).trans (k6.mono (Nat.le_refl _)) | exact (Below.drew (Below.refl wB1.heap.size wB1)).trans (k6.mono (Nat.le_refl _)) | exact (Below.drew (Below.drew (Below.refl wB1.heap.size wB1))).trans (k6.mono (Nat.le_refl _)) | exact (Below.drew (Below.drew (Below.drew (Below.refl wB1.heap.size wB1)))).trans (k6.mono (Nat.le_refl _)) | exact ((Below.refl wB1.heap.size wB1).alloc (Nat.le_refl _) (.cells #[.int .i64 0, .int .i64 0, .int .i64 0, .slice none 0 0] 24)).trans (k6.mono (by simp [World.drew])) | exact (Below.drew ((Below.refl wB1.heap.size wB1).alloc (Nat.le_refl _) (.cells #[.int .i64 0, .int .i64 0, .int .i64 0, .slice none 0 0] 24))).trans (k6.mono (by simp [World.drew])) | exact (Below.drew (Below.drew ((Below.refl wB1.heap.size wB1).alloc (Nat.le_refl _) (.cells #[.int .i64 0, .int .i64 0, .int .i64 0, .slice none 0 0] 24)))).trans (k6.mono (by simp [World.drew])) | exact (Below.drew (Below.drew (Below.drew ((Below.refl wB1.heap.size wB1).alloc (Nat.le_refl _) (.cells #[.int .i64 0, .int .i64 0, .int .i64 0, .slice none 0 0] 24))))).trans (k6.mono (by simp [World.drew])))); (have hs6 := HB6.out.size); (try have zH : Has w6 wB1.heap.size [.int .i64 0, .int .i64 0, .int .i64 0, .slice none 0 0] 24 := (Has.new wB1 [.int .i64 0, .int .i64 0, .int .i64 0, .slice none 0 0] 24).step k6 rfl); (try have z0 : w6.cell? ⟨wB1.heap.size, 0, none⟩ = some (.int .i64 0) := zH.cell 0); (try have z1 : w6.cell? ⟨wB1.heap.size, 1, none⟩ = some (.int .i64 0) := zH.cell 1); (try have z2 : w6.cell? ⟨wB1.heap.size, 2, none⟩ = some (.int .i64 0) := zH.cell 2); (try have z3 : w6.cell? ⟨wB1.heap.size, 3, none⟩ = some (.slice none 0 0) := zH.cell 3); (try have zf0 : w6.frozen? ⟨wB1.heap.size, 0, none⟩ = false := zH.frozen 0); (try have zf1 : w6.frozen? ⟨wB1.heap.size, 1, none⟩ = false := zH.frozen 1); (try have zf2 : w6.frozen? ⟨wB1.heap.size, 2, none⟩ = false := zH.frozen 2); (try have zf3 : w6.frozen? ⟨wB1.heap.size, 3, none⟩ = false := zH.frozen 3); (try have HZ6 := Lib.hid zH); (try clear zH); clear hrd6 hst)
            all_goals (go_wp2_with fail; go_meet)
            all_goals first
              | exact ⟨_, _, _, _, _, rfl, rfl, rfl, rfl, hs6, Has.new w6 _ _, (HST.out _ (by simp [World.drew]) (fun j _ hj => Below.heap_alloc w6 (.cells #[.int .i64 s, .int .i64 lo, .int .i64 hi, .slice av6 ys2.length cv6] 24) j hj)).1, (HST.out _ (by simp [World.drew]) (fun j _ hj => Below.heap_alloc w6 (.cells #[.int .i64 s, .int .i64 lo, .int .i64 hi, .slice av6 ys2.length cv6] 24) j hj)).2, by first | exact HB6.out.alloc HB6.out.size (.cells #[.int .i64 s, .int .i64 lo, .int .i64 hi, .slice av6 ys2.length cv6] 24) | exact Below.drew (HB6.out.alloc HB6.out.size (.cells #[.int .i64 s, .int .i64 lo, .int .i64 hi, .slice av6 ys2.length cv6] 24)) | exact Below.drew (Below.drew (HB6.out.alloc HB6.out.size (.cells #[.int .i64 s, .int .i64 lo, .int .i64 hi, .slice av6 ys2.length cv6] 24))) | exact Below.drew (Below.drew (Below.drew (HB6.out.alloc HB6.out.size (.cells #[.int .i64 s, .int .i64 lo, .int .i64 hi, .slice av6 ys2.length cv6] 24))))⟩
              | exact ⟨_, _, _, _, _, rfl, rfl, rfl, rfl, Nat.le_refl _, HZ6.out.put4 (.int .i64 s) (.int .i64 lo) (.int .i64 hi) (.slice av6 ys2.length cv6), (HST.out _ (by simp [World.drew]) (fun j hj _ => put4_block w6 wB1.heap.size j (by simp [World.drew] at hj; omega) (.int .i64 s) (.int .i64 lo) (.int .i64 hi) (.slice av6 ys2.length cv6))).1, (HST.out _ (by simp [World.drew]) (fun j hj _ => put4_block w6 wB1.heap.size j (by simp [World.drew] at hj; omega) (.int .i64 s) (.int .i64 lo) (.int .i64 hi) (.slice av6 ys2.length cv6))).2, by first | exact Below.put4 HB6.out (Nat.le_refl _) (.int .i64 s) (.int .i64 lo) (.int .i64 hi) (.slice av6 ys2.length cv6) | exact Below.drew (Below.put4 HB6.out (Nat.le_refl _) (.int .i64 s) (.int .i64 lo) (.int .i64 hi) (.slice av6 ys2.length cv6)) | exact Below.drew (Below.drew (Below.put4 HB6.out (Nat.le_refl _) (.int .i64 s) (.int .i64 lo) (.int .i64 hi) (.slice av6 ys2.length cv6))) | exact Below.drew (Below.drew (Below.drew (Below.put4 HB6.out (Nat.le_refl _) (.int .i64 s) (.int .i64 lo) (.int .i64 hi) (.slice av6 ys2.length cv6))))⟩
          case rest =>
            obtain ⟨wB2, hwB2⟩ : ∃ wB : World, wB = wc := ⟨_, rfl⟩
            subst hwB2
            obtain ⟨b2, av2, cv2, ar2, cr2, rfl, rfl, rfl, rfl, hbs2, hbH2, hbv2, hbr2, kB2⟩ := hcut
            have HO2 := Lib.hid hbH2
            have HBV2 := Lib.hid hbv2
            have HBR2 := Lib.hid hbr2
            clear hbH2 hbv2 hbr2 hf7 qo10_3 qo11_3 qo12_3 qo13_3 lo1_3
            have HBz4 := Lib.hid (HBz3.out.trans (kB2.mono (Nat.le_trans hbase HBz3.out.size)))
            have Hbz4 := Lib.hid (Hbz3.out.call kB2)
            have Haz4 := Lib.hid (Haz3.out.call kB2)
            have Ho1z4 := Lib.hid (HO1.out.call kB2)
            have Hvaz4 := Lib.hid (Hvaz3.out.below kB2)
            have Hraz4 := Lib.hid (Hraz3.out.below kB2)
            have Hv1z4 := Lib.hid (HBV1.out.below kB2)
            have Hr1z4 := Lib.hid (HBR1.out.below kB2)
            clear kB2
            have qa0_4 : wB2.cell? ⟨wz1.heap.size, 0, none⟩ = some (.int .i64 s) := Haz4.out.cell 0
            have qa1_4 : wB2.cell? ⟨wz1.heap.size, 1, none⟩ = some (.int .i64 lo) := Haz4.out.cell 1
            have qa2_4 : wB2.cell? ⟨wz1.heap.size, 2, none⟩ = some (.int .i64 hi) := Haz4.out.cell 2
            have qa3_4 : wB2.cell? ⟨wz1.heap.size, 3, none⟩ = some (.slice ava ys2.length cva) := Haz4.out.cell 3
            have la_4 : wz1.heap.size < wB2.heap.size := Haz4.out.lt
            have qo20_4 : wB2.cell? ⟨b2, 0, none⟩ = some (.int .i64 s) := HO2.out.cell 0
            have qo21_4 : wB2.cell? ⟨b2, 1, none⟩ = some (.int .i64 lo) := HO2.out.cell 1
            have qo22_4 : wB2.cell? ⟨b2, 2, none⟩ = some (.int .i64 hi) := HO2.out.cell 2
            have qo23_4 : wB2.cell? ⟨b2, 3, none⟩ = some (.slice av2 ys2.length cv2) := HO2.out.cell 3
            have lo2_4 : b2 < wB2.heap.size := HO2.out.lt
            have hcz5 := same10_any s lo hi s lo hi ys2 ys2 _ _ wB2 Hvaz4.out HBV2.out
            rw [sameB_refl] at hcz5
            go_wp2_with fail
            refine hcz5.mono ?_
            rintro e wz5 ⟨rfl, kz5⟩
            clear hcz5 qa0_4 qa1_4 qa2_4 qa3_4 la_4 qo20_4 qo21_4 qo22_4 qo23_4 lo2_4
            have HBz5 := Lib.hid (HBz4.out.trans (kz5.mono (Nat.le_trans hbase HBz4.out.size)))
            have Hbz5 := Lib.hid (Hbz4.out.call kz5)
            have Haz5 := Lib.hid (Haz4.out.call kz5)
            have Ho1z5 := Lib.hid (Ho1z4.out.call kz5)
            have Ho2z5 := Lib.hid (HO2.out.call kz5)
            have Hvaz5 := Lib.hid (Hvaz4.out.below kz5)
            have Hraz5 := Lib.hid (Hraz4.out.below kz5)
            have Hv1z5 := Lib.hid (Hv1z4.out.below kz5)
            have Hr1z5 := Lib.hid (Hr1z4.out.below kz5)
            have Hv2z5 := Lib.hid (HBV2.out.below kz5)
            have Hr2z5 := Lib.hid (HBR2.out.below kz5)
            clear kz5
            have hbq := (Below.refl wz5.heap.size wz5).alloc (Nat.le_refl _) (.cells #[] 22)
            have hsq : (wz5.alloc (.cells #[] 22)).heap.size = wz5.heap.size + 1 := by simp
            have HBQ := Lib.hid hbq
            have HSQ := Lib.hid hsq
            have HPM := Lib.hid (PRows.made wz5 wz5)
            clear hbq hsq
            go_wp2_with (at_builtin; refine wpList_append_rows (w0 := wz5) rfl (.tmp 101) (.tmp 102) rfl wz5.heap.size (.slice (some ⟨wz5.heap.size, 0, none⟩) 0 0) [] L1 rfl HPM.out ar1 L1.length cr1 rfl Hr1z5.out HBQ.out (by have := HLB.out; show 0 + _ ≤ _; omega) (by rw [HSQ.out]; omega) ?_)
            intro vp1 wp1 hp1 hgp1
            have hb1p := HBQ.out.grown hgp1 (by rw [HSQ.out]; omega) (fun j hj => by simp [Value.ownBlock] at hj; omega)
            have hsp1 := hb1p.size
            have HP1 := Lib.hid hp1
            have HB1P := Lib.hid hb1p
            clear hp1 hgp1 hb1p
            obtain ⟨vsp1, hvp1⟩ : ∃ q : Value, q = vp1 := ⟨_, rfl⟩
            subst hvp1
            go_wp2_with (at_builtin; refine wpList_append_rows (w0 := wz5) rfl (.tmp 103) (.tmp 104) rfl wz5.heap.size vsp1 L1 L2 rfl HP1.out ar2 L2.length cr2 rfl Hr2z5.out HB1P.out (by have := HLB.out; omega) (by omega) ?_)
            intro vp2 wp2 hp2 hgp2
            have hb2p := HB1P.out.grown hgp2 (by omega) (fun j hj => by
              obtain ⟨_, h1, _⟩ := HP1.out
              exact (h1.lt j hj).1)
            rw [HLL.out] at hp2
            have HRP := Lib.hid (hp2.reads hb2p)
            clear hp2 hgp2 hsp1
            have HBz6 := Lib.hid (HBz5.out.trans (hb2p.mono (Nat.le_trans hbase HBz5.out.size)))
            have Hbz6 := Lib.hid (Hbz5.out.call hb2p)
            have Haz6 := Lib.hid (Haz5.out.call hb2p)
            have Ho1z6 := Lib.hid (Ho1z5.out.call hb2p)
            have Ho2z6 := Lib.hid (Ho2z5.out.call hb2p)
            have Hvaz6 := Lib.hid (Hvaz5.out.below hb2p)
            have Hraz6 := Lib.hid (Hraz5.out.below hb2p)
            have Hv1z6 := Lib.hid (Hv1z5.out.below hb2p)
            have Hr1z6 := Lib.hid (Hr1z5.out.below hb2p)
            have Hv2z6 := Lib.hid (Hv2z5.out.below hb2p)
            have Hr2z6 := Lib.hid (Hr2z5.out.below hb2p)
            clear hb2p
            have hro := rows_any LL LL _ _ wp2 Hraz6.out HRP.out
            rw [decide_eq_true rfl] at hro
            go_wp2_with fail
            refine hro.mono ?_
            rintro e wd ⟨rfl, mm, hwm⟩
            have kd : Below wp2.heap.size wp2 wd := by rw [hwm]; exact Below.drewN (Below.refl _ _) mm
            clear hro hwm
            have HBz7 := Lib.hid (HBz6.out.trans (kd.mono (Nat.le_trans hbase HBz6.out.size)))
            have Hbz7 := Lib.hid (Hbz6.out.call kd)
            have Haz7 := Lib.hid (Haz6.out.call kd)
            have Ho1z7 := Lib.hid (Ho1z6.out.call kd)
            have Ho2z7 := Lib.hid (Ho2z6.out.call kd)
            have Hvaz7 := Lib.hid (Hvaz6.out.below kd)
            have Hraz7 := Lib.hid (Hraz6.out.below kd)
            have Hv1z7 := Lib.hid (Hv1z6.out.below kd)
            have Hr1z7 := Lib.hid (Hr1z6.out.below kd)
            have Hv2z7 := Lib.hid (Hv2z6.out.below kd)
            have Hr2z7 := Lib.hid (Hr2z6.out.below kd)
            have Hpz7 := Lib.hid (HRP.out.below kd)
            clear kd
            have hcz8 := alive10_any wd
            go_wp2_with fail
            refine hcz8.mono ?_
            rintro e wz8 ⟨rfl, kz8⟩
            clear hcz8
            have HBz8 := Lib.hid (HBz7.out.trans (kz8.mono (Nat.le_trans hbase HBz7.out.size)))
            have Hbz8 := Lib.hid (Hbz7.out.call kz8)
            have Ho1z8 := Lib.hid (Ho1z7.out.call kz8)
            have Hv1z8 := Lib.hid (Hv1z7.out.below kz8)
            clear kz8
            have qo10_8 : wz8.cell? ⟨b1, 0, none⟩ = some (.int .i64 s) := Ho1z8.out.cell 0
            have qo11_8 : wz8.cell? ⟨b1, 1, none⟩ = some (.int .i64 lo) := Ho1z8.out.cell 1
            have qo12_8 : wz8.cell? ⟨b1, 2, none⟩ = some (.int .i64 hi) := Ho1z8.out.cell 2
            have qo13_8 : wz8.cell? ⟨b1, 3, none⟩ = some (.slice av1 ys1.length cv1) := Ho1z8.out.cell 3
            have lo1_8 : b1 < wz8.heap.size := Ho1z8.out.lt
            have hcz9 := flush_ok s lo hi ys1 _ wz8 Hv1z8.out HG1.out
            go_wp2_with fail
            refine hcz9.mono ?_
            rintro e wz9 ⟨rfl, kz9⟩
            clear hcz9 qo10_8 qo11_8 qo12_8 qo13_8 lo1_8
            have HBz9 := Lib.hid (HBz8.out.trans (kz9.mono (Nat.le_trans hbase HBz8.out.size)))
            have Hbz9 := Lib.hid (Hbz8.out.call kz9)
            have Ho1z9 := Lib.hid (Ho1z8.out.call kz9)
            have Hv1z9 := Lib.hid (Hv1z8.out.below kz9)
            clear kz9
            obtain ⟨wz10, hwz10⟩ : ∃ wz10, wz9.alloc (.cells #[.int .i64 s, .int .i64 lo, .int .i64 hi, .slice none 0 0] 24) = wz10 := ⟨_, rfl⟩
            have kz10 : Below wz9.heap.size wz9 wz10 := by rw [← hwz10]; exact (Below.refl _ _).alloc (Nat.le_refl _) _
            have Hfz10 := Lib.hid (show Has wz10 wz9.heap.size [.int .i64 s, .int .i64 lo, .int .i64 hi, .slice none 0 0] 24 by rw [← hwz10]; exact Has.new _ _ _)
            have HWz10 := Lib.hid hwz10
            clear hwz10
            have HBz10 := Lib.hid (HBz9.out.trans (kz10.mono (Nat.le_trans hbase HBz9.out.size)))
            have Hbz10 := Lib.hid (Hbz9.out.call kz10)
            have Ho1z10 := Lib.hid (Ho1z9.out.call kz10)
            have Hv1z10 := Lib.hid (Hv1z9.out.below kz10)
            clear kz10
            have qb0_10 : wz9.cell? ⟨w.heap.size, 0, none⟩ = some (.int .i64 s) := Hbz9.out.cell 0
            have qb1_10 : wz9.cell? ⟨w.heap.size, 1, none⟩ = some (.int .i64 lo) := Hbz9.out.cell 1
            have qb2_10 : wz9.cell? ⟨w.heap.size, 2, none⟩ = some (.int .i64 hi) := Hbz9.out.cell 2
            have qb3_10 : wz9.cell? ⟨w.heap.size, 3, none⟩ = some (.slice ao k cap) := Hbz9.out.cell 3
            have lb_10 : w.heap.size < wz9.heap.size := Hbz9.out.lt
            have hcz11 := new_ok s lo hi wz10 HSZ.out
            go_wp2_with fail
            rw [HWz10.out]
            refine hcz11.mono ?_
            rintro e wz11 ⟨rfl, kz11⟩
            clear hcz11 qb0_10 qb1_10 qb2_10 qb3_10 lb_10
            have HBz11 := Lib.hid (HBz10.out.trans (kz11.mono (Nat.le_trans hbase HBz10.out.size)))
            have Hbz11 := Lib.hid (Hbz10.out.call kz11)
            have Ho1z11 := Lib.hid (Ho1z10.out.call kz11)
            have Hfz11 := Lib.hid (Hfz10.out.call kz11)
            have Hv1z11 := Lib.hid (Hv1z10.out.below kz11)
            clear kz11
            obtain ⟨wz12, hwz12⟩ : ∃ wz12, wz11.alloc (.cells #[.int .i64 s, .int .i64 lo, .int .i64 hi, .slice none 0 0] 24) = wz12 := ⟨_, rfl⟩
            have kz12 : Below wz11.heap.size wz11 wz12 := by rw [← hwz12]; exact (Below.refl _ _).alloc (Nat.le_refl _) _
            have Hnz12 := Lib.hid (show Has wz12 wz11.heap.size [.int .i64 s, .int .i64 lo, .int .i64 hi, .slice none 0 0] 24 by rw [← hwz12]; exact Has.new _ _ _)
            have HWz12 := Lib.hid hwz12
            clear hwz12
            have HBz12 := Lib.hid (HBz11.out.trans (kz12.mono (Nat.le_trans hbase HBz11.out.size)))
            have Hbz12 := Lib.hid (Hbz11.out.call kz12)
            have Ho1z12 := Lib.hid (Ho1z11.out.call kz12)
            have Hfz12 := Lib.hid (Hfz11.out.call kz12)
            have Hv1z12 := Lib.hid (Hv1z11.out.below kz12)
            clear kz12
            have qf0_12 : wz11.cell? ⟨wz9.heap.size, 0, none⟩ = some (.int .i64 s) := Hfz11.out.cell 0
            have qf1_12 : wz11.cell? ⟨wz9.heap.size, 1, none⟩ = some (.int .i64 lo) := Hfz11.out.cell 1
            have qf2_12 : wz11.cell? ⟨wz9.heap.size, 2, none⟩ = some (.int .i64 hi) := Hfz11.out.cell 2
            have qf3_12 : wz11.cell? ⟨wz9.heap.size, 3, none⟩ = some (.slice none 0 0) := Hfz11.out.cell 3
            have lf_12 : wz9.heap.size < wz11.heap.size := Hfz11.out.lt
            have qo10_12 : wz11.cell? ⟨b1, 0, none⟩ = some (.int .i64 s) := Ho1z11.out.cell 0
            have qo11_12 : wz11.cell? ⟨b1, 1, none⟩ = some (.int .i64 lo) := Ho1z11.out.cell 1
            have qo12_12 : wz11.cell? ⟨b1, 2, none⟩ = some (.int .i64 hi) := Ho1z11.out.cell 2
            have qo13_12 : wz11.cell? ⟨b1, 3, none⟩ = some (.slice av1 ys1.length cv1) := Ho1z11.out.cell 3
            have lo1_12 : b1 < wz11.heap.size := Ho1z11.out.lt
            have hcz13 := same10_any s lo hi s lo hi [] [] _ _ wz12 (ReadsI.nil _) (ReadsI.nil _)
            rw [sameB_refl] at hcz13
            go_wp2_with fail
            rw [HWz12.out]
            refine hcz13.mono ?_
            rintro e wz13 ⟨rfl, kz13⟩
            clear hcz13 qf0_12 qf1_12 qf2_12 qf3_12 lf_12 qo10_12 qo11_12 qo12_12 qo13_12 lo1_12
            have HBz13 := Lib.hid (HBz12.out.trans (kz13.mono (Nat.le_trans hbase HBz12.out.size)))
            have Hbz13 := Lib.hid (Hbz12.out.call kz13)
            have Ho1z13 := Lib.hid (Ho1z12.out.call kz13)
            have Hfz13 := Lib.hid (Hfz12.out.call kz13)
            have Hnz13 := Lib.hid (Hnz12.out.call kz13)
            have Hv1z13 := Lib.hid (Hv1z12.out.below kz13)
            clear kz13
            go_wp2
            go_ret
            exact ⟨rfl, HBz13.out⟩
end Go.Proofs.Ytnpgofkdfckioaa
