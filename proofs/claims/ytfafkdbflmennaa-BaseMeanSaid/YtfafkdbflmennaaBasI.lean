/- The laws of stage 15: rows of a size, from any numbers. -/
import Derived.Test.YtfafkdbflmennaaBasH
import Derived.Test.YtfafkdbflmennaaOwnR
import Derived.Lib.MinMax
namespace Go.Proofs.Ytfafkdbflmennaa
open Go.RowKit

theorem regApp {P : Program} {ops : Array Oper} {Q : Exit → Act → World → Prop} {md : Region.Mode} {S : World → Prop} (i : Nat) (d : Option Tmp) {oi : Oper} {v : Value} {fuel : Nat} {listed : Array Bool} {a : Act} {w w' : World} (s x : Operand) (t : TypeId) (sv xv : Value) (hi : ops[i]? = some oi) (hd : oi.dst = d)
    (hr : Region.ready md ops listed = [i]) (hw : Region.wanted oi (yielded ops a.tmps) = true) (ho : oi.op = .call { callee := .builtin .append, args := #[s, x], argTypes := #[t, t] }) (hs : a.eval s = sv) (hx : a.eval x = xv)
    (hrun : (Builtin.append_ #[t, t] oi.type #[sv, xv]).run P w = .ok v w') (hS : S w')
    (h : S w' → wpAnyH P md ops Q S fuel (listed.setIfInBounds i true) (a.put d v) w') : wpAnyH P md ops Q S (fuel + 1) listed a w := by
  refine regDo i d hi hd hr hw ?_ hS h
  unfold execOp
  simp only [ho, resolve, invoke, builtin, Sem.run_bind, Sem.run_pure, Result.andThen_ok, List.map_toArray, List.map_cons, List.map_nil, hs, hx, hrun]
theorem run_append_row {w : World} (B : Nat) (rv : Value) (L : List (List Int)) (ty : TypeId) (hown : OwnRows B rv w L)
    (ad : Addr) (c : Nat) (u : Value) (row : List Int) (hz : w.cell? ad = some u) (hu : IRow B u row w) (hl : L.length ≤ 100000) (hB : B ≤ w.heap.size) :
    ∃ v' w', (Builtin.append_ #[47, 47] ty #[rv, .slice (some ad) 1 c]).run Try.prog w = .ok v' w' ∧ OwnRows B v' w' (L ++ [row]) ∧ w.grownBy w' rv.ownBlock := by
  obtain ⟨i0, hi, hz0, hz1, hz2⟩ := info_parts infoRow
  obtain ⟨vs, h1, h2⟩ := hown
  obtain ⟨v', w', hr, h3, h4, _⟩ := run_append_own (P := Try.prog) w B 47 ty 24 i0 (.slice none 0 0) 1 24 Try.underlying47 hi hz0 hz1 hz2 rfl (by decide) rv L.length vs h1 ad 1 c [u] rfl (by
    intro j q hj
    cases j with
    | zero => cases hj; exact hz
    | succ j => cases hj) (fun q hq => by rw [List.mem_singleton.1 hq]; exact hu.one) (by unfold maxLen; omega) (by omega) hB
  have keep : ∀ q r, IRow B q r w → IRow B q r w' := fun q r hq => by
    have h0 : w.ownsRow B 3 1 q r.length (r.map (Value.int .i64)) := hq
    exact h0.kept h4 (own_irow h1 hq)
  refine ⟨v', w', hr, ⟨vs ++ [u], by rw [List.length_append]; exact h3, fun i r hi => ?_⟩, h4⟩
  have hvl := h1.1
  rw [Nat.mul_one] at hvl
  rcases Nat.lt_or_ge i L.length with hl | hl
  · rw [List.getElem?_append_left hl] at hi
    obtain ⟨q, h5, h6⟩ := h2 i r hi
    exact ⟨q, by rw [List.getElem?_append_left (by omega)]; exact h5, keep _ _ h6⟩
  · rw [List.getElem?_append_right hl] at hi
    obtain ⟨i', rfl⟩ : ∃ i', i = L.length + i' := ⟨i - L.length, by omega⟩
    rw [Nat.add_sub_cancel_left] at hi
    cases i' with
    | succ i' => cases hi
    | zero =>
      cases hi
      refine ⟨u, ?_, keep _ _ hu⟩
      rw [Nat.add_zero, List.getElem?_append_right (by omega), hvl, Nat.sub_self]
      rfl
def lenV : Value → Nat
  | .slice _ n _ => n
  | _ => 0
def clampM (most x : Int) : Int := min (max x (-most)) most
theorem clampM_in {most : Int} (h : 0 ≤ most) (x : Int) : -most ≤ clampM most x ∧ clampM most x ≤ most := by unfold clampM; omega
/-- Rows of a size, within. -/
def goodRows (sz : Nat) (most : Int) (L : List (List Int)) : Prop := L.length ≤ 25 ∧ ∀ r ∈ L, r.length = sz ∧ ∀ x ∈ r, -most ≤ x ∧ x ≤ most
theorem goodRows.ok {sz : Nat} {most : Int} {L : List (List Int)} (h : goodRows sz most L) (hm : most ≤ 1000000) : rowsOk (sz : Int) L := fun r hr => by
  obtain ⟨h1, h2⟩ := h.2 r hr
  refine ⟨by rw [h1], ?_⟩
  unfold inB
  rw [List.all_eq_true]
  exact fun x hx => decide_eq_true (by have := h2 x hx; omega)
def RowI (sz : Nat) (most : Int) (w : World) (lv ov : Value) (wr : World) : Prop :=
  ∃ (rest : List Int) (L : List (List Int)), ReadsI w lv rest ∧ rest.length ≤ 9223372036854775807 ∧ OwnRows w.heap.size ov wr L ∧ goodRows sz most L ∧ Below w.heap.size w wr
def RowJ (most : Int) (ys : List Int) (W1 : World) (rv iv : Value) (wr : World) : Prop :=
  ∃ k : Nat, k ≤ ys.length ∧ iv = .int .i64 (k : Nat) ∧ IRow W1.heap.size rv ((ys.take k).map (clampM most)) wr ∧ Below W1.heap.size W1 wr
theorem ReadsI.spotI {w : World} {ao : Option Addr} {n cap : Nat} {xs : List Int} (h : ReadsI w (.slice ao n cap) xs) {i : Nat} {z : Int} (hz : xs[i]? = some z) :
    ∃ b off, ao = some ⟨b, off, none⟩ ∧ b < w.heap.size ∧ w.cell? ⟨b, off + i, none⟩ = some (.int .i64 z) := by
  obtain ⟨ao', cap', h1, h2, h3, h4⟩ := h
  injection h1 with e1 e2 e3
  subst e1 e3
  have hi : i < xs.length := (List.getElem?_eq_some_iff.1 hz).1
  obtain ⟨b, off, h5, h6, h7⟩ := h4 i hi
  refine ⟨b, off, h5, h6, ?_⟩
  rw [h7, List.getD_eq_getElem?_getD, hz]
  rfl
def RowsPost (most : Int) (w : World) (e : Ending) (w' : World) : Prop := ∃ (sz : Nat) (L : List (List Int)) (v' : Value), 1 ≤ sz ∧ sz ≤ 10 ∧ goodRows sz most L ∧ e = .returned (.tuple #[.int .i64 (sz : Nat), v']) ∧ ReadsR w' v' L ∧ Below w.heap.size w w'
set_option linter.unusedSimpArgs false in
set_option linter.unusedVariables false in
set_option maxHeartbeats 8000000 in
set_option maxRecDepth 100000 in
theorem rows_any (z most : Int) (l : List Int) (v : Value) (w : World) (hmost : 0 ≤ most ∧ most ≤ 1000000) (hr : ReadsI w v l) (hlen : l.length ≤ 9223372036854775807) :
    Calls Try.prog 20 #[.int .i64 z, v, .int .i64 most] w (RowsPost most w) := by
  have hz1 : wrap64 (z.tmod 10 + 10) = z.tmod 10 + 10 := by have := Int.lt_tmod_of_pos z (show (0 : Int) < 10 by decide); have := Int.tmod_lt_of_pos z (show (0 : Int) < 10 by decide); unfold wrap64; omega
  obtain ⟨sz, hsz, h1, h2⟩ : ∃ sz : Nat, 1 + (z.tmod 10 + 10).tmod 10 = (sz : Int) ∧ 1 ≤ sz ∧ sz ≤ 10 := by
    have := Int.lt_tmod_of_pos z (show (0 : Int) < 10 by decide)
    have := Int.tmod_lt_of_pos z (show (0 : Int) < 10 by decide)
    have h3 := Int.tmod_nonneg 10 (show 0 ≤ z.tmod 10 + 10 by omega)
    have := Int.tmod_lt_of_pos (z.tmod 10 + 10) (show (0 : Int) < 10 by decide)
    exact ⟨(1 + (z.tmod 10 + 10).tmod 10).toNat, by omega, by omega, by omega⟩
  have hsw : wrap64 (1 + (z.tmod 10 + 10).tmod 10) = (sz : Int) := by rw [hsz]; unfold wrap64; omega
  have HS := Lib.hid (show RowI sz most w v (.slice none 0 0) w from ⟨l, [], hr, hlen, ⟨[], World.ownsRow_nil w _ _ 1, fun i row hi => by cases hi⟩, ⟨by simp, fun r hr => by cases hr⟩, Below.refl _ _⟩)
  have HSZ1 := Lib.hid h1; have HSZ2 := Lib.hid h2; have HMOST := Lib.hid hmost
  clear hr hlen hsz
  go_enter Try.func20, Try.ntmps20
  go_upto_region 2 with fail
  rw [hsw]
  clear hz1 hsw
  go_wp2
  go_loopw [1, 8] (RowI sz most w) (fun lv _ _ => lenV lv)
  case atStart => exact HS.out
  case round =>
    obtain ⟨rest, L, hrr, hrl, hor, hgr, hb⟩ := hrel
    obtain ⟨aoR, capR, rfl, hRc, hRm, -⟩ := id hrr
    obtain ⟨aoO, capO, hov, -⟩ := hor.reads
    subst hov
    obtain ⟨nR, hnR⟩ : ∃ n, rest.length = n := ⟨_, rfl⟩
    obtain ⟨nL, hnL⟩ : ∃ n, L.length = n := ⟨_, rfl⟩
    have hL25 : nL ≤ 25 := by rw [← hnL]; exact hgr.1
    rw [hnR] at hrl hRc hrr ⊢
    rw [hnL] at hor ⊢
    have HRR := Lib.hid hrr; have HOR := Lib.hid hor; have HGR := Lib.hid hgr; have HB := Lib.hid hb; have HNR := Lib.hid hnR; have HNL := Lib.hid hnL
    have hszA := HSZ1.out; have hszB := HSZ2.out
    by_cases c1 : sz ≤ nR
    · have g1 : (sz : Int) ≤ (nR : Int) := by omega
      by_cases c2 : nL < 25
      · have g2 : (nL : Int) < 25 := by omega
        have hsl1 := slice_hi aoR nR capR sz (by omega)
        obtain ⟨ao2, hsl2, hrd2⟩ := slice_lo aoR nR capR sz c1 hRc
        have htk := hrr.take sz c1
        obtain ⟨ys, hys⟩ : ∃ ys, rest.take sz = ys := ⟨_, rfl⟩
        rw [hys] at htk
        have hyl : ys.length = sz := by rw [← hys, List.length_take]; omega
        have HSL2 := Lib.hid hsl2; have HRD2 := Lib.hid (hrd2 w rest hrr); have HTK := Lib.hid htk; have HYL := Lib.hid hyl
        obtain ⟨W1, hW1⟩ : ∃ W : World, W = wr := ⟨_, rfl⟩
        have HJ := Lib.hid (show RowJ most ys W1 (.slice none 0 0) (.int .i64 0) W1 from ⟨0, Nat.zero_le _, rfl, IRow.nil _ _, Below.refl _ _⟩)
        rw [← hW1] at HOR HB ⊢
        clear hrr hor hgr hb hnR hnL hsl2 hrd2 htk hys hyl hW1 hL25 HS
        go_wp2
        clear hsl1
        go_loopw [9, 30] (RowJ most ys W1) (fun _ y _ => sz - (intOf y).toNat)
        case atStart => exact HJ.out
        case round =>
          obtain ⟨k, hk, rfl, hir, hbi⟩ := hrel
          have HIR := Lib.hid hir; have HBI := Lib.hid hbi
          rw [HYL.out] at hk
          obtain ⟨aoI, capI, hiv⟩ := hir.reads.shapeI
          by_cases hlk : k < sz
          · obtain ⟨x, hx⟩ : ∃ x, ys[k]? = some x := ⟨_, List.getElem?_eq_getElem (by rw [HYL.out]; exact hlk)⟩
            obtain ⟨b, off, hao, hbl, hc⟩ := ((HTK.out.below HB.out).below hbi).spotI hx
            have hmo := HMOST.out
            have he : (ys.take (k + 1)).map (clampM most) = (ys.take k).map (clampM most) ++ [clampM most x] := by
              rw [List.take_add_one, hx, List.map_append]; rfl
            have HE := Lib.hid he
            have HKL := Lib.hid (show ((ys.take k).map (clampM most)).length ≤ 10 by rw [List.length_map, List.length_take]; omega)
            have hcl := clampM_in hmo.1 x
            have hcv : min (max x (-most)) most = clampM most x := rfl
            obtain ⟨c, hcc⟩ : ∃ c, clampM most x = c := ⟨_, rfl⟩
            rw [hcc] at HE hcv hcl
            obtain ⟨acc, hacc⟩ : ∃ acc, (ys.take k).map (clampM most) = acc := ⟨_, rfl⟩
            rw [hacc] at HE HIR HKL
            have HO := Lib.hid (ReadsI.one wr c)
            have HWA := Lib.hid (HIR.out.alloc (.cells #[.int .i64 c] 3))
            have hsa : (wr.alloc (.cells #[.int .i64 c] 3)).heap.size = wr.heap.size + 1 := by simp
            have HSA := Lib.hid hsa
            have HBA := Lib.hid (HBI.out.alloc HBI.out.size (.cells #[.int .i64 c] 3))
            have hkz : (k : Int) < (sz : Int) := by omega
            have hkx : 0 ≤ (k : Int) ∧ (k : Int) < (sz : Int) := by omega
            have HW1S := Lib.hid HBI.out.size
            subst hao
            clear hir hbi hk hx he hcc hacc hsa hiv hlk
            go_wp2_with (at_builtin; refine wpList_append_ints rfl (.tmp 34) (.tmp 41) rfl W1.heap.size _ acc [c] rfl HWA.out (some ⟨wr.heap.size, 0, none⟩) 1 1 rfl HO.out (by have := HKL.out; rw [List.length_singleton]; omega) (by have := HW1S.out; rw [HSA.out]; omega) ?_)
            intro v' w2 g3 g4
            have HQ := Lib.hid (show RowJ most ys W1 v' (.int .i64 ((k : Int) + 1)) w2 from ⟨k + 1, by have := HYL.out; omega, by first | rfl | go_num, by rw [HE.out]; exact g3, HBA.out.grown g4 (by have := HW1S.out; rw [HSA.out]; omega) (fun i hi => (HWA.out.lt' i hi).1)⟩)
            clear g3 g4
            go_wp2
            go_roundw
            case rel => exact HQ.out
            case measure => simp [intOf]; omega
          · obtain rfl : k = sz := by omega
            have hte : ys.take k = ys := List.take_of_length_le (by rw [HYL.out]; exact Nat.le_refl _)
            rw [hte] at hir
            obtain ⟨row, hrow⟩ : ∃ row, ys.map (clampM most) = row := ⟨_, rfl⟩
            rw [hrow] at hir
            have hrw : row.length = k ∧ ∀ x ∈ row, -most ≤ x ∧ x ≤ most := by
              rw [← hrow]
              refine ⟨by rw [List.length_map, HYL.out], fun x hx => ?_⟩
              obtain ⟨y, _, rfl⟩ := List.mem_map.1 hx
              exact clampM_in HMOST.out.1 y
            have horr := HOR.out.below hbi
            obtain ⟨rl, hrl2⟩ : ∃ n, row.length = n := ⟨_, rfl⟩
            obtain ⟨aoI, capI, rfl⟩ := hir.reads.shapeI
            have kA : Below wr.heap.size wr (wr.drew.alloc (.cells #[.slice aoI row.length capI] 24)) := (Below.refl _ _).drew.alloc (Nat.le_refl _) _
            have hnewc : (wr.drew.alloc (.cells #[.slice aoI row.length capI] 24)).cell? ⟨wr.heap.size, 0, none⟩ = some (.slice aoI row.length capI) := (Has.new wr.drew [.slice aoI row.length capI] 24).cell 0
            obtain ⟨v', w2, q1, q2, q3⟩ := run_append_row (w := wr.drew.alloc (.cells #[.slice aoI row.length capI] 24)) w.heap.size _ L 47 (horr.below kA) ⟨wr.heap.size, 0, none⟩ 1 _ row hnewc ((hir.mono HB.out.size).below kA) (by rw [HNL.out]; omega) (by have := HB.out.size; have := hbi.size; have := kA.size; omega)
            rw [hrl2] at q1
            have HRUN := Lib.hid q1
            have HBF : Hid (Below w.heap.size w w2) := Lib.hid (((HB.out.trans (hbi.mono HB.out.size)).trans (kA.mono (by have := HB.out.size; have := hbi.size; omega))).grown q3 (by have := HB.out.size; have := hbi.size; have := kA.size; omega) (fun i hi => ((horr.below kA).lt i hi).1))
            have HQ := Lib.hid (show RowI k most w (.slice ao2 (nR - k) (capR - k)) v' w2 from ⟨rest.drop k, L ++ [row], HRD2.out, by rw [List.length_drop]; have := HNR.out; omega, q2, ⟨by rw [List.length_append, List.length_singleton, HNL.out]; omega, fun r hr => by
              rcases List.mem_append.1 hr with hr | hr
              · exact HGR.out.2 r hr
              · rw [List.mem_singleton] at hr; subst hr; exact hrw⟩, HBF.out⟩)
            have hsl2 := HSL2.out
            rw [hrl2]
            clear hir hbi hte hrow hrw horr hrl2 kA hnewc q1 q2 q3 hk hlk hiv HIR HBI HJ
            go_upto_region 10 with fail
            refine wp_region_held_drew (S := fun _ => True) (by kernel_rfl) trivial (fun hHeld => ?_)
            refine regTake 0 (some 44) (v := ?_) rfl rfl (by kernel_rfl) (by kernel_rfl) (by kernel_rfl) (fun _ _ _ h => h) (by rfl) hHeld ?_ ?_
            rotate_left 1
            · (intro w hSw; (try dsimp only at hSw); go_simp; try with_reducible rfl)
            simp only [Act.put, List.setIfInBounds_toArray, List.set_cons_zero, List.set_cons_succ]
            refine regTake 1 (some 45) (v := ?_) rfl rfl (by kernel_rfl) (by kernel_rfl) (by kernel_rfl) (fun _ _ _ h => h) (by rfl) hHeld ?_ ?_
            rotate_left 1
            · (intro w hSw; (try dsimp only at hSw); go_simp; try with_reducible rfl)
            simp only [Act.put, List.setIfInBounds_toArray, List.set_cons_zero, List.set_cons_succ]
            refine regTake 4 (some 48) (v := ?_) rfl rfl (by kernel_rfl) (by kernel_rfl) (by kernel_rfl) (fun _ _ _ h => h) (by rfl) hHeld ?_ ?_
            rotate_left 1
            · (intro w hSw; (try dsimp only at hSw); go_simp; try with_reducible rfl)
            simp only [Act.put, List.setIfInBounds_toArray, List.set_cons_zero, List.set_cons_succ]
            refine regTake 5 (some 49) (v := ?_) rfl rfl (by kernel_rfl) (by kernel_rfl) (by kernel_rfl) (fun _ _ _ h => h) (by rfl) hHeld ?_ ?_
            rotate_left 1
            · (intro w hSw; (try dsimp only at hSw); go_simp; try with_reducible rfl)
            simp only [Act.put, List.setIfInBounds_toArray, List.set_cons_zero, List.set_cons_succ]
            refine regTake 6 (some 50) (v := ?_) rfl rfl (by kernel_rfl) (by kernel_rfl) (by kernel_rfl) (fun _ _ _ h => h) (by rfl) hHeld ?_ ?_
            rotate_left 1
            · (intro w hSw; (try dsimp only at hSw); go_simp; try with_reducible rfl)
            simp only [Act.put, List.setIfInBounds_toArray, List.set_cons_zero, List.set_cons_succ]
            refine regDo 2 (some 46) (v := ?_) (w' := ?_) rfl rfl (by kernel_rfl) (by rfl) ?_ ?_ (fun hHeld => ?_)
            rotate_left 2
            · (go_simp; refine ⟨?_, ?_⟩ <;> with_reducible rfl)
            · exact trivial
            simp only [Act.put, List.setIfInBounds_toArray, List.set_cons_zero, List.set_cons_succ]
            refine regApp 3 (some 47) (.tmp 44) (.tmp 46) 47 _ _ rfl rfl (by kernel_rfl) (by rfl) rfl rfl rfl HRUN.out trivial (fun hHeld => ?_)
            simp only [Act.put, List.setIfInBounds_toArray, List.set_cons_zero, List.set_cons_succ]
            refine regTake 7 (some 8) (v := ?_) rfl rfl (by kernel_rfl) (by kernel_rfl) (by kernel_rfl) (fun _ _ _ h => h) (by rfl) hHeld ?_ ?_
            rotate_left 1
            · (intro w hSw; (try dsimp only at hSw); go_simp; try with_reducible rfl)
            simp only [Act.put, List.setIfInBounds_toArray, List.set_cons_zero, List.set_cons_succ]
            refine regTake 8 (some 1) (v := ?_) rfl rfl (by kernel_rfl) (by kernel_rfl) (by kernel_rfl) (fun _ _ _ h => h) (by rfl) hHeld ?_ ?_
            rotate_left 1
            · (intro w hSw; (try dsimp only at hSw); go_simp; try with_reducible rfl)
            simp only [Act.put, List.setIfInBounds_toArray, List.set_cons_zero, List.set_cons_succ]
            refine wpAnyH_done (by kernel_rfl) ?_ _
            clear hHeld hsl2
            go_wp2
            go_roundw
            case rel => exact HQ.out
            case measure => simp [lenV]; omega
      · obtain rfl : nL = 25 := by omega
        have g2 : ¬ ((25 : Nat) : Int) < 25 := by omega
        have HF := Lib.hid (show RowsPost most w (.returned (.tuple #[.int .i64 (sz : Nat), .slice aoO 25 capO])) wr from ⟨sz, L, _, hszA, hszB, hgr, rfl, by have := hor.reads; exact this, hb⟩)
        clear hrr hor hgr hb hnR hnL HS
        go_wp2
        go_ret2
        exact HF.out
    · have g1 : ¬ (sz : Int) ≤ (nR : Int) := by omega
      have HF := Lib.hid (show RowsPost most w (.returned (.tuple #[.int .i64 (sz : Nat), .slice aoO nL capO])) wr from ⟨sz, L, _, hszA, hszB, hgr, rfl, by have := hor.reads; exact this, hb⟩)
      clear hrr hor hgr hb hnR hnL HS
      go_wp2
      go_ret2
      exact HF.out
end Go.Proofs.Ytfafkdbflmennaa
