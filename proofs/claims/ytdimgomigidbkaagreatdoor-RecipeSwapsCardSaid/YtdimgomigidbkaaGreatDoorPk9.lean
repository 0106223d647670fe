/- Texts of one proof, put together: RcZ, ShBld, ShIt, RcWr, RcPr, Env8, OpenT, OpenC. -/
import Derived.Test.YtdimgomigidbkaaGreatDoorPk8
import Derived.Shelf.Strings.BuilderK
import Derived.Stop.LaidErr
import Derived.Lib.LaidTab
import Derived.MakeChecks
import Derived.LaidMore
import Derived.LaidHandle
import Derived.LaidSub
import Derived.ChangeMaps5
import Derived.ChangeSame
import Derived.SizedLaws
import Derived.Carry
import Derived.Deep.Slices
import Derived.Deep.Fields
import Derived.Lib.SmallJoins
/- Stage 8's code: whether a recipe may be. -/
namespace Go.Proofs.YtdimgomigidbkaaGreatDoor
open Go.RowKit

theorem regYield {P : Program} {md : Region.Mode} {ops : Array Oper} {Q : Exit → Act → World → Prop} {S : World → Prop} (i : Nat) (d : Option Tmp) {oi : Oper} {v : Value} {fuel : Nat} {listed : Array Bool} {a : Act} {w : World} (hi : ops[i]? = some oi) (hd : oi.dst = d)
    (hs : Region.noSelect ops = true) (hf : Region.free md ops listed i = true) (hr : (Region.ready md ops listed).contains i = true)
    (hQ : ∀ c a w, Q (.panic c) (a.put d v) w → Q (.panic c) a w) (hy : YieldsIf P ops S oi v a) (hS : S w)
    (h : wpAnyH P md ops Q S fuel (listed.setIfInBounds i true) (a.put d v) w) : wpAnyH P md ops Q S (fuel + 1) listed a w := by
  subst hd
  exact wpAnyH_take hi hs hf hr hQ hy hS h
def GRel (l : List Ch) (n : Nat) (w : World) (v : Value) (i : Value) (wr : World) : Prop :=
  ∃ k : Nat, k ≤ n ∧ i = .int .i64 (k : Nat) ∧ ((∀ j, j < k → chB (nthC l j) = true) ∧ (∀ i j, i < j → j < k → (nthC l i).name ≠ (nthC l j).name)) ∧ Below w.heap.size w wr ∧ Has wr w.heap.size [v] 24
theorem mem_names {l : List Ch} {k : Nat} (hk : k ≤ l.length) {s : List UInt8} : s ∈ (l.take k).map Ch.name ↔ ∃ j, j < k ∧ (nthC l j).name = s := by
  rw [List.mem_map]
  constructor
  · rintro ⟨c, hc, rfl⟩
    obtain ⟨j, hj, rfl⟩ := List.getElem_of_mem hc
    rw [List.length_take] at hj
    refine ⟨j, by omega, ?_⟩
    rw [List.getElem_take, nthC_get l j (by omega)]
  · rintro ⟨j, hj, rfl⟩
    refine ⟨nthC l j, ?_, rfl⟩
    rw [nthC_get l j (by omega), List.mem_take_iff_getElem]
    exact ⟨j, by omega, rfl⟩
set_option linter.unusedSimpArgs false in
set_option maxHeartbeats 0 in
set_option maxRecDepth 100000 in
theorem rec8_any (l : List Ch) (v : Value) (w : World) (hm : l.length ≤ 100000) (hr : ReadsC w v l) (hn : ∀ i, i < l.length → (nthC l i).name.length ≤ 100000) :
    Calls Tryz.prog 14 #[.agg #[v]] w fun e w' => e = .returned (.bool (recB l)) ∧ Below w.heap.size w w' := by
  have hr0 := hr
  obtain ⟨ao, cap, rfl, hlc, hcm, hc⟩ := hr
  unfold maxLen at hcm
  have HC := Lib.hid hc
  have HNM := Lib.hid hn
  have HRD := Lib.hid hr0
  clear hc hn hr0
  obtain ⟨n, hn⟩ : ∃ n, l.length = n := ⟨_, rfl⟩
  have HN := Lib.hid hn
  rw [hn] at hm hlc ⊢
  obtain ⟨X, hX⟩ : ∃ X, recB l = X := ⟨_, rfl⟩
  rw [hX]
  have HX := Lib.hid hX
  have h0 := Has.new w [.slice ao n cap] 24
  have hB := (Below.refl w.heap.size w).alloc (Nat.le_refl _) (.cells #[.slice ao n cap] 24)
  by_cases h1 : 1 ≤ n
  · by_cases h4 : n ≤ 4
    · clear hX hn
      go_enter Tryz.func14, Tryz.ntmps14
      go_wp2
      go_loopw [18] (GRel l n w (.slice ao n cap)) (fun i _ => n - (intOf i).toNat)
      case atStart => exact ⟨0, Nat.zero_le _, rfl, ⟨fun j hj => absurd hj (Nat.not_lt_zero _), fun i j _ hj => absurd hj (Nat.not_lt_zero _)⟩, hB, h0⟩
      case round =>
        obtain ⟨k, hk, rfl, hgood, hb, hx⟩ := hrel
        clear h0 hB
        have HG := Lib.hid hgood
        clear hgood
        by_cases hl : k < n
        · obtain ⟨b, o, rfl, hlt, hd⟩ := HC.out k (by rw [HN.out]; exact hl)
          obtain ⟨x0, x1, x2, x3, x4, x5, x6, x7, x8, x9, x10, x11, x12, x13⟩ := hd.below hb hlt
          have hnm := HNM.out k (by rw [HN.out]; exact hl)
          have hch := fun W => mayBe_any (nthC l k) W hnm
          have hnd := fun (W : World) (hW : ReadsC W (.slice (some ⟨b, o, none⟩) k cap) (l.take k)) => named_any (l.take k) (.slice (some ⟨b, o, none⟩) k cap) (nthC l k).name W (by rw [List.length_take, HN.out]; omega) hW
          have HTK := Lib.hid (show ∀ W, Below w.heap.size w W → ReadsC W (.slice (some ⟨b, o, none⟩) k cap) (l.take k) from fun W hW => (HRD.out.below hW).take k (by rw [HN.out]; omega))
          obtain ⟨y, hy⟩ : ∃ y, chB (nthC l k) = y := ⟨_, rfl⟩
          rw [hy] at hch
          have HY := Lib.hid hy
          obtain ⟨z, hz⟩ : ∃ z, decide ((nthC l k).name ∈ (l.take k).map Ch.name) = z := ⟨_, rfl⟩
          rw [hz] at hnd
          have HZ := Lib.hid hz
          clear hd hnm hy hz
          unfold chV at hch
          obtain ⟨wo, hwo⟩ : ∃ wo : World, wo = wr := ⟨_, rfl⟩
          subst hwo
          have hws := hb.size
          have hbn := hb.alloc hws (.cells #[.string (bs (nthC l k).name), .int .i64 (nthC l k).chart, .int .i64 ((nthC l k).f 0), .int .i64 ((nthC l k).f 1), .int .i64 ((nthC l k).f 2), .int .i64 ((nthC l k).f 3), .int .i64 ((nthC l k).f 4), .int .i64 ((nthC l k).f 5), .int .i64 ((nthC l k).f 6), .int .i64 ((nthC l k).f 7), .int .i64 ((nthC l k).f 8), .int .i64 ((nthC l k).f 9), .int .i64 ((nthC l k).f 10), .int .i64 ((nthC l k).f 11)] 37)
          have hxn := hx.alloc (.cells #[.string (bs (nthC l k).name), .int .i64 (nthC l k).chart, .int .i64 ((nthC l k).f 0), .int .i64 ((nthC l k).f 1), .int .i64 ((nthC l k).f 2), .int .i64 ((nthC l k).f 3), .int .i64 ((nthC l k).f 4), .int .i64 ((nthC l k).f 5), .int .i64 ((nthC l k).f 6), .int .i64 ((nthC l k).f 7), .int .i64 ((nthC l k).f 8), .int .i64 ((nthC l k).f 9), .int .i64 ((nthC l k).f 10), .int .i64 ((nthC l k).f 11)] 37)
          have hcn : Has (wo.alloc (.cells #[.string (bs (nthC l k).name), .int .i64 (nthC l k).chart, .int .i64 ((nthC l k).f 0), .int .i64 ((nthC l k).f 1), .int .i64 ((nthC l k).f 2), .int .i64 ((nthC l k).f 3), .int .i64 ((nthC l k).f 4), .int .i64 ((nthC l k).f 5), .int .i64 ((nthC l k).f 6), .int .i64 ((nthC l k).f 7), .int .i64 ((nthC l k).f 8), .int .i64 ((nthC l k).f 9), .int .i64 ((nthC l k).f 10), .int .i64 ((nthC l k).f 11)] 37)) wo.heap.size (chL (nthC l k)) 37 := Has.new wo (chL (nthC l k)) 37
          have hs8 : (wo.alloc (.cells #[.string (bs (nthC l k).name), .int .i64 (nthC l k).chart, .int .i64 ((nthC l k).f 0), .int .i64 ((nthC l k).f 1), .int .i64 ((nthC l k).f 2), .int .i64 ((nthC l k).f 3), .int .i64 ((nthC l k).f 4), .int .i64 ((nthC l k).f 5), .int .i64 ((nthC l k).f 6), .int .i64 ((nthC l k).f 7), .int .i64 ((nthC l k).f 8), .int .i64 ((nthC l k).f 9), .int .i64 ((nthC l k).f 10), .int .i64 ((nthC l k).f 11)] 37)).heap.size = wo.heap.size + 1 := by simp
          have hxl := hx.lt
          have d0 : wo.cell? ⟨w.heap.size, 0, none⟩ = some (.slice (some ⟨b, o, none⟩) n cap) := hx.cell 0
          have HSS := Lib.hid (show ∀ W, Below (wo.heap.size + 1) (wo.alloc (.cells #[.string (bs (nthC l k).name), .int .i64 (nthC l k).chart, .int .i64 ((nthC l k).f 0), .int .i64 ((nthC l k).f 1), .int .i64 ((nthC l k).f 2), .int .i64 ((nthC l k).f 3), .int .i64 ((nthC l k).f 4), .int .i64 ((nthC l k).f 5), .int .i64 ((nthC l k).f 6), .int .i64 ((nthC l k).f 7), .int .i64 ((nthC l k).f 8), .int .i64 ((nthC l k).f 9), .int .i64 ((nthC l k).f 10), .int .i64 ((nthC l k).f 11)] 37)) W → (fun w' : World => Hid (Has w' wo.heap.size (chL (nthC l k)) 37) ∧ w'.cell? ⟨w.heap.size, 0, none⟩ = some (.slice (some ⟨b, o, none⟩) n cap) ∧ w'.cell? ⟨wo.heap.size, 0, none⟩ = some (.string (bs (nthC l k).name))) W from fun W hW =>
            ⟨Lib.hid (hcn.of (hW.block _ (by omega))), (hxn.of (hW.block _ (by omega))).cell 0, (hcn.of (hW.block _ (by omega))).cell 0⟩)
          have HXN := Lib.hid hxn
          clear hb hx hcn hxn
          cases y with
          | false =>
            have hX : X = false := by rw [← HX.out]; exact rec_bad (by rw [HN.out]; exact hl) HY.out
            have HX2 := Lib.hid hX
            clear hX hnd
            go_upto_region 6 with fail
            refine wp_region_held_drew (S := (fun w' : World => Hid (Has w' wo.heap.size (chL (nthC l k)) 37) ∧ w'.cell? ⟨w.heap.size, 0, none⟩ = some (.slice (some ⟨b, o, none⟩) n cap) ∧ w'.cell? ⟨wo.heap.size, 0, none⟩ = some (.string (bs (nthC l k).name)))) (by kernel_rfl) (HSS.out _ (Below.refl _ _).drew) (fun hHeld => ?_)
            refine regYield 0 (some 23) rfl rfl (by kernel_rfl) (by kernel_rfl) (by kernel_rfl) (fun _ _ _ h => h) (yieldsIf_load_mid (by rfl) 37 _ rfl wo.heap.size 0 rfl (chL (nthC l k)) _ (fun W hW => (Has.range hW.1.out)) Tryz.underlying37 rfl size14) hHeld ?_
            simp only [Act.put, List.setIfInBounds_toArray, List.set_cons_zero, List.set_cons_succ]
            refine regCall 1 (some 24) (f := 25) (args := ?_) rfl rfl (by kernel_rfl) (by kernel_rfl) ?_ ?_
            rotate_left 1
            · (go_simp; try with_reducible rfl)
            refine (hch _).mono ?_
            rintro e wx1 ⟨rfl, k1⟩
            refine ⟨_, rfl, HSS.out _ (((Below.refl _ _).drew).trans (k1.mono (show wo.heap.size + 1 ≤ (wo.alloc (.cells #[.string (bs (nthC l k).name), .int .i64 (nthC l k).chart, .int .i64 ((nthC l k).f 0), .int .i64 ((nthC l k).f 1), .int .i64 ((nthC l k).f 2), .int .i64 ((nthC l k).f 3), .int .i64 ((nthC l k).f 4), .int .i64 ((nthC l k).f 5), .int .i64 ((nthC l k).f 6), .int .i64 ((nthC l k).f 7), .int .i64 ((nthC l k).f 8), .int .i64 ((nthC l k).f 9), .int .i64 ((nthC l k).f 10), .int .i64 ((nthC l k).f 11)] 37)).heap.size by omega))), fun hHeld => ?_⟩
            simp only [Act.put, List.setIfInBounds_toArray, List.set_cons_zero, List.set_cons_succ]
            refine regTake 2 (some 25) (v := ?_) rfl rfl (by kernel_rfl) (by kernel_rfl) (by kernel_rfl) (fun _ _ _ h => h) (by kernel_rfl) hHeld ?_ ?_
            rotate_left 1
            · (intro w hSw; (try dsimp only at hSw); go_simp; try with_reducible rfl)
            simp only [Act.put, List.setIfInBounds_toArray, List.set_cons_zero, List.set_cons_succ]
            refine regTake 3 (some 26) (v := ?_) rfl rfl (by kernel_rfl) (by kernel_rfl) (by kernel_rfl) (fun _ _ _ h => h) (by kernel_rfl) hHeld ?_ ?_
            rotate_left 1
            · (intro w hSw; (try dsimp only at hSw); go_simp; try with_reducible rfl)
            simp only [Act.put, List.setIfInBounds_toArray, List.set_cons_zero, List.set_cons_succ]
            refine regSkip 4 (some 27) rfl rfl (by kernel_rfl) (by kernel_rfl) (by kernel_rfl) (fun _ _ _ h => h) (by kernel_rfl) hHeld ?_
            simp only [Act.put, List.setIfInBounds_toArray, List.set_cons_zero, List.set_cons_succ]
            refine regSkip 5 (some 28) rfl rfl (by kernel_rfl) (by kernel_rfl) (by kernel_rfl) (fun _ _ _ h => h) (by kernel_rfl) hHeld ?_
            simp only [Act.put, List.setIfInBounds_toArray, List.set_cons_zero, List.set_cons_succ]
            refine regSkip 6 (some 29) rfl rfl (by kernel_rfl) (by kernel_rfl) (by kernel_rfl) (fun _ _ _ h => h) (by kernel_rfl) hHeld ?_
            simp only [Act.put, List.setIfInBounds_toArray, List.set_cons_zero, List.set_cons_succ]
            refine regSkip 7 (some 30) rfl rfl (by kernel_rfl) (by kernel_rfl) (by kernel_rfl) (fun _ _ _ h => h) (by kernel_rfl) hHeld ?_
            simp only [Act.put, List.setIfInBounds_toArray, List.set_cons_zero, List.set_cons_succ]
            refine regSkip 8 (some 31) rfl rfl (by kernel_rfl) (by kernel_rfl) (by kernel_rfl) (fun _ _ _ h => h) (by kernel_rfl) hHeld ?_
            simp only [Act.put, List.setIfInBounds_toArray, List.set_cons_zero, List.set_cons_succ]
            refine regSkip 9 (some 32) rfl rfl (by kernel_rfl) (by kernel_rfl) (by kernel_rfl) (fun _ _ _ h => h) (by kernel_rfl) hHeld ?_
            simp only [Act.put, List.setIfInBounds_toArray, List.set_cons_zero, List.set_cons_succ]
            refine regSkip 10 (some 33) rfl rfl (by kernel_rfl) (by kernel_rfl) (by kernel_rfl) (fun _ _ _ h => h) (by kernel_rfl) hHeld ?_
            simp only [Act.put, List.setIfInBounds_toArray, List.set_cons_zero, List.set_cons_succ]
            refine regTake 11 (some 34) (v := ?_) rfl rfl (by kernel_rfl) (by kernel_rfl) (by kernel_rfl) (fun _ _ _ h => h) (by kernel_rfl) hHeld ?_ ?_
            rotate_left 1
            · (intro w hSw; (try dsimp only at hSw); go_simp; try with_reducible rfl)
            simp only [Act.put, List.setIfInBounds_toArray, List.set_cons_zero, List.set_cons_succ]
            refine wpAnyH_done (by kernel_rfl) ?_ _
            have hB9 := hbn.drew.trans (k1.mono hbn.size)
            clear hHeld k1 HSS hch hs8 hbn d0 HXN hcm x0 x1 x2 x3 x4 x5 x6 x7 x8 x9 x10 x11 x12 x13
            go_wp2
            (try simp only [Exit.inBlock, Exit.then])
            go_ret
            refine ⟨?_, hB9⟩
            rw [HX2.out]
            rfl
          | true =>
            have hcapk : k ≤ cap := by omega
            go_upto_region 6 with fail
            refine wp_region_held_drew (S := (fun w' : World => Hid (Has w' wo.heap.size (chL (nthC l k)) 37) ∧ w'.cell? ⟨w.heap.size, 0, none⟩ = some (.slice (some ⟨b, o, none⟩) n cap) ∧ w'.cell? ⟨wo.heap.size, 0, none⟩ = some (.string (bs (nthC l k).name)))) (by kernel_rfl) (HSS.out _ (Below.refl _ _).drew) (fun hHeld => ?_)
            refine regYield 0 (some 23) rfl rfl (by kernel_rfl) (by kernel_rfl) (by kernel_rfl) (fun _ _ _ h => h) (yieldsIf_load_mid (by rfl) 37 _ rfl wo.heap.size 0 rfl (chL (nthC l k)) _ (fun W hW => (Has.range hW.1.out)) Tryz.underlying37 rfl size14) hHeld ?_
            simp only [Act.put, List.setIfInBounds_toArray, List.set_cons_zero, List.set_cons_succ]
            refine regCall 1 (some 24) (f := 25) (args := ?_) rfl rfl (by kernel_rfl) (by kernel_rfl) ?_ ?_
            rotate_left 1
            · (go_simp; try with_reducible rfl)
            refine (hch _).mono ?_
            rintro e wx1 ⟨rfl, k1⟩
            refine ⟨_, rfl, HSS.out _ (((Below.refl _ _).drew).trans (k1.mono (show wo.heap.size + 1 ≤ (wo.alloc (.cells #[.string (bs (nthC l k).name), .int .i64 (nthC l k).chart, .int .i64 ((nthC l k).f 0), .int .i64 ((nthC l k).f 1), .int .i64 ((nthC l k).f 2), .int .i64 ((nthC l k).f 3), .int .i64 ((nthC l k).f 4), .int .i64 ((nthC l k).f 5), .int .i64 ((nthC l k).f 6), .int .i64 ((nthC l k).f 7), .int .i64 ((nthC l k).f 8), .int .i64 ((nthC l k).f 9), .int .i64 ((nthC l k).f 10), .int .i64 ((nthC l k).f 11)] 37)).heap.size by omega))), fun hHeld => ?_⟩
            simp only [Act.put, List.setIfInBounds_toArray, List.set_cons_zero, List.set_cons_succ]
            refine regTake 2 (some 25) (v := ?_) rfl rfl (by kernel_rfl) (by kernel_rfl) (by kernel_rfl) (fun _ _ _ h => h) (by kernel_rfl) hHeld ?_ ?_
            rotate_left 1
            · (intro w hSw; (try dsimp only at hSw); go_simp; try with_reducible rfl)
            simp only [Act.put, List.setIfInBounds_toArray, List.set_cons_zero, List.set_cons_succ]
            refine regTake 3 (some 26) (v := ?_) rfl rfl (by kernel_rfl) (by kernel_rfl) (by kernel_rfl) (fun _ _ _ h => h) (by kernel_rfl) hHeld ?_ ?_
            rotate_left 1
            · (intro w hSw; (try dsimp only at hSw); go_simp; try with_reducible rfl)
            simp only [Act.put, List.setIfInBounds_toArray, List.set_cons_zero, List.set_cons_succ]
            refine regTake 4 (some 27) (v := ?_) rfl rfl (by kernel_rfl) (by kernel_rfl) (by kernel_rfl) (fun _ _ _ h => h) (by kernel_rfl) hHeld ?_ ?_
            rotate_left 1
            · (intro w hSw; (try dsimp only at hSw); go_simp; try with_reducible rfl)
            simp only [Act.put, List.setIfInBounds_toArray, List.set_cons_zero, List.set_cons_succ]
            refine regTake 5 (some 28) (v := ?_) rfl rfl (by kernel_rfl) (by kernel_rfl) (by kernel_rfl) (fun _ _ _ h => h) (by kernel_rfl) hHeld ?_ ?_
            rotate_left 1
            · (intro w hSw; (try dsimp only at hSw); go_simp; try with_reducible rfl)
            simp only [Act.put, List.setIfInBounds_toArray, List.set_cons_zero, List.set_cons_succ]
            refine regTake 6 (some 29) (v := ?_) rfl rfl (by kernel_rfl) (by kernel_rfl) (by kernel_rfl) (fun _ _ _ h => h) (by kernel_rfl) hHeld ?_ ?_
            rotate_left 1
            · (intro w hSw; (try dsimp only at hSw); go_simp; try with_reducible rfl)
            simp only [Act.put, List.setIfInBounds_toArray, List.set_cons_zero, List.set_cons_succ]
            refine regTake 7 (some 30) (v := ?_) rfl rfl (by kernel_rfl) (by kernel_rfl) (by kernel_rfl) (fun _ _ _ h => h) (by kernel_rfl) hHeld ?_ ?_
            rotate_left 1
            · (intro w hSw; (try dsimp only at hSw); go_simp; try with_reducible rfl)
            simp only [Act.put, List.setIfInBounds_toArray, List.set_cons_zero, List.set_cons_succ]
            refine regTake 8 (some 31) (v := ?_) rfl rfl (by kernel_rfl) (by kernel_rfl) (by kernel_rfl) (fun _ _ _ h => h) (by kernel_rfl) hHeld ?_ ?_
            rotate_left 1
            · (intro w hSw; (try dsimp only at hSw); go_simp; try with_reducible rfl)
            simp only [Act.put, List.setIfInBounds_toArray, List.set_cons_zero, List.set_cons_succ]
            refine regTake 9 (some 32) (v := ?_) rfl rfl (by kernel_rfl) (by kernel_rfl) (by kernel_rfl) (fun _ _ _ h => h) (by kernel_rfl) hHeld ?_ ?_
            rotate_left 1
            · (intro w hSw; (try dsimp only at hSw); go_simp; try with_reducible rfl)
            simp only [Act.put, List.setIfInBounds_toArray, List.set_cons_zero, List.set_cons_succ]
            refine regCall 10 (some 33) (f := 26) (args := ?_) rfl rfl (by kernel_rfl) (by kernel_rfl) ?_ ?_
            rotate_left 1
            · (go_simp; try with_reducible rfl)
            refine (hnd _ (HTK.out _ (hbn.drew.trans (k1.mono hbn.size)))).mono ?_
            rintro e wx10 ⟨rfl, k2⟩
            refine ⟨_, rfl, HSS.out _ ((((Below.refl _ _).drew).trans (k1.mono (show wo.heap.size + 1 ≤ (wo.alloc (.cells #[.string (bs (nthC l k).name), .int .i64 (nthC l k).chart, .int .i64 ((nthC l k).f 0), .int .i64 ((nthC l k).f 1), .int .i64 ((nthC l k).f 2), .int .i64 ((nthC l k).f 3), .int .i64 ((nthC l k).f 4), .int .i64 ((nthC l k).f 5), .int .i64 ((nthC l k).f 6), .int .i64 ((nthC l k).f 7), .int .i64 ((nthC l k).f 8), .int .i64 ((nthC l k).f 9), .int .i64 ((nthC l k).f 10), .int .i64 ((nthC l k).f 11)] 37)).heap.size by omega))).trans (k2.mono (Nat.le_trans (show wo.heap.size + 1 ≤ (wo.alloc (.cells #[.string (bs (nthC l k).name), .int .i64 (nthC l k).chart, .int .i64 ((nthC l k).f 0), .int .i64 ((nthC l k).f 1), .int .i64 ((nthC l k).f 2), .int .i64 ((nthC l k).f 3), .int .i64 ((nthC l k).f 4), .int .i64 ((nthC l k).f 5), .int .i64 ((nthC l k).f 6), .int .i64 ((nthC l k).f 7), .int .i64 ((nthC l k).f 8), .int .i64 ((nthC l k).f 9), .int .i64 ((nthC l k).f 10), .int .i64 ((nthC l k).f 11)] 37)).heap.size by omega) k1.size))), fun hHeld => ?_⟩
            simp only [Act.put, List.setIfInBounds_toArray, List.set_cons_zero, List.set_cons_succ]
            refine regTake 11 (some 34) (v := ?_) rfl rfl (by kernel_rfl) (by kernel_rfl) (by kernel_rfl) (fun _ _ _ h => h) (by kernel_rfl) hHeld ?_ ?_
            rotate_left 1
            · (intro w hSw; (try dsimp only at hSw); go_simp; try with_reducible rfl)
            simp only [Act.put, List.setIfInBounds_toArray, List.set_cons_zero, List.set_cons_succ]
            refine wpAnyH_done (by kernel_rfl) ?_ _
            have hB9 := (hbn.drew.trans (k1.mono hbn.size)).trans (k2.mono (Nat.le_trans hbn.size (Nat.le_trans (show _ ≤ _ from Nat.le_refl _) k1.size)))
            have hx9 := (HXN.out.of (k1.block _ (show w.heap.size < (wo.alloc (.cells #[.string (bs (nthC l k).name), .int .i64 (nthC l k).chart, .int .i64 ((nthC l k).f 0), .int .i64 ((nthC l k).f 1), .int .i64 ((nthC l k).f 2), .int .i64 ((nthC l k).f 3), .int .i64 ((nthC l k).f 4), .int .i64 ((nthC l k).f 5), .int .i64 ((nthC l k).f 6), .int .i64 ((nthC l k).f 7), .int .i64 ((nthC l k).f 8), .int .i64 ((nthC l k).f 9), .int .i64 ((nthC l k).f 10), .int .i64 ((nthC l k).f 11)] 37)).heap.size by omega))).of (k2.block _ (by have := k1.size; have e : World.heap (World.drew (wo.alloc (.cells #[.string (bs (nthC l k).name), .int .i64 (nthC l k).chart, .int .i64 ((nthC l k).f 0), .int .i64 ((nthC l k).f 1), .int .i64 ((nthC l k).f 2), .int .i64 ((nthC l k).f 3), .int .i64 ((nthC l k).f 4), .int .i64 ((nthC l k).f 5), .int .i64 ((nthC l k).f 6), .int .i64 ((nthC l k).f 7), .int .i64 ((nthC l k).f 8), .int .i64 ((nthC l k).f 9), .int .i64 ((nthC l k).f 10), .int .i64 ((nthC l k).f 11)] 37))) = (wo.alloc (.cells #[.string (bs (nthC l k).name), .int .i64 (nthC l k).chart, .int .i64 ((nthC l k).f 0), .int .i64 ((nthC l k).f 1), .int .i64 ((nthC l k).f 2), .int .i64 ((nthC l k).f 3), .int .i64 ((nthC l k).f 4), .int .i64 ((nthC l k).f 5), .int .i64 ((nthC l k).f 6), .int .i64 ((nthC l k).f 7), .int .i64 ((nthC l k).f 8), .int .i64 ((nthC l k).f 9), .int .i64 ((nthC l k).f 10), .int .i64 ((nthC l k).f 11)] 37)).heap := rfl; rw [e, hs8] at this; omega))
            clear hHeld k1 k2 HSS hch hnd hs8 hbn d0 HXN hcm x0 x1 x2 x3 x4 x5 x6 x7 x8 x9 x10 x11 x12 x13
            cases z with
            | true =>
              have hX : X = false := by
                rw [← HX.out]
                obtain ⟨j, hj, e⟩ := (mem_names (by rw [HN.out]; omega)).1 (of_decide_eq_true HZ.out)
                exact rec_twice hj (by rw [HN.out]; exact hl) e
              have HX2 := Lib.hid hX
              clear hX
              go_wp2
              (try simp only [Exit.inBlock, Exit.then])
              go_ret
              refine ⟨?_, hB9⟩
              rw [HX2.out]
              rfl
            | false =>
              have HR := Lib.hid (show GRel l n w (.slice (some ⟨b, o, none⟩) n cap) (.int .i64 ((k + 1 : Nat) : Int)) _ from ⟨k + 1, hl, rfl, ⟨fun j hj => by
                by_cases e : j = k
                · rw [e]; exact HY.out
                · exact HG.out.1 j (by omega), fun i j hij hj => by
                by_cases e : j = k
                · subst e
                  intro q
                  exact of_decide_eq_false HZ.out ((mem_names (by rw [HN.out]; omega)).2 ⟨i, hij, q⟩)
                · exact HG.out.2 i j hij (by omega)⟩, hB9, hx9⟩)
              clear hx9 hB9
              go_wp2
              go_roundw
              case rel => exact HR.out
              case measure => simp [intOf]; omega
        · have hX : X = true := by
            rw [← HX.out, rec_end (fun j hj => HG.out.1 j (by rw [HN.out] at hj; omega)) (fun i j hij hj => HG.out.2 i j hij (by rw [HN.out] at hj; omega)), HN.out, decide_eq_true h1, decide_eq_true h4]
            rfl
          have HX2 := Lib.hid hX
          clear hX HG hx
          go_wp2
          (try simp only [Exit.inBlock, Exit.then])
          go_ret
          refine ⟨?_, hb⟩
          rw [HX2.out]
          rfl
    · have e : X = false := by
        rw [← hX]
        unfold recB
        rw [decide_eq_false (show ¬ l.length ≤ 4 by omega)]
        simp
      subst e
      clear HX hX HC HNM HRD HN hn
      go_enter Tryz.func14, Tryz.ntmps14
      go_wp2
      go_ret
      exact ⟨rfl, hB⟩
  · have e : X = false := by
      rw [← hX]
      unfold recB
      rw [decide_eq_false (show ¬ 1 ≤ l.length by omega)]
      simp
    subst e
    clear HX hX HC HNM HRD HN hn
    go_enter Tryz.func14, Tryz.ntmps14
    go_wp2
    go_ret
    exact ⟨rfl, hB⟩
end Go.Proofs.YtdimgomigidbkaaGreatDoor
/- What strings.Builder answers, by the shelf's contracts. -/
namespace Go.Proofs.YtdimgomigidbkaaGreatDoor
open Go.Shelf Go.RowKit Go.Proofs
def s166_ren : Go.Shelf.Ren := ⟨fun | 166 => 22 | 240 => 46 | 276 => 78 | n => n, fun | 0 => 0 | 3 => 3 | 4 => 4 | 5 => 5 | 9 => 9 | 20 => 20 | 37 => 57 | 70 => 56 | 72 => 59 | 75 => 45 | 80 => 63 | 164 => 77 | n => n, fun n => n⟩
theorem s166 : Go.Proofs.Lays.n166 Tryz.prog s166_ren := {
  mixed := by kernel_rfl
  f166 := Tryz.func22.trans (congrArg some (by kernel_rfl))
  f240 := Tryz.func46.trans (congrArg some (by kernel_rfl))
  f276 := Tryz.func78.trans (congrArg some (by kernel_rfl))
  t0 := Tryz.underlying0
  a0 := Tryz.isAgg0
  z0 := Tryz.sizeOf0
  v0 := Tryz.zeroValue0
  t3 := Tryz.underlying3
  a3 := Tryz.isAgg3
  z3 := Tryz.sizeOf3
  v3 := Tryz.zeroValue3
  t4 := Tryz.underlying4
  a4 := Tryz.isAgg4
  z4 := Tryz.sizeOf4
  v4 := Tryz.zeroValue4
  t9 := Tryz.underlying9
  a9 := Tryz.isAgg9
  z9 := Tryz.sizeOf9
  v9 := Tryz.zeroValue9
  t20 := Tryz.underlying20
  a20 := Tryz.isAgg20
  z20 := Tryz.sizeOf20
  v20 := Tryz.zeroValue20
  t37 := Tryz.underlying57
  a37 := Tryz.isAgg57
  z37 := Tryz.sizeOf57
  v37 := Tryz.zeroValue57
  t70 := Tryz.underlying56
  a70 := Tryz.isAgg56
  z70 := Tryz.sizeOf56
  v70 := Tryz.zeroValue56
  t72 := Tryz.underlying59
  a72 := Tryz.isAgg59
  z72 := Tryz.sizeOf59
  v72 := Tryz.zeroValue59
  t75 := Tryz.underlying45
  a75 := Tryz.isAgg45
  z75 := Tryz.sizeOf45
  v75 := Tryz.zeroValue45
  t164 := Tryz.underlying77
  a164 := Tryz.isAgg77
  z164 := Tryz.sizeOf77
  v164 := Tryz.zeroValue77 }
def s169_ren : Go.Shelf.Ren := ⟨fun | 169 => 24 | n => n, fun | 0 => 0 | 3 => 3 | 5 => 5 | 9 => 9 | 37 => 57 | 70 => 56 | 72 => 59 | 127 => 106 | n => n, fun n => n⟩
theorem s169 : Go.Proofs.Lays.n169 Tryz.prog s169_ren := {
  mixed := by kernel_rfl
  f169 := Tryz.func24.trans (congrArg some (by kernel_rfl))
  t0 := Tryz.underlying0
  a0 := Tryz.isAgg0
  z0 := Tryz.sizeOf0
  v0 := Tryz.zeroValue0
  t3 := Tryz.underlying3
  a3 := Tryz.isAgg3
  z3 := Tryz.sizeOf3
  v3 := Tryz.zeroValue3
  t9 := Tryz.underlying9
  a9 := Tryz.isAgg9
  z9 := Tryz.sizeOf9
  v9 := Tryz.zeroValue9
  t37 := Tryz.underlying57
  a37 := Tryz.isAgg57
  z37 := Tryz.sizeOf57
  v37 := Tryz.zeroValue57
  t70 := Tryz.underlying56
  a70 := Tryz.isAgg56
  z70 := Tryz.sizeOf56
  v70 := Tryz.zeroValue56
  t72 := Tryz.underlying59
  a72 := Tryz.isAgg59
  z72 := Tryz.sizeOf59
  v72 := Tryz.zeroValue59
  t127 := Tryz.underlying106
  a127 := Tryz.isAgg106
  z127 := Tryz.sizeOf106
  v127 := Tryz.zeroValue106 }
theorem x166 : Builder.Extra Tryz.prog s166_ren := {
  sizeBuilder := by kernel_rfl
  liesBuilder := by kernel_rfl
  t5 := Tryz.underlying5
  a5 := Tryz.isAgg5
  z5 := Tryz.sizeOf5
  v5 := Tryz.zeroValue5
  infoByte := by kernel_rfl
  cellsByte := by kernel_rfl
  sizeByte := by kernel_rfl
  neB5 := by decide }
theorem x169 : Builder.Extra Tryz.prog s169_ren := {
  sizeBuilder := by kernel_rfl
  liesBuilder := by kernel_rfl
  t5 := Tryz.underlying5
  a5 := Tryz.isAgg5
  z5 := Tryz.sizeOf5
  v5 := Tryz.zeroValue5
  infoByte := by kernel_rfl
  cellsByte := by kernel_rfl
  sizeByte := by kernel_rfl
  neB5 := by decide }
/-- A builder in block b that holds these bytes. -/
def Bld (B b : Nat) (l : List UInt8) (w : World) : Prop := Lib.IsBuilderF 59 5 B b (Lib.byteCells l) w
theorem bld_new (w : World) : Bld w.heap.size w.heap.size [] (w.alloc (.cells #[.pointer none, .slice none 0 0] 59)) := Lib.IsBuilderF.of (Lib.fresh_isBuilder _ _ w)
theorem Bld.below {B b : Nat} {l : List UInt8} {w w' : World} (h : Bld B b l w) (hb : Below w.heap.size w w') : Bld B b l w' := by
  have one : ∀ p, Lib.BuilderAtF 59 5 B b p (Lib.byteCells l) w → Lib.BuilderAtF 59 5 B b p (Lib.byteCells l) w' := by
    rintro p ⟨hB, v, hbk, hown, hne⟩
    have lt : ∀ {k : Nat} {o : Obj}, w.heap[k]? = some o → k < w.heap.size := fun hk => (Array.getElem?_eq_some_iff.1 hk).1
    refine ⟨hB, v, (hb.block b (lt hbk)).trans hbk, ⟨hown.1, ?_⟩, hne⟩
    rcases hown.2 with hn | ⟨g, cap, cur, fz, hv, hg, hgg, r⟩
    · exact Or.inl hn
    · exact Or.inr ⟨g, cap, cur, fz, hv, hg, (hb.block g (lt hgg)).trans hgg, r⟩
  exact h.imp (one _) (one _)
theorem Bld.alloc {B b : Nat} {l : List UInt8} {w : World} (h : Bld B b l w) (o : Obj) : Bld B b l (w.alloc o) := h.below ((Below.refl _ w).alloc (Nat.le_refl _) o)
theorem bld_text (B b : Nat) (l m : List UInt8) (w : World) (h : Bld B b l w) (hlen : l.length + m.length ≤ 140737488355328) (hBw : B ≤ w.heap.size) :
    Calls Tryz.prog 22 #[.pointer (some ⟨b, 0, none⟩), .string (bs m)] w fun e w' => e = .returned (.tuple #[.int .i64 ((bs m).size : Nat), .nilIface]) ∧ Bld B b (l ++ m) w' ∧ Below B w w' :=
  (Any.Builder_WriteString_k s166 x166 B b (Lib.byteCells l) (bs m) w h (by rw [bs_size, Lib.byteCells_length]; exact hlen) hBw).mono fun _ _ ⟨he, h1, h2, _⟩ =>
    ⟨he, Or.inr (by rw [Lib.byteCells_append]; exact h1), h2⟩
theorem bld_string (B b : Nat) (l : List UInt8) (w : World) (h : Bld B b l w) (hBw : B ≤ w.heap.size) :
    Calls Tryz.prog 24 #[.pointer (some ⟨b, 0, none⟩)] w fun e w' => e = .returned (.string (bs l)) ∧ Below B w w' :=
  (Any.Builder_String_any_k s169 x169 B b l w h hBw).mono fun _ _ ⟨he, _, h2, _⟩ => ⟨he, h2⟩

end Go.Proofs.YtdimgomigidbkaaGreatDoor
/- What strconv.Itoa answers, by the shelf's contract. -/
namespace Go.Proofs.YtdimgomigidbkaaGreatDoor
open Go.Shelf Go.RowKit Go.Proofs
def sM171_ren : Go.Shelf.Ren := ⟨fun | 129 => 116 | 171 => 50 | 243 => 82 | 246 => 97 | 283 => 104 | 284 => 105 | 285 => 106 | 286 => 107 | 317 => 115 | 318 => 117 | 319 => 118 | 320 => 119 | 337 => 123 | 338 => 124 | n => n, fun | 0 => 0 | 2 => 2 | 3 => 3 | 4 => 4 | 5 => 5 | 9 => 9 | 20 => 20 | 37 => 57 | 46 => 185 | 51 => 183 | 53 => 168 | 171 => 167 | 173 => 171 | 212 => 182 | 213 => 184 | 232 => 198 | 233 => 199 | n => n, fun | 17 => 1 | 18 => 4 | 19 => 5 | n => n⟩
theorem sM171 : Go.Proofs.LaysM.n171 Tryz.prog sM171_ren := {
  mixed := by kernel_rfl
  f129 := Tryz.func116.trans (congrArg some (by kernel_rfl))
  f171 := Tryz.func50.trans (congrArg some (by kernel_rfl))
  f243 := Tryz.func82.trans (congrArg some (by kernel_rfl))
  f246 := Tryz.func97.trans (congrArg some (by kernel_rfl))
  f283 := Tryz.func104.trans (congrArg some (by kernel_rfl))
  f284 := Tryz.func105.trans (congrArg some (by kernel_rfl))
  f285 := Tryz.func106.trans (congrArg some (by kernel_rfl))
  f286 := Tryz.func107.trans (congrArg some (by kernel_rfl))
  f317 := Tryz.func115.trans (congrArg some (by kernel_rfl))
  f318 := Tryz.func117.trans (congrArg some (by kernel_rfl))
  f319 := Tryz.func118.trans (congrArg some (by kernel_rfl))
  f320 := Tryz.func119.trans (congrArg some (by kernel_rfl))
  f337 := Tryz.func123.trans (congrArg some (by kernel_rfl))
  f338 := Tryz.func124.trans (congrArg some (by kernel_rfl))
  t0 := Tryz.underlying0
  a0 := Tryz.isAgg0
  z0 := Tryz.sizeOf0
  v0 := Tryz.zeroValue0
  t2 := Tryz.underlying2
  a2 := Tryz.isAgg2
  z2 := Tryz.sizeOf2
  v2 := Tryz.zeroValue2
  t3 := Tryz.underlying3
  a3 := Tryz.isAgg3
  z3 := Tryz.sizeOf3
  v3 := Tryz.zeroValue3
  t4 := Tryz.underlying4
  a4 := Tryz.isAgg4
  z4 := Tryz.sizeOf4
  v4 := Tryz.zeroValue4
  t5 := Tryz.underlying5
  a5 := Tryz.isAgg5
  z5 := Tryz.sizeOf5
  v5 := Tryz.zeroValue5
  t9 := Tryz.underlying9
  a9 := Tryz.isAgg9
  z9 := Tryz.sizeOf9
  v9 := Tryz.zeroValue9
  t20 := Tryz.underlying20
  a20 := Tryz.isAgg20
  z20 := Tryz.sizeOf20
  v20 := Tryz.zeroValue20
  t37 := Tryz.underlying57
  a37 := Tryz.isAgg57
  z37 := Tryz.sizeOf57
  v37 := Tryz.zeroValue57
  t46 := Tryz.underlying185
  a46 := Tryz.isAgg185
  z46 := Tryz.sizeOf185
  v46 := Tryz.zeroValue185
  t51 := Tryz.underlying183
  a51 := Tryz.isAgg183
  z51 := Tryz.sizeOf183
  v51 := Tryz.zeroValue183
  t53 := Tryz.underlying168
  a53 := Tryz.isAgg168
  z53 := Tryz.sizeOf168
  v53 := Tryz.zeroValue168
  t171 := Tryz.underlying167
  a171 := Tryz.isAgg167
  z171 := Tryz.sizeOf167
  v171 := Tryz.zeroValue167
  t173 := Tryz.underlying171
  a173 := Tryz.isAgg171
  z173 := Tryz.sizeOf171
  v173 := Tryz.zeroValue171
  t212 := Tryz.underlying182
  a212 := Tryz.isAgg182
  z212 := Tryz.sizeOf182
  v212 := Tryz.zeroValue182
  t213 := Tryz.underlying184
  a213 := Tryz.isAgg184
  z213 := Tryz.sizeOf184
  t232 := Tryz.underlying198
  a232 := Tryz.isAgg198
  z232 := Tryz.sizeOf198
  v232 := Tryz.zeroValue198
  t233 := Tryz.underlying199
  a233 := Tryz.isAgg199
  z233 := Tryz.sizeOf199
  v233 := Tryz.zeroValue199
  g17 := by kernel_rfl
  g18 := by kernel_rfl
  g19 := by kernel_rfl
  i0 := by kernel_rfl
  i2 := by kernel_rfl
  i3 := by kernel_rfl
  i4 := by kernel_rfl
  i5 := by kernel_rfl
  i9 := by kernel_rfl
  i20 := by kernel_rfl
  i37 := by kernel_rfl
  i46 := by kernel_rfl
  i51 := by kernel_rfl
  i53 := by kernel_rfl
  i171 := by kernel_rfl
  i173 := by kernel_rfl
  i212 := by kernel_rfl
  i232 := by kernel_rfl
  i233 := by kernel_rfl
  m17 := by kernel_rfl
  m18 := by kernel_rfl
  m19 := by kernel_rfl }
theorem itoa_any (z : Int) (h0 : -9223372036854775808 ≤ z) (h1 : z ≤ 9223372036854775807) (w : World) (hE : Env w) :
    Calls Tryz.prog 50 #[.int .i64 z] w fun e w' => e = .returned (.string (bs (digZ z))) ∧ Below w.heap.size w w' :=
  (Any.strconv_Itoa sM171 z h0 h1 w hE.2).mono fun _ _ ⟨he, k, os, hw⟩ => by
    refine ⟨by rw [he, itoa_digZ]; rfl, ?_⟩
    subst hw
    exact Lib.below_grow w.heap.size w (Nat.le_refl _) k os
end Go.Proofs.YtdimgomigidbkaaGreatDoor
/- Stage 8's code: how a channel stands in a text. -/
namespace Go.Proofs.YtdimgomigidbkaaGreatDoor
open Go.RowKit

theorem bld_more (B b : Nat) (l m : List UInt8) (w : World) (h : Bld B b l w) (hlen : l.length + m.length ≤ 140737488355328) (hBw : B ≤ w.heap.size) :
    Calls Tryz.prog 22 #[.pointer (some ⟨b, 0, none⟩), .string (bs m)] w fun e w' => e = .returned (.tuple #[.int .i64 ((bs m).size : Nat), .nilIface]) ∧ Bld B b (l ++ m) w' ∧ Below B w w' ∧
      ∀ k o, w.heap[k]? = some o → k ≠ b → (∀ c fz, o ≠ .cells c 5 fz) → w'.heap[k]? = w.heap[k]? :=
  (Any.Builder_WriteString_k s166 x166 B b (Lib.byteCells l) (bs m) w h (by rw [bs_size, Lib.byteCells_length]; exact hlen) hBw).mono fun _ _ ⟨he, h1, h2, h3⟩ =>
    ⟨he, Or.inr (by rw [Lib.byteCells_append]; exact h1), h2, fun k o hk hb ho => (h3 k o hk (fun e => hb (Option.some.inj e)) ho).trans hk.symm⟩
/-- What a channel's text begins with. -/
def headT (c : Ch) : List UInt8 := [99, 104, 97, 110, 110, 101, 108, 32] ++ c.name ++ [32] ++ chartW.getD c.ch [] ++ [32, 123, 10]
def lineT (c : Ch) (r : Nat) : List UInt8 := rowW r ++ [32] ++ digZ (c.f (rowF r)) ++ [59, 10]
theorem headT_lay (c : Ch) : layN (headF c) = headT c := by
  unfold headF headT
  simp [layN, Tok.bytes, wtok, mtok, textN, chanW]
theorem lineT_lay (c : Ch) (r : Nat) : layN (lineF c (rowF r)) = lineT c r := by
  unfold lineF lineT rowW
  simp [layN, Tok.bytes, wtok, ntok, mtok, textN]
def textT (c : Ch) (T : List Nat) : List UInt8 := headT c ++ T.flatMap (lineT c)
theorem textT_snoc (c : Ch) (T : List Nat) (r : Nat) : textT c (T ++ [r]) = textT c T ++ lineT c r := by
  unfold textT
  rw [List.flatMap_append]
  simp
theorem textT_lay (c : Ch) (h : c.may) : layN (chanF c) = textT c (toldL c) ++ [125, 10] := by
  have e : ∀ T : List Nat, layN (linesF c (T.map rowF)) = T.flatMap (lineT c) := fun T => by
    unfold linesF
    induction T with
    | nil => rfl
    | cons r T ih => rw [List.map_cons, List.flatMap_cons, List.flatMap_cons, layN_append, ih, lineT_lay]
  unfold chanF textT
  rw [layN_append, layN_append, headT_lay, ← told_shown h, e]
  simp [layN, Tok.bytes, mtok, textN]
theorem digZ_len {z : Int} (h0 : -1000000000 ≤ z) (h1 : z ≤ 1000000000) : (digZ z).length ≤ 12 :=
  bytes_le (t := ⟨2, [], z, 0⟩) (Or.inr (Or.inl ⟨rfl, rfl, h0, h1⟩))
theorem chart_len : ∀ k, k < 8 → (chartW.getD k []).length ≤ 6 := by decide
theorem row_len : ∀ r, r < 13 → (rowW r).length ≤ 6 := by decide
theorem lo_hi : ∀ r, r < 13 → -1000000000 ≤ rLo r ∧ rHi r ≤ 1000000000 := by decide
theorem told_fit (c : Ch) (h : c.may) : ∀ r ∈ toldL c, -1000000000 ≤ c.f (rowF r) ∧ c.f (rowF r) ≤ 1000000000 := fun r hr => by
  have := ((ch_rows c h.name h.lo h.hi).1 ((chB_iff c).2 h)).1 r hr
  unfold rowFit at this
  rw [Bool.and_eq_true, decide_eq_true_eq, decide_eq_true_eq] at this
  have := lo_hi r (told_lt c r hr)
  omega
theorem may_name {c : Ch} (h : c.may) : c.name.length ≤ 12 := by
  rcases h.name with ⟨-, -, -, h, -⟩ | ⟨h, -⟩ | ⟨h, -⟩
  · exact h
  · exact absurd h (by decide)
  · exact absurd h (by decide)
theorem word_at0 (w : World) : (Instr.index 95 (.agg #[.string ⟨#[120, 98, 97, 114]⟩, .string ⟨#[115, 105, 110, 103, 108, 101]⟩, .string ⟨#[112]⟩, .string ⟨#[110, 112]⟩, .string ⟨#[99]⟩, .string ⟨#[117]⟩, .string ⟨#[99, 117, 115, 117, 109]⟩, .string ⟨#[101, 119, 109, 97]⟩]) (.int .i64 0)).run Tryz.prog w = .ok (.string (bs (chartW.getD 0 []))) w := by kernel_rfl
theorem word_at1 (w : World) : (Instr.index 95 (.agg #[.string ⟨#[120, 98, 97, 114]⟩, .string ⟨#[115, 105, 110, 103, 108, 101]⟩, .string ⟨#[112]⟩, .string ⟨#[110, 112]⟩, .string ⟨#[99]⟩, .string ⟨#[117]⟩, .string ⟨#[99, 117, 115, 117, 109]⟩, .string ⟨#[101, 119, 109, 97]⟩]) (.int .i64 1)).run Tryz.prog w = .ok (.string (bs (chartW.getD 1 []))) w := by kernel_rfl
theorem word_at2 (w : World) : (Instr.index 95 (.agg #[.string ⟨#[120, 98, 97, 114]⟩, .string ⟨#[115, 105, 110, 103, 108, 101]⟩, .string ⟨#[112]⟩, .string ⟨#[110, 112]⟩, .string ⟨#[99]⟩, .string ⟨#[117]⟩, .string ⟨#[99, 117, 115, 117, 109]⟩, .string ⟨#[101, 119, 109, 97]⟩]) (.int .i64 2)).run Tryz.prog w = .ok (.string (bs (chartW.getD 2 []))) w := by kernel_rfl
theorem word_at3 (w : World) : (Instr.index 95 (.agg #[.string ⟨#[120, 98, 97, 114]⟩, .string ⟨#[115, 105, 110, 103, 108, 101]⟩, .string ⟨#[112]⟩, .string ⟨#[110, 112]⟩, .string ⟨#[99]⟩, .string ⟨#[117]⟩, .string ⟨#[99, 117, 115, 117, 109]⟩, .string ⟨#[101, 119, 109, 97]⟩]) (.int .i64 3)).run Tryz.prog w = .ok (.string (bs (chartW.getD 3 []))) w := by kernel_rfl
theorem word_at4 (w : World) : (Instr.index 95 (.agg #[.string ⟨#[120, 98, 97, 114]⟩, .string ⟨#[115, 105, 110, 103, 108, 101]⟩, .string ⟨#[112]⟩, .string ⟨#[110, 112]⟩, .string ⟨#[99]⟩, .string ⟨#[117]⟩, .string ⟨#[99, 117, 115, 117, 109]⟩, .string ⟨#[101, 119, 109, 97]⟩]) (.int .i64 4)).run Tryz.prog w = .ok (.string (bs (chartW.getD 4 []))) w := by kernel_rfl
theorem word_at5 (w : World) : (Instr.index 95 (.agg #[.string ⟨#[120, 98, 97, 114]⟩, .string ⟨#[115, 105, 110, 103, 108, 101]⟩, .string ⟨#[112]⟩, .string ⟨#[110, 112]⟩, .string ⟨#[99]⟩, .string ⟨#[117]⟩, .string ⟨#[99, 117, 115, 117, 109]⟩, .string ⟨#[101, 119, 109, 97]⟩]) (.int .i64 5)).run Tryz.prog w = .ok (.string (bs (chartW.getD 5 []))) w := by kernel_rfl
theorem word_at6 (w : World) : (Instr.index 95 (.agg #[.string ⟨#[120, 98, 97, 114]⟩, .string ⟨#[115, 105, 110, 103, 108, 101]⟩, .string ⟨#[112]⟩, .string ⟨#[110, 112]⟩, .string ⟨#[99]⟩, .string ⟨#[117]⟩, .string ⟨#[99, 117, 115, 117, 109]⟩, .string ⟨#[101, 119, 109, 97]⟩]) (.int .i64 6)).run Tryz.prog w = .ok (.string (bs (chartW.getD 6 []))) w := by kernel_rfl
theorem word_at7 (w : World) : (Instr.index 95 (.agg #[.string ⟨#[120, 98, 97, 114]⟩, .string ⟨#[115, 105, 110, 103, 108, 101]⟩, .string ⟨#[112]⟩, .string ⟨#[110, 112]⟩, .string ⟨#[99]⟩, .string ⟨#[117]⟩, .string ⟨#[99, 117, 115, 117, 109]⟩, .string ⟨#[101, 119, 109, 97]⟩]) (.int .i64 7)).run Tryz.prog w = .ok (.string (bs (chartW.getD 7 []))) w := by kernel_rfl
theorem word_at (k : Nat) (hk : k < 8) (w : World) : (Instr.index 95 (.agg #[.string ⟨#[120, 98, 97, 114]⟩, .string ⟨#[115, 105, 110, 103, 108, 101]⟩, .string ⟨#[112]⟩, .string ⟨#[110, 112]⟩, .string ⟨#[99]⟩, .string ⟨#[117]⟩, .string ⟨#[99, 117, 115, 117, 109]⟩, .string ⟨#[101, 119, 109, 97]⟩]) (.int .i64 (k : Nat))).run Tryz.prog w = .ok (.string (bs (chartW.getD k []))) w := by
  match k, hk with
  | 0, _ => exact word_at0 w
  | 1, _ => exact word_at1 w
  | 2, _ => exact word_at2 w
  | 3, _ => exact word_at3 w
  | 4, _ => exact word_at4 w
  | 5, _ => exact word_at5 w
  | 6, _ => exact word_at6 w
  | 7, _ => exact word_at7 w
theorem kept_has {w w' : World} {b k : Nat} {cs : List Value} {T : TypeId} (h : ∀ k o, w.heap[k]? = some o → k ≠ b → (∀ c fz, o ≠ .cells c 5 fz) → w'.heap[k]? = w.heap[k]?) (hh : Has w k cs T) (hk : k ≠ b) (hT : T ≠ 5) : w'.heap[k]? = w.heap[k]? :=
  h k _ hh hk fun c fz e => by
    injection e with _ e2 _
    exact hT e2
theorem kept_fb {w w' : World} {b rb N : Nat} {cv : Nat → Nat} {m : Nat → Nat} (h : ∀ k o, w.heap[k]? = some o → k ≠ b → (∀ c fz, o ≠ .cells c 5 fz) → w'.heap[k]? = w.heap[k]?) (hh : FBlk w cv rb N m) (hk : rb ≠ b) : w'.heap[rb]? = w.heap[rb]? := by
  obtain ⟨cs, -, h2⟩ := hh.has
  exact kept_has h h2 hk (by decide)
theorem kept_map {w w' : World} {b mb n : Nat} {P : Program} {k : TypeId} {R : Value → Option (DataW Unit × List MemPlace)} {D : DataW Unit} (h : ∀ k o, w.heap[k]? = some o → k ≠ b → (∀ c fz, o ≠ .cells c 5 fz) → w'.heap[k]? = w.heap[k]?) (hh : w.ownsMap P k R mb n D) (hk : mb ≠ b) : w'.heap[mb]? = w.heap[mb]? := by
  obtain ⟨es, clock, h2, -⟩ := hh
  exact h mb _ h2 hk fun c fz e => by cases e
def WrRel (T : List Nat) (c : Ch) (cb kb mb bb : Nat) (cv : Nat → Nat) (D : DataW Unit) (w : World) (v : Value) (wr : World) : Prop :=
  ∃ i : Nat, v = .int .i64 (i : Nat) ∧ i ≤ T.length ∧ Bld bb bb (textT c (T.take i)) wr ∧ (textT c (T.take i)).length ≤ 100 + 40 * i ∧ wr.ownsMap Tryz.prog 9 (ptrE cb) mb 12 D ∧
    Has wr cb (chL c) 37 ∧ FBlk wr cv kb T.length (fun i => T.getD i 0) ∧ Below w.heap.size w wr
theorem take_snoc {T : List Nat} {i : Nat} (hi : i < T.length) : T.take (i + 1) = T.take i ++ [T.getD i 0] := by
  have e2 : T.getD i 0 = T[i] := by rw [List.getD_eq_getElem?_getD, List.getElem?_eq_getElem hi]; rfl
  rw [e2, List.take_append_getElem hi]
set_option linter.unusedSimpArgs false in
set_option maxHeartbeats 0 in
set_option maxRecDepth 100000 in
theorem written_any (c : Ch) (w : World) (hmay : c.may) (hE : Env w) :
    Calls Tryz.prog 23 #[chV c] w fun e w' => e = .returned (.string (bs (layN (chanF c)))) ∧ Below w.heap.size w w' := by
  rw [textT_lay c hmay]
  have h8 : c.ch < 8 := hmay.ch8.1
  have hcc : c.chart = (c.ch : Int) := by have := hmay.lo; unfold Ch.ch; omega
  have hnl := may_name hmay
  have hwl := chart_len c.ch h8
  have HTF := Lib.hid (told_fit c hmay)
  have hbx := Has.new w (chL c) 37
  have hx : Has ((w.alloc (.cells #[.string (bs c.name), .int .i64 c.chart, .int .i64 (c.f 0), .int .i64 (c.f 1), .int .i64 (c.f 2), .int .i64 (c.f 3), .int .i64 (c.f 4), .int .i64 (c.f 5), .int .i64 (c.f 6), .int .i64 (c.f 7), .int .i64 (c.f 8), .int .i64 (c.f 9), .int .i64 (c.f 10), .int .i64 (c.f 11)] 37)).alloc (.cells #[.pointer none, .slice none 0 0] 59)) w.heap.size (chL c) 37 := hbx.alloc _
  have hB := ((Below.refl w.heap.size w).alloc (Nat.le_refl _) (.cells #[.string (bs c.name), .int .i64 c.chart, .int .i64 (c.f 0), .int .i64 (c.f 1), .int .i64 (c.f 2), .int .i64 (c.f 3), .int .i64 (c.f 4), .int .i64 (c.f 5), .int .i64 (c.f 6), .int .i64 (c.f 7), .int .i64 (c.f 8), .int .i64 (c.f 9), .int .i64 (c.f 10), .int .i64 (c.f 11)] 37)).alloc (by simp) (.cells #[.pointer none, .slice none 0 0] 59)
  have hbl : Bld (w.alloc (.cells #[.string (bs c.name), .int .i64 c.chart, .int .i64 (c.f 0), .int .i64 (c.f 1), .int .i64 (c.f 2), .int .i64 (c.f 3), .int .i64 (c.f 4), .int .i64 (c.f 5), .int .i64 (c.f 6), .int .i64 (c.f 7), .int .i64 (c.f 8), .int .i64 (c.f 9), .int .i64 (c.f 10), .int .i64 (c.f 11)] 37)).heap.size (w.alloc (.cells #[.string (bs c.name), .int .i64 c.chart, .int .i64 (c.f 0), .int .i64 (c.f 1), .int .i64 (c.f 2), .int .i64 (c.f 3), .int .i64 (c.f 4), .int .i64 (c.f 5), .int .i64 (c.f 6), .int .i64 (c.f 7), .int .i64 (c.f 8), .int .i64 (c.f 9), .int .i64 (c.f 10), .int .i64 (c.f 11)] 37)).heap.size [] ((w.alloc (.cells #[.string (bs c.name), .int .i64 c.chart, .int .i64 (c.f 0), .int .i64 (c.f 1), .int .i64 (c.f 2), .int .i64 (c.f 3), .int .i64 (c.f 4), .int .i64 (c.f 5), .int .i64 (c.f 6), .int .i64 (c.f 7), .int .i64 (c.f 8), .int .i64 (c.f 9), .int .i64 (c.f 10), .int .i64 (c.f 11)] 37)).alloc (.cells #[.pointer none, .slice none 0 0] 59)) := bld_new _
  rw [show (w.alloc (.cells #[.string (bs c.name), .int .i64 c.chart, .int .i64 (c.f 0), .int .i64 (c.f 1), .int .i64 (c.f 2), .int .i64 (c.f 3), .int .i64 (c.f 4), .int .i64 (c.f 5), .int .i64 (c.f 6), .int .i64 (c.f 7), .int .i64 (c.f 8), .int .i64 (c.f 9), .int .i64 (c.f 10), .int .i64 (c.f 11)] 37)).heap.size = w.heap.size + 1 by simp] at hbl
  have hs1 : ((w.alloc (.cells #[.string (bs c.name), .int .i64 c.chart, .int .i64 (c.f 0), .int .i64 (c.f 1), .int .i64 (c.f 2), .int .i64 (c.f 3), .int .i64 (c.f 4), .int .i64 (c.f 5), .int .i64 (c.f 6), .int .i64 (c.f 7), .int .i64 (c.f 8), .int .i64 (c.f 9), .int .i64 (c.f 10), .int .i64 (c.f 11)] 37)).alloc (.cells #[.pointer none, .slice none 0 0] 59)).heap.size = w.heap.size + 2 := by simp
  have hwd := word_at c.ch h8
  rw [← hcc] at hwd
  have htd := fun W => told_any c W hcc
  have hpl := places_any w.heap.size
  have hcw := chartWords_any
  have a1 : ∀ W, (Op.stringOp .add ⟨#[99, 104, 97, 110, 110, 101, 108, 32]⟩ (bs c.name)).run Tryz.prog W = .ok (.string (bs ([99, 104, 97, 110, 110, 101, 108, 32] ++ c.name))) W := fun W => run_add_bs W [99, 104, 97, 110, 110, 101, 108, 32] c.name (by simp; omega)
  have a2 : ∀ W, (Op.stringOp .add (bs ([99, 104, 97, 110, 110, 101, 108, 32] ++ c.name)) ⟨#[32]⟩).run Tryz.prog W = .ok (.string (bs ([99, 104, 97, 110, 110, 101, 108, 32] ++ c.name ++ [32]))) W := fun W => run_add_bs W ([99, 104, 97, 110, 110, 101, 108, 32] ++ c.name) [32] (by simp; omega)
  have a3 : ∀ W, (Op.stringOp .add (bs ([99, 104, 97, 110, 110, 101, 108, 32] ++ c.name ++ [32])) (bs (chartW.getD c.ch []))).run Tryz.prog W = .ok (.string (bs ([99, 104, 97, 110, 110, 101, 108, 32] ++ c.name ++ [32] ++ chartW.getD c.ch []))) W := fun W => run_add_bs W ([99, 104, 97, 110, 110, 101, 108, 32] ++ c.name ++ [32]) (chartW.getD c.ch []) (by simp only [List.length_append, List.length_cons, List.length_nil]; omega)
  have a4 : ∀ W, (Op.stringOp .add (bs ([99, 104, 97, 110, 110, 101, 108, 32] ++ c.name ++ [32] ++ chartW.getD c.ch [])) ⟨#[32, 123, 10]⟩).run Tryz.prog W = .ok (.string (bs (headT c))) W := fun W => run_add_bs W ([99, 104, 97, 110, 110, 101, 108, 32] ++ c.name ++ [32] ++ chartW.getD c.ch []) [32, 123, 10] (by simp only [List.length_append, List.length_cons, List.length_nil]; omega)
  have hhl : (headT c).length ≤ 100 := by unfold headT; simp only [List.length_append, List.length_cons, List.length_nil]; omega
  clear hcc hbx
  generalize chartW.getD c.ch [] = wd at *
  generalize [99, 104, 97, 110, 110, 101, 108, 32] ++ c.name ++ [32] ++ wd = H3 at *
  generalize [99, 104, 97, 110, 110, 101, 108, 32] ++ c.name ++ [32] = H2 at *
  generalize [99, 104, 97, 110, 110, 101, 108, 32] ++ c.name = H1 at *
  have hwb := fun W (h : Bld (w.heap.size + 1) (w.heap.size + 1) [] W) (hs : w.heap.size + 1 ≤ W.heap.size) => bld_more (w.heap.size + 1) (w.heap.size + 1) [] (headT c) W h (by simp; omega) hs
  unfold chV
  go_enter Tryz.func23, Tryz.ntmps23
  go_upto_region 2 with fail
  refine wp_region_held_drew (S := (fun w' : World => w'.cell? ⟨w.heap.size, 0, none⟩ = some (.string (bs c.name)) ∧ w'.cell? ⟨w.heap.size, 1, none⟩ = some (.int .i64 c.chart) ∧ Hid (Has w' w.heap.size (chL c) 37 ∧ Below w.heap.size w w' ∧ w.heap.size + 2 ≤ w'.heap.size))) (by kernel_rfl) ⟨(hx.of rfl).cell 0, (hx.of rfl).cell 1, Lib.hid ⟨hx.of rfl, hB.drew, by rw [← hs1]; exact Nat.le_refl _⟩⟩ (fun hHeld => ?_)
  have hbl2 := hbl.below ((Below.refl _ _).drew)
  refine regTake 0 (some 7) (v := ?_) rfl rfl (by kernel_rfl) (by kernel_rfl) (by kernel_rfl) (fun _ _ _ h => h) (by kernel_rfl) hHeld ?_ ?_
  rotate_left 1
  · (intro w hSw; (try dsimp only at hSw); go_simp; try with_reducible rfl)
  simp only [Act.put, List.setIfInBounds_toArray, List.set_cons_zero, List.set_cons_succ]
  refine regTake 1 (some 8) (v := ?_) rfl rfl (by kernel_rfl) (by kernel_rfl) (by kernel_rfl) (fun _ _ _ h => h) (by kernel_rfl) hHeld ?_ ?_
  rotate_left 1
  · (intro w hSw; (try dsimp only at hSw); go_simp; try with_reducible rfl)
  simp only [Act.put, List.setIfInBounds_toArray, List.set_cons_zero, List.set_cons_succ]
  refine regTake 2 (some 9) (v := ?_) rfl rfl (by kernel_rfl) (by kernel_rfl) (by kernel_rfl) (fun _ _ _ h => h) (by kernel_rfl) hHeld ?_ ?_
  rotate_left 1
  · (intro w hSw; (try dsimp only at hSw); go_simp; try with_reducible rfl)
  simp only [Act.put, List.setIfInBounds_toArray, List.set_cons_zero, List.set_cons_succ]
  refine regTake 3 (some 10) (v := ?_) rfl rfl (by kernel_rfl) (by kernel_rfl) (by kernel_rfl) (fun _ _ _ h => h) (by kernel_rfl) hHeld ?_ ?_
  rotate_left 1
  · (intro w hSw; (try dsimp only at hSw); go_simp; try with_reducible rfl)
  simp only [Act.put, List.setIfInBounds_toArray, List.set_cons_zero, List.set_cons_succ]
  refine regTake 5 (some 12) (v := ?_) rfl rfl (by kernel_rfl) (by kernel_rfl) (by kernel_rfl) (fun _ _ _ h => h) (by kernel_rfl) hHeld ?_ ?_
  rotate_left 1
  · (intro w hSw; (try dsimp only at hSw); go_simp; try with_reducible rfl)
  simp only [Act.put, List.setIfInBounds_toArray, List.set_cons_zero, List.set_cons_succ]
  refine regTake 6 (some 13) (v := ?_) rfl rfl (by kernel_rfl) (by kernel_rfl) (by kernel_rfl) (fun _ _ _ h => h) (by kernel_rfl) hHeld ?_ ?_
  rotate_left 1
  · (intro w hSw; (try dsimp only at hSw); go_simp; try with_reducible rfl)
  simp only [Act.put, List.setIfInBounds_toArray, List.set_cons_zero, List.set_cons_succ]
  refine regCall 4 (some 11) (f := 47) (args := ?_) rfl rfl (by kernel_rfl) (by kernel_rfl) ?_ ?_
  rotate_left 1
  · (go_simp; try with_reducible rfl)
  refine (hcw _).mono ?_
  rintro e wx4 ⟨rfl, k1⟩
  refine ⟨_, rfl, by
      obtain ⟨-, -, hh⟩ := hHeld
      obtain ⟨q1, q3, q4⟩ := hh.out
      exact ⟨(q1.call k1).cell 0, (q1.call k1).cell 1, Lib.hid ⟨q1.call k1, q3.trans (k1.mono q3.size), Nat.le_trans q4 k1.size⟩⟩, fun hHeld => ?_⟩
  simp only [Act.put, List.setIfInBounds_toArray, List.set_cons_zero, List.set_cons_succ]
  refine regDo 7 (some 14) (v := ?_) (w' := ?_) rfl rfl (by kernel_rfl) (by kernel_rfl) ?_ ?_ (fun hHeld => ?_)
  rotate_left 2
  · (go_simp; refine ⟨?_, ?_⟩ <;> with_reducible rfl)
  · exact hHeld
  simp only [Act.put, List.setIfInBounds_toArray, List.set_cons_zero, List.set_cons_succ]
  refine regTake 8 (some 15) (v := ?_) rfl rfl (by kernel_rfl) (by kernel_rfl) (by kernel_rfl) (fun _ _ _ h => h) (by kernel_rfl) hHeld ?_ ?_
  rotate_left 1
  · (intro w hSw; (try dsimp only at hSw); go_simp; try with_reducible rfl)
  simp only [Act.put, List.setIfInBounds_toArray, List.set_cons_zero, List.set_cons_succ]
  refine regTake 9 (some 16) (v := ?_) rfl rfl (by kernel_rfl) (by kernel_rfl) (by kernel_rfl) (fun _ _ _ h => h) (by kernel_rfl) hHeld ?_ ?_
  rotate_left 1
  · (intro w hSw; (try dsimp only at hSw); go_simp; try with_reducible rfl)
  simp only [Act.put, List.setIfInBounds_toArray, List.set_cons_zero, List.set_cons_succ]
  have HQ := hHeld.2.2.out
  refine regCall 10 (some 17) (f := 22) (args := ?_) rfl rfl (by kernel_rfl) (by kernel_rfl) ?_ ?_
  rotate_left 1
  · (go_simp; try with_reducible rfl)
  refine (hwb _ (hbl2.below k1) (by have := HQ.2.2; omega)).mono ?_
  rintro e wx10 ⟨rfl, k2, k3, k4⟩
  refine ⟨_, rfl, by
      obtain ⟨-, -, hh⟩ := hHeld
      obtain ⟨q1, q3, q4⟩ := hh.out
      exact ⟨(q1.of (k3.block _ (by omega))).cell 0, (q1.of (k3.block _ (by omega))).cell 1, Lib.hid ⟨q1.of (k3.block _ (by omega)), q3.trans (k3.mono (by omega)), Nat.le_trans q4 k3.size⟩⟩, fun hHeld => ?_⟩
  simp only [Act.put, List.setIfInBounds_toArray, List.set_cons_zero, List.set_cons_succ]
  refine wpAnyH_done (by kernel_rfl) ?_ _
  obtain ⟨-, -, hh⟩ := hHeld
  obtain ⟨hx4, hB4, hs4⟩ := hh.out
  clear hh HQ hbl2 k1 k3 k4 hx hB hbl hs1 a1 a2 a3 a4 hcw hwd hwb
  rw [List.nil_append] at k2
  have htT0 : textT c [] = headT c := by unfold textT; simp
  go_wp2_with fail
  refine (hpl _).mono ?_
  rintro e w5 ⟨mb, D, rfl, hmp, hPM, hmb, k5⟩
  have hml : mb < w5.heap.size := by
    obtain ⟨es, clock, hb, -⟩ := hmp
    exact (Array.getElem?_eq_some_iff.1 hb).1
  have hx5 := hx4.call k5
  have hB5 := hB4.trans (k5.mono (by omega))
  have hbl5 := k2.below k5
  have hs5 := k5.size
  have hRg := hx5.range
  clear hpl hx4 hB4 k2 k5
  go_wp2_with (refine wpList_load_mid rfl 37 _ rfl w.heap.size 0 rfl (chL c) _ hRg Tryz.underlying37 rfl size14 ?_)
  go_wp2_with fail
  refine (htd _).mono ?_
  rintro e w6 ⟨v, rfl, hof, k6⟩
  obtain ⟨cv, kb, cap, rfl, ql, qc, hfb, hkb⟩ := hof
  have hs6 := k6.size
  have hkl := hfb.lt
  have hx6 := hx5.call k6
  have hB6 := hB5.trans (k6.mono (by omega))
  have hbl6 := hbl5.below k6
  have hmp6 := owns_of hmp (k6.block mb hml)
  have hT13 := told_lt c
  have hTl := told_len c
  have hTn := told_nodup c h8
  clear htd hRg hx5 hB5 hbl5 k6 hmp hmay
  generalize hTe : toldL c = T at *
  have HTE := Lib.hid hTe
  clear hTe
  generalize hcbe : w.heap.size = cb at hmp6 hx6 hbl6 hmb hs4 ⊢
  generalize hbb : cb + 1 = bb at hbl6 ⊢
  go_wp2
  go_loopw [22] (WrRel T c cb kb mb bb cv D w) (fun v _ => T.length - (intOf v).toNat)
  case atStart => exact ⟨0, rfl, Nat.zero_le _, by rw [List.take_zero, htT0]; exact hbl6, by rw [List.take_zero, htT0]; omega, hmp6, hx6, hfb, hB6⟩
  case round =>
    obtain ⟨i, rfl, hiT, hbl, hln, hM, hx, hF, hBw⟩ := hrel
    have hsw := hBw.size
    have hFl := hF.lt
    have hxl := hx.lt
    have hE7 := hE.below hBw
    clear hmp6 hx6 hfb hB6 hbl6 htT0
    by_cases hi : i < T.length
    · obtain ⟨x0, x1, x2, x3, x4⟩ := hF.at' i hi
      have hmem := getD_mem T i hi
      have hr13 := hT13 _ hmem
      have hrF := rowF_lt _ hr13
      have hlk := fun (W : World) (hW : W.ownsMap Tryz.prog 9 (ptrE cb) mb 12 D) => look_at hW hPM hr13 rfl
      obtain ⟨z0, z1⟩ := HTF.out _ hmem
      have HTS := Lib.hid (show textT c (T.take (i + 1)) = textT c (T.take i) ++ lineT c (T.getD i 0) by rw [take_snoc hi, textT_snoc])
      have hml2 : mb < wr.heap.size := by
        obtain ⟨es, clock, hb, -⟩ := hM
        exact (Array.getElem?_eq_some_iff.1 hb).1
      clear hmem
      generalize T.getD i 0 = r at *
      have hcx := chL_at c (rowF r) hrF
      have hdl := digZ_len z0 z1
      have hrl := row_len r hr13
      have hit := fun W (hW : Env W) => itoa_any (c.f (rowF r)) (by omega) (by omega) W hW
      have hll : (lineT c r).length ≤ 40 := by unfold lineT; simp only [List.length_append, List.length_cons, List.length_nil]; omega
      have b1 : ∀ W, (Op.stringOp .add (bs (rowW r)) ⟨#[32]⟩).run Tryz.prog W = .ok (.string (bs (rowW r ++ [32]))) W := fun W => run_add_bs W (rowW r) [32] (by simp only [List.length_append, List.length_cons, List.length_nil]; omega)
      have b2 : ∀ W, (Op.stringOp .add (bs (rowW r ++ [32])) (bs (digZ (c.f (rowF r))))).run Tryz.prog W = .ok (.string (bs (rowW r ++ [32] ++ digZ (c.f (rowF r))))) W := fun W => run_add_bs W _ _ (by simp only [List.length_append, List.length_cons, List.length_nil]; omega)
      have b3 : ∀ W, (Op.stringOp .add (bs (rowW r ++ [32] ++ digZ (c.f (rowF r)))) ⟨#[59, 10]⟩).run Tryz.prog W = .ok (.string (bs (lineT c r))) W := fun W => run_add_bs W (rowW r ++ [32] ++ digZ (c.f (rowF r))) [59, 10] (by simp only [List.length_append, List.length_cons, List.length_nil]; omega)
      generalize rowW r ++ [32] ++ digZ (c.f (rowF r)) = L2 at *
      generalize rowW r ++ [32] = L1 at *
      generalize digZ (c.f (rowF r)) = L0 at *
      generalize hxe : c.f (rowF r) = x at *
      have hb8 := (Below.refl wr.heap.size wr).alloc (Nat.le_refl _) (.cells #[.string (bs (rowW r)), .int .i64 (rLo r), .int .i64 (rHi r), .slice (some ⟨cv r, 0, none⟩) (nCh r) (nCh r), .bool (rNeed r)] 104)
      have hs8 : (wr.alloc (.cells #[.string (bs (rowW r)), .int .i64 (rLo r), .int .i64 (rHi r), .slice (some ⟨cv r, 0, none⟩) (nCh r) (nCh r), .bool (rNeed r)] 104)).heap.size = wr.heap.size + 1 := by simp
      have hf8 : Has (wr.alloc (.cells #[.string (bs (rowW r)), .int .i64 (rLo r), .int .i64 (rHi r), .slice (some ⟨cv r, 0, none⟩) (nCh r) (nCh r), .bool (rNeed r)] 104)) wr.heap.size (fldL cv r) 104 := Has.new wr (fldL cv r) 104
      have hx8 := hx.call hb8
      have hM8 := owns_of hM (hb8.block mb hml2)
      have hF8 := hF.call hb8
      have hbl8 := hbl.below hb8
      have hE8 := hE7.below hb8
      have hB8 := hBw.trans (hb8.mono (by omega))
      have HSS := Lib.hid (show ∀ W : World, W.heap[wr.heap.size]? = (wr.alloc (.cells #[.string (bs (rowW r)), .int .i64 (rLo r), .int .i64 (rHi r), .slice (some ⟨cv r, 0, none⟩) (nCh r) (nCh r), .bool (rNeed r)] 104)).heap[wr.heap.size]? → W.heap[cb]? = (wr.alloc (.cells #[.string (bs (rowW r)), .int .i64 (rLo r), .int .i64 (rHi r), .slice (some ⟨cv r, 0, none⟩) (nCh r) (nCh r), .bool (rNeed r)] 104)).heap[cb]? → W.heap[mb]? = (wr.alloc (.cells #[.string (bs (rowW r)), .int .i64 (rLo r), .int .i64 (rHi r), .slice (some ⟨cv r, 0, none⟩) (nCh r) (nCh r), .bool (rNeed r)] 104)).heap[mb]? → (fun w' : World => w'.cell? ⟨wr.heap.size, 0, none⟩ = some (.string (bs (rowW r))) ∧ w'.cell? ⟨cb, rowF r + 2, none⟩ = some (.int .i64 x) ∧ (Instr.lookup 97 (.map (some mb)) (.string (bs (rowW r))) false).run Tryz.prog w' = .ok (.pointer (some ⟨cb, rowF r + 2, none⟩)) w') W from fun W q1 q2 q3 => ⟨(hf8.of q1).cell 0, ((hx8.of q2).cell _).trans hcx, hlk W (owns_of hM8 q3)⟩)
      have hwt := fun W (h : Bld bb bb (textT c (T.take i)) W) (hs : bb ≤ W.heap.size) => bld_more bb bb (textT c (T.take i)) (lineT c r) W h (by omega) hs
      clear hx hM hF hbl hBw hb8 hlk hE7 hcx
      go_upto_region 7 with fail
      refine wp_region_held_drew (S := (fun w' : World => w'.cell? ⟨wr.heap.size, 0, none⟩ = some (.string (bs (rowW r))) ∧ w'.cell? ⟨cb, rowF r + 2, none⟩ = some (.int .i64 x) ∧ (Instr.lookup 97 (.map (some mb)) (.string (bs (rowW r))) false).run Tryz.prog w' = .ok (.pointer (some ⟨cb, rowF r + 2, none⟩)) w')) (by kernel_rfl) (HSS.out _ rfl rfl rfl) (fun hHeld => ?_)
      refine regTake 0 (some 26) (v := ?_) rfl rfl (by kernel_rfl) (by kernel_rfl) (by kernel_rfl) (fun _ _ _ h => h) (by kernel_rfl) hHeld ?_ ?_
      rotate_left 1
      · (intro w hSw; (try dsimp only at hSw); go_simp; try with_reducible rfl)
      simp only [Act.put, List.setIfInBounds_toArray, List.set_cons_zero, List.set_cons_succ]
      refine regTake 1 (some 27) (v := ?_) rfl rfl (by kernel_rfl) (by kernel_rfl) (by kernel_rfl) (fun _ _ _ h => h) (by kernel_rfl) hHeld ?_ ?_
      rotate_left 1
      · (intro w hSw; (try dsimp only at hSw); go_simp; try with_reducible rfl)
      simp only [Act.put, List.setIfInBounds_toArray, List.set_cons_zero, List.set_cons_succ]
      refine regTake 2 (some 28) (v := ?_) rfl rfl (by kernel_rfl) (by kernel_rfl) (by kernel_rfl) (fun _ _ _ h => h) (by kernel_rfl) hHeld ?_ ?_
      rotate_left 1
      · (intro w hSw; (try dsimp only at hSw); go_simp; try with_reducible rfl)
      simp only [Act.put, List.setIfInBounds_toArray, List.set_cons_zero, List.set_cons_succ]
      refine regTake 3 (some 29) (v := ?_) rfl rfl (by kernel_rfl) (by kernel_rfl) (by kernel_rfl) (fun _ _ _ h => h) (by kernel_rfl) hHeld ?_ ?_
      rotate_left 1
      · (intro w hSw; (try dsimp only at hSw); go_simp; try with_reducible rfl)
      simp only [Act.put, List.setIfInBounds_toArray, List.set_cons_zero, List.set_cons_succ]
      refine regTake 4 (some 30) (v := ?_) rfl rfl (by kernel_rfl) (by kernel_rfl) (by kernel_rfl) (fun _ _ _ h => h) (by kernel_rfl) hHeld ?_ ?_
      rotate_left 1
      · (intro w hSw; (try dsimp only at hSw); go_simp; try with_reducible rfl)
      simp only [Act.put, List.setIfInBounds_toArray, List.set_cons_zero, List.set_cons_succ]
      refine regTake 5 (some 31) (v := ?_) rfl rfl (by kernel_rfl) (by kernel_rfl) (by kernel_rfl) (fun _ _ _ h => h) (by kernel_rfl) hHeld ?_ ?_
      rotate_left 1
      · (intro w hSw; (try dsimp only at hSw); go_simp; try with_reducible rfl)
      simp only [Act.put, List.setIfInBounds_toArray, List.set_cons_zero, List.set_cons_succ]
      refine regDo 6 (some 32) (v := ?_) (w' := ?_) rfl rfl (by kernel_rfl) (by kernel_rfl) ?_ ?_ (fun hHeld => ?_)
      rotate_left 2
      · (go_simp; refine ⟨?_, ?_⟩ <;> with_reducible rfl)
      · exact hHeld
      simp only [Act.put, List.setIfInBounds_toArray, List.set_cons_zero, List.set_cons_succ]
      refine regTake 7 (some 33) (v := ?_) rfl rfl (by kernel_rfl) (by kernel_rfl) (by kernel_rfl) (fun _ _ _ h => h) (by kernel_rfl) hHeld ?_ ?_
      rotate_left 1
      · (intro w hSw; (try dsimp only at hSw); go_simp; try with_reducible rfl)
      simp only [Act.put, List.setIfInBounds_toArray, List.set_cons_zero, List.set_cons_succ]
      refine regTake 8 (some 34) (v := ?_) rfl rfl (by kernel_rfl) (by kernel_rfl) (by kernel_rfl) (fun _ _ _ h => h) (by kernel_rfl) hHeld ?_ ?_
      rotate_left 1
      · (intro w hSw; (try dsimp only at hSw); go_simp; try with_reducible rfl)
      simp only [Act.put, List.setIfInBounds_toArray, List.set_cons_zero, List.set_cons_succ]
      refine regCall 9 (some 35) (f := 50) (args := ?_) rfl rfl (by kernel_rfl) (by kernel_rfl) ?_ ?_
      rotate_left 1
      · (go_simp; try with_reducible rfl)
      refine (hit _ (hE8.below (Below.refl _ _).drew)).mono ?_
      rintro e wx9 ⟨rfl, k1⟩
      refine ⟨_, rfl, HSS.out _ (k1.block _ (show _ < (wr.alloc (.cells #[.string (bs (rowW r)), .int .i64 (rLo r), .int .i64 (rHi r), .slice (some ⟨cv r, 0, none⟩) (nCh r) (nCh r), .bool (rNeed r)] 104)).heap.size by omega)) (k1.block _ (show _ < (wr.alloc (.cells #[.string (bs (rowW r)), .int .i64 (rLo r), .int .i64 (rHi r), .slice (some ⟨cv r, 0, none⟩) (nCh r) (nCh r), .bool (rNeed r)] 104)).heap.size by omega)) (k1.block _ (show _ < (wr.alloc (.cells #[.string (bs (rowW r)), .int .i64 (rLo r), .int .i64 (rHi r), .slice (some ⟨cv r, 0, none⟩) (nCh r) (nCh r), .bool (rNeed r)] 104)).heap.size by omega)), fun hHeld => ?_⟩
      simp only [Act.put, List.setIfInBounds_toArray, List.set_cons_zero, List.set_cons_succ]
      have kD := ((Below.refl (wr.heap.size + 1) (wr.alloc (.cells #[.string (bs (rowW r)), .int .i64 (rLo r), .int .i64 (rHi r), .slice (some ⟨cv r, 0, none⟩) (nCh r) (nCh r), .bool (rNeed r)] 104))).drew).trans (k1.mono (show wr.heap.size + 1 ≤ (wr.alloc (.cells #[.string (bs (rowW r)), .int .i64 (rLo r), .int .i64 (rHi r), .slice (some ⟨cv r, 0, none⟩) (nCh r) (nCh r), .bool (rNeed r)] 104)).heap.size by omega))
      have hbl9 := (hbl8.below (Below.refl _ _).drew).below k1
      have hf9 := hf8.of (kD.block _ (by omega))
      have hM9 := owns_of hM8 (kD.block _ (by omega))
      have hF9 := hF8.of (kD.block _ (by omega))
      have hs9 := kD.size
      refine regTake 10 (some 36) (v := ?_) rfl rfl (by kernel_rfl) (by kernel_rfl) (by kernel_rfl) (fun _ _ _ h => h) (by kernel_rfl) hHeld ?_ ?_
      rotate_left 1
      · (intro w hSw; (try dsimp only at hSw); go_simp; try with_reducible rfl)
      simp only [Act.put, List.setIfInBounds_toArray, List.set_cons_zero, List.set_cons_succ]
      refine regTake 11 (some 37) (v := ?_) rfl rfl (by kernel_rfl) (by kernel_rfl) (by kernel_rfl) (fun _ _ _ h => h) (by kernel_rfl) hHeld ?_ ?_
      rotate_left 1
      · (intro w hSw; (try dsimp only at hSw); go_simp; try with_reducible rfl)
      simp only [Act.put, List.setIfInBounds_toArray, List.set_cons_zero, List.set_cons_succ]
      refine regCall 12 (some 38) (f := 22) (args := ?_) rfl rfl (by kernel_rfl) (by kernel_rfl) ?_ ?_
      rotate_left 1
      · (go_simp; try with_reducible rfl)
      refine (hwt _ hbl9 (by omega)).mono ?_
      rintro e wx12 ⟨rfl, k2, k3, k4⟩
      refine ⟨_, rfl, HSS.out _ ((kept_has k4 hf9 (by omega) (by decide)).trans (kD.block _ (by omega))) ((k3.block _ (by omega)).trans (kD.block _ (by omega))) ((kept_map k4 hM9 (by omega)).trans (kD.block _ (by omega))), fun hHeld => ?_⟩
      simp only [Act.put, List.setIfInBounds_toArray, List.set_cons_zero, List.set_cons_succ]
      refine wpAnyH_done (by kernel_rfl) ?_ _
      have hx9 := hx8.of ((k3.block _ (by omega)).trans (kD.block _ (by omega)))
      have hM10 := owns_of hM9 (kept_map k4 hM9 (by omega))
      have hF10 := hF9.of (kept_fb k4 hF9 (by omega))
      have hB10 := (hB8.trans (kD.mono (by omega))).trans (k3.mono (by omega))
      have HR := Lib.hid (show WrRel T c cb kb mb bb cv D w (.int .i64 ((i + 1 : Nat) : Int)) _ from ⟨i + 1, rfl, hi, by rw [HTS.out]; exact k2, by rw [HTS.out, List.length_append]; omega, hM10, hx9, hF10, hB10⟩)
      clear hHeld k1 kD k2 k3 k4 hf8 hx8 hM8 hF8 hbl8 hE8 hB8 hbl9 hf9 hM9 hF9 hx9 hM10 hF10 hB10 HSS hwt hit b1 b2 b3 x0 x1 x2 x3 x4
      go_wp2
      go_roundw
      case rel => exact HR.out
      case measure => simp [intOf]; omega
    · have hiE : i = T.length := by omega
      subst hiE
      rw [List.take_length] at hbl hln
      have hwt := bld_text bb bb (textT c T) [125, 10] wr hbl (by simp; omega) (by omega)
      clear hM hx hF hE7 hi hiT
      go_wp2_with fail
      refine hwt.mono ?_
      rintro e w8 ⟨rfl, hbl8, k8⟩
      have hB8 := hBw.trans (k8.mono (by omega))
      have hst := bld_string bb bb (textT c T ++ [125, 10]) w8 hbl8 (by have := k8.size; omega)
      clear hwt hbl hbl8 hBw
      go_wp2_with fail
      refine hst.mono ?_
      rintro e w9 ⟨rfl, k9⟩
      have hB9 := hB8.trans (k9.mono (by omega))
      go_wp2
      (try simp only [Exit.inBlock, Exit.then])
      go_ret
      refine ⟨?_, hcbe ▸ hB9⟩
      rw [HTE.out]
      rfl
end Go.Proofs.YtdimgomigidbkaaGreatDoor
/- Stage 8's code: Print. -/
namespace Go.Proofs.YtdimgomigidbkaaGreatDoor
open Go.RowKit

def print8 (l : List Ch) : Value := if recB l = true then .tuple #[.string (bs (printR l)), .int .i64 0] else .tuple #[.string ⟨#[]⟩, .int .i64 1]
theorem printR_snoc {l : List Ch} {i : Nat} (hi : i < l.length) : printR (l.take (i + 1)) = printR (l.take i) ++ layN (chanF (nthC l i)) := by
  have e : printR [nthC l i] = layN (chanF (nthC l i)) := by unfold printR recF; simp
  rw [nthC_get l i hi, ← List.take_append_getElem hi, printR_append, ← nthC_get l i hi, e]
def WRel (l : List Ch) (n : Nat) (w : World) (v : Value) (bb : Nat) (i : Value) (wr : World) : Prop :=
  ∃ k : Nat, k ≤ n ∧ i = .int .i64 (k : Nat) ∧ Bld bb bb (printR (l.take k)) wr ∧ Below w.heap.size w wr ∧ Has wr w.heap.size [v] 24 ∧ bb ≤ wr.heap.size
set_option maxHeartbeats 0 in
set_option maxRecDepth 100000 in
theorem print8_any (l : List Ch) (v : Value) (w : World) (hm : l.length ≤ 100000) (hr : ReadsC w v l) (hn : ∀ i, i < l.length → (nthC l i).name.length ≤ 100000) (hE : Env w) :
    Calls Tryz.prog 13 #[.agg #[v]] w fun e w' => e = .returned (print8 l) ∧ Below w.heap.size w w' := by
  have hB := (Below.refl w.heap.size w).alloc (Nat.le_refl _) (.cells #[v] 24)
  have hrt := rec8_any l v _ hm (hr.below hB) hn
  have h0 := Has.new w [v] 24
  unfold print8
  obtain ⟨ao, cap, rfl, hlc, hcm, hc⟩ := hr
  unfold maxLen at hcm
  have HC := Lib.hid hc
  clear hc hn
  cases hq : recB l with
  | false =>
    rw [if_neg (show ¬ (false = true) from by decide)]
    rw [hq] at hrt
    clear hq hE
    go_enter Tryz.func13, Tryz.ntmps13
    go_wp2_with fail
    refine hrt.mono ?_
    rintro e w2 ⟨rfl, k2⟩
    have hB2 := hB.trans (k2.mono hB.size)
    clear hrt k2 hB h0
    go_wp2
    go_ret2
    exact ⟨rfl, hB2⟩
  | true =>
    rw [if_pos rfl]
    rw [hq] at hrt
    have hrb := (recB_iff l).1 hq
    obtain ⟨⟨hl1, hl4⟩, hmay, -⟩ := hrb
    have HMAY := Lib.hid (show ∀ i, i < l.length → (nthC l i).may from fun i hi => hmay _ (by rw [nthC_get l i hi]; exact List.getElem_mem hi))
    have HLEN := Lib.hid (show ∀ k, (printR (l.take k)).length ≤ 2132 from fun k => print_len _ (fun c hc => hmay c (List.mem_of_mem_take hc)) (by rw [List.length_take]; omega))
    have HSN := Lib.hid (show ∀ i, i < l.length → printR (l.take (i + 1)) = printR (l.take i) ++ layN (chanF (nthC l i)) from fun i hi => printR_snoc hi)
    have HEND := Lib.hid (show printR (l.take l.length) = printR l by rw [List.take_length])
    have HST := Lib.hid (show printR (l.take 0) = [] from rfl)
    clear hq hmay hm
    obtain ⟨PR, hPR⟩ : ∃ PR, printR l = PR := ⟨_, rfl⟩
    rw [hPR]
    have HPR := Lib.hid hPR
    clear hPR
    obtain ⟨n, hn⟩ : ∃ n, l.length = n := ⟨_, rfl⟩
    have HN := Lib.hid hn
    rw [hn] at hl1 hl4 hlc hrt h0 hB
    rw [hn]
    clear hn
    go_enter Tryz.func13, Tryz.ntmps13
    go_wp2_with fail
    refine hrt.mono ?_
    rintro e w2 ⟨rfl, k2⟩
    have hB2 := hB.trans (k2.mono hB.size)
    have h2 := h0.call k2
    have hs2 := k2.size
    rw [show (w.alloc (.cells #[.slice ao n cap] 24)).heap.size = w.heap.size + 1 by simp] at hs2
    have d0 : w2.cell? ⟨w.heap.size, 0, none⟩ = some (.slice ao n cap) := h2.cell 0
    have hbl := bld_new w2
    have hb3 := (Below.refl w2.heap.size w2).alloc (Nat.le_refl _) (.cells #[.pointer none, .slice none 0 0] 59)
    have h3 := h2.call hb3
    have hB3 := hB2.trans (hb3.mono (by omega))
    have d1 : (w2.alloc (.cells #[.pointer none, .slice none 0 0] 59)).cell? ⟨w.heap.size, 0, none⟩ = some (.slice ao n cap) := h3.cell 0
    have hne : (w.heap.size == w2.heap.size) = false := beq_false_of_ne (by omega)
    have hlt2 : w.heap.size < w2.heap.size := by omega
    have hb3s := hb3.size
    clear hrt k2 hB h0 h2 hB2 hb3
    go_wp2
    generalize hbbe : w2.heap.size = bb at *
    go_loopw [13] (WRel l n w (.slice ao n cap) bb) (fun i _ => n - (intOf i).toNat)
    case atStart => exact ⟨0, Nat.zero_le _, rfl, by rw [HST.out]; exact hbl, hB3, h3, hb3s⟩
    case round =>
      obtain ⟨k, hk, rfl, hbl, hb, hx, hbs⟩ := hrel
      clear h3 hB3 d0 d1 hne hb3s
      by_cases hl : k < n
      · obtain ⟨b, o, rfl, hlt, hd⟩ := HC.out k (by rw [HN.out]; exact hl)
        obtain ⟨x0, x1, x2, x3, x4, x5, x6, x7, x8, x9, x10, x11, x12, x13⟩ := hd.below hb hlt
        have hmk := HMAY.out k (by rw [HN.out]; exact hl)
        have hwr := fun W (hW : Below w.heap.size w W) => written_any (nthC l k) W hmk (hE.below hW)
        have HS := Lib.hid (HSN.out k (by rw [HN.out]; exact hl))
        have hll : (layN (chanF (nthC l k))).length ≤ 2132 := by
          have e1 := HLEN.out (k + 1)
          rw [HS.out, List.length_append] at e1
          omega
        have hlk := HLEN.out k
        clear hd hmk
        unfold chV at hwr
        generalize layN (chanF (nthC l k)) = tx at *
        obtain ⟨wo, hwo⟩ : ∃ wo : World, wo = wr := ⟨_, rfl⟩
        subst hwo
        have hb8 := ((Below.refl wo.heap.size wo).alloc (Nat.le_refl _) (.cells #[.string (bs (nthC l k).name), .int .i64 (nthC l k).chart, .int .i64 ((nthC l k).f 0), .int .i64 ((nthC l k).f 1), .int .i64 ((nthC l k).f 2), .int .i64 ((nthC l k).f 3), .int .i64 ((nthC l k).f 4), .int .i64 ((nthC l k).f 5), .int .i64 ((nthC l k).f 6), .int .i64 ((nthC l k).f 7), .int .i64 ((nthC l k).f 8), .int .i64 ((nthC l k).f 9), .int .i64 ((nthC l k).f 10), .int .i64 ((nthC l k).f 11)] 37))
        have hs8 := hb.size
        have hb9 := hb.trans (hb8.mono hs8)
        have hx9 := hx.call hb8
        have hbl9 := hbl.below hb8
        have hn9 := hwr _ hb9
        clear hb8 hx hbl hwr hb
        go_wp2_with fail
        refine hn9.mono ?_
        rintro e w4 ⟨rfl, k4⟩
        have hs4 := k4.size
        rw [show (wo.alloc (.cells #[.string (bs (nthC l k).name), .int .i64 (nthC l k).chart, .int .i64 ((nthC l k).f 0), .int .i64 ((nthC l k).f 1), .int .i64 ((nthC l k).f 2), .int .i64 ((nthC l k).f 3), .int .i64 ((nthC l k).f 4), .int .i64 ((nthC l k).f 5), .int .i64 ((nthC l k).f 6), .int .i64 ((nthC l k).f 7), .int .i64 ((nthC l k).f 8), .int .i64 ((nthC l k).f 9), .int .i64 ((nthC l k).f 10), .int .i64 ((nthC l k).f 11)] 37)).heap.size = wo.heap.size + 1 by simp] at hs4
        have hx4 := hx9.call k4
        have hbl4 := hbl9.below k4
        have hb4 := hb9.trans (k4.mono (by simp; omega))
        have hwt := bld_text bb bb (printR (l.take k)) tx w4 hbl4 (by omega) (by omega)
        clear hn9 k4 hx9 hbl9 hb9 x0 x1 x2 x3 x4 x5 x6 x7 x8 x9 x10 x11 x12 x13
        go_wp2_with fail
        refine hwt.mono ?_
        rintro e w5 ⟨rfl, hbl5, k5⟩
        have hs5 := k5.size
        have hx5 := hx4.of (k5.block _ (by omega))
        have hb5 := hb4.trans (k5.mono (by omega))
        have HR := Lib.hid (show WRel l n w (.slice (some ⟨b, o, none⟩) n cap) bb (.int .i64 ((k + 1 : Nat) : Int)) w5 from ⟨k + 1, hl, rfl, by rw [HS.out]; exact hbl5, hb5, hx5, by omega⟩)
        clear hwt hbl4 hbl5 k5 hx4 hb4 hx5 hb5
        go_wp2
        go_roundw
        case rel => exact HR.out
        case measure => simp [intOf]; omega
      · have hiE : k = n := by omega
        subst hiE
        have e1 : printR (l.take k) = PR := by rw [← HN.out, HEND.out, HPR.out]
        rw [e1] at hbl
        have hst := bld_string bb bb PR wr hbl hbs
        have hsw := hb.size
        clear e1 hbl hx
        go_wp2_with fail
        refine hst.mono ?_
        rintro e w5 ⟨rfl, k5⟩
        have hb5 := hb.trans (k5.mono (by omega))
        go_wp2
        (try simp only [Exit.inBlock, Exit.then])
        go_ret2
        exact ⟨rfl, hb5⟩
end Go.Proofs.YtdimgomigidbkaaGreatDoor
/- What the rows of stage 8 list of the library's variables gives what the walks ask; the claim's card. -/
namespace Go.Proofs.YtdimgomigidbkaaGreatDoor
open Go.ChangeShapes Go.WideShapes Go.ChangeAt Go.RowKit Go.Joins

theorem gErr : (Tryz.prog).globalNamed "strconv.ErrRange" = some 3 := by kernel_rfl
theorem gErrType : ((Tryz.prog).globals[3]?).map (·.type) = some 45 := by kernel_rfl
theorem gTab : (Tryz.prog).globalNamed "internal/strconv.uint64pow10" = some 1 := by kernel_rfl
theorem gTabType : ((Tryz.prog).globals[1]?).map (·.type) = some 182 := by kernel_rfl
theorem gEt : (Tryz.prog).globalNamed "errors.errorType" = some 0 := by kernel_rfl
theorem rowErr : ∀ u, (Tryz.prog).typeName? 3 u = some "*errors.errorString" → u = 195 := fun u hu =>
  typeName_ptr_named (nm := "errors.errorString") (by kernel_rfl) (by kernel_rfl) (by decide) u hu
theorem cellsErr : (Tryz.prog).cellsOf 197 = 1 := by kernel_rfl
theorem cellsStr : (Tryz.prog).cellsOf 9 = 1 := by kernel_rfl
theorem cellsU64 : (Tryz.prog).cellsOf 168 = 1 := by kernel_rfl
theorem cellsTab : (Tryz.prog).cellsOf 182 = 20 := by kernel_rfl
theorem rtName : ((Tryz.prog).cutTypes.find? (·.1 == "internal/reflectlite.rtype")).map (·.2) = some 125 := by kernel_rfl
theorem oneRow : ((List.range 227).filter fun t => (Tryz.prog).rowNamed t [101, 114, 114, 111, 114]) = [45] := by kernel_rfl
def laid8 : List (String × DataW Unit) := Rows.recipeParsesRow.laid
theorem handle_of {W : World} (h : handlesMet Tryz.prog (laid8.filter fun x => x.2.handleName?.isSome) W) : W.cell? ⟨0, 0, none⟩ = some (.iface 125 (.agg #[.pointer (some ⟨6, 45, none⟩)])) := by
  have h' : handlesMet Tryz.prog [("errors.errorType", Rows.laid_errors_errorType)] W := h
  obtain ⟨name, u, ty, e1, e2, e3, e4, e5⟩ := h' _ (List.mem_singleton.2 rfl)
  have en : name = [101, 114, 114, 111, 114] := (Option.some.inj e1).symm
  subst en
  obtain rfl := Option.some.inj (rtName.symm.trans e2)
  have hm : ty ∈ (List.range 227).filter fun t => (Tryz.prog).rowNamed t [101, 114, 114, 111, 114] := List.mem_filter.2 ⟨List.mem_range.2 (by rw [← as_types]; exact e3), e4⟩
  rw [oneRow] at hm
  obtain rfl := List.mem_singleton.1 hm
  have hh : typeHandle Tryz.prog 45 = .pointer (some ⟨6, 45, none⟩) := by kernel_rfl
  rw [hh] at e5
  simpa using World.var?_cell gEt e5 0
theorem env8_of {W : World} (h : laidMetH Tryz.prog laid8 W) : EnvR W := by
  obtain ⟨h0, h2⟩ := laidMetH_iff.1 h
  have h1 : laidMet Tryz.prog [("math/bits.deBruijn32tab", Rows.laid_math_bits_deBruijn32tab), ("math/bits.deBruijn64tab", Rows.laid_math_bits_deBruijn64tab), ("internal/strconv.uint64pow10", Rows.laid_internal_strconv_uint64pow10), ("strconv.ErrRange", Rows.laid_strconv_ErrRange), ("strconv.ErrSyntax", Rows.laid_strconv_ErrSyntax)] W := h0
  have h3 := h1.tail.tail
  have h4 := h3.tail
  obtain ⟨a, s, hv, -, -, -⟩ := laid_sentinel h4 gErr gErrType Tryz.underlying45 rowErr Tryz.underlying195 Tryz.underlying197 rfl rfl Tryz.underlying9 cellsErr cellsStr
  exact ⟨⟨⟨_, _, hv⟩, Lib.tabIs_of_head gTab gTabType Tryz.underlying182 Tryz.underlying168 cellsU64 cellsTab h3⟩, handle_of h2⟩
/-- The door's own heap meets the condition. -/
theorem door8_met (os : Os) (args : Array Value) : laidMetH Tryz.prog laid8 ((World.doorLaid Tryz.prog 400 os).forCall (fun _ _ => 0) ⟨#[], args, []⟩).memory :=
  laidMetH_of_parts3 (fuel := 8) (laidMet_of_run' 8 (by kernel_rfl) (by kernel_rfl)) (by kernel_rfl) (by kernel_rfl)
end Go.Proofs.YtdimgomigidbkaaGreatDoor
/- A slice of tokens, and a token, among a law's arguments: opened; and any argument read again. -/
namespace Go.Proofs.YtdimgomigidbkaaGreatDoor
open Go.RowKit Go.ChangeShapes Go.WideShapes Go.Deep Go.Joins
open Go.ChangeMaps (open_string)

set_option maxRecDepth 100000
theorem cellsTok : (Tryz.prog).cellsOf 55 = 4 := by kernel_rfl
theorem laidOut : laidOutB Tryz.prog = true := by kernel_rfl
/-- Any argument reads behind the call as it read before. -/
theorem again {H : Type} {enc : TypeId × Value → H} {t : TypeId} (hr : (Tryz.prog).readableRec t = true) (hrow : t < (Tryz.prog).types.size) {W W' : World} {v : Value} {d : DataW H} {ps : List MemPlace}
    (h : DataW.Trod enc Tryz.prog W 0 (fun _ => true) true t v d ps) (hb : Below W.heap.size W W') (hlt : ∀ x ∈ ps, x.block < W.heap.size) :
    DataW.Trod enc Tryz.prog W' 0 (fun b => decide (b < W.heap.size)) true t v d ps := Below.trod laidOut hr hrow h hb hlt
section
variable {H : Type} {enc : TypeId × Value → H} {W : World} {base : Nat}
/-- One element of the slice. -/
theorem tokElem {n : Nat} {a : Addr} {cs : List Value} {x : DataW H × List MemPlace} (hc : W.cells? 0 a 4 = some cs) (h : DataW.trod enc Tryz.prog W 0 (fun _ => true) true n 55 cs = some x) :
    ∃ t : Tok, t.text.length ≤ 9223372036854775807 ∧ a.spot = none ∧ a.block < W.heap.size ∧ TokAt W a.block a.off t := by
  obtain ⟨_, hcl, hat⟩ := World.cells?_some hc
  obtain ⟨ys, n', _, _, hlen, hyl, hf⟩ := DataW.trod_struct Tryz.underlying55 h
  have hcell : ∀ j, (hj : j < 4) → W.cell? (a.add j) = some (cs[j]'(by omega)) := fun j hj => by rw [hat j hj, List.getElem?_eq_getElem (by omega)]
  have hy4 : ys.length = 4 := hyl
  have c3 : (Tryz.prog).cellsOf 3 = 1 := by kernel_rfl
  have c9 : (Tryz.prog).cellsOf 9 = 1 := by kernel_rfl
  match cs, hcl, hf, hcell with
  | [v0, v1, v2, v3], _, hf, hcell =>
    have h0 : DataW.trod enc Tryz.prog W 0 (fun _ => true) true n' 3 (([v0, v1, v2, v3].drop 0).take ((Tryz.prog).cellsOf 3)) = ys[0]? := hf 0 _ rfl
    have h1 : DataW.trod enc Tryz.prog W 0 (fun _ => true) true n' 9 (([v0, v1, v2, v3].drop 1).take ((Tryz.prog).cellsOf 9)) = ys[1]? := hf 1 _ rfl
    have h2 : DataW.trod enc Tryz.prog W 0 (fun _ => true) true n' 3 (([v0, v1, v2, v3].drop 2).take ((Tryz.prog).cellsOf 3)) = ys[2]? := hf 2 _ rfl
    have h3 : DataW.trod enc Tryz.prog W 0 (fun _ => true) true n' 3 (([v0, v1, v2, v3].drop 3).take ((Tryz.prog).cellsOf 3)) = ys[3]? := hf 3 _ rfl
    rw [c3, List.getElem?_eq_getElem (by omega)] at h0 h2 h3
    rw [c9, List.getElem?_eq_getElem (by omega)] at h1
    obtain ⟨k, e0, -, -⟩ := DataW.trod_int Tryz.underlying3 h0
    obtain ⟨s, e1, -, hs⟩ := DataW.trod_string Tryz.underlying9 h1
    obtain ⟨v, e2, -, -⟩ := DataW.trod_int Tryz.underlying3 h2
    obtain ⟨p, e3, -, -⟩ := DataW.trod_int Tryz.underlying3 h3
    injection e0 with e0 _
    injection e1 with e1 _
    injection e2 with e2 _
    injection e3 with e3 _
    have k0 := hcell 0 (by omega)
    have k1 := hcell 1 (by omega)
    have k2 := hcell 2 (by omega)
    have k3 := hcell 3 (by omega)
    have hsp : a.spot = none := World.cell?_spot (by rw [show a.add 0 = a from rfl] at k0; exact k0)
    have hlt : a.block < W.heap.size := World.block_lt_of_cell? W a (by rw [show a.add 0 = a from rfl] at k0; exact k0)
    obtain ⟨b, off, sp⟩ := a
    obtain rfl : sp = none := hsp
    refine ⟨⟨k, s.data.toList, v, p⟩, ?_, rfl, hlt, ?_, ?_, ?_, ?_⟩
    · have : s.data.toList.length = s.size := Array.length_toList
      unfold maxLen at hs
      show s.data.toList.length ≤ _
      omega
    · exact k0.trans (congrArg some e0)
    · exact k1.trans (congrArg some e1)
    · exact k2.trans (congrArg some e2)
    · exact k3.trans (congrArg some e3)
/-- Elements by elements. -/
theorem toks_of {b off : Nat} (P : Tok → Prop) : ∀ n : Nat, (∀ i, i < n → ∃ t : Tok, P t ∧ TokAt W b (off + i * 4) t) → ∃ l : List Tok, l.length = n ∧ ∀ i, i < n → P (nth l i) ∧ TokAt W b (off + i * 4) (nth l i)
  | 0, _ => ⟨[], rfl, fun i hi => absurd hi (Nat.not_lt_zero _)⟩
  | n + 1, h => by
    obtain ⟨l, hl, hi⟩ := toks_of P n fun i hi => h i (by omega)
    obtain ⟨t, ht1, ht2⟩ := h n (by omega)
    refine ⟨l ++ [t], by rw [List.length_append, hl]; rfl, fun i hlt => ?_⟩
    rcases Nat.lt_or_ge i n with c | c
    · have e : nth (l ++ [t]) i = nth l i := by
        unfold nth
        rw [List.getD_eq_getElem?_getD, List.getD_eq_getElem?_getD, List.getElem?_append_left (by omega)]
      rw [e]
      exact hi i c
    · obtain rfl : i = n := by omega
      have e : nth (l ++ [t]) i = t := by
        unfold nth
        rw [List.getD_eq_getElem?_getD, List.getElem?_append_right (by omega), hl, Nat.sub_self]
        rfl
      rw [e]
      exact ⟨ht1, ht2⟩
theorem openToks {v : Value} {d : DataW H} {p : List MemPlace} (hv : Value.okWide Tryz.prog W .any base 39 v) (h : DataW.Trod enc Tryz.prog W 0 (fun _ => true) true 39 v d p) :
    ∃ l : List Tok, Reads W v l ∧ ∀ i, i < l.length → (nth l i).text.length ≤ 9223372036854775807 := by
  obtain ⟨a0, len, cap, rfl⟩ := okWide_slice Tryz.underlying39 hv
  obtain ⟨fuel, hf⟩ := h
  rcases open_slice Tryz.underlying39 hf with ⟨hcs, _⟩ | ⟨a, len', cap', m, n, D, Pl, hcs, _, hl, hm, hmm, _, hi⟩
  · simp [Value.cells] at hcs
    obtain ⟨rfl, rfl, rfl⟩ := hcs
    exact ⟨[], Reads.nil W, fun i hi => absurd hi (Nat.not_lt_zero _)⟩
  · simp [Value.cells] at hcs
    obtain ⟨rfl, rfl, rfl⟩ := hcs
    have hmc : m = cap := by simpa using hmm
    rw [cellsTok] at hi
    by_cases h0 : len = 0
    · subst h0
      exact ⟨[], ⟨some a, cap, rfl, Nat.zero_le _, hm, fun i hi => absurd hi (Nat.not_lt_zero _)⟩, fun i hi => absurd hi (Nat.not_lt_zero _)⟩
    · obtain ⟨cs0, hc0, hd0⟩ := hi 0 (by omega)
      obtain ⟨_, _, hsp, hlt, _⟩ := tokElem hc0 hd0
      rw [Nat.zero_mul] at hsp hlt
      obtain ⟨b, off, sp⟩ := a
      obtain rfl : sp = none := hsp
      obtain ⟨l, hl1, hl2⟩ := toks_of (W := W) (b := b) (off := off) (fun t => t.text.length ≤ 9223372036854775807) len fun i hil => by
        obtain ⟨cs, hc, hd⟩ := hi i (by omega)
        obtain ⟨t, ht1, _, _, ht2⟩ := tokElem hc hd
        refine ⟨t, ht1, ?_⟩
        have e : (⟨b, off, none⟩ : Addr).add (i * 4) = ⟨b, off + i * 4, none⟩ := by unfold Addr.add; split <;> simp_all
        rw [e] at ht2
        exact ht2
      subst hl1
      exact ⟨l, ⟨_, cap, rfl, hl, hm, fun i hil => ⟨b, off, rfl, hlt, (hl2 i hil).2⟩⟩, fun i hil => (hl2 i hil).1⟩
theorem openTok {v : Value} {d : DataW H} {p : List MemPlace} (hv : Value.okWide Tryz.prog W .any base 55 v) (h : DataW.Trod enc Tryz.prog W 0 (fun _ => true) true 55 v d p) :
    ∃ (k n q : Int) (t : List UInt8), v = .agg #[.int .i64 k, .string (bs t), .int .i64 n, .int .i64 q] ∧ t.length ≤ 9223372036854775807 := by
  obtain ⟨c0, c1, c2, c3, y0, y1, y2, y3, m, rfl, -, -, h0, h1, h2, h3⟩ := open_agg4 Tryz.underlying55 (by kernel_rfl) cellsTok hv h
  obtain ⟨k, e0, -, -⟩ := DataW.trod_int Tryz.underlying3 h0
  obtain ⟨s, e1, -, hs⟩ := DataW.trod_string Tryz.underlying9 h1
  obtain ⟨n, e2, -, -⟩ := DataW.trod_int Tryz.underlying3 h2
  obtain ⟨q, e3, -, -⟩ := DataW.trod_int Tryz.underlying3 h3
  injection e0 with e0 _
  injection e1 with e1 _
  injection e2 with e2 _
  injection e3 with e3 _
  subst e0 e1 e2 e3
  refine ⟨k, n, q, s.data.toList, rfl, ?_⟩
  have : s.data.toList.length = s.size := Array.length_toList
  unfold maxLen at hs
  omega
end
end Go.Proofs.YtdimgomigidbkaaGreatDoor
/- A recipe, and a channel, among a law's arguments: opened. -/
namespace Go.Proofs.YtdimgomigidbkaaGreatDoor
open Go.RowKit Go.ChangeShapes Go.WideShapes Go.Deep Go.Joins

set_option maxRecDepth 100000
theorem cellsChan : (Tryz.prog).cellsOf 37 = 14 := by kernel_rfl
theorem cellsRec : (Tryz.prog).cellsOf 24 = 1 := by kernel_rfl
section
variable {H : Type} {enc : TypeId × Value → H} {W : World} {base : Nat}
theorem chan_cells {n : Nat} {cs : List Value} {x : DataW H × List MemPlace} (h : DataW.trod enc Tryz.prog W 0 (fun _ => true) true n 37 cs = some x) :
    ∃ c : Ch, cs = chL c ∧ c.fin ∧ c.name.length ≤ 9223372036854775807 := by
  obtain ⟨ys, n', _, _, hlen, hyl, hf⟩ := DataW.trod_struct Tryz.underlying37 h
  rw [cellsChan] at hlen
  have hy : ys.length = 14 := hyl
  have c3 : (Tryz.prog).cellsOf 3 = 1 := by kernel_rfl
  have c9 : (Tryz.prog).cellsOf 9 = 1 := by kernel_rfl
  match cs, hlen, hf with
  | [v0, v1, v2, v3, v4, v5, v6, v7, v8, v9, v10, v11, v12, v13], _, hf =>
    have h0 : DataW.trod enc Tryz.prog W 0 (fun _ => true) true n' 9 (([v0, v1, v2, v3, v4, v5, v6, v7, v8, v9, v10, v11, v12, v13].drop 0).take ((Tryz.prog).cellsOf 9)) = ys[0]? := hf 0 _ rfl
    rw [c9, List.getElem?_eq_getElem (by omega)] at h0
    obtain ⟨s, e0, -, hs⟩ := DataW.trod_string Tryz.underlying9 h0
    injection e0 with e0 _
    have h1 : DataW.trod enc Tryz.prog W 0 (fun _ => true) true n' 3 (([v0, v1, v2, v3, v4, v5, v6, v7, v8, v9, v10, v11, v12, v13].drop 1).take ((Tryz.prog).cellsOf 3)) = ys[1]? := hf 1 _ rfl
    rw [c3, List.getElem?_eq_getElem (by omega)] at h1
    obtain ⟨x1, e1, -, -⟩ := DataW.trod_int Tryz.underlying3 h1
    injection e1 with e1 _
    have h2 : DataW.trod enc Tryz.prog W 0 (fun _ => true) true n' 3 (([v0, v1, v2, v3, v4, v5, v6, v7, v8, v9, v10, v11, v12, v13].drop 2).take ((Tryz.prog).cellsOf 3)) = ys[2]? := hf 2 _ rfl
    rw [c3, List.getElem?_eq_getElem (by omega)] at h2
    obtain ⟨x2, e2, -, -⟩ := DataW.trod_int Tryz.underlying3 h2
    injection e2 with e2 _
    have h3 : DataW.trod enc Tryz.prog W 0 (fun _ => true) true n' 3 (([v0, v1, v2, v3, v4, v5, v6, v7, v8, v9, v10, v11, v12, v13].drop 3).take ((Tryz.prog).cellsOf 3)) = ys[3]? := hf 3 _ rfl
    rw [c3, List.getElem?_eq_getElem (by omega)] at h3
    obtain ⟨x3, e3, -, -⟩ := DataW.trod_int Tryz.underlying3 h3
    injection e3 with e3 _
    have h4 : DataW.trod enc Tryz.prog W 0 (fun _ => true) true n' 3 (([v0, v1, v2, v3, v4, v5, v6, v7, v8, v9, v10, v11, v12, v13].drop 4).take ((Tryz.prog).cellsOf 3)) = ys[4]? := hf 4 _ rfl
    rw [c3, List.getElem?_eq_getElem (by omega)] at h4
    obtain ⟨x4, e4, -, -⟩ := DataW.trod_int Tryz.underlying3 h4
    injection e4 with e4 _
    have h5 : DataW.trod enc Tryz.prog W 0 (fun _ => true) true n' 3 (([v0, v1, v2, v3, v4, v5, v6, v7, v8, v9, v10, v11, v12, v13].drop 5).take ((Tryz.prog).cellsOf 3)) = ys[5]? := hf 5 _ rfl
    rw [c3, List.getElem?_eq_getElem (by omega)] at h5
    obtain ⟨x5, e5, -, -⟩ := DataW.trod_int Tryz.underlying3 h5
    injection e5 with e5 _
    have h6 : DataW.trod enc Tryz.prog W 0 (fun _ => true) true n' 3 (([v0, v1, v2, v3, v4, v5, v6, v7, v8, v9, v10, v11, v12, v13].drop 6).take ((Tryz.prog).cellsOf 3)) = ys[6]? := hf 6 _ rfl
    rw [c3, List.getElem?_eq_getElem (by omega)] at h6
    obtain ⟨x6, e6, -, -⟩ := DataW.trod_int Tryz.underlying3 h6
    injection e6 with e6 _
    have h7 : DataW.trod enc Tryz.prog W 0 (fun _ => true) true n' 3 (([v0, v1, v2, v3, v4, v5, v6, v7, v8, v9, v10, v11, v12, v13].drop 7).take ((Tryz.prog).cellsOf 3)) = ys[7]? := hf 7 _ rfl
    rw [c3, List.getElem?_eq_getElem (by omega)] at h7
    obtain ⟨x7, e7, -, -⟩ := DataW.trod_int Tryz.underlying3 h7
    injection e7 with e7 _
    have h8 : DataW.trod enc Tryz.prog W 0 (fun _ => true) true n' 3 (([v0, v1, v2, v3, v4, v5, v6, v7, v8, v9, v10, v11, v12, v13].drop 8).take ((Tryz.prog).cellsOf 3)) = ys[8]? := hf 8 _ rfl
    rw [c3, List.getElem?_eq_getElem (by omega)] at h8
    obtain ⟨x8, e8, -, -⟩ := DataW.trod_int Tryz.underlying3 h8
    injection e8 with e8 _
    have h9 : DataW.trod enc Tryz.prog W 0 (fun _ => true) true n' 3 (([v0, v1, v2, v3, v4, v5, v6, v7, v8, v9, v10, v11, v12, v13].drop 9).take ((Tryz.prog).cellsOf 3)) = ys[9]? := hf 9 _ rfl
    rw [c3, List.getElem?_eq_getElem (by omega)] at h9
    obtain ⟨x9, e9, -, -⟩ := DataW.trod_int Tryz.underlying3 h9
    injection e9 with e9 _
    have h10 : DataW.trod enc Tryz.prog W 0 (fun _ => true) true n' 3 (([v0, v1, v2, v3, v4, v5, v6, v7, v8, v9, v10, v11, v12, v13].drop 10).take ((Tryz.prog).cellsOf 3)) = ys[10]? := hf 10 _ rfl
    rw [c3, List.getElem?_eq_getElem (by omega)] at h10
    obtain ⟨x10, e10, -, -⟩ := DataW.trod_int Tryz.underlying3 h10
    injection e10 with e10 _
    have h11 : DataW.trod enc Tryz.prog W 0 (fun _ => true) true n' 3 (([v0, v1, v2, v3, v4, v5, v6, v7, v8, v9, v10, v11, v12, v13].drop 11).take ((Tryz.prog).cellsOf 3)) = ys[11]? := hf 11 _ rfl
    rw [c3, List.getElem?_eq_getElem (by omega)] at h11
    obtain ⟨x11, e11, -, -⟩ := DataW.trod_int Tryz.underlying3 h11
    injection e11 with e11 _
    have h12 : DataW.trod enc Tryz.prog W 0 (fun _ => true) true n' 3 (([v0, v1, v2, v3, v4, v5, v6, v7, v8, v9, v10, v11, v12, v13].drop 12).take ((Tryz.prog).cellsOf 3)) = ys[12]? := hf 12 _ rfl
    rw [c3, List.getElem?_eq_getElem (by omega)] at h12
    obtain ⟨x12, e12, -, -⟩ := DataW.trod_int Tryz.underlying3 h12
    injection e12 with e12 _
    have h13 : DataW.trod enc Tryz.prog W 0 (fun _ => true) true n' 3 (([v0, v1, v2, v3, v4, v5, v6, v7, v8, v9, v10, v11, v12, v13].drop 13).take ((Tryz.prog).cellsOf 3)) = ys[13]? := hf 13 _ rfl
    rw [c3, List.getElem?_eq_getElem (by omega)] at h13
    obtain ⟨x13, e13, -, -⟩ := DataW.trod_int Tryz.underlying3 h13
    injection e13 with e13 _
    subst e0 e1 e2 e3 e4 e5 e6 e7 e8 e9 e10 e11 e12 e13
    refine ⟨⟨s.data.toList, x1, fun k => [x2, x3, x4, x5, x6, x7, x8, x9, x10, x11, x12, x13].getD k 0⟩, rfl, fun k hk => ?_, ?_⟩
    · show List.getD _ k 0 = 0
      rw [List.getD_eq_getElem?_getD, List.getElem?_eq_none (by simpa using hk)]
      rfl
    · have : s.data.toList.length = s.size := Array.length_toList
      unfold maxLen at hs
      show s.data.toList.length ≤ _
      omega
theorem chanElem {n : Nat} {a : Addr} {cs : List Value} {x : DataW H × List MemPlace} (hc : W.cells? 0 a 14 = some cs) (h : DataW.trod enc Tryz.prog W 0 (fun _ => true) true n 37 cs = some x) :
    ∃ c : Ch, (c.name.length ≤ 9223372036854775807 ∧ c.fin) ∧ a.spot = none ∧ a.block < W.heap.size ∧ ChAt W a.block a.off c := by
  obtain ⟨c, rfl, hfin, hnl⟩ := chan_cells h
  obtain ⟨_, hcl, hat⟩ := World.cells?_some hc
  have hcell : ∀ j, (hj : j < 14) → W.cell? (a.add j) = some ((chL c)[j]'(by rw [chL_len]; exact hj)) := fun j hj => by rw [hat j hj, List.getElem?_eq_getElem (by rw [chL_len]; exact hj)]
  have k0 := hcell 0 (by omega)
  have hsp : a.spot = none := World.cell?_spot (by rw [show a.add 0 = a from rfl] at k0; exact k0)
  have hlt : a.block < W.heap.size := World.block_lt_of_cell? W a (by rw [show a.add 0 = a from rfl] at k0; exact k0)
  obtain ⟨b, off, sp⟩ := a
  obtain rfl : sp = none := hsp
  exact ⟨c, ⟨hnl, hfin⟩, rfl, hlt, hcell 0 (by omega), hcell 1 (by omega), hcell 2 (by omega), hcell 3 (by omega), hcell 4 (by omega), hcell 5 (by omega), hcell 6 (by omega), hcell 7 (by omega), hcell 8 (by omega), hcell 9 (by omega), hcell 10 (by omega), hcell 11 (by omega), hcell 12 (by omega), hcell 13 (by omega)⟩
theorem chans_of {b off : Nat} (P : Ch → Prop) : ∀ n : Nat, (∀ i, i < n → ∃ t : Ch, P t ∧ ChAt W b (off + i * 14) t) → ∃ l : List Ch, l.length = n ∧ ∀ i, i < n → P (nthC l i) ∧ ChAt W b (off + i * 14) (nthC l i)
  | 0, _ => ⟨[], rfl, fun i hi => absurd hi (Nat.not_lt_zero _)⟩
  | n + 1, h => by
    obtain ⟨l, hl, hi⟩ := chans_of P n fun i hi => h i (by omega)
    obtain ⟨t, ht1, ht2⟩ := h n (by omega)
    refine ⟨l ++ [t], by rw [List.length_append, hl]; rfl, fun i hlt => ?_⟩
    rcases Nat.lt_or_ge i n with c | c
    · have e : nthC (l ++ [t]) i = nthC l i := by
        unfold nthC
        rw [List.getD_eq_getElem?_getD, List.getD_eq_getElem?_getD, List.getElem?_append_left (by omega)]
      rw [e]
      exact hi i c
    · obtain rfl : i = n := by omega
      have e : nthC (l ++ [t]) i = t := by
        unfold nthC
        rw [List.getD_eq_getElem?_getD, List.getElem?_append_right (by omega), hl, Nat.sub_self]
        rfl
      rw [e]
      exact ⟨ht1, ht2⟩
theorem openRec {v : Value} {d : DataW H} {p : List MemPlace} (hv : Value.okWide Tryz.prog W .any base 24 v) (h : DataW.Trod enc Tryz.prog W 0 (fun _ => true) true 24 v d p) :
    ∃ (va : Value) (l : List Ch), v = .agg #[va] ∧ ReadsC W va l ∧ (∀ i, i < l.length → (nthC l i).name.length ≤ 9223372036854775807) ∧ ∀ c ∈ l, c.fin := by
  obtain ⟨cs, rfl, hsz⟩ := okWide_struct Tryz.underlying24 hv
  rw [cellsRec] at hsz
  obtain ⟨cs⟩ := cs
  have hcl : cs.length = 1 := hsz
  match cs, hcl with
  | [c0], _ =>
    obtain ⟨fuel, hf0⟩ := h
    obtain ⟨ys, n', _, _, _, hyl, hf⟩ := DataW.trod_struct Tryz.underlying24 hf0
    have hy : ys.length = 1 := hyl
    have cS : (Tryz.prog).cellsOf 22 = 1 := by kernel_rfl
    have h0 : DataW.trod enc Tryz.prog W 0 (fun _ => true) true n' 22 (([c0].drop 0).take ((Tryz.prog).cellsOf 22)) = ys[0]? := by simpa [Value.cells] using hf 0 _ rfl
    rw [cS, List.getElem?_eq_getElem (by omega)] at h0
    refine ⟨c0, ?_⟩
    rcases open_slice Tryz.underlying22 h0 with ⟨hcs, _⟩ | ⟨a, len, cap, m, n, D, Pl, hcs, _, hl, hm, hmm, _, hi⟩
    · injection hcs with hcs _
      subst hcs
      exact ⟨[], rfl, ReadsC.nil W, fun i hi => absurd hi (Nat.not_lt_zero _), fun c hc => by cases hc⟩
    · injection hcs with hcs _
      subst hcs
      have hmc : m = cap := by simpa using hmm
      rw [cellsChan] at hi
      by_cases hl0 : len = 0
      · subst hl0
        exact ⟨[], rfl, ⟨some a, cap, rfl, Nat.zero_le _, hm, fun i hi => absurd hi (Nat.not_lt_zero _)⟩, fun i hi => absurd hi (Nat.not_lt_zero _), fun c hc => by cases hc⟩
      · obtain ⟨cs0, hc0, hd0⟩ := hi 0 (by omega)
        obtain ⟨_, _, hsp, hlt, _⟩ := chanElem hc0 hd0
        rw [Nat.zero_mul] at hsp hlt
        obtain ⟨b, off, sp⟩ := a
        obtain rfl : sp = none := hsp
        obtain ⟨l, hl1, hl2⟩ := chans_of (W := W) (b := b) (off := off) (fun c => c.name.length ≤ 9223372036854775807 ∧ c.fin) len fun i hil => by
          obtain ⟨cs, hc, hd⟩ := hi i (by omega)
          obtain ⟨t, ht1, _, _, ht2⟩ := chanElem hc hd
          refine ⟨t, ht1, ?_⟩
          have e : (⟨b, off, none⟩ : Addr).add (i * 14) = ⟨b, off + i * 14, none⟩ := by unfold Addr.add; split <;> simp_all
          rw [e] at ht2
          exact ht2
        subst hl1
        refine ⟨l, rfl, ⟨_, cap, rfl, hl, hm, fun i hil => ⟨b, off, rfl, hlt, (hl2 i hil).2⟩⟩, fun i hil => (hl2 i hil).1.1, fun c hc => ?_⟩
        obtain ⟨i, hil, rfl⟩ := List.getElem_of_mem hc
        rw [← nthC_get l i hil]
        exact (hl2 i hil).1.2
theorem openChan {v : Value} {d : DataW H} {p : List MemPlace} (hv : Value.okWide Tryz.prog W .any base 37 v) (h : DataW.Trod enc Tryz.prog W 0 (fun _ => true) true 37 v d p) :
    ∃ c : Ch, v = chV c ∧ c.name.length ≤ 9223372036854775807 ∧ c.fin := by
  obtain ⟨cs, rfl, hsz⟩ := okWide_struct Tryz.underlying37 hv
  obtain ⟨cs⟩ := cs
  obtain ⟨fuel, hf⟩ := h
  have hf2 : DataW.trod enc Tryz.prog W 0 (fun _ => true) true fuel 37 cs = some (d, p) := by simpa [Value.cells] using hf
  obtain ⟨c, rfl, hfin, hnl⟩ := chan_cells hf2
  exact ⟨c, rfl, hnl, hfin⟩
end
end Go.Proofs.YtdimgomigidbkaaGreatDoor
