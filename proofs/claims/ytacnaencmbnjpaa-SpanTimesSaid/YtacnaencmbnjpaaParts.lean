/- divide.parts hands out b times each power of two, and that power, from the one that is as long as a down to b itself. -/
import Derived.Test.YtacnaencmbnjpaaLen
import Derived.Test.YtacnaencmbnjpaaBoxes
import Derived.Shelf.Abstract
import Derived.Shelf.RegionOpen
import Derived.OwnWalkIn
import Derived.TacticsInMore
import Derived.LoopNIn
import Derived.LoopIn
import Derived.StillTailTactics
namespace Go.Proofs.Ytacnaencmbnjpaa
open Go.RowKit Go.Shelf

theorem parts_any (ah al bh bl : Nat) (w : World) :
    Calls Try.prog 88 #[.agg #[.int .u64 ah, .int .u64 al], .agg #[.int .u64 bh, .int .u64 bl]] w fun e w' =>
      e = .returned (.func (.func 92) #[] #[.pointer (some ⟨w.heap.size, 0, none⟩), .pointer (some ⟨w.heap.size + 1, 0, none⟩)]) ∧
      (w.alloc (.cells #[.int .u64 ah, .int .u64 al] 55)).alloc (.cells #[.int .u64 bh, .int .u64 bl] 55) = w' := by
  go_enter Try.func88, Try.ntmps88
  go_wp2
  go_ret
  exact ⟨rfl, rfl⟩

/-- A row that the iterator hands out. -/
def partRow (a b i : Nat) : Array Value :=
  #[.agg #[.int .u64 (hi (b * 2 ^ (parts a b - 1 - i)) : Nat), .int .u64 (lo (b * 2 ^ (parts a b - 1 - i)) : Nat)], .agg #[.int .u64 (hi (2 ^ (parts a b - 1 - i)) : Nat), .int .u64 (lo (2 ^ (parts a b - 1 - i)) : Nat)]]

theorem roundIn_any {m m' : Nat} {P : Program} {l : Nat} {f : FuncId} {tmps : Array Value} {assign body : Code} {w : World} {R : Ending → World → Prop} (h : RoundIn Fence.wide m P l f tmps assign body w R) : RoundIn Fence.wide m' P l f tmps assign body w R :=
  ⟨h.1, fun c cs _ => h.2 c cs (room_wide _)⟩
theorem below_at {n : Nat} {x y z : World} (h : Below n x y) (hn : n ≤ y.heap.size) (k : Below y.heap.size y z) : Below n x z := h.trans (k.mono hn)

attribute [local go_sem] Oper.semAt_some
set_option maxRecDepth 100000 in
set_option maxHeartbeats 2000000 in
theorem parts_seq (a b ba bb : Nat) (ha : a < M128) (hb : b < M128) (h0 : b ≠ 0) :
    Seq Try.prog 92 #[.pointer (some ⟨ba, 0, none⟩), .pointer (some ⟨bb, 0, none⟩)] (partRow a b) (parts a b) (fun W => Holds W ba a ∧ Holds W bb b) := by
  intro l J Jx W hJ hJx hcap hY hJ0
  obtain ⟨⟨ca0, ca1⟩, cb0, cb1⟩ := hcap 0 W hJ0
  have za := lt_of_cell ca0
  have zb := lt_of_cell cb0
  have HJ := Lib.hid hJ; have HJx := Lib.hid hJx; have HC := Lib.hid hcap; have HY := Lib.hid hY; have HJ0 := Lib.hid hJ0
  clear hJ hJx hcap hY hJ0
  have la := blen_le a ha
  have lb := blen_le b hb
  obtain ⟨N, hN⟩ : ∃ N, parts a b = N := ⟨_, rfl⟩
  have HN := Lib.hid hN
  have hw : IntKind.i64.wrap ((blen a : Int) - (blen b : Int)) = (blen a : Int) - (blen b : Int) := by rw [IntKind.wrap_i64]; omega
  have HW := Lib.hid hw; clear hw
  go_enter Try.func92, Try.ntmps92
  clear hN
  go_upto_region 0 with fail
  go_cut [4] (fun s wx => s = .int .i64 ((blen a : Int) - (blen b : Int)) ∧ Below W.heap.size W wx)
  case first =>
    go_region_held3 (fun w' => w'.cell? ⟨ba, 0, none⟩ = some (.int .u64 (hi a : Nat)) ∧ w'.cell? ⟨ba, 1, none⟩ = some (.int .u64 (lo a : Nat)) ∧ w'.cell? ⟨bb, 0, none⟩ = some (.int .u64 (hi b : Nat)) ∧ w'.cell? ⟨bb, 1, none⟩ = some (.int .u64 (lo b : Nat))) (simp [go_sem, *])
      (first | (go_at_call 93; ((with_reducible refine (length_num a ha _).mono ?_); rintro e w' ⟨rfl, rfl⟩)) | (go_at_call 93; ((with_reducible refine (length_num b hb _).mono ?_); rintro e w' ⟨rfl, rfl⟩)))
    all_goals (go_wp2_with fail; go_meet)
    all_goals (refine ⟨congrArg _ HW.out, ?_⟩)
    all_goals (repeat first | exact Below.refl _ _ | refine Below.drew ?_ | refine Below.alloc ?_ (by simp) _)
  case rest =>
    obtain ⟨rfl, hbw⟩ := hcut
    have HB := Lib.hid hbw; clear hbw ca0 ca1 cb0 cb1
    go_wp2_with fail
    refine (wpIn_wide (n := 0)).1 ?_
    gi_loopw [4] (fun s wr => ∃ (i : Nat) (v : Int), i ≤ N ∧ v = (blen a : Int) - (blen b : Int) - i ∧ s = .int .i64 v ∧ J i wr ∧ W.heap.size ≤ wr.heap.size) (fun s _ => (intOf s + 1).toNat)
    case atStart => exact ⟨0, _, by omega, by omega, rfl, HJ.out 0 _ _ HJ0.out HB.out, HB.out.size⟩
    case round =>
      obtain ⟨i, v, hiN, hv, rfl, hJi, hsz⟩ := hrel
      by_cases hlt : i < N
      · obtain ⟨⟨ca0, ca1⟩, cb0, cb1⟩ := HC.out i wr hJi
        obtain ⟨k, hk⟩ : ∃ k, parts a b - 1 - i = k := ⟨_, rfl⟩
        have hN := HN.out
        obtain rfl : v = (k : Int) := by have hN' := hN; unfold parts at hN' hk; omega
        have hk1 : k < 128 := by have := parts_le a b ha hb h0; omega
        have hP := power_num k hk1
        have hT := times_fit b (2 ^ k) hb (pow_fit k hk1) (by have := parts_fit a b i ha hb h0; rwa [hk] at this)
        have hrow : partRow a b i = #[.agg #[.int .u64 (hi (b * 2 ^ k) : Nat), .int .u64 (lo (b * 2 ^ k) : Nat)], .agg #[.int .u64 (hi (2 ^ k) : Nat), .int .u64 (lo (2 ^ k) : Nat)]] := by unfold partRow; rw [hk]
        have hYi := fun W1 hJ' => HY.out i W1 (by omega) hJ' 0
        rw [hrow] at hYi
        obtain ⟨th, hth⟩ : ∃ x, hi (2 ^ k) = x := ⟨_, rfl⟩
        obtain ⟨tl, htl⟩ : ∃ x, lo (2 ^ k) = x := ⟨_, rfl⟩
        obtain ⟨xh, hxh⟩ : ∃ x, hi (b * 2 ^ k) = x := ⟨_, rfl⟩
        obtain ⟨xl, hxl⟩ : ∃ x, lo (b * 2 ^ k) = x := ⟨_, rfl⟩
        rw [hth, htl] at hP hT hYi
        rw [hxh, hxl] at hT hYi
        have HP := Lib.hid hP; have HT := Lib.hid hT; have HYi := Lib.hid hYi
        have HK : Hid ((k : Int) = (blen a : Int) - (blen b : Int) - i) := hv
        have zr := lt_of_cell cb0
        clear hP hT hYi hrow hth htl hxh hxl hN hk hv ca0 ca1
        gi_wp2_with (fail)
        refine ⟨trivial, rfl, (callsIn_wide.2 (HP.out _)).mono ?_⟩
        rintro e w1 ⟨rfl, hb1⟩
        obtain ⟨z1, c10, c11⟩ := keep2 hb1 zr ⟨cb0, cb1⟩
        have s1 := hb1.size
        have HB1 := Lib.hid hb1
        clear hb1 cb0 cb1
        gi_wp2_with (fail)
        refine ⟨trivial, rfl, (callsIn_wide.2 (HT.out _)).mono ?_⟩
        rintro e w2 ⟨rfl, hb2⟩
        obtain ⟨z2, c20, c21⟩ := keep2 hb2 (b := w1.heap.size) (x := .int .u64 th) (y := .int .u64 tl) (by simp) (by simp [go_sem])
        have s2 := hb2.size
        have HB2 := Lib.hid hb2
        have hb3 : Below wr.heap.size wr (w2.alloc (.cells #[.int .u64 xh, .int .u64 xl] 55)) := (below_at (below_at (below_at (Below.refl _ _) (Nat.le_refl _) HB1.out) s1 ((Below.refl _ _).alloc (Nat.le_refl _) _)) (by simp; omega) hb2).alloc (by simp at s2; omega) _
        obtain ⟨fn, tmps, assign, body, hy, hR⟩ := HYi.out (w2.alloc (.cells #[.int .u64 xh, .int .u64 xl] 55)) (HJ.out i _ _ hJi (hb3.mono hsz))
        have HR := Lib.hid hR
        have s3 := hb3.size
        have HB3 := Lib.hid hb3
        clear hb2 hb3 hR c10 c11 z1
        gi_wp2_with (fail)
        refine ⟨rfl, (roundIn_any HR.out).mono ?_⟩
        clear hy HYi HT HP c20 c21
        rintro e w4 (⟨rfl, hJ4, ha4⟩ | ⟨rfl, hJ4⟩)
        · have s4 := ha4.size
          have HA := Lib.hid ha4
          clear ha4
          gi_wp2_with (fail)
          go_roundw
          case rel => exact ⟨i + 1, _, by omega, by have := HK.out; omega, rfl, hJ4, by simp at s4; omega⟩
          case measure => simp [intOf]
        · gi_wp2_with (fail)
          refine bodyPost_ret (results_none rfl _ _ _) rfl ?_
          exact ⟨⟨_, rfl⟩, .inr hJ4⟩
      · have hn : v < 0 := by have hN := HN.out; unfold parts at hN; omega
        have hn' : decide (0 ≤ v) = false := by simp; omega
        obtain rfl : i = N := by omega
        clear hlt hiN hv
        gi_wp2_with (fail)
        go_end0
        exact ⟨⟨_, rfl⟩, .inl (by rw [HN.out]; exact hJi)⟩
end Go.Proofs.Ytacnaencmbnjpaa
