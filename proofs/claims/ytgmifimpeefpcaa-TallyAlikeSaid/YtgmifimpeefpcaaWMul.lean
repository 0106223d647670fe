/- math-bits Mul64 and wide.Mul answer the product, and wide.Less whether one wide number is less; nothing that was in memory before is changed. -/
import Derived.Test.YtgmifimpeefpcaaSplit
import Derived.Test.YtgmifimpeefpcaaBSub
import Derived.Test.YtgmifimpeefpcaaBase
import Derived.Test.YtgmifimpeefpcaaMul64
/- wide.Sub answers what the two numbers are without one another, round at 2^128, and whether that went round; nothing that was in memory before is changed. -/
namespace Go.Proofs.Ytgmifimpeefpcaa
open Go.RowKit

set_option maxHeartbeats 2000000 in
theorem sub_core (ah al bh bl s0 c0 s1 c1 : Nat) (w : World)
    (e1 : ∀ w, (callFunc 41 #[.int .u64 al, .int .u64 bl, .int .u64 0]).run Try.prog w = .ok (.value (.tuple #[.int .u64 (s0 : Nat), .int .u64 (c0 : Nat)])) w)
    (e2 : ∀ w, (callFunc 41 #[.int .u64 ah, .int .u64 bh, .int .u64 (c0 : Nat)]).run Try.prog w = .ok (.value (.tuple #[.int .u64 (s1 : Nat), .int .u64 (c1 : Nat)])) w) :
    Calls Try.prog 39 #[.agg #[.int .u64 ah, .int .u64 al], .agg #[.int .u64 bh, .int .u64 bl]] w fun e w' => e = .returned (.tuple #[.agg #[.int .u64 (s1 : Nat), .int .u64 (s0 : Nat)], .bool ((c1 : Int) != 0)]) ∧ Below w.heap.size w w' := by
  go_enter Try.func39, Try.ntmps39
  go_upto_region 1 with fail
  go_cut [6, 7] (fun s6 s7 wx => ∃ g k : Nat, s6 = .pointer (some ⟨g, 0, none⟩) ∧ s7 = .pointer (some ⟨k, 0, none⟩) ∧ g < wx.heap.size ∧ k < wx.heap.size ∧ wx.cell? ⟨g, 0, none⟩ = some (.int .u64 al) ∧ wx.cell? ⟨g, 1, none⟩ = some (.int .u64 ah) ∧ wx.cell? ⟨k, 0, none⟩ = some (.int .u64 bl) ∧ wx.cell? ⟨k, 1, none⟩ = some (.int .u64 bh) ∧ Below (w.heap.size + 3) (((w.alloc (.cells #[.int .u64 ah, .int .u64 al] 36)).alloc (.cells #[.int .u64 bh, .int .u64 bl] 36)).alloc (.cells #[.int .u64 0, .int .u64 0] 36)) wx)
  case first =>
    go_region_held3 (fun w' => w'.cell? ⟨w.heap.size, 0, none⟩ = some (.int .u64 ah) ∧ w'.cell? ⟨w.heap.size, 1, none⟩ = some (.int .u64 al) ∧ w'.cell? ⟨w.heap.size + 1, 0, none⟩ = some (.int .u64 bh) ∧ w'.cell? ⟨w.heap.size + 1, 1, none⟩ = some (.int .u64 bl)) (simp [go_sem])
      (first | (go_at_call 36; refine (split_any _ _ _).mono ?_; rintro e w' ⟨rfl, rfl⟩))
    all_goals (go_wp2_with fail; go_meet)
    all_goals (refine ⟨_, _, rfl, rfl, by simp [go_sem], by simp [go_sem], by simp [go_sem], by simp [go_sem], by simp [go_sem], by simp [go_sem], ?_⟩)
    all_goals (repeat first | exact Below.refl _ _ | refine Below.drew ?_ | refine Below.alloc ?_ (by simp) _)
  case rest =>
    obtain ⟨g, k, rfl, rfl, hg, hk, h0, h1, h2, h3, hb⟩ := hcut
    have r0 := hb.cell (p := ⟨w.heap.size + 1 + 1, 0, none⟩) (by simp)
    have r1 := hb.cell (p := ⟨w.heap.size + 1 + 1, 1, none⟩) (by simp)
    have f0 := hb.frozen (p := ⟨w.heap.size + 1 + 1, 0, none⟩) (by simp)
    have f1 := hb.frozen (p := ⟨w.heap.size + 1 + 1, 1, none⟩) (by simp)
    have hz := hb.size
    simp [go_sem] at r0 r1 f0 f1 hz
    have z0 : w.heap.size < wc.heap.size := by omega
    have z1 : w.heap.size + 1 < wc.heap.size := by omega
    have z2 : w.heap.size + 1 + 1 < wc.heap.size := by omega
    clear hz
    have HB := Lib.hid hb; clear hb
    go_wp2_with fail
    refine wp_loop_rounds 3 ?_
    rw [rounds_succ]
    go_wp2_with fail
    go_region_held3 (fun w' => w'.cell? ⟨g, 0, none⟩ = some (.int .u64 al) ∧ w'.cell? ⟨k, 0, none⟩ = some (.int .u64 bl)) (simp [go_sem, *]) (fail)
    go_wp2_with fail
    rw [rounds_succ]
    go_wp2_with fail
    go_region_held3 (fun w' => w'.cell? ⟨g, 1, none⟩ = some (.int .u64 ah) ∧ w'.cell? ⟨k, 1, none⟩ = some (.int .u64 bh)) (simp [go_sem, *]) (fail)
    go_wp2_with fail
    rw [rounds_succ]
    go_wp2_with (go_at_call 38; refine (whole_any _ _ _).mono ?_; rintro e w' ⟨rfl, rfl⟩)
    refine bodyPost_ret (v := .tuple #[.agg #[.int .u64 (s1 : Nat), .int .u64 (s0 : Nat)], .bool ((c1 : Int) != 0)]) (by simp [results, Try.results39, go_sem, *]) rfl ⟨rfl, ?_⟩
    have hb := HB.out
    have hb' : Below w.heap.size w wc := ((((Below.refl _ _).alloc (Nat.le_refl _) _).alloc (by simp) _).alloc (by simp; omega) _).trans (hb.mono (by omega))
    exact (((((hb'.setCell (by simp; omega) _).setCell (by simp; omega) _).alloc (by simp; omega) _).alloc (by simp; omega) _).alloc (by simp; omega) _).drew.drew

/-- The same of two wide numbers. -/
theorem sub_num (a b : Nat) (ha : a < M128) (hb : b < M128) (w : World) :
    Calls Try.prog 39 #[.agg #[.int .u64 (hi a : Nat), .int .u64 (lo a : Nat)], .agg #[.int .u64 (hi b : Nat), .int .u64 (lo b : Nat)]] w fun e w' => e = .returned (.tuple #[.agg #[.int .u64 (hi (subW a b) : Nat), .int .u64 (lo (subW a b) : Nat)], .bool (ltW a b)]) ∧ Below w.heap.size w w' := by
  have h := sub_core (hi a) (lo a) (hi b) (lo b) _ _ _ _ w (sub64_0 _ _) (sub64 _ _ _ (sB_le _ _ _))
  rw [subW_hi _ _ ha hb, subW_lo _ _ ha hb, subW_o] at h
  exact h
end Go.Proofs.Ytgmifimpeefpcaa

/- math-bits Mul64 and wide.Mul answer the product, and wide.Less whether one wide number is less; nothing that was in memory before is changed. -/
namespace Go.Proofs.Ytgmifimpeefpcaa
open Go.RowKit Go.Lib

theorem less_core (ah al bh bl sh sl : Nat) (o : Bool) (w : World) (m : ∀ w, Calls Try.prog 39 #[.agg #[.int .u64 (ah : Nat), .int .u64 (al : Nat)], .agg #[.int .u64 (bh : Nat), .int .u64 (bl : Nat)]] w fun e w' => e = .returned (.tuple #[.agg #[.int .u64 (sh : Nat), .int .u64 (sl : Nat)], .bool o]) ∧ Below w.heap.size w w') :
    Calls Try.prog 33 #[.agg #[.int .u64 (ah : Nat), .int .u64 (al : Nat)], .agg #[.int .u64 (bh : Nat), .int .u64 (bl : Nat)]] w fun e w' => e = .returned (.bool o) ∧ Below w.heap.size w w' := by
  have M := Lib.hid m; clear m
  go_enter Try.func33, Try.ntmps33
  go_wp2_with (go_at_call 39; refine (M.out _).mono ?_; rintro e w1 ⟨rfl, hb⟩)
  go_ret
  exact ⟨rfl, ((((Below.refl _ _).alloc (Nat.le_refl _) _).alloc (by simp) _).trans (hb.mono (by simp; omega))).alloc (by have := hb.size; simp at this; omega) _⟩
theorem less_num (a b : Nat) (ha : a < M128) (hb : b < M128) (w : World) :
    Calls Try.prog 33 #[.agg #[.int .u64 (hi a : Nat), .int .u64 (lo a : Nat)], .agg #[.int .u64 (hi b : Nat), .int .u64 (lo b : Nat)]] w fun e w' => e = .returned (.bool (ltW a b)) ∧ Below w.heap.size w w' :=
  less_core _ _ _ _ _ _ _ w (sub_num a b ha hb)
end Go.Proofs.Ytgmifimpeefpcaa
