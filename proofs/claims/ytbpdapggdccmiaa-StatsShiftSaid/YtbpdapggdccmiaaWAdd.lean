/- wide.Add answers what the two numbers are together, round at 2^128, and whether that went round; nothing that was in memory before is changed. -/
import Derived.Test.YtbpdapggdccmiaaBase
namespace Go.Proofs.Ytbpdapggdccmiaa
open Go.RowKit

set_option maxHeartbeats 2000000 in
theorem add_core (ah al bh bl s0 c0 s1 c1 : Nat) (w : World)
    (e1 : ∀ w, (callFunc 35 #[.int .u64 al, .int .u64 bl, .int .u64 0]).run Try.prog w = .ok (.value (.tuple #[.int .u64 (s0 : Nat), .int .u64 (c0 : Nat)])) w)
    (e2 : ∀ w, (callFunc 35 #[.int .u64 ah, .int .u64 bh, .int .u64 (c0 : Nat)]).run Try.prog w = .ok (.value (.tuple #[.int .u64 (s1 : Nat), .int .u64 (c1 : Nat)])) w) :
    Calls Try.prog 19 #[.agg #[.int .u64 ah, .int .u64 al], .agg #[.int .u64 bh, .int .u64 bl]] w fun e w' => e = .returned (.tuple #[.agg #[.int .u64 (s1 : Nat), .int .u64 (s0 : Nat)], .bool ((c1 : Int) != 0)]) ∧ Below w.heap.size w w' := by
  go_enter Try.func19, Try.ntmps19
  go_upto_region 1 with fail
  go_cut [6, 7] (fun s6 s7 wx => ∃ g k : Nat, s6 = .pointer (some ⟨g, 0, none⟩) ∧ s7 = .pointer (some ⟨k, 0, none⟩) ∧ g < wx.heap.size ∧ k < wx.heap.size ∧ wx.cell? ⟨g, 0, none⟩ = some (.int .u64 al) ∧ wx.cell? ⟨g, 1, none⟩ = some (.int .u64 ah) ∧ wx.cell? ⟨k, 0, none⟩ = some (.int .u64 bl) ∧ wx.cell? ⟨k, 1, none⟩ = some (.int .u64 bh) ∧ Below (w.heap.size + 3) (((w.alloc (.cells #[.int .u64 ah, .int .u64 al] 25)).alloc (.cells #[.int .u64 bh, .int .u64 bl] 25)).alloc (.cells #[.int .u64 0, .int .u64 0] 25)) wx)
  case first =>
    go_region_held3 (fun w' => w'.cell? ⟨w.heap.size, 0, none⟩ = some (.int .u64 ah) ∧ w'.cell? ⟨w.heap.size, 1, none⟩ = some (.int .u64 al) ∧ w'.cell? ⟨w.heap.size + 1, 0, none⟩ = some (.int .u64 bh) ∧ w'.cell? ⟨w.heap.size + 1, 1, none⟩ = some (.int .u64 bl)) (simp [go_sem])
      (first | (go_at_call 34; refine (split_any _ _ _).mono ?_; rintro e w' ⟨rfl, rfl⟩))
    all_goals (go_wp2_with fail; go_meet)
    all_goals (refine ⟨_, _, rfl, rfl, by simp [go_sem], by simp [go_sem], by simp [go_sem], by simp [go_sem], by simp [go_sem], by simp [go_sem], ?_⟩)
    all_goals (repeat first | exact Below.refl _ _ | refine Below.drew ?_ | refine Below.alloc ?_ (by simp) _)
  case rest =>
    obtain ⟨g, k, rfl, rfl, hg, hk, h0, h1, h2, h3, hb⟩ := hcut
    have r0 := hb.cell (p := ⟨w.heap.size + 1 + 1, 0, none⟩) (by simp)
    have r1 := hb.cell (p := ⟨w.heap.size + 1 + 1, 1, none⟩) (by simp)
    have f0 := hb.frozen (p := ⟨w.heap.size + 1 + 1, 0, none⟩) (by simp)
    have f1 := hb.frozen (p := ⟨w.heap.size + 1 + 1, 1, none⟩) (by simp)
    have hz := hb.size
    simp [go_sem] at r0 r1 f0 f1 hz
    have z0 : w.heap.size < wc.heap.size := by omega
    have z1 : w.heap.size + 1 < wc.heap.size := by omega
    have z2 : w.heap.size + 1 + 1 < wc.heap.size := by omega
    clear hz
    have HB := Lib.hid hb; clear hb
    go_wp2_with fail
    refine wp_loop_rounds 3 ?_
    rw [rounds_succ]
    go_wp2_with fail
    go_region_held3 (fun w' => w'.cell? ⟨g, 0, none⟩ = some (.int .u64 al) ∧ w'.cell? ⟨k, 0, none⟩ = some (.int .u64 bl)) (simp [go_sem, *]) (fail)
    go_wp2_with fail
    rw [rounds_succ]
    go_wp2_with fail
    go_region_held3 (fun w' => w'.cell? ⟨g, 1, none⟩ = some (.int .u64 ah) ∧ w'.cell? ⟨k, 1, none⟩ = some (.int .u64 bh)) (simp [go_sem, *]) (fail)
    go_wp2_with fail
    rw [rounds_succ]
    go_wp2_with (go_at_call 36; refine (whole_any _ _ _).mono ?_; rintro e w' ⟨rfl, rfl⟩)
    refine bodyPost_ret (v := .tuple #[.agg #[.int .u64 (s1 : Nat), .int .u64 (s0 : Nat)], .bool ((c1 : Int) != 0)]) (by simp [results, Try.results19, go_sem, *]) rfl ⟨rfl, ?_⟩
    have hb := HB.out
    have hb' : Below w.heap.size w wc := ((((Below.refl _ _).alloc (Nat.le_refl _) _).alloc (by simp) _).alloc (by simp; omega) _).trans (hb.mono (by omega))
    exact (((((hb'.setCell (by simp; omega) _).setCell (by simp; omega) _).alloc (by simp; omega) _).alloc (by simp; omega) _).alloc (by simp; omega) _).drew.drew

/-- The same of two wide numbers. -/
theorem add_num (a b : Nat) (w : World) :
    Calls Try.prog 19 #[.agg #[.int .u64 (hi a : Nat), .int .u64 (lo a : Nat)], .agg #[.int .u64 (hi b : Nat), .int .u64 (lo b : Nat)]] w fun e w' => e = .returned (.tuple #[.agg #[.int .u64 (hi (addW a b) : Nat), .int .u64 (lo (addW a b) : Nat)], .bool (addO a b)]) ∧ Below w.heap.size w w' := by
  have h := add_core (hi a) (lo a) (hi b) (lo b) _ _ _ _ w (add64_0 _ _) (add64 _ _ _ (aC_le _ _ _ (lo_lt _) (lo_lt _) (by omega)))
  rw [addW_hi, addW_lo, addW_o] at h
  exact h
end Go.Proofs.Ytbpdapggdccmiaa
