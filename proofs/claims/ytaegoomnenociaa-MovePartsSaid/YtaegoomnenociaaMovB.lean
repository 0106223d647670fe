/- The reference of stage 12: Next. -/
import Derived.Test.YtaegoomnenociaaMovA
import Derived.Deep.MidRow
namespace Go.Proofs.Ytaegoomnenociaa
open Go.RowKit

theorem size3M : ((Try.prog).info? 23).map (·.size) = some 3 := by kernel_rfl
theorem loadM {w : World} {b : Nat} {c0 c1 c2 : Value} (h : Has w b [c0, c1, c2] 23) : (loadVar 23 ⟨b, 0, none⟩).run Try.prog w = .ok (.agg #[c0, c1, c2]) w :=
  run_loadVar_mid w b 0 23 [c0, c1, c2] _ h.range Try.underlying23 rfl size3M
theorem Below.put3 {B : Nat} {a w : World} {b : Nat} (h : Below B a w) (hb : B ≤ b) (v0 v1 v2 : Value) : Below B a (((w.setCell ⟨b, 0, none⟩ v0).setCell ⟨b, 1, none⟩ v1).setCell ⟨b, 2, none⟩ v2) :=
  ((h.setCell (p := ⟨b, 0, none⟩) hb v0).setCell (p := ⟨b, 1, none⟩) hb v1).setCell (p := ⟨b, 2, none⟩) hb v2
theorem Has.put3 {w : World} {b : Nat} {c0 c1 c2 : Value} {T : TypeId} (h : Has w b [c0, c1, c2] T) (v0 v1 v2 : Value) : Has (((w.setCell ⟨b, 0, none⟩ v0).setCell ⟨b, 1, none⟩ v1).setCell ⟨b, 2, none⟩ v2) b [v0, v1, v2] T := by
  have := ((h.set 0 v0).set 1 v1).set 2 v2
  simpa using this
theorem Has.off3 {w : World} {b k : Nat} {cs : List Value} {T : TypeId} (h : Has w b cs T) (hk : b ≠ k) (v0 v1 v2 : Value) : Has (((w.setCell ⟨k, 0, none⟩ v0).setCell ⟨k, 1, none⟩ v1).setCell ⟨k, 2, none⟩ v2) b cs T :=
  ((h.other (p := ⟨k, 0, none⟩) hk v0).other (p := ⟨k, 1, none⟩) hk v1).other (p := ⟨k, 2, none⟩) hk v2
set_option linter.unusedSimpArgs false in
set_option maxHeartbeats 2000000 in
set_option maxRecDepth 100000 in
theorem rnext12_core (n z s x t : Int) (hn : 0 ≤ n ∧ n ≤ 1000000000) (hz : -1000000 ≤ z ∧ z ≤ 1000000) (hs : 0 ≤ s ∧ s ≤ 4000000000000000) (hx : -1000000 ≤ x ∧ x ≤ 1000000) (ht : t = if n = 0 then 0 else distI z x) (w : World) :
    Calls Try.prog 11 #[.agg #[.int .i64 n, .int .i64 z, .int .i64 s], .int .i64 x] w fun e w' => e = .returned (.tuple #[.agg #[.int .i64 (n + 1), .int .i64 x, .int .i64 (s + t)], .int .i64 t]) ∧ Below w.heap.size w w' := by
  have hB := ((Below.refl w.heap.size w).alloc (Nat.le_refl _) (.cells #[.int .i64 n, .int .i64 z, .int .i64 s] 23)).alloc (by simp) (.cells #[.int .i64 (n + 1), .int .i64 x, .int .i64 (s + t)] 23)
  have hZ := Has.new (w.alloc (.cells #[.int .i64 n, .int .i64 z, .int .i64 s] 23)) [.int .i64 (n + 1), .int .i64 x, .int .i64 (s + t)] 23
  rw [show (w.alloc (.cells #[.int .i64 n, .int .i64 z, .int .i64 s] 23)).heap.size = w.heap.size + 1 by simp] at hZ
  have htb : 0 ≤ t ∧ t ≤ 2000000 := by
    rw [ht]
    split
    · omega
    · exact ⟨distI_nonneg _ _, distI_le hz hx⟩
  have h1 : wrap64 (n + 1) = n + 1 := by unfold wrap64; omega
  have h2 : wrap64 (s + t) = s + t := by unfold wrap64; omega
  by_cases h0 : n = 0
  · rw [if_pos h0] at ht
    subst ht h0
    have h3 : wrap64 s = s := by unfold wrap64; omega
    simp only [Int.add_zero] at h2 hB hZ ⊢
    clear hs hx hz htb hn
    have HZ := Lib.hid hZ
    have HB := Lib.hid hB
    clear hZ hB
    go_enter Try.func11, Try.ntmps11
    go_wp2
    (try simp only [Exit.inBlock, Exit.then])
    exact bodyPost_ret (results_cell_tmp Try.results11 rfl (loadM HZ.out)) rfl ⟨rfl, HB.out⟩
  · rw [if_neg h0] at ht
    have h3 : 0 < n := by omega
    have hst := rstep_any z x hz hx ((w.alloc (.cells #[.int .i64 n, .int .i64 z, .int .i64 s] 23)).alloc (.cells #[.int .i64 0, .int .i64 0, .int .i64 0] 23))
    rw [← ht] at hst
    clear hs hx hz htb hn ht h0
    have HZ := Lib.hid hZ
    have HB := Lib.hid hB
    clear hZ hB
    go_enter Try.func11, Try.ntmps11
    go_wp2_with fail
    refine hst.mono ?_
    rintro e w2 ⟨rfl, rfl⟩
    go_wp2
    (try simp only [Exit.inBlock, Exit.then])
    exact bodyPost_ret (results_cell_tmp Try.results11 rfl (loadM HZ.out)) rfl ⟨rfl, HB.out⟩
theorem stepsM_one_sum (m : Mov) (x : Int) : sumI (stepsM m [x]) = if m.n = 0 then 0 else distI m.last x := by
  rw [stepsM_one]
  split <;> simp [sumI]
theorem rnext12_any (m : Mov) (x : Int) (hm : movOk m) (hx : -1000000 ≤ x ∧ x ≤ 1000000) (w : World) :
    Calls Try.prog 11 #[movV m, .int .i64 x] w fun e w' => e = .returned (.tuple #[movV (runM m [x]), .int .i64 (sumI (stepsM m [x]))]) ∧ Below w.heap.size w w' := by
  have hs : 0 ≤ m.sum ∧ m.sum ≤ 4000000000000000 := by
    rcases hm with ⟨_, _, h⟩ | ⟨h, _, h2⟩ <;> omega
  exact rnext12_core m.n m.last m.sum x _ (movOk_n hm) (movOk_last hm) hs hx (stepsM_one_sum m x) w
end Go.Proofs.Ytaegoomnenociaa
