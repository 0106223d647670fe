/- move.Run: its early ways out. -/
import Derived.Test.YtaegoomnenociaaMovC
namespace Go.Proofs.Ytaegoomnenociaa
open Go.RowKit

theorem res_cell2 {P : Program} {fn : Func} {tmps : Array Value} {w : World} {a e f : Nat} {t : TypeId} {ad : Addr} {v : Value} (h : fn.results = #[.cell a t, .tmp e, .tmp f]) (ha : tmps.getD a undef = .pointer (some ad)) (hl : (loadVar t ad).run P w = .ok v w) :
    (results fn tmps).run P w = .ok (.tuple #[v, tmps.getD e undef, tmps.getD f undef]) w := by
  have ha' : tmps[a]?.getD undef = .pointer (some ad) := by simpa using ha
  simp [results, h, ha', hl, asAddr]
set_option linter.unusedSimpArgs false in
set_option linter.unusedVariables false in
set_option maxHeartbeats 4000000 in
set_option maxRecDepth 100000 in
theorem run12_arg (m : Mov) (l : List Int) (v : Value) (w : World) (hm : movB m = false) (hr : ReadsI w v l) :
    Calls Try.prog 7 #[movV m, v] w fun e w' => ∃ v', e = .returned (.tuple #[movV mov0, v', .int .i64 1]) ∧ IRow w.heap.size v' [] w' ∧ Below w.heap.size w w' := by
  obtain ⟨ao, cap, rfl, hlc, hcm, -⟩ := id hr
  unfold maxLen at hcm
  obtain ⟨n, hn⟩ : ∃ n, l.length = n := ⟨_, rfl⟩
  rw [hn] at hlc hr ⊢
  obtain ⟨N, L, S⟩ := m
  have hri := fun W => right12_any N L S W
  rw [hm] at hri
  obtain ⟨w2, hw2⟩ : ∃ w2, (w.alloc (.cells #[.int .i64 N, .int .i64 L, .int .i64 S] 23)).alloc (.cells #[.int .i64 0, .int .i64 0, .int .i64 0] 23) = w2 := ⟨_, rfl⟩
  have HB2 := Lib.hid (show Below w.heap.size w w2 by rw [← hw2]; exact ((Below.refl _ _).alloc (Nat.le_refl _) _).alloc (by simp) _)
  have HA2 := Lib.hid (show Has w2 w.heap.size [.int .i64 N, .int .i64 L, .int .i64 S] 23 by rw [← hw2]; exact (Has.new w _ _).alloc _)
  have HZ2 := Lib.hid (show Has w2 (w.heap.size + 1) [.int .i64 0, .int .i64 0, .int .i64 0] 23 by
    have := Has.new (w.alloc (.cells #[.int .i64 N, .int .i64 L, .int .i64 S] 23)) [.int .i64 0, .int .i64 0, .int .i64 0] 23
    rw [show (w.alloc (.cells #[.int .i64 N, .int .i64 L, .int .i64 S] 23)).heap.size = w.heap.size + 1 by simp] at this
    rw [← hw2]; exact this)
  have HW2 := Lib.hid hw2
  have HN := Lib.hid hn
  have HR2 := Lib.hid (hr.below (show Below w.heap.size w w2 from HB2.out))
  have HRI := Lib.hid hri
  clear hw2 hri hr hn
  unfold movV mov0
  dsimp only
  go_enter Try.func7, Try.ntmps7
  go_upto_region 1 with fail
  rw [HW2.out]
  have a0 : w2.cell? ⟨w.heap.size, 0, none⟩ = some (.int .i64 N) := HA2.out.cell 0
  have a1 : w2.cell? ⟨w.heap.size, 1, none⟩ = some (.int .i64 L) := HA2.out.cell 1
  have a2 : w2.cell? ⟨w.heap.size, 2, none⟩ = some (.int .i64 S) := HA2.out.cell 2
  have la := HA2.out.lt
  go_wp2_with fail
  refine (HRI.out _).mono ?_
  rintro e w3 ⟨rfl, k3⟩
  have HB3 := Lib.hid (HB2.out.trans (k3.mono HB2.out.size))
  have HA3 := Lib.hid (HA2.out.call k3)
  have HZ3 := Lib.hid (HZ2.out.call k3)
  have HR3 := Lib.hid (HR2.out.below k3)
  clear k3 a0 a1 a2 la
  have z0 : w3.cell? ⟨w.heap.size + 1, 0, none⟩ = some (.int .i64 0) := HZ3.out.cell 0
  have z1 : w3.cell? ⟨w.heap.size + 1, 1, none⟩ = some (.int .i64 0) := HZ3.out.cell 1
  have z2 : w3.cell? ⟨w.heap.size + 1, 2, none⟩ = some (.int .i64 0) := HZ3.out.cell 2
  have f0 : w3.frozen? ⟨w.heap.size + 1, 0, none⟩ = false := HZ3.out.frozen 0
  have f1 : w3.frozen? ⟨w.heap.size + 1, 1, none⟩ = false := HZ3.out.frozen 1
  have f2 : w3.frozen? ⟨w.heap.size + 1, 2, none⟩ = false := HZ3.out.frozen 2
  have HE := Lib.hid (HZ3.out.put3 (.int .i64 0) (.int .i64 0) (.int .i64 0))
  have HBE := Lib.hid (Below.put3 (b := w.heap.size + 1) HB3.out (by omega) (.int .i64 0) (.int .i64 0) (.int .i64 0))
  go_wp2
  (try simp only [Exit.inBlock, Exit.then])
  exact bodyPost_ret (res_cell2 Try.results7 rfl (loadM HE.out)) rfl ⟨_, rfl, IRow.nil _ _, HBE.out⟩
def BadRel (j : Nat) (w3 : World) (i : Value) (wr : World) : Prop := ∃ k : Nat, k ≤ j ∧ i = .int .i64 (k : Nat) ∧ wr = w3
set_option linter.unusedSimpArgs false in
set_option linter.unusedVariables false in
set_option maxHeartbeats 4000000 in
set_option maxRecDepth 100000 in
theorem run12_range (m : Mov) (l : List Int) (v : Value) (w : World) (hm : movB m = true) (hr : ReadsI w v l) (j : Nat) (hj : j < l.length) (hg : ∀ i, i < j → goodI (l.getD i 0) = true) (hbad : goodI (l.getD j 0) = false) :
    Calls Try.prog 7 #[movV m, v] w fun e w' => ∃ v', e = .returned (.tuple #[movV mov0, v', .int .i64 3]) ∧ IRow w.heap.size v' [] w' ∧ Below w.heap.size w w' := by
  obtain ⟨ao, cap, rfl, hlc, hcm, -⟩ := id hr
  unfold maxLen at hcm
  obtain ⟨n, hn⟩ : ∃ n, l.length = n := ⟨_, rfl⟩
  rw [hn] at hlc hr hj ⊢
  obtain ⟨N, L, S⟩ := m
  have hri := fun W => right12_any N L S W
  rw [hm] at hri
  obtain ⟨w2, hw2⟩ : ∃ w2, (w.alloc (.cells #[.int .i64 N, .int .i64 L, .int .i64 S] 23)).alloc (.cells #[.int .i64 0, .int .i64 0, .int .i64 0] 23) = w2 := ⟨_, rfl⟩
  have HB2 := Lib.hid (show Below w.heap.size w w2 by rw [← hw2]; exact ((Below.refl _ _).alloc (Nat.le_refl _) _).alloc (by simp) _)
  have HA2 := Lib.hid (show Has w2 w.heap.size [.int .i64 N, .int .i64 L, .int .i64 S] 23 by rw [← hw2]; exact (Has.new w _ _).alloc _)
  have HZ2 := Lib.hid (show Has w2 (w.heap.size + 1) [.int .i64 0, .int .i64 0, .int .i64 0] 23 by
    have := Has.new (w.alloc (.cells #[.int .i64 N, .int .i64 L, .int .i64 S] 23)) [.int .i64 0, .int .i64 0, .int .i64 0] 23
    rw [show (w.alloc (.cells #[.int .i64 N, .int .i64 L, .int .i64 S] 23)).heap.size = w.heap.size + 1 by simp] at this
    rw [← hw2]; exact this)
  have HW2 := Lib.hid hw2
  have HN := Lib.hid hn
  have HR2 := Lib.hid (hr.below (show Below w.heap.size w w2 from HB2.out))
  have HRI := Lib.hid hri
  clear hw2 hri hr hn
  unfold movV mov0
  dsimp only
  have HG := Lib.hid hg
  have HBAD := Lib.hid hbad
  clear hg hbad
  go_enter Try.func7, Try.ntmps7
  go_upto_region 1 with fail
  rw [HW2.out]
  have a0 : w2.cell? ⟨w.heap.size, 0, none⟩ = some (.int .i64 N) := HA2.out.cell 0
  have a1 : w2.cell? ⟨w.heap.size, 1, none⟩ = some (.int .i64 L) := HA2.out.cell 1
  have a2 : w2.cell? ⟨w.heap.size, 2, none⟩ = some (.int .i64 S) := HA2.out.cell 2
  have la := HA2.out.lt
  go_wp2_with fail
  refine (HRI.out _).mono ?_
  rintro e w3 ⟨rfl, k3⟩
  have HB3 := Lib.hid (HB2.out.trans (k3.mono HB2.out.size))
  have HA3 := Lib.hid (HA2.out.call k3)
  have HZ3 := Lib.hid (HZ2.out.call k3)
  have HR3 := Lib.hid (HR2.out.below k3)
  clear k3 a0 a1 a2 la
  have hj2 : (j : Int) < (n : Int) := by omega
  go_wp2
  go_loopw [19] (BadRel j w3) (fun i _ => n - (intOf i).toNat)
  case atStart => exact ⟨0, Nat.zero_le _, rfl, rfl⟩
  case round =>
    obtain ⟨k, hk, rfl, rfl⟩ := hrel
    obtain ⟨ao', cp', e0, -, -, hrd⟩ := HR3.out
    injection e0 with e1 e2 e3
    subst e1 e3
    obtain ⟨b, off, rfl, hlt, hc⟩ := hrd k (by rw [HN.out]; omega)
    have hkn : (k : Int) < (n : Int) := by omega
    by_cases hl : k < j
    · have hgk := HG.out k hl
      obtain ⟨x, hx⟩ : ∃ x, l.getD k 0 = x := ⟨_, rfl⟩
      rw [hx] at hc hgk
      have hcall := isSample12_any x wr
      rw [hgk] at hcall
      have HCALL := Lib.hid hcall
      clear hrd e2 hx hgk hcall
      go_wp2_with fail
      refine HCALL.out.mono ?_
      rintro e w4 ⟨rfl, rfl⟩
      go_wp2
      go_roundw
      case rel => exact ⟨k + 1, by omega, by first | rfl | go_num, rfl⟩
      case measure => simp [intOf]; omega
    · obtain rfl : k = j := by omega
      have hgk := HBAD.out
      obtain ⟨x, hx⟩ : ∃ x, l.getD k 0 = x := ⟨_, rfl⟩
      rw [hx] at hc hgk
      have hcall := isSample12_any x wr
      rw [hgk] at hcall
      have HCALL := Lib.hid hcall
      clear hrd e2 hx hgk hcall
      go_wp2_with fail
      refine HCALL.out.mono ?_
      rintro e w4 ⟨rfl, rfl⟩
      have z0 : wr.cell? ⟨w.heap.size + 1, 0, none⟩ = some (.int .i64 0) := HZ3.out.cell 0
      have z1 : wr.cell? ⟨w.heap.size + 1, 1, none⟩ = some (.int .i64 0) := HZ3.out.cell 1
      have z2 : wr.cell? ⟨w.heap.size + 1, 2, none⟩ = some (.int .i64 0) := HZ3.out.cell 2
      have f0 : wr.frozen? ⟨w.heap.size + 1, 0, none⟩ = false := HZ3.out.frozen 0
      have f1 : wr.frozen? ⟨w.heap.size + 1, 1, none⟩ = false := HZ3.out.frozen 1
      have f2 : wr.frozen? ⟨w.heap.size + 1, 2, none⟩ = false := HZ3.out.frozen 2
      have HE := Lib.hid (HZ3.out.put3 (.int .i64 0) (.int .i64 0) (.int .i64 0))
      have HBE := Lib.hid (Below.put3 (b := w.heap.size + 1) HB3.out (by omega) (.int .i64 0) (.int .i64 0) (.int .i64 0))
      go_wp2
      (try simp only [Exit.inBlock, Exit.then])
      exact bodyPost_ret (res_cell2 Try.results7 rfl (loadM HE.out)) rfl ⟨_, rfl, IRow.nil _ _, HBE.out⟩
end Go.Proofs.Ytaegoomnenociaa
