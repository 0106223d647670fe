/- wide's tenth: how often ten goes into a wide number, by its halves, and what is left; nothing that was in memory before is changed. -/
import Derived.Test.YtnmidnoemfdnfaaDiv10n
import Derived.Test.YtnmidnoemfdnfaaFrame
namespace Go.Proofs.Ytnmidnoemfdnfaa
open Go.RowKit

theorem tenth_nums (n : Nat) : vw (vw 0 (hi n) % 10) (lo n) / 10 = lo (n / 10) ∧ vw 0 (hi n) / 10 = hi (n / 10) ∧ vw (vw 0 (hi n) % 10) (lo n) % 10 = n % 10 := by
  unfold vw hi lo
  omega
set_option maxHeartbeats 2000000 in
theorem tenth_core (x0 x1 q0 q1 r1 r0 : Nat) (w : World)
    (m1 : ∀ w, Calls Try.prog 31 #[.int .u64 0, .int .u64 x1, .int .u64 10] w fun e w' => e = .returned (.tuple #[.int .u64 (q1 : Nat), .int .u64 (r1 : Nat)]) ∧ Below w.heap.size w w')
    (m0 : ∀ w, Calls Try.prog 31 #[.int .u64 r1, .int .u64 x0, .int .u64 10] w fun e w' => e = .returned (.tuple #[.int .u64 (q0 : Nat), .int .u64 (r0 : Nat)]) ∧ Below w.heap.size w w') :
    Calls Try.prog 30 #[.agg #[.int .u64 x0, .int .u64 x1]] w fun e w' => e = .returned (.tuple #[.agg #[.int .u64 (q0 : Nat), .int .u64 (q1 : Nat)], .int .u64 (r0 : Nat)]) ∧ Below w.heap.size w w' := by
  have M1 := Lib.hid m1; have M0 := Lib.hid m0; clear m1 m0
  go_enter Try.func30, Try.ntmps30
  go_wp2_with fail
  refine wp_loop_rounds 3 ?_
  rw [rounds_succ]
  go_wp2_with fail
  refine (M1.out _).mono ?_
  rintro e w1 ⟨rfl, hb1⟩
  have X1 := keep2 (b := w.heap.size) (x := .int .u64 x0) (y := .int .u64 x1) hb1 (by simp; omega) (by simp [go_sem])
  have c0 := hb1.cell (p := ⟨w.heap.size + 1, 0, none⟩) (by simp)
  have c1 := hb1.cell (p := ⟨w.heap.size + 1, 1, none⟩) (by simp)
  have c2 := hb1.frozen (p := ⟨w.heap.size + 1, 0, none⟩) (by simp)
  have c3 := hb1.frozen (p := ⟨w.heap.size + 1, 1, none⟩) (by simp)
  have d0 := hb1.cell (p := ⟨w.heap.size + 1 + 1, 0, none⟩) (by simp)
  have d1 := hb1.cell (p := ⟨w.heap.size + 1 + 1, 1, none⟩) (by simp)
  have d2 := hb1.frozen (p := ⟨w.heap.size + 1 + 1, 0, none⟩) (by simp)
  have d3 := hb1.frozen (p := ⟨w.heap.size + 1 + 1, 1, none⟩) (by simp)
  have hz := hb1.size
  simp [go_sem] at c0 c1 c2 c3 d0 d1 d2 d3 hz
  have L1 := Lib.hid hb1; clear hb1
  go_wp2_with fail
  rw [rounds_succ]
  go_wp2_with fail
  refine (M0.out _).mono ?_
  rintro e w2 ⟨rfl, hb2⟩
  have z2 : w.heap.size + 1 + 1 < w1.heap.size := by omega
  have z1 : w.heap.size + 1 < w1.heap.size := by omega
  have c0' := hb2.cell (p := ⟨w.heap.size + 1, 0, none⟩) (by simpa [World.setCell] using z1)
  have c1' := hb2.cell (p := ⟨w.heap.size + 1, 1, none⟩) (by simpa [World.setCell] using z1)
  have c2' := hb2.frozen (p := ⟨w.heap.size + 1, 0, none⟩) (by simpa [World.setCell] using z1)
  have c3' := hb2.frozen (p := ⟨w.heap.size + 1, 1, none⟩) (by simpa [World.setCell] using z1)
  have d0' := hb2.cell (p := ⟨w.heap.size + 1 + 1, 0, none⟩) (by simpa [World.setCell] using z2)
  have d1' := hb2.cell (p := ⟨w.heap.size + 1 + 1, 1, none⟩) (by simpa [World.setCell] using z2)
  have d2' := hb2.frozen (p := ⟨w.heap.size + 1 + 1, 0, none⟩) (by simpa [World.setCell] using z2)
  have d3' := hb2.frozen (p := ⟨w.heap.size + 1 + 1, 1, none⟩) (by simpa [World.setCell] using z2)
  have hz2 := hb2.size
  simp [go_sem, c0, c1, c2, c3, d0, d1, d2, d3] at c0' c1' c2' c3' d0' d1' d2' d3' hz2
  have hb' : Below w.heap.size w w2 := (((((Below.refl _ _).alloc (Nat.le_refl _) _).alloc (by simp) _).alloc (by simp; omega) _).trans (L1.out.mono (by simp; omega))).setCell (by simp; omega) _ |>.trans (hb2.mono (by simp [World.setCell]; omega))
  have L2 := Lib.hid hb'
  have y2 : w.heap.size + 1 + 1 < w2.heap.size := by omega
  have y1 : w.heap.size + 1 < w2.heap.size := by omega
  clear hb2 hb' L1 X1 c0 c1 c2 c3 d0 d1 d2 d3 hz hz2
  go_wp2_with fail
  rw [rounds_succ]
  go_wp2_with fail
  refine bodyPost_ret (v := .tuple #[.agg #[.int .u64 (q0 : Nat), .int .u64 (q1 : Nat)], .int .u64 (r0 : Nat)]) (by simp [results, Try.results30, go_sem, *]) rfl ⟨rfl, ?_⟩
  have hb' := L2.out
  repeat first | exact hb' | refine Below.drew ?_ | refine Below.alloc ?_ (by first | omega | (simp; done) | (simp; omega)) _ | refine Below.setCell ?_ (by first | omega | (simp; done) | (simp; omega)) _
theorem tenth_any (n : Nat) (hn : n < M128) (w : World) :
    Calls Try.prog 30 #[.agg #[.int .u64 (lo n : Nat), .int .u64 (hi n : Nat)]] w fun e w' => e = .returned (.tuple #[.agg #[.int .u64 (lo (n / 10) : Nat), .int .u64 (hi (n / 10) : Nat)], .int .u64 ((n % 10 : Nat) : Int)]) ∧ Below w.heap.size w w' := by
  have h1 := div10_any 0 (hi n) (by omega) (hi_lt n hn)
  have h0 := div10_any (vw 0 (hi n) % 10) (lo n) (Nat.mod_lt _ (by omega)) (lo_lt n)
  have h := tenth_core (lo n) (hi n) _ _ _ _ w h1 h0
  obtain ⟨e1, e2, e3⟩ := tenth_nums n
  rw [e1, e2, e3] at h
  exact h
end Go.Proofs.Ytnmidnoemfdnfaa
