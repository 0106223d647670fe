/- span.ends: from the least to the greatest that the calls answer at the corners of two spans, or ErrArg, or ErrOver; nothing that was in memory before is changed. -/
import Derived.Test.YtacnaencmbnjpaaSpan1
namespace Go.Proofs.Ytacnaencmbnjpaa
open Go.RowKit

/-- What the loops carry: both spans, the result's block, what was found. -/
structure EInv (w wr : World) (B3 : Nat) (a b c d lo hi : Int) : Prop where
  A : Blk wr w.heap.size #[.int .i64 a, .int .i64 b]
  C : Blk wr (w.heap.size + 1) #[.int .i64 c, .int .i64 d]
  R : Blk wr (w.heap.size + 1 + 1) #[.int .i64 0, .int .i64 0]
  F : Blk wr B3 #[.int .i64 lo, .int .i64 hi]
  low : Below w.heap.size w wr
  lt : w.heap.size + 1 + 1 < B3
theorem EInv.call {w wr w' : World} {B3 : Nat} {a b c d lo hi : Int} (h : EInv w wr B3 a b c d lo hi) (hb : Below wr.heap.size wr w') : EInv w w' B3 a b c d lo hi :=
  ⟨h.A.call hb, h.C.call hb, h.R.call hb, h.F.call hb, h.low.trans (hb.mono h.low.size), h.lt⟩
theorem EInv.alloc {w wr : World} {B3 : Nat} {a b c d lo hi : Int} (h : EInv w wr B3 a b c d lo hi) (o : Obj) : EInv w (wr.alloc o) B3 a b c d lo hi :=
  h.call ((Below.refl _ _).alloc (Nat.le_refl _) _)
theorem EInv.to {w wr : World} {B3 : Nat} {a b c d lo hi lo' hi' : Int} (h : EInv w wr B3 a b c d lo hi) (e : lo = lo') (k : hi = hi') : EInv w wr B3 a b c d lo' hi' := by subst e k; exact h
theorem EInv.set {w wr : World} {B3 : Nat} {a b c d lo hi : Int} (h : EInv w wr B3 a b c d lo hi) (x y : Int) : EInv w ((wr.setCell ⟨B3, 0, none⟩ (.int .i64 x)).setCell ⟨B3, 1, none⟩ (.int .i64 y)) B3 a b c d x y := by
  have hlt := h.lt
  refine ⟨?_, ?_, ?_, (h.F.set 0 (.int .i64 x)).set 1 (.int .i64 y), ?_, h.lt⟩
  · exact (h.A.other (p := ⟨B3, 0, none⟩) (by simp; omega) _).other (p := ⟨B3, 1, none⟩) (by simp; omega) _
  · exact (h.C.other (p := ⟨B3, 0, none⟩) (by simp; omega) _).other (p := ⟨B3, 1, none⟩) (by simp; omega) _
  · exact (h.R.other (p := ⟨B3, 0, none⟩) (by simp; omega) _).other (p := ⟨B3, 1, none⟩) (by simp; omega) _
  · exact (h.low.setCell (p := ⟨B3, 0, none⟩) (by simp; omega) _).setCell (p := ⟨B3, 1, none⟩) (by simp; omega) _

theorem corner_at (a b c d : Int) (i : Nat) (hi : i < 4) (w : World) :
    (Instr.index 75 (.agg #[.int .i64 a, .int .i64 c, .int .i64 a, .int .i64 d, .int .i64 b, .int .i64 c, .int .i64 b, .int .i64 d]) (.int .i64 (i : Nat))).run Try.prog w = .ok (.agg #[.int .i64 (cX a b i), .int .i64 (cY c d i)]) w := by
  rcases (by omega : i = 0 ∨ i = 1 ∨ i = 2 ∨ i = 3) with rfl | rfl | rfl | rfl <;> kernel_rfl
theorem ends_arg1 (a b c d : Int) (p n : Nat) (w : World) (h1 : ¬ a ≤ b) :
    Calls Try.prog 32 #[.agg #[.int .i64 a, .int .i64 b], .agg #[.int .i64 c, .int .i64 d], .slice (some ⟨p, 0, none⟩) n n] w fun en w' => en = .returned (.tuple #[.agg #[.int .i64 0, .int .i64 0], .int .i64 1]) ∧ Below w.heap.size w w' := by
  have R1 := Lib.hid (fun w => right_any a b w); have R2 := Lib.hid (fun w => right_any c d w)
  rw [decide_eq_false h1] at R1
  clear h1 R2
  go_enter Try.func32, Try.ntmps32
  go_wp2_with fail
  refine (R1.out _).mono ?_
  rintro e w1 ⟨rfl, hb⟩
  have hw : Below w.heap.size w w1 := ((((Below.refl _ _).alloc (Nat.le_refl _) _).alloc (by simp) _).alloc (by simp; omega) _).trans (hb.mono (by simp; omega))
  have k2 : Blk w1 (w.heap.size + 1) #[.int .i64 c, .int .i64 d] := ((Blk.newAt (by simp)).alloc _).call hb
  have k3 : Blk w1 (w.heap.size + 1 + 1) #[.int .i64 0, .int .i64 0] := (Blk.newAt (by simp)).call hb
  have c0 := k2.cell (i := 0) rfl
  have c1 := k2.cell (i := 1) rfl
  clear hb
  have K2 := Lib.hid k2; have K3 := Lib.hid k3; have HW := Lib.hid hw
  clear k2 k3 hw
  clear c0 c1 K2
  have r0 := K3.out.cell (i := 0) rfl
  have r1 := K3.out.cell (i := 1) rfl
  have g0 := K3.out.free 0
  have g1 := K3.out.free 1
  have l3 := K3.out.lt
  clear K3
  go_wp2_with fail
  refine bodyPost_ret (v := .tuple #[.agg #[.int .i64 0, .int .i64 0], .int .i64 1]) (by simp [results, Try.results32, go_sem, r0, r1]) rfl ⟨rfl, ?_⟩
  exact (HW.out.setCell (by simp; omega) _).setCell (by simp; omega) _
theorem ends_arg2 (a b c d : Int) (p n : Nat) (w : World) (h1 : a ≤ b) (h2 : ¬ c ≤ d) :
    Calls Try.prog 32 #[.agg #[.int .i64 a, .int .i64 b], .agg #[.int .i64 c, .int .i64 d], .slice (some ⟨p, 0, none⟩) n n] w fun en w' => en = .returned (.tuple #[.agg #[.int .i64 0, .int .i64 0], .int .i64 1]) ∧ Below w.heap.size w w' := by
  have R1 := Lib.hid (fun w => right_any a b w); have R2 := Lib.hid (fun w => right_any c d w)
  rw [decide_eq_true h1] at R1
  rw [decide_eq_false h2] at R2
  clear h1 h2
  go_enter Try.func32, Try.ntmps32
  go_wp2_with fail
  refine (R1.out _).mono ?_
  rintro e w1 ⟨rfl, hb⟩
  have hw : Below w.heap.size w w1 := ((((Below.refl _ _).alloc (Nat.le_refl _) _).alloc (by simp) _).alloc (by simp; omega) _).trans (hb.mono (by simp; omega))
  have k2 : Blk w1 (w.heap.size + 1) #[.int .i64 c, .int .i64 d] := ((Blk.newAt (by simp)).alloc _).call hb
  have k3 : Blk w1 (w.heap.size + 1 + 1) #[.int .i64 0, .int .i64 0] := (Blk.newAt (by simp)).call hb
  have c0 := k2.cell (i := 0) rfl
  have c1 := k2.cell (i := 1) rfl
  clear hb
  have K2 := Lib.hid k2; have K3 := Lib.hid k3; have HW := Lib.hid hw
  clear k2 k3 hw
  go_wp2_with fail
  refine (R2.out _).mono ?_
  rintro e w2 ⟨rfl, hb⟩
  have k3 := K3.out.call hb
  have hw : Below w.heap.size w w2 := HW.out.trans (hb.mono HW.out.size)
  clear hb c0 c1 K2 K3 HW
  have K3 := Lib.hid k3; have HW := Lib.hid hw
  clear k3 hw
  have r0 := K3.out.cell (i := 0) rfl
  have r1 := K3.out.cell (i := 1) rfl
  have g0 := K3.out.free 0
  have g1 := K3.out.free 1
  have l3 := K3.out.lt
  clear K3
  go_wp2_with fail
  refine bodyPost_ret (v := .tuple #[.agg #[.int .i64 0, .int .i64 0], .int .i64 1]) (by simp [results, Try.results32, go_sem, r0, r1]) rfl ⟨rfl, ?_⟩
  exact (HW.out.setCell (by simp; omega) _).setCell (by simp; omega) _

set_option maxRecDepth 100000 in
theorem ends_core (a b c d : Int) (p n : Nat) (w : World) (h1 : a ≤ b) (h2 : c ≤ d) (hn : n ≤ 2) (z : Nat → Int) (K : Nat → Nat)
    (hk : ∀ j, j < n → w.cell? ⟨p, j, none⟩ = some (.func (.func (K j)) #[] #[]))
    (he : ∀ j, j < n → ∀ args w, (callFunc (K j) args).run Try.prog w = .ok (.enter (K j) args) w)
    (hc : ∀ j, j < n → ∀ i, i < 4 → ∀ w, Calls Try.prog (K j) #[.agg #[.int .i64 (cX a b i), .int .i64 (cY c d i)]] w fun en w' => en = .returned (.tuple #[.int .i64 (ans (z (4 * j + i))), .int .i64 (err (z (4 * j + i)))]) ∧ Below w.heap.size w w')
    (lo hi er : Int) (hok : (∀ i, i < 4 * n → IsInt (z i)) → lo = mnTo z (4 * n) ∧ hi = mxTo z (4 * n) ∧ er = 0)
    (hno : ∀ i, i < 4 * n → ¬ IsInt (z i) → lo = 0 ∧ hi = 0 ∧ er = 5) :
    Calls Try.prog 32 #[.agg #[.int .i64 a, .int .i64 b], .agg #[.int .i64 c, .int .i64 d], .slice (some ⟨p, 0, none⟩) n n] w fun en w' => en = .returned (.tuple #[.agg #[.int .i64 lo, .int .i64 hi], .int .i64 er]) ∧ Below w.heap.size w w' := by
  have HK := Lib.hid hk; have HE := Lib.hid he; have HC := Lib.hid hc; have HOK := Lib.hid hok; have HNO := Lib.hid hno
  have R1 := Lib.hid (fun w => right_any a b w); have R2 := Lib.hid (fun w => right_any c d w)
  rw [decide_eq_true h1] at R1
  rw [decide_eq_true h2] at R2
  clear hk he hc hok hno
  go_enter Try.func32, Try.ntmps32
  go_wp2_with fail
  refine (R1.out _).mono ?_
  rintro e w1 ⟨rfl, hb⟩
  have hw : Below w.heap.size w w1 := ((((Below.refl _ _).alloc (Nat.le_refl _) _).alloc (by simp) _).alloc (by simp; omega) _).trans (hb.mono (by simp; omega))
  have k1 : Blk w1 w.heap.size #[.int .i64 a, .int .i64 b] := (((Blk.new _ _ _).alloc _).alloc _).call hb
  have k2 : Blk w1 (w.heap.size + 1) #[.int .i64 c, .int .i64 d] := ((Blk.newAt (by simp)).alloc _).call hb
  have k3 : Blk w1 (w.heap.size + 1 + 1) #[.int .i64 0, .int .i64 0] := (Blk.newAt (by simp)).call hb
  have c0 := k2.cell (i := 0) rfl
  have c1 := k2.cell (i := 1) rfl
  clear hb
  have K1 := Lib.hid k1; have K2 := Lib.hid k2; have K3 := Lib.hid k3; have HW := Lib.hid hw
  clear k1 k2 k3 hw h1 h2
  go_wp2_with fail
  refine (R2.out _).mono ?_
  rintro e w2 ⟨rfl, hb⟩
  have k1 := K1.out.call hb
  have k2 := K2.out.call hb
  have k3 := K3.out.call hb
  have hw : Below w.heap.size w w2 := HW.out.trans (hb.mono HW.out.size)
  clear hb c0 c1 K1 K2 K3 HW
  have hz := k3.lt
  have i0 : EInv w (w2.alloc (.cells #[.int .i64 9223372036854775807, .int .i64 (-9223372036854775808)] 23)) w2.heap.size a b c d (mnTo z 0) (mxTo z 0) :=
    ⟨k1.alloc _, k2.alloc _, k3.alloc _, Blk.new _ _ _, hw.alloc hw.size _, hz⟩
  have I0 := Lib.hid i0
  clear k1 k2 k3 hw i0
  go_wp2_with fail
  go_loopw [27] (fun i wr => ∃ k : Nat, k ≤ n ∧ i = .int .i64 k ∧ Hid (∀ i, i < 4 * k → IsInt (z i)) ∧ Hid (EInv w wr w2.heap.size a b c d (mnTo z (4 * k)) (mxTo z (4 * k)))) (fun i _ => n - (intOf i).toNat)
  case atStart => exact ⟨0, Nat.zero_le _, rfl, Lib.hid (fun i hi => by omega), I0⟩
  case round =>
    clear I0
    obtain ⟨k, hk, rfl, Z, I⟩ := hrel
    by_cases hlt : k < n
    · have d1 : decide ((k : Int) < (n : Int)) = true := by simp; omega
      have hc : wr.cell? ⟨p, k, none⟩ = some (.func (.func (K k)) #[] #[]) := (I.out.low.cell (p := ⟨p, k, none⟩) (lt_of_cell (HK.out k hlt))).trans (HK.out k hlt)
      have a0 := I.out.A.cell (i := 0) rfl
      have a1 := I.out.A.cell (i := 1) rfl
      have b0 := I.out.C.cell (i := 0) rfl
      have b1 := I.out.C.cell (i := 1) rfl
      go_wp2_with fail
      clear a0 a1 b0 b1 hc
      obtain ⟨wo, hwo⟩ : ∃ wo : World, wo = wr := ⟨_, rfl⟩
      rw [← hwo] at I ⊢
      clear hwo
      go_loopw [52] (fun i wi => ∃ j : Nat, j ≤ 4 ∧ i = .int .i64 j ∧ Hid (∀ i, i < 4 * k + j → IsInt (z i)) ∧ Hid (EInv w wi w2.heap.size a b c d (mnTo z (4 * k + j)) (mxTo z (4 * k + j)))) (fun i _ => 4 - (intOf i).toNat)
      case atStart => exact ⟨0, Nat.zero_le _, rfl, Z, I⟩
      case round =>
        clear I Z
        obtain ⟨j, hj, rfl, Z, I⟩ := hrel
        by_cases hlt4 : j < 4
        · have d4 : decide ((j : Int) < 4) = true := by simp; omega
          have hx := corner_at a b c d j hlt4
          have hen := HE.out k hlt
          go_wp2_with fail
          refine (HC.out k hlt j hlt4 _).mono ?_
          rintro e w3 ⟨rfl, hb⟩
          have I3 := Lib.hid ((I.out.alloc (.cells #[.int .i64 (cX a b j), .int .i64 (cY c d j)] 51)).call hb)
          clear hb hx hen I
          by_cases hz : IsInt (z (4 * k + j))
          · rw [ans_ok hz, err_ok hz]
            have f0 := I3.out.F.cell (i := 0) rfl
            have f1 := I3.out.F.cell (i := 1) rfl
            have g0 := I3.out.F.free 0
            have g1 := I3.out.F.free 1
            have Zn : Hid (∀ i, i < 4 * k + (j + 1) → IsInt (z i)) := Lib.hid (fun i hi => by
              by_cases c : i = 4 * k + j
              · rw [c]; exact hz
              · exact Z.out i (by omega))
            have In : Hid (EInv w _ w2.heap.size a b c d (mnTo z (4 * k + (j + 1))) (mxTo z (4 * k + (j + 1)))) := Lib.hid ((I3.out.set (min (mnTo z (4 * k + j)) (z (4 * k + j))) (max (mxTo z (4 * k + j)) (z (4 * k + j)))).to rfl rfl)
            clear I3 Z hz
            generalize mnTo z (4 * k + j) = m at *
            generalize mxTo z (4 * k + j) = x at *
            go_wp2_with fail
            go_roundw
            case rel => exact ⟨j + 1, by omega, by go_num, Zn, In⟩
            case measure => simp [intOf]; omega
          · rw [ans_no hz, err_no hz]
            obtain ⟨rfl, rfl, rfl⟩ := HNO.out (4 * k + j) (by omega) hz
            have r0 := I3.out.R.cell (i := 0) rfl
            have r1 := I3.out.R.cell (i := 1) rfl
            have g0 := I3.out.R.free 0
            have g1 := I3.out.R.free 1
            have l3 := I3.out.R.lt
            have low := Lib.hid I3.out.low
            clear I3 Z hz
            go_wp2_with fail
            refine bodyPost_ret (v := .tuple #[.agg #[.int .i64 0, .int .i64 0], .int .i64 5]) (by simp [results, Try.results32, go_sem, r0, r1]) rfl ⟨rfl, ?_⟩
            exact (low.out.setCell (by simp; omega) _).setCell (by simp; omega) _
        · obtain rfl : j = 4 := by omega
          have d4 : decide (((4 : Nat) : Int) < 4) = false := by decide
          rw [show 4 * k + 4 = 4 * (k + 1) by omega] at I Z
          go_wp2_with fail
          go_roundw
          case rel => exact ⟨k + 1, by omega, by go_num, Z, I⟩
          case measure => simp [intOf]; omega
    · obtain rfl : k = n := by omega
      have d1 : decide ((k : Int) < (k : Int)) = false := by simp
      obtain ⟨rfl, rfl, rfl⟩ := HOK.out Z.out
      have r0 := I.out.R.cell (i := 0) rfl
      have r1 := I.out.R.cell (i := 1) rfl
      have g0 := I.out.R.free 0
      have g1 := I.out.R.free 1
      have l3 := I.out.R.lt
      have f0 := I.out.F.cell (i := 0) rfl
      have f1 := I.out.F.cell (i := 1) rfl
      have low := Lib.hid I.out.low
      clear I Z
      go_wp2_with fail
      refine bodyPost_ret (v := .tuple #[.agg #[.int .i64 (mnTo z (4 * k)), .int .i64 (mxTo z (4 * k))], .int .i64 0]) (by simp [results, Try.results32, go_sem, r0, r1]) rfl ⟨rfl, ?_⟩
      exact (low.out.setCell (by simp; omega) _).setCell (by simp; omega) _
end Go.Proofs.Ytacnaencmbnjpaa
