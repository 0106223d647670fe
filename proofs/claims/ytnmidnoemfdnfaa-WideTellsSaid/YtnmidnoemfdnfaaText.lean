/- wide.Text: the decimal digits of a wide number. -/
import Derived.Test.YtnmidnoemfdnfaaTenth
import Derived.Laws.BytesArg
namespace Go.Proofs.Ytnmidnoemfdnfaa
open Go.RowKit

theorem eqZ (w : World) : (Op.equalIn 10000 35 (.agg #[.int .u64 0, .int .u64 0]) (.agg #[.int .u64 0, .int .u64 0])).run Try.prog w = .ok true w := by kernel_rfl
theorem eqA (m : Nat) (b : Int) (w : World) : (Op.equalIn 10000 35 (.agg #[.int .u64 ((m + 1 : Nat) : Int), .int .u64 b]) (.agg #[.int .u64 0, .int .u64 0])).run Try.prog w = .ok false w := by kernel_rfl
theorem eqB (m : Nat) (w : World) : (Op.equalIn 10000 35 (.agg #[.int .u64 0, .int .u64 ((m + 1 : Nat) : Int)]) (.agg #[.int .u64 0, .int .u64 0])).run Try.prog w = .ok false w := by kernel_rfl
theorem eqH (a b : Nat) (w : World) : (Op.equalIn 10000 35 (.agg #[.int .u64 (a : Nat), .int .u64 (b : Nat)]) (.agg #[.int .u64 0, .int .u64 0])).run Try.prog w = .ok (decide (a = 0 ∧ b = 0)) w := by
  cases a with
  | zero =>
    cases b with
    | zero => exact eqZ w
    | succ b => exact (eqB b w).trans (by simp)
  | succ a => exact (eqA a b w).trans (by simp)
theorem eqN (n : Nat) (w : World) : (Op.equalIn 10000 35 (.agg #[.int .u64 (lo n : Nat), .int .u64 (hi n : Nat)]) (.agg #[.int .u64 0, .int .u64 0])).run Try.prog w = .ok (decide (n = 0)) w := by
  rw [eqH]
  congr 1
  rw [decide_eq_decide]
  unfold lo hi
  omega

theorem al39 : Try.prog.arrayLen 47 = 39 := by kernel_rfl
theorem sz5 (w : World) : (sizeOf (Try.prog.elem 47)).run Try.prog w = .ok 1 w := by kernel_rfl
/-- 'digits[g:]' of the 39 places. -/
theorem sl39 (D g : Nat) (hg : g < 39) (w : World) : (Instr.sliceAt 47 (.pointer (some ⟨D, 0, none⟩)) (some (.int .i64 (g : Int))) none none).run Try.prog w = .ok (.slice (some ⟨D, g, none⟩) (39 - g) (39 - g)) w := by
  have h := run_sliceAt_array_l (P := Try.prog) w 47 ⟨D, 0, none⟩ (by kernel_rfl) .i64 (g : Int) (by omega) (by rw [al39]; omega)
  rw [sz5, al39] at h
  rw [h]
  simp only [Result.andThen, slicedAt, Int.toNat_natCast, Nat.mul_one]
  rw [if_neg (by omega)]
  simp [Addr.add]
  omega

/-- Digit number j (from 0, the lowest) of n, as its byte. -/
def dig (n j : Nat) : Nat := 48 + n / 10 ^ j % 10
/-- What place j of the 39 holds behind k digits. -/
def plc (n k j : Nat) : Nat := if 39 - k ≤ j then dig n (38 - j) else 0
structure TextRel (n k : Nat) (w wr : World) : Prop where
  r0 : wr.cell? ⟨w.heap.size + 1 + 1 + 1 + 1, 0, none⟩ = some (.int .u64 (lo (n / 10 ^ k) : Nat))
  r1 : wr.cell? ⟨w.heap.size + 1 + 1 + 1 + 1, 1, none⟩ = some (.int .u64 (hi (n / 10 ^ k) : Nat))
  f0 : wr.frozen? ⟨w.heap.size + 1 + 1 + 1 + 1, 0, none⟩ = false
  f1 : wr.frozen? ⟨w.heap.size + 1 + 1 + 1 + 1, 1, none⟩ = false
  ds : ∀ j, j < 39 → wr.cell? ⟨w.heap.size + 1, j, none⟩ = some (.int .u8 (plc n k j : Nat))
  fs : ∀ j, wr.frozen? ⟨w.heap.size + 1, j, none⟩ = false
  sz : w.heap.size + 5 ≤ wr.heap.size
  be : Below w.heap.size w wr

/-- The text of the m lowest digits, the highest first. -/
def txt (n m : Nat) : List Int := (List.range m).map fun i => ((dig n (m - 1 - i) : Nat) : Int)
/-- m is how many digits n has. -/
def IsLen (n m : Nat) : Prop := 1 ≤ m ∧ m ≤ 39 ∧ n / 10 ^ m = 0 ∧ (m = 1 ∨ n / 10 ^ (m - 1) ≠ 0)
/-- The text of n has been answered; nothing that was in memory before is changed. -/
def TextOut (n : Nat) (w : World) (e : Ending) (w' : World) : Prop := ∃ m, IsLen n m ∧ e = .returned (.string (strOfNums (txt n m))) ∧ Below w.heap.size w w'
theorem TextRel.cells {n k g : Nat} {w W : World} (T : TextRel n (k + 1) w W) (hkg : g + 1 + k = 39) (i : Nat) (hi : i < 39 - g) : W.cell? ⟨w.heap.size + 1, g + i, none⟩ = some (.int .u8 ((txt n (k + 1)).getD i 0)) := by
  rw [T.ds (g + i) (by omega)]
  congr 2
  unfold plc txt
  rw [if_pos (by omega), show 38 - (g + i) = k - i by omega]
  simp [show i < k + 1 by omega]
theorem txt_length (n m : Nat) : (txt n m).length = m := by simp [txt]
theorem TextRel.step {n k g : Nat} {w wr w1 : World} (T : TextRel n k w wr) (hb : Below wr.heap.size wr w1) (hkg : g + 1 + k = 39) :
    TextRel n (k + 1) w (((w1.setCell ⟨w.heap.size + 1 + 1 + 1 + 1, 0, none⟩ (.int .u64 (lo (n / 10 ^ (k + 1)) : Nat))).setCell ⟨w.heap.size + 1 + 1 + 1 + 1, 1, none⟩ (.int .u64 (hi (n / 10 ^ (k + 1)) : Nat))).setCell ⟨w.heap.size + 1, g, none⟩ (.int .u8 (48 + ((n / 10 ^ k % 10 : Nat) : Int)))) := by
  have s5 := T.sz
  have s1 := hb.size
  have c0 := (hb.cell (p := ⟨w.heap.size + 1 + 1 + 1 + 1, 0, none⟩) (by simp; omega)).trans T.r0
  have c1 := (hb.cell (p := ⟨w.heap.size + 1 + 1 + 1 + 1, 1, none⟩) (by simp; omega)).trans T.r1
  have e0 := (hb.frozen (p := ⟨w.heap.size + 1 + 1 + 1 + 1, 0, none⟩) (by simp; omega)).trans T.f0
  have e1 := (hb.frozen (p := ⟨w.heap.size + 1 + 1 + 1 + 1, 1, none⟩) (by simp; omega)).trans T.f1
  have dg := (hb.cell (p := ⟨w.heap.size + 1, g, none⟩) (by simp; omega)).trans (T.ds g (by omega))
  refine ⟨?_, ?_, ?_, ?_, ?_, ?_, ?_, ?_⟩
  · simp [go_sem, c0]
  · simp [go_sem, c1]
  · simpa [go_sem] using e0
  · simpa [go_sem] using e1
  · intro j hj
    have dj := (hb.cell (p := ⟨w.heap.size + 1, j, none⟩) (by simp; omega)).trans (T.ds j hj)
    by_cases hjg : j = g
    · subst hjg
      have e : plc n (k + 1) j = 48 + n / 10 ^ k % 10 := by
        unfold plc dig; rw [if_pos (by omega), show 38 - j = k by omega]
      rw [e]
      simp [go_sem, dg]
    · have e : plc n (k + 1) j = plc n k j := by
        unfold plc
        by_cases h : 39 - k ≤ j
        · rw [if_pos h, if_pos (by omega)]
        · rw [if_neg h, if_neg (by omega)]
      rw [e]
      refine Eq.trans (World.cell?_setCell_other _ _ _ _ (fun e => hjg (by injection e with _ e2; exact e2.symm))) ?_
      simp [go_sem, dj]
  · intro j
    have := (hb.frozen (p := ⟨w.heap.size + 1, j, none⟩) (by simp; omega)).trans (T.fs j)
    simpa [go_sem] using this
  · simp [World.setCell]; omega
  · exact (((T.be.trans (hb.mono (by omega))).setCell (by simp; omega) _).setCell (by simp; omega) _).setCell (by simp) _
theorem big39 (n k : Nat) (hn : n < M128) (h : 39 ≤ k) : n / 10 ^ k = 0 := by
  unfold M128 at hn
  apply Nat.div_eq_of_lt
  have := Nat.pow_le_pow_right (show 0 < 10 by omega) h
  have e : (10 : Nat) ^ 39 = 1000000000000000000000000000000000000000 := by decide
  omega
set_option maxHeartbeats 2000000 in
theorem text_walk (n : Nat) (hn : n < M128) (w : World) :
    Calls Try.prog 19 #[.agg #[.int .u64 (hi n : Nat), .int .u64 (lo n : Nat)]] w (TextOut n w) := by
  go_enter Try.func19, Try.ntmps19
  go_wp2_with (go_at_call 21; refine (split_any _ _ _).mono ?_; rintro e w' ⟨rfl, rfl⟩)
  have T0 : TextRel n 0 w (((((w.alloc (.cells #[.int .u64 (hi n : Nat), .int .u64 (lo n : Nat)] 24)).alloc (.cells (Array.replicate 39 (.int .u8 0)) 47)).alloc (.cells #[.int .u64 (hi n : Nat), .int .u64 (lo n : Nat)] 24)).alloc (.cells #[.int .u64 (lo n : Nat), .int .u64 (hi n : Nat)] 35)).alloc (.cells #[.int .u64 (lo n : Nat), .int .u64 (hi n : Nat)] 35)) := by
    refine ⟨?_, ?_, ?_, ?_, ?_, ?_, ?_, ?_⟩
    · simp [go_sem]
    · simp [go_sem]
    · simp [go_sem]
    · simp [go_sem]
    · intro j hj
      have e : plc n 0 j = 0 := by unfold plc; rw [if_neg (by omega)]
      rw [e]
      simp [go_sem, hj]
    · intro j
      simp [go_sem]
    · simp
    · repeat first | exact Below.refl _ _ | refine Below.alloc ?_ (by first | (simp; done) | (simp; omega)) _
  go_loopw [5, 9] (fun fi i wr => ∃ k f : Nat, f + k = 39 ∧ i = .int .i64 k ∧ fi = .int .i64 f ∧ TextRel n k w wr ∧ (k = 0 ∨ n / 10 ^ k ≠ 0)) (fun _ i _ => 39 - (intOf i).toNat)
  case atStart => exact ⟨0, 39, rfl, rfl, rfl, T0, Or.inl rfl⟩
  case round =>
    clear T0
    obtain ⟨k, f, hkf, rfl, rfl, T, hnz⟩ := hrel
    have hm : n / 10 ^ k < M128 := Nat.lt_of_le_of_lt (Nat.div_le_self _ _) hn
    have hk39 : k < 39 := by
      rcases hnz with h | h
      · omega
      · rcases Nat.lt_or_ge k 39 with h39 | h39
        · exact h39
        · exact absurd (big39 n k hn h39) h
    obtain ⟨g, rfl⟩ : ∃ g, f = g + 1 := ⟨f - 1, by omega⟩
    have c0 := T.r0
    have c1 := T.r1
    have d39 : decide ((k : Int) < 39) = true := by simp; omega
    have HT := Lib.hid T; clear T
    have HN := Lib.hid hnz; clear hnz
    go_wp2_with fail
    refine (tenth_any (n / 10 ^ k) hm _).mono ?_
    rintro e w1 ⟨rfl, hb1⟩
    have s5 := HT.out.sz
    have r0 := (hb1.cell (p := ⟨w.heap.size + 1 + 1 + 1 + 1, 0, none⟩) (by simp; omega)).trans c0
    have r1 := (hb1.cell (p := ⟨w.heap.size + 1 + 1 + 1 + 1, 1, none⟩) (by simp; omega)).trans c1
    have f0 := (hb1.frozen (p := ⟨w.heap.size + 1 + 1 + 1 + 1, 0, none⟩) (by simp; omega)).trans HT.out.f0
    have f1 := (hb1.frozen (p := ⟨w.heap.size + 1 + 1 + 1 + 1, 1, none⟩) (by simp; omega)).trans HT.out.f1
    have dg := (hb1.cell (p := ⟨w.heap.size + 1, g, none⟩) (by simp; omega)).trans (HT.out.ds g (by omega))
    have df := (hb1.frozen (p := ⟨w.heap.size + 1, g, none⟩) (by simp; omega)).trans (HT.out.fs g)
    have HB := Lib.hid hb1
    have hs1 := hb1.size
    clear hb1 c0 c1
    have hd : n / 10 ^ k % 10 < 10 := Nat.mod_lt _ (by omega)
    generalize hdg : n / 10 ^ k % 10 = d at *
    have HD := Lib.hid hdg; clear hdg
    have u1 : IntKind.u8.wrap (d : Int) = (d : Int) := by rw [IntKind.wrap_u8]; omega
    have u2 : IntKind.u8.wrap (48 + (d : Int)) = 48 + (d : Int) := by rw [IntKind.wrap_u8]; omega
    have g0 : (0 : Int) ≤ (g : Int) := by omega
    have g39 : (g : Int) < 39 := by omega
    have e10 : n / 10 ^ k / 10 = n / 10 ^ (k + 1) := by rw [Nat.div_div_eq_div_mul, ← Nat.pow_succ]
    rw [e10]
    by_cases hq : n / 10 ^ (k + 1) = 0
    · have he : ∀ W, (Op.equalIn 10000 35 (.agg #[.int .u64 (lo (n / 10 ^ (k + 1)) : Nat), .int .u64 (hi (n / 10 ^ (k + 1)) : Nat)]) (.agg #[.int .u64 0, .int .u64 0])).run Try.prog W = .ok true W := fun W => by rw [eqN, hq]; rfl
      have HQ := Lib.hid hq; clear hq e10
      have T' := TextRel.step HT.out HB.out (g := g) (by omega)
      rw [HD.out] at T'
      have hsl := sl39 (w.heap.size + 1) g (by omega)
      have hcv := run_convert_bytes_arg _ 50 5 Try.underlying50 Try.underlying5 (w.heap.size + 1) g (39 - g) (39 - g) (txt n (k + 1)) (by rw [txt_length]; omega) (fun i hi => T'.cells (by omega) i hi) 9 Try.underlying9
      have HT' := Lib.hid T'; clear T'
      have HLen : Hid (IsLen n (k + 1)) := Lib.hid ⟨by omega, by omega, HQ.out, HN.out.elim (fun h => Or.inl (by omega)) (fun h => Or.inr h)⟩
      go_wp2_with fail
      go_ret
      exact ⟨k + 1, HLen.out, rfl, HT'.out.be⟩
    · have he : ∀ W, (Op.equalIn 10000 35 (.agg #[.int .u64 (lo (n / 10 ^ (k + 1)) : Nat), .int .u64 (hi (n / 10 ^ (k + 1)) : Nat)]) (.agg #[.int .u64 0, .int .u64 0])).run Try.prog W = .ok false W := fun W => by rw [eqN]; simp [hq]
      have HQ := Lib.hid hq; clear hq e10
      go_wp2_with fail
      go_roundw
      case rel =>
        have T' := TextRel.step HT.out HB.out (g := g) (by omega)
        rw [HD.out] at T'
        exact ⟨k + 1, g, by omega, by go_num, rfl, T', Or.inr HQ.out⟩
      case measure => simp [intOf]; omega
end Go.Proofs.Ytnmidnoemfdnfaa
