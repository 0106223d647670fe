/- datumref01.Text: the decimal digits of a wide number, by pieces; nothing that was in memory before is changed. -/
import Derived.Test.YtnmidnoemfdnfaaPieces
import Derived.Test.YtnmidnoemfdnfaaText
namespace Go.Proofs.Ytnmidnoemfdnfaa
open Go.RowKit

/-- Was any of the t highest pieces of N/10 more than 0? -/
def smB (N : Nat) : Nat → Bool
  | 0 => false
  | t + 1 => smB N t || decide (0 < pc (N / 10) (7 - t))
/-- What is left of the t highest pieces. -/
def rrN (N t : Nat) : Nat := N / 65536 ^ (8 - t) % 10
/-- Piece j behind t steps. -/
def pcT (N t j : Nat) : Nat := if 8 - t ≤ j then pc (N / 10) j else pc N j
theorem long_step (N j t : Nat) (h : j + t = 7) : (rrN N t * 65536 + pc N j) / 10 = pc (N / 10) j ∧ (rrN N t * 65536 + pc N j) % 10 = rrN N (t + 1) := by
  unfold rrN pc
  rw [show 8 - t = j + 1 by omega, show 8 - (t + 1) = j by omega]
  have e1 : N / 65536 ^ (j + 1) = N / 65536 ^ j / 65536 := by rw [Nat.pow_succ, Nat.div_div_eq_div_mul]
  have e2 : N / 10 / 65536 ^ j = N / 65536 ^ j / 10 := by rw [Nat.div_div_eq_div_mul, Nat.div_div_eq_div_mul, Nat.mul_comm]
  rw [e1, e2]
  generalize N / 65536 ^ j = M
  omega
theorem rrN_lt (N t : Nat) : rrN N t < 10 := Nat.mod_lt _ (by omega)
theorem rrN_0 (N : Nat) (h : N < M128) : rrN N 0 = 0 := by
  unfold rrN M128 at *
  have : N / 65536 ^ (8 - 0) = 0 := Nat.div_eq_of_lt (by simpa using h)
  rw [this]
theorem rrN_8 (N : Nat) : rrN N 8 = N % 10 := by unfold rrN; simp
theorem smB_false (N : Nat) : ∀ t, t ≤ 8 → smB N t = false → ∀ j, 8 - t ≤ j → j < 8 → pc (N / 10) j = 0
  | 0, _, _, j, h1, h2 => by omega
  | t + 1, ht, h, j, h1, h2 => by
    simp only [smB, Bool.or_eq_false_iff, decide_eq_false_iff_not] at h
    by_cases e : j = 7 - t
    · subst e; omega
    · exact smB_false N t (by omega) h.1 j (by omega) h2
theorem smB_true (N : Nat) : ∀ t, smB N t = true → N / 10 ≠ 0
  | 0, h => by simp [smB] at h
  | t + 1, h => by
    simp only [smB, Bool.or_eq_true, decide_eq_true_eq] at h
    rcases h with h | h
    · exact smB_true N t h
    · intro e
      rw [e] at h
      unfold pc at h
      simp at h
theorem smB_8 (N : Nat) (hN : N < M128) : smB N 8 = decide (N / 10 ≠ 0) := by
  cases h : smB N 8 with
  | true => have := smB_true N 8 h; simp; omega
  | false =>
    have z := smB_false N 8 (by omega) h
    have v := vTo_pc (N / 10) (Nat.lt_of_le_of_lt (Nat.div_le_self _ _) hN)
    have e : vTo (pc (N / 10)) 8 = 0 := by
      simp only [vTo]
      rw [z 0 (by omega) (by omega), z 1 (by omega) (by omega), z 2 (by omega) (by omega), z 3 (by omega) (by omega), z 4 (by omega) (by omega), z 5 (by omega) (by omega), z 6 (by omega) (by omega), z 7 (by omega) (by omega)]
    rw [e] at v
    simp only [ne_eq, decide_not, Bool.false_eq, Bool.not_eq_false', decide_eq_true_eq]
    exact v.symm
theorem txt_succ (n k : Nat) : txt n (k + 1) = ((dig n k : Nat) : Int) :: txt n k := by
  unfold txt
  rw [List.range_succ_eq_map, List.map_cons, List.map_map]
  congr 1
  apply List.map_congr_left
  intro i hi
  have := List.mem_range.1 hi
  simp only [Function.comp]
  rw [show k + 1 - 1 - (i + 1) = k - 1 - i by omega]

structure RTextRel (n k t : Nat) (g : Nat) (w wr : World) : Prop where
  cs : ∀ j, j < 8 → wr.cell? ⟨g, j, none⟩ = some (.int .u64 (pcT (n / 10 ^ k) t j : Nat))
  fs : ∀ j, wr.frozen? ⟨g, j, none⟩ = false
  lt : g < wr.heap.size
  ge : w.heap.size ≤ g
  be : Below w.heap.size w wr
theorem pcT_0 (N j : Nat) (h : j < 8) : pcT N 0 j = pc N j := by unfold pcT; rw [if_neg (by omega)]
theorem pcT_8 (N j : Nat) : pcT N 8 j = pc (N / 10) j := by unfold pcT; rw [if_pos (by omega)]
theorem RTextRel.step {n k t g j x : Nat} {w wr : World} (T : RTextRel n k t g w wr) (hj : j + t = 7) (hx : x = pc (n / 10 ^ k / 10) j) : RTextRel n k (t + 1) g w (wr.setCell ⟨g, j, none⟩ (.int .u64 (x : Nat))) := by
  refine ⟨?_, ?_, ?_, T.ge, T.be.setCell T.ge _⟩
  · intro i hi
    by_cases e : i = j
    · subst e
      have c := T.cs i hi
      rw [show pcT (n / 10 ^ k) (t + 1) i = x by unfold pcT; rw [if_pos (by omega), hx]]
      simp [go_sem, c]
    · rw [show pcT (n / 10 ^ k) (t + 1) i = pcT (n / 10 ^ k) t i by
        unfold pcT
        by_cases h : 8 - t ≤ i
        · rw [if_pos h, if_pos (by omega)]
        · rw [if_neg h, if_neg (by omega)]]
      exact (World.cell?_setCell_other _ _ _ _ (fun e' => e (by injection e' with _ e2; exact e2.symm))).trans (T.cs i hi)
  · intro i
    have := T.fs i
    simpa [go_sem] using this
  · simpa [World.setCell] using T.lt

theorem conv1 (W : World) (c : Int) : (convert 50 9 (.slice (some ⟨W.heap.size, 0, none⟩) 1 1)).run Try.prog (W.alloc (.cells #[.int .u8 c] 5)) = .ok (.string (strOfNums [c])) (W.alloc (.cells #[.int .u8 c] 5)) :=
  run_convert_bytes_arg (P := Try.prog) _ 50 5 Try.underlying50 Try.underlying5 W.heap.size 0 1 1 [c] rfl (fun i hi => by
    obtain rfl : i = 0 := by omega
    simp [go_sem]) 9 Try.underlying9
theorem strCons (c : Int) (ys : List Int) : strOfNums [c] ++ strOfNums ys = strOfNums (c :: ys) := by
  apply ByteArray.ext
  simp [strOfNums, ByteArray.data_append]
def strLen : Value → Nat
  | .string s => s.size
  | _ => 0
set_option maxHeartbeats 2000000 in
theorem rtext_walk (n : Nat) (hn : n < M128) (w : World) :
    Calls Try.prog 20 #[.agg #[.int .u64 (hi n : Nat), .int .u64 (lo n : Nat)]] w (TextOut n w) := by
  go_enter Try.func20, Try.ntmps20
  go_wp2_with fail
  refine (pieces_any n _).mono ?_
  rintro e w1 ⟨g, cap, rfl, hg0, hg1, _, hcx, hfz, hb1⟩
  simp at hg0
  have T0 : RTextRel n 0 0 g w w1 := ⟨fun j hj => by rw [pcT_0 _ _ hj]; simpa using hcx j hj, hfz, hg1, by omega, ((Below.refl _ _).alloc (Nat.le_refl _) _).trans (hb1.mono (by simp))⟩
  have HT0 := Lib.hid T0; clear T0 hcx hfz hb1 hg0 hg1
  have e0 : strOfNums (txt n 0) = ⟨#[]⟩ := rfl
  go_wp2_with fail
  go_loopw [4] (fun out wr => ∃ k : Nat, k ≤ 38 ∧ out = .string (strOfNums (txt n k)) ∧ RTextRel n k 0 g w wr ∧ (k = 0 ∨ n / 10 ^ k ≠ 0)) (fun out _ => 39 - strLen out)
  case atStart => exact ⟨0, by omega, by rw [e0], HT0.out, Or.inl rfl⟩
  case round =>
    clear HT0
    obtain ⟨k, hk, rfl, T, hnz⟩ := hrel
    have hN : n / 10 ^ k < M128 := Nat.lt_of_le_of_lt (Nat.div_le_self _ _) hn
    have r0 : rrN (n / 10 ^ k) 0 = 0 := rrN_0 _ hN
    have HT := Lib.hid T; clear T
    have HN := Lib.hid hnz; clear hnz
    have HR := Lib.hid r0; clear r0
    go_wp2_with fail
    obtain ⟨wo, hwo⟩ : ∃ wo : World, wo = wr := ⟨_, rfl⟩
    rw [← hwo] at HT ⊢
    clear hwo
    go_loopw [5, 6, 7] (fun r s i wi => ∃ (t : Nat) (iv : Int), t ≤ 8 ∧ iv = 7 - (t : Int) ∧ i = .int .i64 iv ∧ r = .int .u64 (rrN (n / 10 ^ k) t : Nat) ∧ s = .bool (smB (n / 10 ^ k) t) ∧ RTextRel n k t g w wi) (fun _ _ i _ => (intOf i + 1).toNat)
    case atStart => exact ⟨0, 7, by omega, by omega, rfl, by rw [HR.out]; rfl, rfl, HT.out⟩
    case round =>
      clear HT
      obtain ⟨t, iv, ht, hiv, rfl, rfl, rfl, T⟩ := hrel
      by_cases h8 : t < 8
      · obtain ⟨j, hj⟩ : ∃ j, j + t = 7 := ⟨7 - t, by omega⟩
        obtain rfl : iv = (j : Int) := by omega
        have cj : wr.cell? ⟨g, j, none⟩ = some (.int .u64 (pc (n / 10 ^ k) j : Nat)) := by
          have := T.cs j (by omega)
          rw [show pcT (n / 10 ^ k) t j = pc (n / 10 ^ k) j by unfold pcT; rw [if_neg (by omega)]] at this
          exact this
        have fj := T.fs j
        obtain ⟨q1, q2⟩ := long_step (n / 10 ^ k) j t hj
        have br := rrN_lt (n / 10 ^ k) t
        have bx := pc_lt (n / 10 ^ k) j
        have Hs : Hid (smB (n / 10 ^ k) (t + 1) = (smB (n / 10 ^ k) t || decide (0 < pc (n / 10 ^ k / 10) j))) := Lib.hid (by rw [show j = 7 - t by omega]; rfl)
        have HT := Lib.hid T; clear T
        have H1 := Lib.hid q1; have H2 := Lib.hid q2; clear q1 q2
        have HI := Lib.hid hiv; clear hiv
        have HJ := Lib.hid hj
        have j8 : j < 8 := by omega
        have j8' : (j : Int) < 8 := by omega
        have j0 : (0 : Int) ≤ (j : Int) := by omega
        generalize hrr : rrN (n / 10 ^ k) t = r at *
        generalize hxx : pc (n / 10 ^ k) j = x at *
        generalize smB (n / 10 ^ k) t = s at *
        clear hrr hxx
        obtain ⟨y, hy⟩ : ∃ y, y = (r * 65536 + x) / 10 := ⟨_, rfl⟩
        obtain ⟨z, hz⟩ : ∃ z, z = (r * 65536 + x) % 10 := ⟨_, rfl⟩
        have hq : (((r : Int) * 65536 + (x : Int)) / 10) = (y : Int) := by omega
        have hq2 : (((r : Int) * 65536 + (x : Int)) % 10) = (z : Int) := by omega
        have HY := Lib.hid hy; have HZ := Lib.hid hz; clear hy hz
        have T' := HT.out.step HJ.out (HY.out.trans H1.out)
        have HT' := Lib.hid T'; clear T'
        by_cases hp : 0 < y
        · have hp' : decide ((0 : Int) < (y : Int)) = true := by simp; omega
          go_wp2_with fail
          go_roundw
          case rel =>
            exact ⟨t + 1, _, by omega, by omega, rfl, congrArg (Value.int .u64) (by rw [← H2.out, ← HZ.out]; exact hq2), congrArg Value.bool (by rw [Hs.out, ← H1.out, ← HY.out]; simp [hp]), HT'.out⟩
          case measure => simp [intOf]
        · have hp' : decide ((0 : Int) < (y : Int)) = false := by simp; omega
          go_wp2_with fail
          go_roundw
          case rel => exact ⟨t + 1, _, by omega, by omega, rfl, congrArg (Value.int .u64) (by rw [← H2.out, ← HZ.out]; exact hq2), congrArg Value.bool (by rw [Hs.out, ← H1.out, ← HY.out]; simp [hp]), HT'.out⟩
          case measure => simp [intOf]
      · obtain rfl : t = 8 := by omega
        obtain rfl : iv = -1 := by omega
        have es := smB_8 (n / 10 ^ k) hN
        have er := rrN_8 (n / 10 ^ k)
        have br := rrN_lt (n / 10 ^ k) 8
        have HT := Lib.hid T; clear T
        generalize hrr : rrN (n / 10 ^ k) 8 = r at *
        generalize hss : smB (n / 10 ^ k) 8 = s at *
        have HE := Lib.hid er; clear er hrr hss hiv
        have hcv := conv1 wr (48 + (r : Int))
        have u2 : IntKind.u8.wrap (48 + (r : Int)) = 48 + (r : Int) := by rw [IntKind.wrap_u8]; omega
        have e10 : n / 10 ^ k / 10 = n / 10 ^ (k + 1) := by rw [Nat.div_div_eq_div_mul, ← Nat.pow_succ]
        rw [e10] at es
        have E10 := Lib.hid e10; clear e10
        have hsz : (strOfNums [48 + (r : Int)]).size + (strOfNums (txt n k)).size ≤ 9223372036854775807 := by rw [strOfNums_size, strOfNums_size, txt_length]; simp; omega
        have HTX : Hid (strOfNums [48 + (r : Int)] ++ strOfNums (txt n k) = strOfNums (txt n (k + 1))) := Lib.hid (by
          rw [strCons, txt_succ]
          congr 2
          unfold dig
          rw [HE.out]
          omega)
        have hb' : Below w.heap.size w (wr.alloc (.cells #[.int .u8 (48 + (r : Int))] 5)) := HT.out.be.alloc (Nat.le_of_lt (Nat.lt_of_le_of_lt HT.out.ge HT.out.lt)) _
        have HB := Lib.hid hb'; clear hb'
        by_cases hq : n / 10 ^ (k + 1) = 0
        · obtain rfl : s = false := by rw [es]; simp [hq]
          clear es
          have HLen : Hid (IsLen n (k + 1)) := Lib.hid ⟨by omega, by omega, hq, HN.out.elim (fun h => Or.inl (by omega)) (fun h => Or.inr h)⟩
          clear hq
          go_wp2_with fail
          go_ret
          exact ⟨k + 1, HLen.out, by rw [← HTX.out]; rfl, HB.out⟩
        · obtain rfl : s = true := by rw [es]; simp [hq]
          clear es
          have hk38 : k + 1 ≤ 38 := by
            rcases Nat.lt_or_ge (k + 1) 39 with h | h
            · omega
            · exact absurd (big39 n (k + 1) hn h) hq
          have HQ := Lib.hid hq; clear hq
          have T' : RTextRel n (k + 1) 0 g w (wr.alloc (.cells #[.int .u8 (48 + (r : Int))] 5)) := ⟨fun j hj => by
            rw [pcT_0 _ _ hj, ← E10.out, ← pcT_8]
            exact (World.cell?_alloc_lt _ _ _ HT.out.lt).trans (HT.out.cs j hj), fun j => by
            have := HT.out.fs j
            have l := HT.out.lt
            simpa [go_sem, l] using this, by have := HT.out.lt; simp; omega, HT.out.ge, HB.out⟩
          have HT' := Lib.hid T'; clear T'
          go_wp2_with fail
          go_roundw
          case rel => exact ⟨k + 1, hk38, by rw [HTX.out], HT'.out, Or.inr HQ.out⟩
          case measure =>
            rw [HTX.out]
            simp only [strLen]
            rw [strOfNums_size, strOfNums_size, txt_length, txt_length]
            omega
end Go.Proofs.Ytnmidnoemfdnfaa
