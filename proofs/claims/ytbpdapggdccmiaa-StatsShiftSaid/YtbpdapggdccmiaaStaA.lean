/- The reference of stage 11: In, square, times. -/
import Derived.Test.YtbpdapggdccmiaaStaR
import Derived.Test.YtbpdapggdccmiaaStaM
import Derived.Test.YtbpdapggdccmiaaIRow
import Derived.Test.YtbpdapggdccmiaaHas
import Derived.Deep.MidRow
namespace Go.Proofs.Ytbpdapggdccmiaa
open Go.RowKit

/-! ### In -/
def InRel (l : List Int) (n : Nat) (w : World) (i : Value) (wr : World) : Prop := ∃ k : Nat, k ≤ n ∧ i = .int .i64 (k : Nat) ∧ (∀ j, j < k → -1000000 ≤ l.getD j 0 ∧ l.getD j 0 ≤ 1000000) ∧ wr = w
theorem inB_yes {l : List Int} (h : ∀ j, j < l.length → -1000000 ≤ l.getD j 0 ∧ l.getD j 0 ≤ 1000000) : inB l = true := by
  unfold inB
  rw [List.all_eq_true]
  intro x hx
  obtain ⟨j, hj, rfl⟩ := List.getElem_of_mem hx
  have := h j hj
  rw [List.getD_eq_getElem?_getD, List.getElem?_eq_getElem hj] at this
  exact decide_eq_true this
theorem inB_no {l : List Int} (j : Nat) (hj : j < l.length) (h : ¬ (-1000000 ≤ l.getD j 0 ∧ l.getD j 0 ≤ 1000000)) : inB l = false := by
  unfold inB
  rw [List.all_eq_false]
  refine ⟨l[j], List.getElem_mem _, fun hc => h ?_⟩
  rw [List.getD_eq_getElem?_getD, List.getElem?_eq_getElem hj]
  exact of_decide_eq_true hc
set_option maxRecDepth 100000 in
theorem rin_any (l : List Int) (v : Value) (w : World) (hr : ReadsI w v l) :
    Calls Try.prog 13 #[v] w fun e w' => e = .returned (.bool (inB l)) ∧ w' = w := by
  obtain ⟨ao, cap, rfl, hlc, hcm, hc⟩ := hr
  unfold maxLen at hcm
  have HC := Lib.hid hc
  clear hc
  obtain ⟨X, hX⟩ : ∃ X, inB l = X := ⟨_, rfl⟩
  rw [hX]
  have HY := Lib.hid (fun hx => hX.symm.trans (inB_yes (l := l) hx))
  have HZ := Lib.hid (fun j hj h => hX.symm.trans (inB_no (l := l) j hj h))
  obtain ⟨n, hn⟩ : ∃ n, l.length = n := ⟨_, rfl⟩
  rw [hn] at hlc ⊢
  have HN := Lib.hid hn
  clear hX hn
  go_enter Try.func13, Try.ntmps13
  go_wp2
  go_loopw [7] (InRel l n w) (fun i _ => n - (intOf i).toNat)
  case atStart => exact ⟨0, Nat.zero_le _, rfl, fun j hj => absurd hj (Nat.not_lt_zero _), rfl⟩
  case round =>
    obtain ⟨k, hk, rfl, hgood, rfl⟩ := hrel
    have HG := Lib.hid hgood
    clear hgood
    by_cases hl : k < n
    · obtain ⟨b, o, rfl, hlt, hd⟩ := HC.out k (by rw [HN.out]; exact hl)
      obtain ⟨x, hxk⟩ : ∃ x, l.getD k 0 = x := ⟨_, rfl⟩
      rw [hxk] at hd
      have HK := Lib.hid hxk
      clear hxk
      by_cases h1 : -1000000 ≤ x
      · by_cases h2 : x ≤ 1000000
        · have g1 : ¬ x < -1000000 := by omega
          have g2 : ¬ 1000000 < x := by omega
          have HL := Lib.hid (And.intro h1 h2)
          clear h1 h2
          go_wp2
          go_roundw
          case rel =>
            refine ⟨k + 1, by omega, by go_num, fun j hj => ?_, rfl⟩
            rcases Nat.lt_succ_iff_lt_or_eq.1 hj with hj | rfl
            · exact HG.out j hj
            · rw [HK.out]
              exact HL.out
          case measure => simp [intOf]; omega
        · have HE := Lib.hid (HZ.out k (by rw [HN.out]; exact hl) (by rw [HK.out]; omega))
          have g1 : ¬ x < -1000000 := by omega
          have g2 : 1000000 < x := by omega
          clear h1 h2
          go_wp2
          go_ret
          exact ⟨by rw [HE.out]; rfl, rfl⟩
      · have HE := Lib.hid (HZ.out k (by rw [HN.out]; exact hl) (by rw [HK.out]; omega))
        have g1 : x < -1000000 := by omega
        clear h1
        go_wp2
        go_ret
        exact ⟨by rw [HE.out]; rfl, rfl⟩
    · obtain rfl : k = n := by omega
      have HE := Lib.hid (HY.out (by rw [HN.out]; exact HG.out))
      go_wp2
      go_ret
      exact ⟨by rw [HE.out]; rfl, rfl⟩
/-! ### square, times -/
theorem sizeW2 : ((Try.prog).info? 25).map (·.size) = some 2 := by kernel_rfl
theorem loadW2 {w : World} {b : Nat} {c0 c1 : Value} (h : Has w b [c0, c1] 25) : (loadVar 25 ⟨b, 0, none⟩).run Try.prog w = .ok (.agg #[c0, c1]) w :=
  run_loadVar_mid w b 0 25 [c0, c1] _ h.range Try.underlying25 rfl sizeW2
theorem resW {P : Program} {fn : Func} {tmps : Array Value} {w : World} {a : Nat} {t : TypeId} {ad : Addr} {v : Value} (h : fn.results = #[.cell a t]) (ha : tmps.getD a undef = .pointer (some ad)) (hl : (loadVar t ad).run P w = .ok v w) :
    (results fn tmps).run P w = .ok v w := by
  have ha' : tmps[a]?.getD undef = .pointer (some ad) := by simpa using ha
  simp [results, h, ha', hl, asAddr]
theorem fieldM (D : Bool) (h l : Int) (w : World) : (Instr.field 51 (.agg #[.bool D, .int .u64 h, .int .u64 l]) 1).run Try.prog w = .ok (.agg #[.int .u64 h, .int .u64 l]) w := by kernel_rfl
theorem rsquare_any (x : Int) (hx : IsInt x) (w : World) :
    Calls Try.prog 30 #[.int .i64 x] w fun e w' => e = .returned (.agg #[.int .u64 (hi (x * x).toNat : Nat), .int .u64 (lo (x * x).toNat : Nat)]) ∧ Below w.heap.size w w' := by
  have hp := fun w => product_any x x hx hx w
  have e : (x * x).natAbs = (x * x).toNat := by have := sq_nonneg' x; omega
  unfold zS at hp
  rw [e] at hp
  generalize (x * x).toNat = n at hp ⊢
  generalize decide (x * x < 0) = D at hp
  clear e
  have hz := Has.new w [.int .u64 0, .int .u64 0] 25
  have hb := (Below.refl w.heap.size w).alloc (Nat.le_refl _) (.cells #[.int .u64 0, .int .u64 0] 25)
  have hs : (w.alloc (.cells #[.int .u64 0, .int .u64 0] 25)).heap.size = w.heap.size + 1 := by simp
  have hp1 := hp (w.alloc (.cells #[.int .u64 0, .int .u64 0] 25))
  have hfm := fieldM D (hi n : Nat) (lo n : Nat)
  have HZ := Lib.hid hz
  have HB := Lib.hid hb
  clear hz hb hp
  go_enter Try.func30, Try.ntmps30
  go_wp2_with fail
  refine hp1.mono ?_
  rintro e w2 ⟨rfl, k2⟩
  have zH := HZ.out.call k2
  have hb2 := HB.out.trans (k2.mono (by rw [hs]; omega))
  have z0 : w2.cell? ⟨w.heap.size, 0, none⟩ = some (.int .u64 0) := zH.cell 0
  have z1 : w2.cell? ⟨w.heap.size, 1, none⟩ = some (.int .u64 0) := zH.cell 1
  have f0 : w2.frozen? ⟨w.heap.size, 0, none⟩ = false := zH.frozen 0
  have f1 : w2.frozen? ⟨w.heap.size, 1, none⟩ = false := zH.frozen 1
  have HR := Lib.hid ((zH.set 0 (.int .u64 (hi n : Nat))).set 1 (.int .u64 (lo n : Nat)))
  have HB2 := Lib.hid ((hb2.setCell (p := ⟨w.heap.size, 0, none⟩) (Nat.le_refl _) (.int .u64 (hi n : Nat))).setCell (p := ⟨w.heap.size, 1, none⟩) (Nat.le_refl _) (.int .u64 (lo n : Nat)))
  clear hp1 k2 zH hb2
  go_wp2
  (try simp only [Exit.inBlock, Exit.then])
  exact bodyPost_ret (resW Try.results30 rfl (loadW2 HR.out)) rfl ⟨rfl, HB2.out⟩
end Go.Proofs.Ytbpdapggdccmiaa
