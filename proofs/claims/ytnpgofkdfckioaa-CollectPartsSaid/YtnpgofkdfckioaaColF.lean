/- The reference's Same; datumlaw10.few; collect.cut: a row by itself. -/
import Derived.Test.YtnpgofkdfckioaaColE
import Derived.Laws.CopyOwn
import Derived.Laws.OwnMore
namespace Go.Proofs.Ytnpgofkdfckioaa
open Go.RowKit

/-! ### Same -/
def sameB (s1 lo1 hi1 s2 lo2 hi2 : Int) (xs ys : List Int) : Bool := decide (s1 = s2) && (decide (lo1 = lo2) && (decide (hi1 = hi2) && decide (xs = ys)))
set_option maxHeartbeats 2000000 in
set_option maxRecDepth 100000 in
theorem same10_any (s1 lo1 hi1 s2 lo2 hi2 : Int) (xs ys : List Int) (u v : Value) (w : World) (ha : ReadsI w u xs) (hb : ReadsI w v ys) :
    Calls Try.prog 15 #[.agg #[.int .i64 s1, .int .i64 lo1, .int .i64 hi1, u], .agg #[.int .i64 s2, .int .i64 lo2, .int .i64 hi2, v]] w fun e w' => e = .returned (.bool (sameB s1 lo1 hi1 s2 lo2 hi2 xs ys)) ∧ Below w.heap.size w w' := by
  have hB := ((Below.refl w.heap.size w).alloc (Nat.le_refl _) (.cells #[.int .i64 s1, .int .i64 lo1, .int .i64 hi1, u] 24)).alloc (by simp) (.cells #[.int .i64 s2, .int .i64 lo2, .int .i64 hi2, v] 24)
  have hcall := ints_any xs ys u v _ (ha.below hB) (hb.below hB)
  obtain ⟨a1, p1, rfl, -⟩ := ha
  obtain ⟨a2, p2, rfl, -⟩ := hb
  unfold sameB
  generalize decide (xs = ys) = X at hcall ⊢
  generalize xs.length = n1 at *
  generalize ys.length = n2 at *
  by_cases h1 : s1 = s2
  · subst h1
    by_cases h2 : lo1 = lo2
    · subst h2
      by_cases h3 : hi1 = hi2
      · subst h3
        rw [show (decide (s1 = s1) && (decide (lo1 = lo1) && (decide (hi1 = hi1) && X))) = X by simp]
        go_enter Try.func15, Try.ntmps15
        go_wp2_with fail
        refine hcall.mono ?_
        rintro e w2 ⟨rfl, m, rfl⟩
        go_wp2
        go_ret
        exact ⟨rfl, Below.drewN hB m⟩
      · rw [show (decide (s1 = s1) && (decide (lo1 = lo1) && (decide (hi1 = hi2) && X))) = false by simp [h3]]
        have q3 : (hi1 == hi2) = false := beq_false_of_ne h3
        clear hcall
        go_enter Try.func15, Try.ntmps15
        go_wp2
        go_ret
        exact ⟨rfl, hB⟩
    · rw [show (decide (s1 = s1) && (decide (lo1 = lo2) && (decide (hi1 = hi2) && X))) = false by simp [h2]]
      have q2 : (lo1 == lo2) = false := beq_false_of_ne h2
      clear hcall
      go_enter Try.func15, Try.ntmps15
      go_wp2
      go_ret
      exact ⟨rfl, hB⟩
  · rw [show (decide (s1 = s2) && (decide (lo1 = lo2) && (decide (hi1 = hi2) && X))) = false by simp [h1]]
    have q1 : (s1 == s2) = false := beq_false_of_ne h1
    clear hcall
    go_enter Try.func15, Try.ntmps15
    go_wp2
    go_ret
    exact ⟨rfl, hB⟩

/-! ### Parts of a slice -/
theorem ReadsI.take {w : World} {ao : Option Addr} {n cap : Nat} {xs : List Int} (h : ReadsI w (.slice ao n cap) xs) (k : Nat) (hk : k ≤ n) : ReadsI w (.slice ao k cap) (xs.take k) := by
  obtain ⟨ao', cap', h1, h2, h3, h4⟩ := h
  injection h1 with e1 e2 e3
  subst e1 e2 e3
  have hl : (xs.take k).length = k := by rw [List.length_take]; omega
  refine ⟨ao, cap, by rw [hl], by omega, h3, fun i hi => ?_⟩
  rw [hl] at hi
  obtain ⟨b, off, h5, h6, h7⟩ := h4 i (by omega)
  refine ⟨b, off, h5, h6, ?_⟩
  rw [h7, List.getD_eq_getElem?_getD, List.getD_eq_getElem?_getD, List.getElem?_take_of_lt hi]
theorem sizeInt (w : World) : (sizeOf 3).run Try.prog w = .ok 1 w := by
  obtain ⟨i, hi, h0, h1, h2⟩ := info_parts infoInt
  simp [sizeOf, typeInfo, hi, h1]
theorem elemInts : (Try.prog).elem 22 = 3 := by kernel_rfl
theorem slice_hi (ao : Option Addr) (n cap k : Nat) (hk : k ≤ cap) (w : World) : (Instr.slice 22 (.slice ao n cap) none (some (.int .i64 (k : Int))) none).run Try.prog w = .ok (.slice ao k cap) w := by
  have h := run_slice_h (P := Try.prog) w 22 ao n cap (by rw [elemInts]; exact Try.underlying22) .i64 (k : Int) (by omega) (by omega)
  rw [h, elemInts, sizeInt]
  simp only [Result.andThen, sliced, Int.toNat_natCast, Nat.sub_zero]
  cases ao with
  | none => simp
  | some a => simp; intro _; rfl

/-! ### Results that lie in a block of their own -/
theorem res_cell {P : Program} {fn : Func} {tmps : Array Value} {w : World} {a : Nat} {t : TypeId} {ad : Addr} {v : Value} (h : fn.results = #[.cell a t]) (ha : tmps.getD a undef = .pointer (some ad)) (hl : (loadVar t ad).run P w = .ok v w) :
    (results fn tmps).run P w = .ok v w := by
  have ha' : tmps[a]?.getD undef = .pointer (some ad) := by simpa using ha
  simp [results, h, ha', hl, asAddr]
theorem res_cell1 {P : Program} {fn : Func} {tmps : Array Value} {w : World} {a e : Nat} {t : TypeId} {ad : Addr} {v : Value} (h : fn.results = #[.cell a t, .tmp e]) (ha : tmps.getD a undef = .pointer (some ad)) (hl : (loadVar t ad).run P w = .ok v w) :
    (results fn tmps).run P w = .ok (.tuple #[v, tmps.getD e undef]) w := by
  have ha' : tmps[a]?.getD undef = .pointer (some ad) := by simpa using ha
  simp [results, h, ha', hl, asAddr]
theorem res_cell2 {P : Program} {fn : Func} {tmps : Array Value} {w : World} {a e f : Nat} {t : TypeId} {ad : Addr} {v : Value} (h : fn.results = #[.cell a t, .tmp e, .tmp f]) (ha : tmps.getD a undef = .pointer (some ad)) (hl : (loadVar t ad).run P w = .ok v w) :
    (results fn tmps).run P w = .ok (.tuple #[v, tmps.getD e undef, tmps.getD f undef]) w := by
  have ha' : tmps[a]?.getD undef = .pointer (some ad) := by simpa using ha
  simp [results, h, ha', hl, asAddr]
theorem res_cell3 {P : Program} {fn : Func} {tmps : Array Value} {w : World} {a e f g : Nat} {t : TypeId} {ad : Addr} {v : Value} (h : fn.results = #[.cell a t, .tmp e, .tmp f, .tmp g]) (ha : tmps.getD a undef = .pointer (some ad)) (hl : (loadVar t ad).run P w = .ok v w) :
    (results fn tmps).run P w = .ok (.tuple #[v, tmps.getD e undef, tmps.getD f undef, tmps.getD g undef]) w := by
  have ha' : tmps[a]?.getD undef = .pointer (some ad) := by simpa using ha
  simp [results, h, ha', hl, asAddr]
theorem size4 : (Try.prog).cellsOf 24 = 4 := by kernel_rfl
theorem infoGrp : ((Try.prog).info? 24).map (·.size) = some 4 := by kernel_rfl
theorem load4 {w : World} {b : Nat} {c0 c1 c2 c3 : Value} (h : Has w b [c0, c1, c2, c3] 24) : (loadVar 24 ⟨b, 0, none⟩).run Try.prog w = .ok (.agg #[c0, c1, c2, c3]) w :=
  run_loadVar_mid w b 0 24 [c0, c1, c2, c3] _ h.range Try.underlying24 rfl infoGrp
/-! ### few -/
set_option maxRecDepth 100000 in
theorem few10_any (s lo hi : Int) (ao : Option Addr) (n cap k : Nat) (w : World) (hk : k = min n 12) (hlc : n ≤ cap) (hcm : cap ≤ maxLen) :
    Calls Try.prog 7 #[.agg #[.int .i64 s, .int .i64 lo, .int .i64 hi, .slice ao n cap]] w fun e w' => e = .returned (.agg #[.int .i64 s, .int .i64 lo, .int .i64 hi, .slice ao k cap]) ∧ Below w.heap.size w w' := by
  unfold maxLen at hcm
  rcases Nat.lt_or_ge 12 n with c | c
  · obtain rfl : k = 12 := by omega
    have g1 : (12 : Int) < (n : Int) := by omega
    have g2 : min (n : Int) 12 = 12 := by omega
    clear hk
    have hsl : ∀ W, (Instr.slice 22 (.slice ao n cap) none (some (.int .i64 12)) none).run Try.prog W = .ok (.slice ao 12 cap) W := slice_hi ao n cap 12 (by omega)
    have hB := ((Below.refl w.heap.size w).alloc (Nat.le_refl _) (.cells #[.int .i64 s, .int .i64 lo, .int .i64 hi, .slice ao 12 cap] 24)).alloc (by simp) (.cells #[.int .i64 s, .int .i64 lo, .int .i64 hi, .slice ao 12 cap] 24)
    have hZ := Has.new (w.alloc (.cells #[.int .i64 s, .int .i64 lo, .int .i64 hi, .slice ao 12 cap] 24)) [.int .i64 s, .int .i64 lo, .int .i64 hi, .slice ao 12 cap] 24
    rw [show (w.alloc (.cells #[.int .i64 s, .int .i64 lo, .int .i64 hi, .slice ao 12 cap] 24)).heap.size = w.heap.size + 1 by simp] at hZ
    have HZ := Lib.hid hZ
    clear hZ
    go_enter Try.func7, Try.ntmps7
    go_wp2
    (try simp only [Exit.inBlock, Exit.then])
    exact bodyPost_ret (res_cell Try.results7 rfl (load4 HZ.out)) rfl ⟨rfl, hB⟩
  · obtain rfl : k = n := by omega
    have g1 : ¬ (12 : Int) < (k : Int) := by omega
    have g2 : min (k : Int) 12 = (k : Int) := by omega
    clear hk
    have hsl : ∀ W, (Instr.slice 22 (.slice ao k cap) none (some (.int .i64 (k : Int))) none).run Try.prog W = .ok (.slice ao k cap) W := slice_hi ao k cap k (by omega)
    have hB := ((Below.refl w.heap.size w).alloc (Nat.le_refl _) (.cells #[.int .i64 s, .int .i64 lo, .int .i64 hi, .slice ao k cap] 24)).alloc (by simp) (.cells #[.int .i64 s, .int .i64 lo, .int .i64 hi, .slice ao k cap] 24)
    have hZ := Has.new (w.alloc (.cells #[.int .i64 s, .int .i64 lo, .int .i64 hi, .slice ao k cap] 24)) [.int .i64 s, .int .i64 lo, .int .i64 hi, .slice ao k cap] 24
    rw [show (w.alloc (.cells #[.int .i64 s, .int .i64 lo, .int .i64 hi, .slice ao k cap] 24)).heap.size = w.heap.size + 1 by simp] at hZ
    have HZ := Lib.hid hZ
    clear hZ
    go_enter Try.func7, Try.ntmps7
    go_wp2
    (try simp only [Exit.inBlock, Exit.then])
    exact bodyPost_ret (res_cell Try.results7 rfl (load4 HZ.out)) rfl ⟨rfl, hB⟩
/-- Of a slice the first few are read. -/
theorem ReadsI.few {w : World} {ao : Option Addr} {n cap : Nat} {xs : List Int} (h : ReadsI w (.slice ao n cap) xs) (N k : Nat) (hk : k = min n N) : ReadsI w (.slice ao k cap) (xs.take N) := by
  have hn : n = xs.length := by
    obtain ⟨_, _, e, _⟩ := h
    injection e
  have e : xs.take k = xs.take N := by rw [hk, hn, Nat.min_comm, ← List.take_eq_take_min]
  rw [← e]
  exact h.take k (by omega)
end Go.Proofs.Ytnpgofkdfckioaa
