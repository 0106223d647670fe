/- RecipePrints: for every recipe: whether it may be, and its text, are as the reference has them, or refused as it is. No condition but that the library's variables that the row lists hold what the program's own text lays in them (the card ties that). -/
import Derived.Test.YtdimgomigidbkaaGreatDoorPk9
import Derived.Laws.IdiomStrings
import Derived.Test.YtdimgomigidbkaaGreatDoorCards
import Derived.Test.YtdimgomigidbkaaGreatDoorTie
/- The law of RecipeBack. -/
namespace Go.Proofs.YtdimgomigidbkaaGreatDoor
open Go.RowKit

theorem fewC_fin {l : List Ch} (hf : ∀ c ∈ l, c.fin) : ∀ c ∈ fewC l, c.fin := fun c hc => by
  obtain ⟨u, hu, rfl⟩ := List.mem_map.1 hc
  exact hf u (List.mem_of_mem_take hu)
theorem CRow.own {B b : Nat} {v u : Value} {l : List Ch} {w : World} (h : CRow B v l w) (hb : b < B) : CRow B v l (w.setCell ⟨b, 0, none⟩ u) := h.kept (WB.set (b := b) w 0 u) hb
set_option linter.unusedSimpArgs false in
set_option maxHeartbeats 0 in
set_option maxRecDepth 100000 in
theorem back_walk (l : List Ch) (va : Value) (w : World) (ht : ∀ i, i < l.length → (nthC l i).name.length ≤ 9223372036854775807) (hf : ∀ c ∈ l, c.fin) (ha : ReadsC w va l) (hE : EnvR w) :
    Calls Tryz.prog 5 #[.agg #[va]] w fun e w' => e = .returned (.bool true) ∧ Below w.heap.size w w' := by
  have hB := (Below.refl w.heap.size w).alloc (Nat.le_refl _) (.cells #[va] 24)
  have hx := Has.new w [va] 24
  have hfw := few8_any l va _ ht (ha.below hB)
  have hE1 := hE.below hB
  have hlen := fewC_len l
  have hnm := fun i hi => Nat.le_trans (fewC_name l i hi) (show 20 ≤ 100000 by decide)
  have hpr := fun W v (hR : ReadsC W v (fewC l)) (hE : Env W) => print8_any (fewC l) v W (by omega) hR hnm hE
  have hsm := fun W v u (h1 : ReadsC W v (fewC l)) (h2 : ReadsC W u (fewC l)) => sameC_any (fewC l) v u W (by omega) h1 h2
  have hrp := fun h => read_print (fewC l) h (fewC_fin hf)
  have HLEN := Lib.hid hlen
  have hs1 : (w.alloc (.cells #[va] 24)).heap.size = w.heap.size + 1 := by simp
  rw [hs1] at hfw
  obtain ⟨a0, p0, rfl, -⟩ := ha
  clear ht hf hE1 hnm hlen
  unfold print8 at hpr
  generalize fewC l = m at *
  go_enter Tryz.func5, Tryz.ntmps5
  go_wp2_with fail
  refine hfw.mono ?_
  rintro e w2 ⟨v1, rfl, hr2, k2⟩
  have hs2 := k2.size
  have hx2 := hx.of (k2.block w.heap.size (by omega))
  have hB2 := hB.trans (k2.mono (by omega))
  rw [hs1] at hs2
  obtain ⟨a1, p1, hv1, -⟩ := hr2.reads
  subst hv1
  have c0 : w2.cell? ⟨w.heap.size, 0, none⟩ = some (.slice a0 l.length p0) := hx2.cell 0
  have f0 : w2.frozen? ⟨w.heap.size, 0, none⟩ = false := hx2.frozen 0
  have hx3 := hx2.set 0 (.slice a1 m.length p1)
  have hr3 := hr2.own (b := w.heap.size) (u := .slice a1 m.length p1) (by omega)
  have hB3 := hB2.setCell (p := ⟨w.heap.size, 0, none⟩) (Nat.le_refl _) (.slice a1 m.length p1)
  have hs3 : (w2.setCell ⟨w.heap.size, 0, none⟩ (.slice a1 m.length p1)).heap.size = w2.heap.size := by simp
  clear hfw hr2 k2 hx hB hx2 hB2
  have hn3 := hpr _ _ hr3.reads (hE.below hB3).1
  cases hq : recB m with
  | false =>
    rw [hq, if_neg (show ¬ (false = true) from by decide)] at hn3
    clear hr3 hx3 hpr hsm hrp hq
    go_wp2_with fail
    refine hn3.mono ?_
    rintro e w4 ⟨rfl, k4⟩
    have hB4 := hB3.trans (k4.mono (by rw [hs3]; omega))
    have hal := alive8_any w4 (hE.below hB4)
    clear hn3 hB3 k4
    go_wp2_with fail
    refine hal.mono ?_
    rintro e w5 ⟨rfl, k5⟩
    have hB5 := hB4.trans (k5.mono hB4.size)
    go_wp2
    go_ret
    exact ⟨rfl, hB5⟩
  | true =>
    rw [hq, if_pos rfl] at hn3
    have hps := fun W (hE : EnvR W) => parse_any (printR m) W hE
    unfold ParseEnd at hps
    rw [hrp hq] at hps
    dsimp only at hps
    generalize printR m = tx at *
    clear hpr hrp hq
    go_wp2_with fail
    refine hn3.mono ?_
    rintro e w4 ⟨rfl, k4⟩
    have hB4 := hB3.trans (k4.mono (by rw [hs3]; omega))
    have hs4 := k4.size
    rw [hs3] at hs4
    have hx4 := hx3.call k4
    have hr4 := hr3.below k4
    have hn4 := hps _ (hE.below hB4)
    clear hn3 hB3 k4 hx3 hr3 hps
    go_wp2_with fail
    refine hn4.mono ?_
    rintro e w5 ⟨v2, rfl, hr5, k5⟩
    obtain ⟨a2, p2, hv2, -⟩ := hr5.reads
    subst hv2
    have hb6 := (Below.refl w5.heap.size w5).alloc (Nat.le_refl _) (.cells #[.slice a2 m.length p2] 24)
    have hs5 := k5.size
    have hB6 := (hB4.trans (k5.mono (by omega))).trans (hb6.mono (by omega))
    have hx6 := (hx4.call k5).call hb6
    have hr6 := (hr4.below k5).below hb6
    have hq6 := hr5.below hb6
    have hy6 := Has.new w5 [.slice a2 m.length p2] 24
    have hs6 : (w5.alloc (.cells #[.slice a2 m.length p2] 24)).heap.size = w5.heap.size + 1 := by simp
    have hal := alive8_any _ (hE.below hB6)
    clear hn4 hB4 k5 hb6 hx4 hr4 hr5
    go_wp2_with fail
    refine hal.mono ?_
    rintro e w7 ⟨rfl, k7⟩
    have hs7 := k7.size
    rw [hs6] at hs7
    have hx7 := hx6.call k7
    have hy7 := hy6.call k7
    have hB7 := hB6.trans (k7.mono (by rw [hs6]; omega))
    have c7 : w7.cell? ⟨w.heap.size, 0, none⟩ = some (.slice a1 m.length p1) := hx7.cell 0
    have d7 : w7.cell? ⟨w5.heap.size, 0, none⟩ = some (.slice a2 m.length p2) := hy7.cell 0
    have hn7 := hsm w7 _ _ (hq6.below k7).reads (hr6.below k7).reads
    clear hal hB6 k7 hx6 hr6 hq6 hy6 hx7 hy7 hsm
    go_wp2_with fail
    refine hn7.mono ?_
    rintro e w8 ⟨rfl, k8⟩
    have hB8 := hB7.trans (k8.mono (by omega))
    go_wp2
    go_ret
    exact ⟨rfl, hB8⟩
end Go.Proofs.YtdimgomigidbkaaGreatDoor
/- The reference's Digits. -/
namespace Go.Proofs.YtdimgomigidbkaaGreatDoor
open Go.RowKit

set_option maxRecDepth 100000 in
theorem digits_low (n : Nat) (h : n < 10) (w : World) :
    Calls Tryz.prog 31 #[.int .i64 (n : Nat)] w fun e w' => e = .returned (.string (bs (digN n))) ∧ Below w.heap.size w w' := by
  rw [digN_low n h]
  have hb := (Below.refl w.heap.size w).alloc (Nat.le_refl _) (.cells #[.int .u8 ((48 : Int) + (n : Int))] 5)
  have hcv : (convert 57 9 (.slice (some ⟨w.heap.size, 0, none⟩) 1 1)).run Tryz.prog (w.alloc (.cells #[.int .u8 ((48 : Int) + (n : Int))] 5)) = .ok (.string (bs [UInt8.ofNat (48 + n)])) (w.alloc (.cells #[.int .u8 ((48 : Int) + (n : Int))] 5)) := by
    refine run_convert_bytes_back (P := Tryz.prog) _ _ _ 5 ⟨w.heap.size, 0, none⟩ 1 [UInt8.ofNat (48 + n)] Tryz.underlying57 Tryz.underlying5 Tryz.underlying9 fun j hj => ?_
    have hj0 : j = 0 := by simp at hj; exact hj
    subst hj0
    have hc := (Has.new w [.int .u8 ((48 : Int) + (n : Int))] 5).cell 0
    have e : ([UInt8.ofNat (48 + n)] : List UInt8)[0].toNat = 48 + n := byte_of _ (by omega)
    rw [e, show (⟨w.heap.size, 0, none⟩ : Addr).add 0 = ⟨w.heap.size, 0, none⟩ from rfl]
    exact hc
  generalize ([UInt8.ofNat (48 + n)] : List UInt8) = D at hcv
  go_enter Tryz.func31, Tryz.ntmps31
  go_wp2_with fail
  go_ret
  exact ⟨rfl, hb⟩
theorem digits_len (n : Nat) (h : n < 100000000000) : (digN n).length ≤ 11 := digN_len 11 n (by omega) (by decide)
set_option maxRecDepth 100000 in
theorem digits_nat (n : Nat) : n < 100000000000 → ∀ w : World, Calls Tryz.prog 31 #[.int .i64 (n : Nat)] w fun e w' => e = .returned (.string (bs (digN n))) ∧ Below w.heap.size w w' := by
  induction n using Nat.strongRecOn with
  | _ n ih =>
    intro hn w
    by_cases h : n < 10
    · exact digits_low n h w
    · have hq := ih (n / 10) (by omega) (by omega)
      have hr := ih (n % 10) (by omega) (by omega)
      have e1 : digN n = digN (n / 10) ++ digN (n % 10) := by rw [digN_high n h, digN_low (n % 10) (by omega)]
      have l1 := digits_len (n / 10) (by omega)
      have l2 := digits_len (n % 10) (by omega)
      have hadd : ∀ W, (Op.stringOp .add (bs (digN (n / 10))) (bs (digN (n % 10)))).run Tryz.prog W = .ok (.string (bs (digN n))) W := fun W => by
        rw [run_add_bs W _ _ (by omega), ← e1]
      have hqn : (((n / 10 : Nat) : Nat) : Int) = (n : Int) / 10 := by omega
      have hrn : (((n % 10 : Nat) : Nat) : Int) = (n : Int) % 10 := by omega
      rw [hqn] at hq
      rw [hrn] at hr
      generalize digN (n / 10) = A at hq hadd
      generalize digN (n % 10) = B at hr hadd
      generalize digN n = D at hadd
      clear ih e1 l1 l2 hqn hrn
      have h10 : 10 ≤ n := by omega
      clear h
      go_enter Tryz.func31, Tryz.ntmps31
      go_wp2_with fail
      refine (hq _).mono ?_
      rintro e w2 ⟨rfl, h2⟩
      go_wp2_with fail
      refine (hr _).mono ?_
      rintro e w3 ⟨rfl, h3⟩
      clear hq hr
      go_wp2_with fail
      go_ret
      exact ⟨rfl, h2.trans (h3.mono h2.size)⟩
set_option maxRecDepth 100000 in
theorem digits_any (z : Int) (h1 : -10000000000 ≤ z) (h2 : z ≤ 10000000000) (w : World) :
    Calls Tryz.prog 31 #[.int .i64 z] w fun e w' => e = .returned (.string (bs (digZ z))) ∧ Below w.heap.size w w' := by
  by_cases hz : z < 0
  · have hq := digits_nat z.natAbs (by omega)
    have hl := digits_len z.natAbs (by omega)
    have hadd : ∀ W, (Op.stringOp .add ⟨#[45]⟩ (bs (digN z.natAbs))).run Tryz.prog W = .ok (.string (bs (digZ z))) W := fun W => by
      rw [digZ_neg hz]
      exact run_add_bs W [45] _ (by simp; omega)
    have hzn : ((z.natAbs : Nat) : Int) = -z := by omega
    rw [hzn] at hq
    generalize digN z.natAbs = A at hq hadd hl
    generalize digZ z = D at hadd
    clear hzn
    go_enter Tryz.func31, Tryz.ntmps31
    go_wp2_with fail

    refine (hq _).mono ?_
    rintro e w2 ⟨rfl, h2⟩
    go_wp2_with fail
    go_ret
    exact ⟨rfl, h2⟩
  · have hq := digits_nat z.natAbs (by omega) w
    rw [show ((z.natAbs : Nat) : Int) = z by omega] at hq
    rw [digZ_pos hz]
    exact hq
end Go.Proofs.YtdimgomigidbkaaGreatDoor
/- A region that draws its order: what holds may be made more on the way; and a region walked by what holds between its operations, whatever order comes. -/
namespace Go.Proofs.YtdimgomigidbkaaGreatDoor
open Go.RowKit
section
variable {P : Program} {ops : Array Oper} {Q : Exit → Act → World → Prop} {md : Region.Mode} {S S' : World → Prop}
/-- What holds behind each operation may be more from here on. -/
theorem wpAnyH_more (hS : ∀ w, S' w → S w) : ∀ (n : Nat) (l : Array Bool) (a : Act) (w : World), wpAnyH P md ops Q S' n l a w → wpAnyH P md ops Q S n l a w
  | 0, _, _, _, h => h
  | n + 1, _, _, _, h => ⟨h.1, fun i hi => wpOp_mono (fun a' w' h' => ⟨hS _ h'.1, wpAnyH_more hS n _ a' w' h'.2⟩) (h.2 i hi)⟩
/-- How many have not come up. -/
def opensB (l : Array Bool) : Nat := l.toList.countP (fun b => !b)
theorem opensB_set {l : Array Bool} {i : Nat} (h : l.getD i true = false) : opensB (l.setIfInBounds i true) < opensB l := by
  unfold opensB
  have hi : i < l.size := by
    rcases Nat.lt_or_ge i l.size with c | c
    · exact c
    · simp [Array.getElem?_eq_none c] at h
  have hl : l.toList[i]'(by simpa using hi) = false := by simpa [hi] using h
  rw [Array.toList_setIfInBounds]
  have e : ∀ (m : List Bool) (i : Nat) (hi : i < m.length), m[i] = false → (m.set i true).countP (fun b => !b) < m.countP (fun b => !b) := by
    intro m
    induction m with
    | nil => intro i hi; exact absurd hi (Nat.not_lt_zero _)
    | cons b m ih =>
      intro i hi hb
      cases i with
      | zero =>
        have hb : b = false := hb
        subst hb
        simp
      | succ i =>
        have := ih i (by simpa using hi) (by simpa using hb)
        simp only [List.set_cons_succ, List.countP_cons]
        omega
  exact e l.toList i (by simpa using hi) hl
theorem wpAny_of_inv (I : Array Bool → Act → World → Prop)
    (hstep : ∀ l a w i, i ∈ Region.ready md ops l → I l a w → wpOp P ops Q i (fun a' w' => I (l.setIfInBounds i true) a' w') a w)
    (hend : ∀ l a w, Region.ready md ops l = [] → I l a w → Q .normal a w) :
    ∀ (n : Nat) (l : Array Bool) (a : Act) (w : World), opensB l ≤ n → I l a w → wpAny P md ops Q n l a w
  | 0, l, a, w, hn, h => by
    have h0 : Region.ready md ops l = [] := by
      rcases e : Region.ready md ops l with _ | ⟨i, r⟩
      · rfl
      · have := opensB_set (mem_ready.1 (show i ∈ Region.ready md ops l by rw [e]; simp)).1
        omega
    exact ⟨h0, hend l a w h0 h⟩
  | n + 1, l, a, w, hn, h => ⟨fun h0 => hend l a w h0 h, fun i hi => wpOp_mono (fun a' w' h' => wpAny_of_inv I hstep hend n _ a' w' (by
      have := opensB_set (mem_ready.1 hi).1
      omega) h') (hstep l a w i hi h)⟩
theorem wp_region_inv {id : Nat} {a : Act} {w : World} (I : Array Bool → Act → World → Prop) (hm : P.follows .mixedOrders = true)
    (h0 : I (Array.replicate ops.size false) a w.drew)
    (hstep : ∀ l a w i, i ∈ Region.ready .any ops l → I l a w → wpOp P ops Q i (fun a' w' => I (l.setIfInBounds i true) a' w') a w)
    (hend : ∀ l a w, Region.ready .any ops l = [] → I l a w → Q .normal a w) : (Code.region id ops true).wp P Q a w :=
  wp_region_any hm (wpAny_of_inv I hstep hend _ _ _ _ (by
    unfold opensB
    refine Nat.le_trans List.countP_le_length ?_
    simp) h0)
end
end Go.Proofs.YtdimgomigidbkaaGreatDoor
/- The reference of stage 8: a recipe's text. -/
namespace Go.Proofs.YtdimgomigidbkaaGreatDoor
open Go.RowKit

def hdT (c : Ch) : List UInt8 := [99, 104, 97, 110, 110, 101, 108, 32] ++ c.name ++ [32] ++ chartW.getD c.ch [] ++ [32, 123, 10]
def lnT (c : Ch) (k : Nat) : List UInt8 := fieldW.getD k [] ++ [32] ++ digZ (c.f k) ++ [59, 10]
def fldT (c : Ch) (k : Nat) : List UInt8 := ((List.range k).filter (showB c)).flatMap (lnT c)
theorem fldT_yes {c : Ch} {k : Nat} (h : showB c k = true) : fldT c (k + 1) = fldT c k ++ lnT c k := by
  unfold fldT
  rw [List.range_succ, List.filter_append, List.flatMap_append]
  simp [h]
theorem fldT_no {c : Ch} {k : Nat} (h : showB c k = false) : fldT c (k + 1) = fldT c k := by
  unfold fldT
  rw [List.range_succ, List.filter_append, List.flatMap_append]
  simp [h]
theorem chanT (c : Ch) : layN (chanF c) = hdT c ++ fldT c 12 ++ [125, 10] := by
  have e : ∀ T : List Nat, layN (linesF c T) = T.flatMap (lnT c) := fun T => by
    unfold linesF
    induction T with
    | nil => rfl
    | cons r T ih =>
      rw [List.flatMap_cons, List.flatMap_cons, layN_append, ih]
      unfold lineF lnT
      simp [layN, Tok.bytes, wtok, ntok, mtok, textN]
  unfold chanF fldT hdT
  rw [layN_append, layN_append, e]
  unfold headF shown
  simp [layN, Tok.bytes, wtok, mtok, textN, chanW]
theorem printR_more {l : List Ch} {i : Nat} (hi : i < l.length) : printR (l.take (i + 1)) = printR (l.take i) ++ layN (chanF (nthC l i)) := by
  have e : printR [nthC l i] = layN (chanF (nthC l i)) := by unfold printR recF; simp
  rw [nthC_get l i hi, ← List.take_append_getElem hi, printR_append, ← nthC_get l i hi, e]
theorem name_len {c : Ch} (h : c.may) : c.name.length ≤ 12 := by
  rcases h.name with ⟨-, -, -, h, -⟩ | ⟨h, -⟩ | ⟨h, -⟩
  · exact h
  · exact absurd h (by decide)
  · exact absurd h (by decide)
theorem chart_sz : ∀ k, k < 8 → (chartW.getD k []).length ≤ 6 := by decide
theorem field_sz : ∀ k, k < 12 → (fieldW.getD k []).length ≤ 6 := by decide
theorem shown_fit {c : Ch} (h : c.may) {k : Nat} (hk : k < 12) (hs : showB c k = true) : (digZ (c.f k)).length ≤ 12 ∧ -10000000000 ≤ c.f k ∧ c.f k ≤ 10000000000 := by
  have hn := within_num hk (h.shown hk hs).2
  have hb := bytes_le (t := ⟨2, [], c.f k, 0⟩) hn
  rcases hn with ⟨h, -⟩ | ⟨-, -, h1, h2⟩ | ⟨h, -⟩
  · exact absurd h (by decide)
  · exact ⟨hb, by omega, by omega⟩
  · rcases h with h | h | h <;> exact absurd h (by decide)
theorem fldT_len {c : Ch} (h : c.may) : ∀ k, k ≤ 12 → (fldT c k).length ≤ 40 * k
  | 0, _ => Nat.le_refl _
  | k + 1, hk => by
    have ih := fldT_len h k (by omega)
    cases e : showB c k with
    | false => rw [fldT_no e]; omega
    | true =>
      rw [fldT_yes e, List.length_append]
      have h1 := (shown_fit h hk e).1
      have h2 := field_sz k hk
      unfold lnT
      simp only [List.length_append, List.length_cons, List.length_nil]
      omega
/-- The loops' rounds. -/
def PRel (l : List Ch) (n : Nat) (w : World) (s i : Value) (wr : World) : Prop := ∃ k : Nat, k ≤ n ∧ i = .int .i64 (k : Nat) ∧ s = .string (bs (printR (l.take k))) ∧ Below w.heap.size w wr
def PRel2 (T : List UInt8) (c : Ch) (w : World) (b g go : Nat) (s i : Value) (wr : World) : Prop :=
  ∃ k : Nat, k ≤ 12 ∧ i = .int .i64 (k : Nat) ∧ s = .string (bs (T ++ fldT c k)) ∧ Below w.heap.size w wr ∧ Has wr b (chL c) 37 ∧ g < wr.heap.size ∧ ∀ i, i < 12 → wr.cell? ⟨g, go + i, none⟩ = some (.string (bs (fieldW.getD i [])))
set_option linter.unusedSimpArgs false in
set_option maxHeartbeats 0 in
set_option maxRecDepth 100000 in
theorem rprint_any (l : List Ch) (v : Value) (w : World) (hr : ReadsC w v l) (hq : recB l = true) :
    Calls Tryz.prog 16 #[.agg #[v]] w fun e w' => e = .returned (.string (bs (printR l))) ∧ Below w.heap.size w w' := by
  have hB := (Below.refl w.heap.size w).alloc (Nat.le_refl _) (.cells #[v] 24)
  obtain ⟨ao, cap, rfl, hlc, hcm, hc⟩ := hr
  unfold maxLen at hcm
  have HC := Lib.hid hc
  obtain ⟨⟨hl1, hl4⟩, hmay, -⟩ := (recB_iff l).1 hq
  have HMAY := Lib.hid (show ∀ i, i < l.length → (nthC l i).may from fun i hi => hmay _ (by rw [nthC_get l i hi]; exact List.getElem_mem hi))
  have HLEN := Lib.hid (show ∀ k, (printR (l.take k)).length ≤ 2132 from fun k => print_len _ (fun c hc => hmay c (List.mem_of_mem_take hc)) (by rw [List.length_take]; omega))
  have HSN := Lib.hid (show ∀ i, i < l.length → printR (l.take (i + 1)) = printR (l.take i) ++ layN (chanF (nthC l i)) from fun i hi => printR_more hi)
  have HEND := Lib.hid (show printR (l.take l.length) = printR l by rw [List.take_length])
  have HST := Lib.hid (show printR (l.take 0) = [] from rfl)
  clear hc hq hmay
  obtain ⟨PR, hPR⟩ : ∃ PR, printR l = PR := ⟨_, rfl⟩
  rw [hPR]
  have HPR := Lib.hid hPR
  clear hPR
  obtain ⟨n, hn⟩ : ∃ n, l.length = n := ⟨_, rfl⟩
  have HN := Lib.hid hn
  rw [hn] at hl1 hl4 hlc hB
  rw [hn]
  clear hn
  go_enter Tryz.func16, Tryz.ntmps16
  go_wp2
  go_loopw [3, 11] (PRel l n w) (fun _ i _ => n - (intOf i).toNat)
  case atStart => exact ⟨0, Nat.zero_le _, rfl, by rw [HST.out]; rfl, hB⟩
  case round =>
    obtain ⟨k, hk, rfl, rfl, hb⟩ := hrel
    clear hB
    by_cases hl : k < n
    · obtain ⟨b, o, rfl, hlt, hd⟩ := HC.out k (by rw [HN.out]; exact hl)
      have hmk := HMAY.out k (by rw [HN.out]; exact hl)
      have HS := Lib.hid (HSN.out k (by rw [HN.out]; exact hl))
      have hlk := HLEN.out k
      have hd := hd.below hb hlt
      generalize nthC l k = c at *
      obtain ⟨a, ha8, hca⟩ : ∃ a : Nat, a < 8 ∧ c.chart = (a : Int) := ⟨c.ch, hmk.ch8.1, hmk.ch8.2⟩
      have hch : c.ch = a := by unfold Ch.ch; rw [hca]; rfl
      obtain ⟨x0, x1, x2, x3, x4, x5, x6, x7, x8, x9, x10, x11, x12, x13⟩ := hd
      rw [hca] at x1
      have hnl := name_len hmk
      have hwl := chart_sz a ha8
      have HFL := Lib.hid (fun k hk => fldT_len hmk k hk)
      have HSF := Lib.hid (fun k hk hs => shown_fit hmk (k := k) hk hs)
      have HCA := Lib.hid hca
      have HCH := Lib.hid hch
      have HCT := Lib.hid (chanT c)
      have hnd := fun k hk W => need_any a k ha8 hk W
      have hgt := fun k hk W => get_any c k hk W
      rw [chVA_eq hca] at hgt
      unfold chVA at hgt
      obtain ⟨T, hT⟩ : ∃ T, printR (l.take k) = T := ⟨_, rfl⟩
      rw [hT] at hlk HS
      rw [hT]
      have HT := Lib.hid hT
      have a1 : ∀ W, (Op.stringOp .add (bs T) ⟨#[99, 104, 97, 110, 110, 101, 108, 32]⟩).run Tryz.prog W = .ok (.string (bs (T ++ [99, 104, 97, 110, 110, 101, 108, 32]))) W := fun W => run_add_bs W T [99, 104, 97, 110, 110, 101, 108, 32] (by simp; omega)
      have a2 : ∀ W, (Op.stringOp .add (bs (T ++ [99, 104, 97, 110, 110, 101, 108, 32])) (bs c.name)).run Tryz.prog W = .ok (.string (bs (T ++ [99, 104, 97, 110, 110, 101, 108, 32] ++ c.name))) W := fun W => run_add_bs W (T ++ [99, 104, 97, 110, 110, 101, 108, 32]) c.name (by simp; omega)
      have a3 : ∀ W, (Op.stringOp .add (bs (T ++ [99, 104, 97, 110, 110, 101, 108, 32] ++ c.name)) ⟨#[32]⟩).run Tryz.prog W = .ok (.string (bs (T ++ [99, 104, 97, 110, 110, 101, 108, 32] ++ c.name ++ [32]))) W := fun W => run_add_bs W (T ++ [99, 104, 97, 110, 110, 101, 108, 32] ++ c.name) [32] (by simp; omega)
      have a4 : ∀ W, (Op.stringOp .add (bs (T ++ [99, 104, 97, 110, 110, 101, 108, 32] ++ c.name ++ [32])) (bs (chartW.getD a []))).run Tryz.prog W = .ok (.string (bs (T ++ [99, 104, 97, 110, 110, 101, 108, 32] ++ c.name ++ [32] ++ chartW.getD a []))) W := fun W => run_add_bs W (T ++ [99, 104, 97, 110, 110, 101, 108, 32] ++ c.name ++ [32]) (chartW.getD a []) (by simp only [List.length_append, List.length_cons, List.length_nil]; omega)
      have a5 : ∀ W, (Op.stringOp .add (bs (T ++ [99, 104, 97, 110, 110, 101, 108, 32] ++ c.name ++ [32] ++ chartW.getD a [])) ⟨#[32, 123, 10]⟩).run Tryz.prog W = .ok (.string (bs (T ++ hdT c))) W := fun W => by
        refine (run_add_bs W (T ++ [99, 104, 97, 110, 110, 101, 108, 32] ++ c.name ++ [32] ++ chartW.getD a []) [32, 123, 10] (by simp only [List.length_append, List.length_cons, List.length_nil]; omega)).trans ?_
        unfold hdT
        rw [hch]
        simp
      have hhl : (T ++ hdT c).length ≤ 3000 := by unfold hdT; rw [hch]; simp only [List.length_append, List.length_cons, List.length_nil]; omega
      have ht0 : T ++ hdT c = T ++ hdT c ++ fldT c 0 := by unfold fldT; simp
      clear hmk hca hch hT
      have HT0 := Lib.hid ht0
      clear ht0
      generalize hwd : chartW.getD a [] = wd at *
      have HWD := Lib.hid hwd
      clear hwd
      generalize T ++ [99, 104, 97, 110, 110, 101, 108, 32] ++ c.name ++ [32] ++ wd = H4 at *
      generalize T ++ [99, 104, 97, 110, 110, 101, 108, 32] ++ c.name ++ [32] = H3 at *
      generalize T ++ [99, 104, 97, 110, 110, 101, 108, 32] ++ c.name = H2 at *
      generalize T ++ [99, 104, 97, 110, 110, 101, 108, 32] = H1 at *
      generalize hHT : T ++ hdT c = H5 at *
      have HHT := Lib.hid hHT
      clear hHT
      obtain ⟨wo, hwo⟩ : ∃ wo : World, wo = wr := ⟨_, rfl⟩
      subst hwo
      have hc0 : chL c = [.string (bs c.name), .int .i64 (a : Int), .int .i64 (c.f 0), .int .i64 (c.f 1), .int .i64 (c.f 2), .int .i64 (c.f 3), .int .i64 (c.f 4), .int .i64 (c.f 5), .int .i64 (c.f 6), .int .i64 (c.f 7), .int .i64 (c.f 8), .int .i64 (c.f 9), .int .i64 (c.f 10), .int .i64 (c.f 11)] := by unfold chL; rw [HCA.out]
      have hx := Has.new wo (chL c) 37
      rw [hc0] at hx
      have hs0 := hb.size
      have hbn := hb.alloc hs0 (.cells #[.string (bs c.name), .int .i64 (a : Int), .int .i64 (c.f 0), .int .i64 (c.f 1), .int .i64 (c.f 2), .int .i64 (c.f 3), .int .i64 (c.f 4), .int .i64 (c.f 5), .int .i64 (c.f 6), .int .i64 (c.f 7), .int .i64 (c.f 8), .int .i64 (c.f 9), .int .i64 (c.f 10), .int .i64 (c.f 11)] 37)
      have hsn : (wo.alloc (.cells #[.string (bs c.name), .int .i64 (a : Int), .int .i64 (c.f 0), .int .i64 (c.f 1), .int .i64 (c.f 2), .int .i64 (c.f 3), .int .i64 (c.f 4), .int .i64 (c.f 5), .int .i64 (c.f 6), .int .i64 (c.f 7), .int .i64 (c.f 8), .int .i64 (c.f 9), .int .i64 (c.f 10), .int .i64 (c.f 11)] 37)).heap.size = wo.heap.size + 1 := by simp
      have hrd := charts_any
      clear hlt
      go_upto_region 5 with fail
      refine wp_region_held_drew (S := (fun w' : World => w'.cell? ⟨wo.heap.size, 0, none⟩ = some (.string (bs c.name)) ∧ w'.cell? ⟨wo.heap.size, 1, none⟩ = some (.int .i64 (a : Int)) ∧ Hid (Has w' wo.heap.size [.string (bs c.name), .int .i64 (a : Int), .int .i64 (c.f 0), .int .i64 (c.f 1), .int .i64 (c.f 2), .int .i64 (c.f 3), .int .i64 (c.f 4), .int .i64 (c.f 5), .int .i64 (c.f 6), .int .i64 (c.f 7), .int .i64 (c.f 8), .int .i64 (c.f 9), .int .i64 (c.f 10), .int .i64 (c.f 11)] 37 ∧ Below wo.heap.size wo w' ∧ wo.heap.size + 1 ≤ w'.heap.size))) (by kernel_rfl) ⟨(hx.of rfl).cell 0, (hx.of rfl).cell 1, Lib.hid ⟨hx.of rfl, ((Below.refl _ wo).alloc (Nat.le_refl _) _).drew, by rw [show ∀ W : World, W.drew.heap.size = W.heap.size from fun _ => rfl, hsn]; exact Nat.le_refl _⟩⟩ (fun hHeld => ?_)
      refine regTake 0 (some 15) (v := ?_) rfl rfl (by kernel_rfl) (by kernel_rfl) (by kernel_rfl) (fun _ _ _ h => h) (by kernel_rfl) hHeld ?_ ?_
      rotate_left 1
      · (intro w hSw; (try dsimp only at hSw); go_simp; try with_reducible rfl)
      simp only [Act.put, List.setIfInBounds_toArray, List.set_cons_zero, List.set_cons_succ]
      refine regTake 1 (some 16) (v := ?_) rfl rfl (by kernel_rfl) (by kernel_rfl) (by kernel_rfl) (fun _ _ _ h => h) (by kernel_rfl) hHeld ?_ ?_
      rotate_left 1
      · (intro w hSw; (try dsimp only at hSw); go_simp; try with_reducible rfl)
      simp only [Act.put, List.setIfInBounds_toArray, List.set_cons_zero, List.set_cons_succ]
      refine regTake 2 (some 17) (v := ?_) rfl rfl (by kernel_rfl) (by kernel_rfl) (by kernel_rfl) (fun _ _ _ h => h) (by kernel_rfl) hHeld ?_ ?_
      rotate_left 1
      · (intro w hSw; (try dsimp only at hSw); go_simp; try with_reducible rfl)
      simp only [Act.put, List.setIfInBounds_toArray, List.set_cons_zero, List.set_cons_succ]
      refine regTake 3 (some 18) (v := ?_) rfl rfl (by kernel_rfl) (by kernel_rfl) (by kernel_rfl) (fun _ _ _ h => h) (by kernel_rfl) hHeld ?_ ?_
      rotate_left 1
      · (intro w hSw; (try dsimp only at hSw); go_simp; try with_reducible rfl)
      simp only [Act.put, List.setIfInBounds_toArray, List.set_cons_zero, List.set_cons_succ]
      refine regTake 4 (some 19) (v := ?_) rfl rfl (by kernel_rfl) (by kernel_rfl) (by kernel_rfl) (fun _ _ _ h => h) (by kernel_rfl) hHeld ?_ ?_
      rotate_left 1
      · (intro w hSw; (try dsimp only at hSw); go_simp; try with_reducible rfl)
      simp only [Act.put, List.setIfInBounds_toArray, List.set_cons_zero, List.set_cons_succ]
      refine regTake 5 (some 20) (v := ?_) rfl rfl (by kernel_rfl) (by kernel_rfl) (by kernel_rfl) (fun _ _ _ h => h) (by kernel_rfl) hHeld ?_ ?_
      rotate_left 1
      · (intro w hSw; (try dsimp only at hSw); go_simp; try with_reducible rfl)
      simp only [Act.put, List.setIfInBounds_toArray, List.set_cons_zero, List.set_cons_succ]
      refine regTake 7 (some 22) (v := ?_) rfl rfl (by kernel_rfl) (by kernel_rfl) (by kernel_rfl) (fun _ _ _ h => h) (by kernel_rfl) hHeld ?_ ?_
      rotate_left 1
      · (intro w hSw; (try dsimp only at hSw); go_simp; try with_reducible rfl)
      simp only [Act.put, List.setIfInBounds_toArray, List.set_cons_zero, List.set_cons_succ]
      refine regTake 8 (some 23) (v := ?_) rfl rfl (by kernel_rfl) (by kernel_rfl) (by kernel_rfl) (fun _ _ _ h => h) (by kernel_rfl) hHeld ?_ ?_
      rotate_left 1
      · (intro w hSw; (try dsimp only at hSw); go_simp; try with_reducible rfl)
      simp only [Act.put, List.setIfInBounds_toArray, List.set_cons_zero, List.set_cons_succ]
      refine regCall 6 (some 21) (f := 28) (args := ?_) rfl rfl (by kernel_rfl) (by kernel_rfl) ?_ ?_
      rotate_left 1
      · (go_simp; try with_reducible rfl)
      refine (hrd _).mono ?_
      rintro e wx6 ⟨vc, rfl, hvc, k1⟩
      refine ⟨_, rfl, by
          obtain ⟨-, -, hh⟩ := hHeld
          obtain ⟨q1, q3, q4⟩ := hh.out
          exact ⟨(q1.call k1).cell 0, (q1.call k1).cell 1, Lib.hid ⟨q1.call k1, q3.trans (k1.mono (by omega)), Nat.le_trans q4 k1.size⟩⟩, fun hHeld => ?_⟩
      simp only [Act.put, List.setIfInBounds_toArray, List.set_cons_zero, List.set_cons_succ]
      obtain ⟨g, go, gc, rfl, hg1, hg2, hg3, hg4⟩ := hvc
      have hg5 := hg4 a (show a < chartW.length from ha8)
      rw [HWD.out] at hg5
      unfold maxLen at hg2
      have hcl8 : chartW.length = 8 := rfl
      rw [hcl8] at hg1 ⊢
      have qa : (a : Int) < 8 := by omega
      refine wpAnyH_more (S' := fun w' => (fun w' : World => w'.cell? ⟨wo.heap.size, 0, none⟩ = some (.string (bs c.name)) ∧ w'.cell? ⟨wo.heap.size, 1, none⟩ = some (.int .i64 (a : Int)) ∧ Hid (Has w' wo.heap.size [.string (bs c.name), .int .i64 (a : Int), .int .i64 (c.f 0), .int .i64 (c.f 1), .int .i64 (c.f 2), .int .i64 (c.f 3), .int .i64 (c.f 4), .int .i64 (c.f 5), .int .i64 (c.f 6), .int .i64 (c.f 7), .int .i64 (c.f 8), .int .i64 (c.f 9), .int .i64 (c.f 10), .int .i64 (c.f 11)] 37 ∧ Below wo.heap.size wo w' ∧ wo.heap.size + 1 ≤ w'.heap.size)) w' ∧ w'.cell? ⟨g, go + a, none⟩ = some (.string (bs wd))) (fun _ h => h.1) _ _ _ _ ?_
      replace hHeld := And.intro hHeld hg5
      refine regTake 9 (some 24) (v := ?_) rfl rfl (by kernel_rfl) (by kernel_rfl) (by kernel_rfl) (fun _ _ _ h => h) (by kernel_rfl) hHeld ?_ ?_
      rotate_left 1
      · (intro w hSw; (try dsimp only at hSw); obtain ⟨-, hSw⟩ := hSw; go_simp; try with_reducible rfl)
      simp only [Act.put, List.setIfInBounds_toArray, List.set_cons_zero, List.set_cons_succ]
      refine regTake 10 (some 25) (v := ?_) rfl rfl (by kernel_rfl) (by kernel_rfl) (by kernel_rfl) (fun _ _ _ h => h) (by kernel_rfl) hHeld ?_ ?_
      rotate_left 1
      · (intro w hSw; (try dsimp only at hSw); obtain ⟨-, hSw⟩ := hSw; go_simp; try with_reducible rfl)
      simp only [Act.put, List.setIfInBounds_toArray, List.set_cons_zero, List.set_cons_succ]
      refine regTake 11 (some 26) (v := ?_) rfl rfl (by kernel_rfl) (by kernel_rfl) (by kernel_rfl) (fun _ _ _ h => h) (by kernel_rfl) hHeld ?_ ?_
      rotate_left 1
      · (intro w hSw; (try dsimp only at hSw); obtain ⟨-, hSw⟩ := hSw; go_simp; try with_reducible rfl)
      simp only [Act.put, List.setIfInBounds_toArray, List.set_cons_zero, List.set_cons_succ]
      refine regTake 12 (some 27) (v := ?_) rfl rfl (by kernel_rfl) (by kernel_rfl) (by kernel_rfl) (fun _ _ _ h => h) (by kernel_rfl) hHeld ?_ ?_
      rotate_left 1
      · (intro w hSw; (try dsimp only at hSw); obtain ⟨-, hSw⟩ := hSw; go_simp; try with_reducible rfl)
      simp only [Act.put, List.setIfInBounds_toArray, List.set_cons_zero, List.set_cons_succ]
      refine regTake 13 (some 3) (v := ?_) rfl rfl (by kernel_rfl) (by kernel_rfl) (by kernel_rfl) (fun _ _ _ h => h) (by kernel_rfl) hHeld ?_ ?_
      rotate_left 1
      · (intro w hSw; (try dsimp only at hSw); obtain ⟨-, hSw⟩ := hSw; go_simp; try with_reducible rfl)
      simp only [Act.put, List.setIfInBounds_toArray, List.set_cons_zero, List.set_cons_succ]
      refine wpAnyH_done (by kernel_rfl) ?_ _
      obtain ⟨⟨-, -, hh⟩, -⟩ := hHeld
      obtain ⟨hx6, hB6, hs6⟩ := hh.out
      have hb6 := hb.trans (hB6.mono hs0)
      clear hh hHeld hx hbn hb hsn hrd k1 hg4 hg5 a1 a2 a3 a4 a5 x0 x1 x2 x3 x4 x5 x6 x7 x8 x9 x10 x11 x12 x13
      have hwo := words_any
      go_wp2_with fail
      refine (hwo _).mono ?_
      rintro e w7 ⟨vw, rfl, hvw, k7⟩
      have hb7 := hb6.trans (k7.mono (by omega))
      have hx7 := hx6.call k7
      have hs7 := k7.size
      clear hwo k7 hb6 hx6
      obtain ⟨g, go, gc, rfl, hg1, hg2, hg3, hg4⟩ := hvw
      unfold maxLen at hg2
      have hfl : fieldW.length = 12 := rfl
      rw [hfl] at hg1 hg4 ⊢
      generalize hob : wo.heap.size = ob at *
      go_wp2
      go_loopw [3, 30] (PRel2 H5 c w ob g go) (fun _ i _ => 12 - (intOf i).toNat)
      case atStart => exact ⟨0, Nat.zero_le _, rfl, by rw [← HT0.out], hb7, by rw [show chL c = [.string (bs c.name), .int .i64 (a : Int), .int .i64 (c.f 0), .int .i64 (c.f 1), .int .i64 (c.f 2), .int .i64 (c.f 3), .int .i64 (c.f 4), .int .i64 (c.f 5), .int .i64 (c.f 6), .int .i64 (c.f 7), .int .i64 (c.f 8), .int .i64 (c.f 9), .int .i64 (c.f 10), .int .i64 (c.f 11)] from by unfold chL; rw [HCA.out]]; exact hx7, hg3, hg4⟩
      case round =>
        obtain ⟨j, hj, rfl, rfl, hbr, hxr, hg3r, hg4r⟩ := hrel
        clear hb7 hx7 hg3 hg4
        by_cases hl2 : j < 12
        · have hcj := hg4r j hl2
          have HG4 := Lib.hid hg4r
          clear hg4r
          obtain ⟨fw, hfw⟩ : ∃ fw, fieldW.getD j [] = fw := ⟨_, rfl⟩
          rw [hfw] at hcj
          have HFW := Lib.hid hfw
          clear hfw
          have hn8 := hnd j hl2 wr
          obtain ⟨p0, p1, p2, p3, p4, p5, p6, p7, p8, p9, p10, p11, p12, p13⟩ := hxr.chanA HCA.out
          have hsB : showB c j = (needB a j || (decide (10 ≤ j) && decide (c.f 10 < c.f 11))) := by unfold showB; rw [HCH.out]
          have hlI : (j : Int) < 12 := by omega
          generalize needB a j = y at *
          go_wp2_with fail
          refine hn8.mono ?_
          rintro e w8 ⟨rfl, k8⟩
          have hb8 := hbr.trans (k8.mono hbr.size)
          have hx8 := hxr.call k8
          have hg8 := Lib.hid (show ∀ i, i < 12 → w8.cell? ⟨g, go + i, none⟩ = some (.string (bs (fieldW.getD i []))) from fun i hi => (k8.cell (p := ⟨g, go + i, none⟩) hg3r).trans (HG4.out i hi))
          have hg8l := Nat.lt_of_lt_of_le hg3r k8.size
          clear hn8 k8 hbr hxr hg3r HG4 hcj p0 p1 p2 p3 p4 p5 p6 p7 p8 p9 p10 p11 p12 p13
          obtain ⟨p0, p1, p2, p3, p4, p5, p6, p7, p8, p9, p10, p11, p12, p13⟩ := hx8.chanA HCA.out
          cases y
          · by_cases h10 : 10 ≤ j
            · have q10 : decide (10 ≤ (j : Int)) = true := decide_eq_true (by omega)
              by_cases h11 : c.f 10 < c.f 11
              · have hs : showB c j = true := by rw [hsB, decide_eq_true h10, decide_eq_true h11]; rfl
                have q11 : decide (c.f 10 < c.f 11) = true := decide_eq_true h11
                clear hsB h10 h11
                obtain ⟨hd1, hd2, hd3⟩ := HSF.out j hl2 hs
                have hdig := digits_any (c.f j) hd2 hd3
                have hfl5 := HFL.out j (by omega)
                have hfs := field_sz j hl2
                rw [HFW.out] at hfs
                have hne2 := fldT_yes hs
                have b1 : ∀ W, (Op.stringOp .add (bs (H5 ++ fldT c j)) (bs (fw))).run Tryz.prog W = .ok (.string (bs (H5 ++ fldT c j ++ fw))) W := fun W => run_add_bs W _ _ (by simp only [List.length_append]; omega)
                have b2 : ∀ W, (Op.stringOp .add (bs (H5 ++ fldT c j ++ fw)) ⟨#[32]⟩).run Tryz.prog W = .ok (.string (bs (H5 ++ fldT c j ++ fw ++ [32]))) W := fun W => run_add_bs W _ [32] (by simp only [List.length_append, List.length_cons, List.length_nil]; omega)
                have b3 : ∀ W, (Op.stringOp .add (bs (H5 ++ fldT c j ++ fw ++ [32])) (bs (digZ (c.f j)))).run Tryz.prog W = .ok (.string (bs (H5 ++ fldT c j ++ fw ++ [32] ++ digZ (c.f j)))) W := fun W => run_add_bs W _ _ (by simp only [List.length_append, List.length_cons, List.length_nil]; omega)
                have b4 : ∀ W, (Op.stringOp .add (bs (H5 ++ fldT c j ++ fw ++ [32] ++ digZ (c.f j))) ⟨#[59, 10]⟩).run Tryz.prog W = .ok (.string (bs (H5 ++ fldT c (j + 1)))) W := fun W => by
                  refine (run_add_bs W (H5 ++ fldT c j ++ fw ++ [32] ++ digZ (c.f j)) [59, 10] (by simp only [List.length_append, List.length_cons, List.length_nil]; omega)).trans ?_
                  rw [hne2]
                  unfold lnT
                  rw [HFW.out]
                  simp
                clear hne2 hd1 hd2 hd3 hfl5 hfs hs
                have hgj := hgt j hl2
                generalize hL5 : H5 ++ fldT c (j + 1) = L5 at *
                have HL5 := Lib.hid hL5
                clear hL5
                generalize hgl : c.f j = z at *
                generalize H5 ++ fldT c j ++ fw ++ [32] ++ digZ z = L4 at *
                generalize H5 ++ fldT c j ++ fw ++ [32] = L3 at *
                generalize H5 ++ fldT c j ++ fw = L2 at *
                generalize H5 ++ fldT c j = L1 at *
                go_wp2_with fail
                refine (hgj _).mono ?_
                rintro e w9 ⟨rfl, k9⟩
                have hb9 := hb8.trans (k9.mono hb8.size)
                have hx9 := hx8.call k9
                have hg9 := Lib.hid (show ∀ i, i < 12 → w9.cell? ⟨g, go + i, none⟩ = some (.string (bs (fieldW.getD i []))) from fun i hi => (k9.cell (p := ⟨g, go + i, none⟩) hg8l).trans (hg8.out i hi))
                have hg9l := Nat.lt_of_lt_of_le hg8l k9.size
                clear hgj k9 hb8 hx8 hg8 hg8l p0 p1 p2 p3 p4 p5 p6 p7 p8 p9 p10 p11 p12 p13
                go_wp2_with fail
                refine (hdig _).mono ?_
                rintro e w10 ⟨rfl, k10⟩
                have HR := Lib.hid (show PRel2 H5 c w ob g go (.string (bs L5)) (.int .i64 ((j + 1 : Nat) : Int)) w10 from ⟨j + 1, hl2, rfl, by rw [HL5.out], hb9.trans (k10.mono hb9.size), hx9.call k10, Nat.lt_of_lt_of_le hg9l k10.size, fun i hi => (k10.cell (p := ⟨g, go + i, none⟩) hg9l).trans (hg9.out i hi)⟩)
                clear hdig k10 hb9 hx9 hg9 hg9l
                go_wp2
                go_roundw
                case rel => exact HR.out
                case measure => simp [intOf]; omega
              · have hs : showB c j = false := by rw [hsB, decide_eq_false h11]; simp
                have q11 : decide (c.f 10 < c.f 11) = false := decide_eq_false h11
                clear hsB h10 h11
                have HR := Lib.hid (show PRel2 H5 c w ob g go (.string (bs (H5 ++ fldT c j))) (.int .i64 ((j + 1 : Nat) : Int)) w8 from ⟨j + 1, hl2, rfl, by rw [fldT_no hs], hb8, hx8, hg8l, hg8.out⟩)
                clear hb8 hx8 hg8 hg8l hs
                go_wp2
                go_roundw
                case rel => exact HR.out
                case measure => simp [intOf]; omega
            · have hs : showB c j = false := by rw [hsB, decide_eq_false h10]; simp
              have q10 : decide (10 ≤ (j : Int)) = false := decide_eq_false (by omega)
              clear hsB h10
              have HR := Lib.hid (show PRel2 H5 c w ob g go (.string (bs (H5 ++ fldT c j))) (.int .i64 ((j + 1 : Nat) : Int)) w8 from ⟨j + 1, hl2, rfl, by rw [fldT_no hs], hb8, hx8, hg8l, hg8.out⟩)
              clear hb8 hx8 hg8 hg8l hs
              go_wp2
              go_roundw
              case rel => exact HR.out
              case measure => simp [intOf]; omega
          · have hs : showB c j = true := by rw [hsB]; rfl
            clear hsB
            obtain ⟨hd1, hd2, hd3⟩ := HSF.out j hl2 hs
            have hdig := digits_any (c.f j) hd2 hd3
            have hfl5 := HFL.out j (by omega)
            have hfs := field_sz j hl2
            rw [HFW.out] at hfs
            have hne2 := fldT_yes hs
            have b1 : ∀ W, (Op.stringOp .add (bs (H5 ++ fldT c j)) (bs (fw))).run Tryz.prog W = .ok (.string (bs (H5 ++ fldT c j ++ fw))) W := fun W => run_add_bs W _ _ (by simp only [List.length_append]; omega)
            have b2 : ∀ W, (Op.stringOp .add (bs (H5 ++ fldT c j ++ fw)) ⟨#[32]⟩).run Tryz.prog W = .ok (.string (bs (H5 ++ fldT c j ++ fw ++ [32]))) W := fun W => run_add_bs W _ [32] (by simp only [List.length_append, List.length_cons, List.length_nil]; omega)
            have b3 : ∀ W, (Op.stringOp .add (bs (H5 ++ fldT c j ++ fw ++ [32])) (bs (digZ (c.f j)))).run Tryz.prog W = .ok (.string (bs (H5 ++ fldT c j ++ fw ++ [32] ++ digZ (c.f j)))) W := fun W => run_add_bs W _ _ (by simp only [List.length_append, List.length_cons, List.length_nil]; omega)
            have b4 : ∀ W, (Op.stringOp .add (bs (H5 ++ fldT c j ++ fw ++ [32] ++ digZ (c.f j))) ⟨#[59, 10]⟩).run Tryz.prog W = .ok (.string (bs (H5 ++ fldT c (j + 1)))) W := fun W => by
              refine (run_add_bs W (H5 ++ fldT c j ++ fw ++ [32] ++ digZ (c.f j)) [59, 10] (by simp only [List.length_append, List.length_cons, List.length_nil]; omega)).trans ?_
              rw [hne2]
              unfold lnT
              rw [HFW.out]
              simp
            clear hne2 hd1 hd2 hd3 hfl5 hfs hs
            have hgj := hgt j hl2
            generalize hL5 : H5 ++ fldT c (j + 1) = L5 at *
            have HL5 := Lib.hid hL5
            clear hL5
            generalize hgl : c.f j = z at *
            generalize H5 ++ fldT c j ++ fw ++ [32] ++ digZ z = L4 at *
            generalize H5 ++ fldT c j ++ fw ++ [32] = L3 at *
            generalize H5 ++ fldT c j ++ fw = L2 at *
            generalize H5 ++ fldT c j = L1 at *
            go_wp2_with fail
            refine (hgj _).mono ?_
            rintro e w9 ⟨rfl, k9⟩
            have hb9 := hb8.trans (k9.mono hb8.size)
            have hx9 := hx8.call k9
            have hg9 := Lib.hid (show ∀ i, i < 12 → w9.cell? ⟨g, go + i, none⟩ = some (.string (bs (fieldW.getD i []))) from fun i hi => (k9.cell (p := ⟨g, go + i, none⟩) hg8l).trans (hg8.out i hi))
            have hg9l := Nat.lt_of_lt_of_le hg8l k9.size
            clear hgj k9 hb8 hx8 hg8 hg8l p0 p1 p2 p3 p4 p5 p6 p7 p8 p9 p10 p11 p12 p13
            go_wp2_with fail
            refine (hdig _).mono ?_
            rintro e w10 ⟨rfl, k10⟩
            have HR := Lib.hid (show PRel2 H5 c w ob g go (.string (bs L5)) (.int .i64 ((j + 1 : Nat) : Int)) w10 from ⟨j + 1, hl2, rfl, by rw [HL5.out], hb9.trans (k10.mono hb9.size), hx9.call k10, Nat.lt_of_lt_of_le hg9l k10.size, fun i hi => (k10.cell (p := ⟨g, go + i, none⟩) hg9l).trans (hg9.out i hi)⟩)
            clear hdig k10 hb9 hx9 hg9 hg9l
            go_wp2
            go_roundw
            case rel => exact HR.out
            case measure => simp [intOf]; omega
        · have hj12 : j = 12 := by omega
          subst hj12
          have hl12 := HFL.out 12 (Nat.le_refl _)
          have hE : ∀ W, (Op.stringOp .add (bs (H5 ++ fldT c 12)) ⟨#[125, 10]⟩).run Tryz.prog W = .ok (.string (bs (H5 ++ fldT c 12 ++ [125, 10]))) W := fun W => run_add_bs W (H5 ++ fldT c 12) [125, 10] (by simp only [List.length_append, List.length_cons, List.length_nil]; omega)
          have HR := Lib.hid (show PRel l n w (.string (bs (H5 ++ fldT c 12 ++ [125, 10]))) (.int .i64 ((k + 1 : Nat) : Int)) wr from ⟨k + 1, hl, rfl, by rw [HS.out, HCT.out, ← HHT.out]; simp, hbr⟩)
          generalize H5 ++ fldT c 12 ++ [125, 10] = L6 at *
          generalize H5 ++ fldT c 12 = L7 at *
          clear hbr hxr hg3r hg4r hl2
          go_wp2
          go_roundw
          case rel => exact HR.out
          case measure => simp [intOf]; omega
    · obtain rfl : k = n := by omega
      have e1 : printR (l.take k) = PR := by rw [← HN.out, HEND.out, HPR.out]
      rw [e1]
      go_wp2
      go_ret
      exact ⟨rfl, hb⟩
end Go.Proofs.YtdimgomigidbkaaGreatDoor
/- The law of RecipePrints. -/
namespace Go.Proofs.YtdimgomigidbkaaGreatDoor
open Go.RowKit

set_option linter.unusedSimpArgs false in
set_option maxHeartbeats 0 in
set_option maxRecDepth 100000 in
theorem prints_walk (l : List Ch) (va : Value) (w : World) (ht : ∀ i, i < l.length → (nthC l i).name.length ≤ 9223372036854775807) (_hf : ∀ c ∈ l, c.fin) (ha : ReadsC w va l) (hE : EnvR w) :
    Calls Tryz.prog 4 #[.agg #[va]] w fun e w' => e = .returned (.bool true) ∧ Below w.heap.size w w' := by
  have hB := (Below.refl w.heap.size w).alloc (Nat.le_refl _) (.cells #[va] 24)
  have hx := Has.new w [va] 24
  have hfw := few8_any l va _ ht (ha.below hB)
  have hE1 := hE.below hB
  have hlen := fewC_len l
  have hnm := fun i hi => Nat.le_trans (fewC_name l i hi) (show 20 ≤ 100000 by decide)
  have hpr := fun W v (hR : ReadsC W v (fewC l)) (hE : Env W) => print8_any (fewC l) v W (by omega) hR hnm hE
  have hrt := fun W v (hR : ReadsC W v (fewC l)) => rec8_any (fewC l) v W (by omega) hR hnm
  have hrr := fun W v (hR : ReadsC W v (fewC l)) => rrec_any (fewC l) v W (by omega) hR hnm
  have hrp := fun W v (hR : ReadsC W v (fewC l)) (h : recB (fewC l) = true) => rprint_any (fewC l) v W hR h
  have hal := fun W (hE : EnvR W) => alive8_any W hE
  have HLEN := Lib.hid hlen
  have hs1 : (w.alloc (.cells #[va] 24)).heap.size = w.heap.size + 1 := by simp
  rw [hs1] at hfw
  obtain ⟨a0, p0, rfl, -⟩ := ha
  clear ht hE1 hnm hlen
  unfold print8 at hpr
  generalize fewC l = m at *
  go_enter Tryz.func4, Tryz.ntmps4
  go_wp2_with fail
  refine hfw.mono ?_
  rintro e w2 ⟨v1, rfl, hr2, k2⟩
  have hs2 := k2.size
  have hx2 := hx.of (k2.block w.heap.size (by omega))
  have hB2 := hB.trans (k2.mono (by omega))
  rw [hs1] at hs2
  obtain ⟨a1, p1, hv1, -⟩ := hr2.reads
  subst hv1
  have c0 : w2.cell? ⟨w.heap.size, 0, none⟩ = some (.slice a0 l.length p0) := hx2.cell 0
  have f0 : w2.frozen? ⟨w.heap.size, 0, none⟩ = false := hx2.frozen 0
  have hx3 := hx2.set 0 (.slice a1 m.length p1)
  have hr3 := hr2.own (b := w.heap.size) (u := .slice a1 m.length p1) (by omega)
  have hB3 := hB2.setCell (p := ⟨w.heap.size, 0, none⟩) (Nat.le_refl _) (.slice a1 m.length p1)
  have hs3 : (w2.setCell ⟨w.heap.size, 0, none⟩ (.slice a1 m.length p1)).heap.size = w2.heap.size := by simp
  have hx3 : Has (w2.setCell ⟨w.heap.size, 0, none⟩ (.slice a1 m.length p1)) w.heap.size [.slice a1 m.length p1] 24 := hx3
  clear hfw hr2 k2 hx hB hx2 hB2
  have hn3 := hpr _ _ hr3.reads (hE.below hB3).1
  cases hq : recB m with
  | false =>
    rw [hq, if_neg (show ¬ (false = true) from by decide)] at hn3
    rw [hq] at hrt hrr
    clear hpr hrp hq
    go_wp2_with fail
    refine hn3.mono ?_
    rintro e w4 ⟨rfl, k4⟩
    have hB4 := hB3.trans (k4.mono (by rw [hs3]; omega))
    have hx4 := hx3.call k4
    have hr4 := hr3.below k4
    have hs4 : w.heap.size + 1 ≤ w4.heap.size := by have := k4.size; omega
    clear hn3 hB3 hx3 hr3 k4
    go_upto_region 3 with fail
    refine wp_region_held_drew (S := (fun w' : World => w'.cell? ⟨w.heap.size, 0, none⟩ = some (.slice a1 m.length p1) ∧ Hid (Has w' w.heap.size [.slice a1 m.length p1] 24 ∧ CRow (w.heap.size + 1) (.slice a1 m.length p1) m w' ∧ Below w.heap.size w w' ∧ w.heap.size + 1 ≤ w'.heap.size))) (by kernel_rfl) ⟨(hx4.of rfl).cell 0, Lib.hid ⟨hx4.of rfl, hr4.below (Below.refl _ _).drew, hB4.drew, hs4⟩⟩ (fun hHeld => ?_)
    refine regTake 0 (some 12) (v := ?_) rfl rfl (by kernel_rfl) (by kernel_rfl) (by kernel_rfl) (fun _ _ _ h => h) (by kernel_rfl) hHeld ?_ ?_
    rotate_left 1
    · (intro w hSw; (try dsimp only at hSw); go_simp; try with_reducible rfl)
    simp only [Act.put, List.setIfInBounds_toArray, List.set_cons_zero, List.set_cons_succ]
    refine regTake 2 (some 14) (v := ?_) rfl rfl (by kernel_rfl) (by kernel_rfl) (by kernel_rfl) (fun _ _ _ h => h) (by kernel_rfl) hHeld ?_ ?_
    rotate_left 1
    · (intro w hSw; (try dsimp only at hSw); go_simp; try with_reducible rfl)
    simp only [Act.put, List.setIfInBounds_toArray, List.set_cons_zero, List.set_cons_succ]
    obtain ⟨q1, q2, q3, q4⟩ := hHeld.2.out
    refine regCall 1 (some 13) (f := 14) (args := ?_) rfl rfl (by kernel_rfl) (by kernel_rfl) ?_ ?_
    rotate_left 1
    · (go_simp; try with_reducible rfl)
    refine (hrt _ _ q2.reads).mono ?_
    rintro e wx1 ⟨rfl, k1⟩
    refine ⟨_, rfl, ⟨(q1.call k1).cell 0, Lib.hid ⟨q1.call k1, q2.below k1, q3.trans (k1.mono (by omega)), Nat.le_trans q4 k1.size⟩⟩, fun hHeld => ?_⟩
    simp only [Act.put, List.setIfInBounds_toArray, List.set_cons_zero, List.set_cons_succ]
    clear q1 q2 q3 q4 k1
    obtain ⟨q1, q2, q3, q4⟩ := hHeld.2.out
    refine regCall 3 (some 15) (f := 15) (args := ?_) rfl rfl (by kernel_rfl) (by kernel_rfl) ?_ ?_
    rotate_left 1
    · (go_simp; try with_reducible rfl)
    refine (hrr _ _ q2.reads).mono ?_
    rintro e wx3 ⟨rfl, k1⟩
    refine ⟨_, rfl, ⟨(q1.call k1).cell 0, Lib.hid ⟨q1.call k1, q2.below k1, q3.trans (k1.mono (by omega)), Nat.le_trans q4 k1.size⟩⟩, fun hHeld => ?_⟩
    simp only [Act.put, List.setIfInBounds_toArray, List.set_cons_zero, List.set_cons_succ]
    clear q1 q2 q3 q4 k1
    refine regTake 4 (some 16) (v := ?_) rfl rfl (by kernel_rfl) (by kernel_rfl) (by kernel_rfl) (fun _ _ _ h => h) (by kernel_rfl) hHeld ?_ ?_
    rotate_left 1
    · (intro w hSw; (try dsimp only at hSw); go_simp; try with_reducible rfl)
    simp only [Act.put, List.setIfInBounds_toArray, List.set_cons_zero, List.set_cons_succ]
    refine regTake 5 (some 17) (v := ?_) rfl rfl (by kernel_rfl) (by kernel_rfl) (by kernel_rfl) (fun _ _ _ h => h) (by kernel_rfl) hHeld ?_ ?_
    rotate_left 1
    · (intro w hSw; (try dsimp only at hSw); go_simp; try with_reducible rfl)
    simp only [Act.put, List.setIfInBounds_toArray, List.set_cons_zero, List.set_cons_succ]
    obtain ⟨q1, q2, q3, q4⟩ := hHeld.2.out
    refine regCall 6 (some 18) (f := 10) (args := ?_) rfl rfl (by kernel_rfl) (by kernel_rfl) ?_ ?_
    rotate_left 1
    · (go_simp; try with_reducible rfl)
    refine (hal _ (hE.below q3)).mono ?_
    rintro e wx6 ⟨rfl, k1⟩
    refine ⟨_, rfl, ⟨(q1.call k1).cell 0, Lib.hid ⟨q1.call k1, q2.below k1, q3.trans (k1.mono (by omega)), Nat.le_trans q4 k1.size⟩⟩, fun hHeld => ?_⟩
    simp only [Act.put, List.setIfInBounds_toArray, List.set_cons_zero, List.set_cons_succ]
    clear q1 q2 q3 q4 k1
    refine regTake 7 (some 19) (v := ?_) rfl rfl (by kernel_rfl) (by kernel_rfl) (by kernel_rfl) (fun _ _ _ h => h) (by kernel_rfl) hHeld ?_ ?_
    rotate_left 1
    · (intro w hSw; (try dsimp only at hSw); go_simp; try with_reducible rfl)
    simp only [Act.put, List.setIfInBounds_toArray, List.set_cons_zero, List.set_cons_succ]
    refine regTake 8 (some 20) (v := ?_) rfl rfl (by kernel_rfl) (by kernel_rfl) (by kernel_rfl) (fun _ _ _ h => h) (by kernel_rfl) hHeld ?_ ?_
    rotate_left 1
    · (intro w hSw; (try dsimp only at hSw); go_simp; try with_reducible rfl)
    simp only [Act.put, List.setIfInBounds_toArray, List.set_cons_zero, List.set_cons_succ]
    refine wpAnyH_done (by kernel_rfl) ?_ _
    obtain ⟨hx5, hr5, hB5, hs5⟩ := hHeld.2.out
    clear hx4 hr4 hB4 hs4
    have d5 := hHeld.1
    have hn5 := hrr _ _ hr5.reads
    clear hHeld
    go_wp2_with fail
    refine hn5.mono ?_
    rintro e w6 ⟨rfl, k6⟩
    have hB6 := hB5.trans (k6.mono (by omega))
    have hx6 := hx5.call k6
    have hr6 := hr5.below k6
    have d6 : w6.cell? ⟨w.heap.size, 0, none⟩ = some (.slice a1 m.length p1) := hx6.cell 0
    clear hn5 k6 hx5 hr5 hB5 d5 hrt hrr hal
    go_wp2
    go_ret
    exact ⟨rfl, hB6⟩
  | true =>
    rw [hq, if_pos rfl] at hn3
    rw [hq] at hrt hrr
    have hrp := fun W v hR => hrp W v hR hq
    have hse : ∀ W, (Op.equalIn 10000 9 (.string (bs (printR m))) (.string (bs (printR m)))).run Tryz.prog W = .ok true W := fun W => by
      rw [run_eq_bs W 9999 9 _ _ Tryz.underlying9, decide_eq_true rfl]
    generalize printR m = tx at *
    clear hpr hq
    go_wp2_with fail
    refine hn3.mono ?_
    rintro e w4 ⟨rfl, k4⟩
    have hB4 := hB3.trans (k4.mono (by rw [hs3]; omega))
    have hx4 := hx3.call k4
    have hr4 := hr3.below k4
    have hs4 : w.heap.size + 1 ≤ w4.heap.size := by have := k4.size; omega
    clear hn3 hB3 hx3 hr3 k4
    go_upto_region 3 with fail
    refine wp_region_held_drew (S := (fun w' : World => w'.cell? ⟨w.heap.size, 0, none⟩ = some (.slice a1 m.length p1) ∧ Hid (Has w' w.heap.size [.slice a1 m.length p1] 24 ∧ CRow (w.heap.size + 1) (.slice a1 m.length p1) m w' ∧ Below w.heap.size w w' ∧ w.heap.size + 1 ≤ w'.heap.size))) (by kernel_rfl) ⟨(hx4.of rfl).cell 0, Lib.hid ⟨hx4.of rfl, hr4.below (Below.refl _ _).drew, hB4.drew, hs4⟩⟩ (fun hHeld => ?_)
    refine regTake 0 (some 12) (v := ?_) rfl rfl (by kernel_rfl) (by kernel_rfl) (by kernel_rfl) (fun _ _ _ h => h) (by kernel_rfl) hHeld ?_ ?_
    rotate_left 1
    · (intro w hSw; (try dsimp only at hSw); go_simp; try with_reducible rfl)
    simp only [Act.put, List.setIfInBounds_toArray, List.set_cons_zero, List.set_cons_succ]
    refine regTake 2 (some 14) (v := ?_) rfl rfl (by kernel_rfl) (by kernel_rfl) (by kernel_rfl) (fun _ _ _ h => h) (by kernel_rfl) hHeld ?_ ?_
    rotate_left 1
    · (intro w hSw; (try dsimp only at hSw); go_simp; try with_reducible rfl)
    simp only [Act.put, List.setIfInBounds_toArray, List.set_cons_zero, List.set_cons_succ]
    obtain ⟨q1, q2, q3, q4⟩ := hHeld.2.out
    refine regCall 1 (some 13) (f := 14) (args := ?_) rfl rfl (by kernel_rfl) (by kernel_rfl) ?_ ?_
    rotate_left 1
    · (go_simp; try with_reducible rfl)
    refine (hrt _ _ q2.reads).mono ?_
    rintro e wx1 ⟨rfl, k1⟩
    refine ⟨_, rfl, ⟨(q1.call k1).cell 0, Lib.hid ⟨q1.call k1, q2.below k1, q3.trans (k1.mono (by omega)), Nat.le_trans q4 k1.size⟩⟩, fun hHeld => ?_⟩
    simp only [Act.put, List.setIfInBounds_toArray, List.set_cons_zero, List.set_cons_succ]
    clear q1 q2 q3 q4 k1
    obtain ⟨q1, q2, q3, q4⟩ := hHeld.2.out
    refine regCall 3 (some 15) (f := 15) (args := ?_) rfl rfl (by kernel_rfl) (by kernel_rfl) ?_ ?_
    rotate_left 1
    · (go_simp; try with_reducible rfl)
    refine (hrr _ _ q2.reads).mono ?_
    rintro e wx3 ⟨rfl, k1⟩
    refine ⟨_, rfl, ⟨(q1.call k1).cell 0, Lib.hid ⟨q1.call k1, q2.below k1, q3.trans (k1.mono (by omega)), Nat.le_trans q4 k1.size⟩⟩, fun hHeld => ?_⟩
    simp only [Act.put, List.setIfInBounds_toArray, List.set_cons_zero, List.set_cons_succ]
    clear q1 q2 q3 q4 k1
    refine regTake 4 (some 16) (v := ?_) rfl rfl (by kernel_rfl) (by kernel_rfl) (by kernel_rfl) (fun _ _ _ h => h) (by kernel_rfl) hHeld ?_ ?_
    rotate_left 1
    · (intro w hSw; (try dsimp only at hSw); go_simp; try with_reducible rfl)
    simp only [Act.put, List.setIfInBounds_toArray, List.set_cons_zero, List.set_cons_succ]
    refine regTake 5 (some 17) (v := ?_) rfl rfl (by kernel_rfl) (by kernel_rfl) (by kernel_rfl) (fun _ _ _ h => h) (by kernel_rfl) hHeld ?_ ?_
    rotate_left 1
    · (intro w hSw; (try dsimp only at hSw); go_simp; try with_reducible rfl)
    simp only [Act.put, List.setIfInBounds_toArray, List.set_cons_zero, List.set_cons_succ]
    obtain ⟨q1, q2, q3, q4⟩ := hHeld.2.out
    refine regCall 6 (some 18) (f := 10) (args := ?_) rfl rfl (by kernel_rfl) (by kernel_rfl) ?_ ?_
    rotate_left 1
    · (go_simp; try with_reducible rfl)
    refine (hal _ (hE.below q3)).mono ?_
    rintro e wx6 ⟨rfl, k1⟩
    refine ⟨_, rfl, ⟨(q1.call k1).cell 0, Lib.hid ⟨q1.call k1, q2.below k1, q3.trans (k1.mono (by omega)), Nat.le_trans q4 k1.size⟩⟩, fun hHeld => ?_⟩
    simp only [Act.put, List.setIfInBounds_toArray, List.set_cons_zero, List.set_cons_succ]
    clear q1 q2 q3 q4 k1
    refine regTake 7 (some 19) (v := ?_) rfl rfl (by kernel_rfl) (by kernel_rfl) (by kernel_rfl) (fun _ _ _ h => h) (by kernel_rfl) hHeld ?_ ?_
    rotate_left 1
    · (intro w hSw; (try dsimp only at hSw); go_simp; try with_reducible rfl)
    simp only [Act.put, List.setIfInBounds_toArray, List.set_cons_zero, List.set_cons_succ]
    refine regTake 8 (some 20) (v := ?_) rfl rfl (by kernel_rfl) (by kernel_rfl) (by kernel_rfl) (fun _ _ _ h => h) (by kernel_rfl) hHeld ?_ ?_
    rotate_left 1
    · (intro w hSw; (try dsimp only at hSw); go_simp; try with_reducible rfl)
    simp only [Act.put, List.setIfInBounds_toArray, List.set_cons_zero, List.set_cons_succ]
    refine wpAnyH_done (by kernel_rfl) ?_ _
    obtain ⟨hx5, hr5, hB5, hs5⟩ := hHeld.2.out
    clear hx4 hr4 hB4 hs4
    have d5 := hHeld.1
    have hn5 := hrr _ _ hr5.reads
    clear hHeld
    go_wp2_with fail
    refine hn5.mono ?_
    rintro e w6 ⟨rfl, k6⟩
    have hB6 := hB5.trans (k6.mono (by omega))
    have hx6 := hx5.call k6
    have hr6 := hr5.below k6
    have d6 : w6.cell? ⟨w.heap.size, 0, none⟩ = some (.slice a1 m.length p1) := hx6.cell 0
    clear hn5 k6 hx5 hr5 hB5 d5 hrt hrr hal
    have hn6 := hrp _ _ hr6.reads
    clear hrp
    go_wp2_with fail
    refine hn6.mono ?_
    rintro e w7 ⟨rfl, k7⟩
    have hB7 := hB6.trans (k7.mono hB6.size)
    clear hn6 k7
    go_wp2
    go_ret
    exact ⟨rfl, hB7⟩
end Go.Proofs.YtdimgomigidbkaaGreatDoor
namespace Go.Proofs.YtdimgomigidbkaaGreatDoor.lawRecipePrints
open Go.ChangeShapes Go.WideShapes Go.ChangeAt Go.RowKit Go.Joins
open Go.ChangeMaps (open_string shut_string)

set_option maxRecDepth 100000 in
theorem lifted (os : Os) (started : os.Started) (H : Type) (enc : TypeId × Value → H) :
    ReturnsInHanded {} Tryz.checked os 4 .any (fun w args => (Rows.recipePrintsSpec.pre enc Tryz.prog Tryz.f4 [] false w args ∧ laidMetH Tryz.prog Rows.recipePrintsRow.laid w) ∧ sizedMet enc Tryz.prog Tryz.f4 (OpenSpec.ofChange Rows.recipePrintsSpec) false w args)
      (Rows.recipePrintsSpec.post enc Tryz.prog Tryz.f4 false true false false) := by
  refine returnsInHanded_of_change_and (C := Tryz.checked) (X := fun w _ => laidMetH Tryz.prog Rows.recipePrintsRow.laid w) (fun _ _ _ hh h => h.of_heap hh) own started (by kernel_rfl) Tryz.func4
    (ChangeSpec.witness_shaped (enc := enc) (C := Tryz.checked) (os := os) (X := fun w _ => laidMetH Tryz.prog Rows.recipePrintsRow.laid w) false (World.doorLaid Tryz.prog 400 os) #[.agg #[.slice none 0 0]] 8 rfl (World.shaped_of_RefB (by kernel_rfl) (by kernel_rfl)) (by kernel_rfl) (by kernel_rfl) (by kernel_rfl) (door8_met os _)) ?_
  intro W base args ds gs before hval0 hW _ hsz0 hL _
  have hsz : (DataW.weightsEach Tryz.prog (Tryz.f4.params.toList ++ Rows.recipePrintsSpec.plain.varTypes Tryz.prog) (ds ++ gs)).all (· ≤ reachBytes) = true := hsz0
  clear hsz0
  have hval : ∀ (j : Nat) t v, Tryz.f4.params[j]? = some t → args[j]? = some v → Value.okWide Tryz.prog W .any base t v := hval0
  have hW' := hW
  obtain ⟨p, q, hA0, hV, rfl, _, _⟩ := hW
  have hA : DataW.TrodAll enc Tryz.prog W 0 (fun _ => true) true Tryz.f4.params.toList args.toList ds p := hA0
  rw [Tryz.params4] at hA hval hsz
  obtain ⟨v0, d0, rfl, rfl, h0⟩ := trodAll_one hA
  obtain ⟨rfl, rfl⟩ := trodVars_none hV
  clear hA0 hval0
  simp only [List.append_nil] at hW'
  have hlt0 : ∀ x ∈ p, x.block < W.heap.size := fun x hx => by simpa using hW'.lt x (by simp [hx])
  have ag0 := fun W' hb' => again (W' := W') (by kernel_rfl) (of_decide_eq_true (by kernel_rfl)) h0 hb' hlt0
  obtain ⟨va, l, rfl, hrd, hnl, hfin⟩ := openRec (hval 0 24 v0 rfl rfl) h0
  have hE := env8_of (show laidMetH Tryz.prog laid8 W from hL)
  refine (prints_walk l va W hnl hfin hrd hE).mono fun e W' ⟨he, hb'⟩ => ?_
  subst he
  exact ⟨_, rfl, lawPost _ _ hW' (trodAll_mk1 (shut_bool Tryz.underlying4 _)) (trodAll_mk1 (ag0 W' hb')) rfl hb'⟩
theorem said : Rows.RecipePrintsSaid :=
  OpenClaim.holds_of_wide 4 Tryz.f4 rfl rfl rfl rfl rfl rfl rfl ⟨rfl, rfl, rfl, rfl, rfl⟩ rfl rfl rfl rfl rfl (by kernel_rfl) Tryz.func4 (by kernel_rfl)
    (of_decide_eq_true (by kernel_rfl)) (by unfold Func.isWrapper; first | (rw [if_pos (by decide +kernel)]; kernel_rfl) | (rw [if_neg (by decide +kernel)]; exact ⟨rfl, rfl⟩))
    (fun os started H enc _ => lifted os started H enc)
theorem holds : Rows.RecipePrintsCardSaid :=
  Claim7.holds_tied_plain_at .later [] Rows.recipePrintsCard.laidKinds true Rows.recipePrintsCard.stood.harness true
    said (fun _ h => by cases h) (by kernel_rfl) (fun _ h => by cases h) recipePrints_row_tie rfl ⟨rfl, rfl⟩ (by kernel_rfl) rfl
    (fun f fn hf hfn => by
      obtain rfl : f = 4 := Option.some.inj ((show Tryz.prog.funcNamed "datum/datumlaw08.RecipePrints" = some 4 by kernel_rfl).symm.trans hf) |>.symm
      obtain rfl : fn = Tryz.f4 := (Option.some.inj (Tryz.func4.symm.trans hfn)).symm
      exact ⟨by kernel_rfl, fun j t ht => by
        rw [Tryz.params4] at ht
        have hm : t ∈ [24] := by simpa using Array.mem_of_getElem? ht
        have hall : ([24].all fun u => !(Tryz.prog).wantsStandIn u) = true := by kernel_rfl
        exact (show (Tryz.prog).wantsStandIn t = false by simpa using List.all_eq_true.1 hall t hm)⟩)
    (by kernel_rfl)
#print axioms holds
end Go.Proofs.YtdimgomigidbkaaGreatDoor.lawRecipePrints
