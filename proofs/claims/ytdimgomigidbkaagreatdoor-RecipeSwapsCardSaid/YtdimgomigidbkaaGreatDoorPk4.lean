/- Texts of one proof, put together: TokK, TokRd, TokAns, RecQ, RcN, TokQ, RecA, RecB, Frame, Ints, IRow, RecC. -/
import Derived.Test.YtdimgomigidbkaaGreatDoorPk3
import Derived.ProofKit
import Derived.OpenShut
import Derived.Lib.SmallJoins
import Derived.Carry
import Derived.Deep.Slices
import Derived.Deep.Fields
import Derived.ChangeMaps5
import Derived.Laws.AppendOwn
import Derived.StillTailTactics
/- The reference of stage 7: all tokens of a text. -/
namespace Go.Proofs.YtdimgomigidbkaaGreatDoor
open Go.RowKit

theorem rscan_next (l : List UInt8) (a : Nat) (acc : List Tok) (k : Int) (t : List UInt8) (v : Int) (n : Nat) (ha : a < l.length) (hb : blankN (l.drop a) = 0) (h1 : oneN (l.drop a) = .ok (k, t, v, n)) :
    pre acc (scanF (l.drop a) a) = pre (acc ++ [⟨k, t, v, a⟩]) (scanF (l.drop (a + n)) (a + n)) := by
  have hne : l.drop a ≠ [] := fun e => by have := congrArg List.length e; rw [List.length_drop, List.length_nil] at this; omega
  rw [scanF_one _ a hne hb, h1]
  dsimp only
  refine (pre_snoc acc ⟨k, t, v, a⟩ (scanF ((l.drop a).drop n) (a + n))).trans ?_
  rw [List.drop_drop]
theorem rscan_blank (l : List UInt8) (a : Nat) (hb : 0 < blankN (l.drop a)) : scanF (l.drop a) a = scanF (l.drop (a + blankN (l.drop a))) (a + blankN (l.drop a)) := by
  rw [scanF_blank _ a hb, List.drop_drop]
def RScanRel (l : List UInt8) (w : World) (v at' : Value) (wr : World) : Prop :=
  ∃ (a : Nat) (acc : List Tok), at' = .int .i64 (a : Nat) ∧ a ≤ l.length ∧ acc.length ≤ a ∧ Row w.heap.size v acc wr ∧ scanL l = pre acc (scanF (l.drop a) a) ∧ Below w.heap.size w wr
theorem rscan_long (l : List UInt8) (w : World) (h : 4000 < l.length) :
    Calls Tryz.prog 20 #[.string (bs l)] w fun e w' => e = .returned (.tuple #[.slice none 0 0, .int .i64 0, .int .i64 2]) ∧ w = w' := by
  have hs := bs_size l
  go_enter Tryz.func20, Tryz.ntmps20
  go_wp2
  go_ret3
  exact ⟨rfl, rfl⟩
theorem Row.made (w : World) : Row w.heap.size (.slice (some ⟨w.heap.size, 0, none⟩) 0 0) [] (w.alloc (.cells #[] 55)) := World.ownsRow_made w #[] 0 (Nat.le_refl _) (Nat.zero_le _) rfl
set_option maxHeartbeats 2000000 in
set_option maxRecDepth 100000 in
theorem rscan_any (l : List UInt8) (w : World) (hl : l.length ≤ 4000) :
    Calls Tryz.prog 20 #[.string (bs l)] w (ScanEnd l w) := by
  obtain ⟨i0, hi, hz0, hz1, hz2⟩ := info_parts infoTok
  have hs := bs_size l
  have hmade := Row.made w
  have hb0 : Below w.heap.size w (w.alloc (.cells #[] 55)) := (Below.refl _ _).alloc (Nat.le_refl _) _
  go_enter Tryz.func20, Tryz.ntmps20
  go_wp2
  go_loopw [5, 6] (RScanRel l w) (fun _ i _ => l.length - (intOf i).toNat)
  case atStart => exact ⟨0, [], rfl, Nat.zero_le _, Nat.le_refl _, hmade, by rw [pre_nil]; rfl, hb0⟩
  case round =>
    obtain ⟨a, acc, rfl, ha, hacc, hrow, hsc, hb⟩ := hrel
    clear hmade hb0
    by_cases hal : a < l.length
    · have hbk := rblank_any l a wr (by omega) hal
      by_cases hbl : 0 < blankN (l.drop a)
      · have hle := blankN_le (l.drop a)
        rw [List.length_drop] at hle
        rw [rscan_blank l a hbl] at hsc
        generalize blankN (l.drop a) = n at hsc hle hbl hbk
        have HS := Lib.hid hsc
        clear hsc
        go_wp2_with fail
        refine hbk.mono ?_
        rintro e w2 ⟨rfl, rfl⟩
        clear hbk
        go_wp2
        go_roundw
        case rel => exact ⟨a + n, acc, by go_num, by omega, by omega, hrow, HS.out, hb⟩
        case measure => simp [intOf]; omega
      · have hbl0 : blankN (l.drop a) = 0 := by omega
        have hone := fun W => rone_any l a W (by omega) hal
        cases h1 : oneN (l.drop a) with
        | error c =>
          have hc := oneN_err h1
          rw [h1] at hone
          have hne : l.drop a ≠ [] := fun e => by have := congrArg List.length e; rw [List.length_drop, List.length_nil] at this; omega
          have HS : Hid (scanL l = .error (a, c)) := by rw [hsc, scanF_one _ a hne hbl0, h1]; exact Lib.hid rfl
          have hc2 : (c == 0) = false := beq_false_of_ne hc
          have hc3 : (c != 0) = true := bne_iff_ne.2 hc
          rw [hbl0] at hbk
          clear hrow hsc h1 hbl0 hbl hc hne
          go_wp2_with fail
          refine hbk.mono ?_
          rintro e w2 ⟨rfl, rfl⟩
          clear hbk
          go_wp2_with fail
          refine (hone _).mono ?_
          rintro e w2 ⟨rfl, h2⟩
          have hb2 := hb.trans (h2.mono hb.size)
          clear h2 hone
          unfold roneOut tokV
          go_wp2
          go_ret3
          refine ⟨.slice none 0 0, (by rw [HS.out]; rfl), (fun ts h => by rw [HS.out] at h; cases h), hb2.alloc hb2.size _⟩
        | ok x =>
          obtain ⟨k, t, v', n⟩ := x
          have hlen := (oneN_len h1).2
          rw [List.length_drop] at hlen
          have hpos := (oneN_len h1).1
          have HN := Lib.hid (hsc.trans (rscan_next l a acc k t v' n hal hbl0 h1))
          rw [h1] at hone
          rw [hbl0] at hbk
          clear hsc h1 hbl0 hbl
          go_wp2_with fail
          refine hbk.mono ?_
          rintro e w2 ⟨rfl, rfl⟩
          clear hbk
          go_wp2_with fail
          refine (hone _).mono ?_
          rintro e w2 ⟨rfl, h2⟩
          have hb2 := hb.trans (h2.mono hb.size)
          have hr2 := hrow.below h2
          clear h2 hone hb hrow
          have hr3 := (hr2.alloc (.cells #[.int .i64 k, .string (bs t), .int .i64 v', .int .i64 (a : Nat)] 55)).alloc (.cells #[.int .i64 k, .string (bs t), .int .i64 v', .int .i64 (a : Nat)] 55)
          have hb3 := (hb2.alloc hb2.size (.cells #[.int .i64 k, .string (bs t), .int .i64 v', .int .i64 (a : Nat)] 55)).alloc (by have := hb2.size; simp; omega) (.cells #[.int .i64 k, .string (bs t), .int .i64 v', .int .i64 (a : Nat)] 55)
          clear hb2 hr2
          unfold roneOut tokV
          go_wp2_with (at_builtin; refine wpList_append_own _ rfl _ _ 39 rfl w.heap.size 55 i0 (.agg #[.int .i64 0, .string ⟨#[]⟩, .int .i64 0, .int .i64 0]) 4 40 Tryz.underlying39 hi hz0 hz1 hz2 rfl (by decide) _ _ _ rfl hr3 ⟨w2.heap.size + 1, 0, none⟩ 1 1 (cellsT ⟨k, t, v', a⟩) rfl rfl ?c1 ?c2 ?c3 ?c4 ?c5 ?_)
          case c1 => exact fun j u hj => tok_at _ _ (by simp) j u hj
          case c2 => exact cellsT_one _
          case c3 => unfold maxLen; omega
          case c4 => omega
          case c5 => exact hb3.size
          intro v2 w4 hown hgrow _
          have hb4 := hb3.grown hgrow hb3.size (fun j hj => (World.ownsRow.lt hr3 j hj).1)
          have hr4 := Row.snoc hown
          clear hown hgrow hb3 hr3
          go_wp2
          go_roundw
          case rel => exact ⟨a + n, acc ++ [⟨k, t, v', a⟩], by go_num, by omega, by rw [List.length_append]; show acc.length + 1 ≤ _; omega, hr4, HN.out, hb4⟩
          case measure => simp [intOf]; omega
    · have HS : Hid (scanL l = .ok acc) := by rw [hsc, List.drop_of_length_le (by omega), scanF_nil]; exact Lib.hid (by show Except.ok (acc ++ []) = _; rw [List.append_nil])
      have HR := Lib.hid hrow
      clear hrow hsc
      go_wp2
      go_ret3
      refine ⟨_, (by rw [HS.out]; rfl), (fun ts h => by rw [HS.out] at h; cases h; exact HR.out), hb⟩
end Go.Proofs.YtdimgomigidbkaaGreatDoor
/- Rows of tokens, read. -/
namespace Go.Proofs.YtdimgomigidbkaaGreatDoor
open Go.RowKit

def nth (l : List Tok) (i : Nat) : Tok := l.getD i ⟨0, [], 0, 0⟩
theorem nth_get (l : List Tok) (i : Nat) (h : i < l.length) : nth l i = l[i]'h := by
  unfold nth
  rw [List.getD_eq_getElem?_getD, List.getElem?_eq_getElem h]
  rfl
/-- A token's cells, at an address. -/
structure TokAt (w : World) (b o : Nat) (t : Tok) : Prop where
  c0 : w.cell? ⟨b, o, none⟩ = some (.int .i64 t.kind)
  c1 : w.cell? ⟨b, o + 1, none⟩ = some (.string (bs t.text))
  c2 : w.cell? ⟨b, o + 2, none⟩ = some (.int .i64 t.num)
  c3 : w.cell? ⟨b, o + 3, none⟩ = some (.int .i64 t.place)
/-- A slice value that reads as these tokens. -/
def Reads (w : World) (v : Value) (l : List Tok) : Prop :=
  ∃ ao cap, v = .slice ao l.length cap ∧ l.length ≤ cap ∧ cap ≤ maxLen ∧ ∀ i, i < l.length → ∃ b off, ao = some ⟨b, off, none⟩ ∧ b < w.heap.size ∧ TokAt w b (off + i * 4) (nth l i)
theorem TokAt.below {w w' : World} {b o B : Nat} {t : Tok} (h : TokAt w b o t) (hb : Below B w w') (hB : b < B) : TokAt w' b o t :=
  ⟨(hb.cell hB).trans h.c0, (hb.cell hB).trans h.c1, (hb.cell hB).trans h.c2, (hb.cell hB).trans h.c3⟩
theorem Reads.below {w w' : World} {v : Value} {l : List Tok} (h : Reads w v l) (hb : Below w.heap.size w w') : Reads w' v l := by
  obtain ⟨ao, cap, h1, h2, h3, h4⟩ := h
  refine ⟨ao, cap, h1, h2, h3, fun i hi => ?_⟩
  obtain ⟨b, off, h5, h6, h7⟩ := h4 i hi
  exact ⟨b, off, h5, Nat.lt_of_lt_of_le h6 hb.size, h7.below hb h6⟩
theorem cells4_at (l : List Tok) (i j : Nat) (h : i < l.length) (hj : j < 4) : (cells4 l)[i * 4 + j]? = (cellsT (nth l i))[j]? := by
  induction l generalizing i with
  | nil => exact absurd h (Nat.not_lt_zero _)
  | cons t r ih =>
    have e : cells4 (t :: r) = cellsT t ++ cells4 r := by unfold cells4; rw [List.flatMap_cons]
    rw [e]
    have hc : (cellsT t).length = 4 := rfl
    cases i with
    | zero =>
      rw [List.getElem?_append_left (by rw [hc]; omega), Nat.zero_mul, Nat.zero_add]
      rfl
    | succ i =>
      rw [List.getElem?_append_right (by rw [hc]; omega), hc, show (i + 1) * 4 + j - 4 = i * 4 + j by omega, ih i (by rw [List.length_cons] at h; omega)]
      rfl
theorem Row.reads {B : Nat} {v : Value} {l : List Tok} {w : World} (h : Row B v l w) : Reads w v l := by
  have h0 : w.ownsRow B 55 4 v l.length (cells4 l) := h
  rcases h0.2 with ⟨h1, h2⟩ | ⟨g, cap, cur, hv, hB, hg, hl, hc, hs, ht⟩
  · have hl : l = [] := List.eq_nil_of_length_eq_zero h2
    subst hl
    exact ⟨none, 0, h1, Nat.le_refl _, Nat.zero_le _, fun i hi => absurd hi (Nat.not_lt_zero _)⟩
  · refine ⟨_, cap, hv, hl, hc, fun i hi => ⟨g, 0, rfl, (Array.getElem?_eq_some_iff.1 hg).1, ?_⟩⟩
    have hc' : ∀ j, j < 4 → w.cell? ⟨g, 0 + i * 4 + j, none⟩ = (cellsT (nth l i))[j]? := by
      intro j hj
      rw [← cells4_at l i j hi hj]
      have hlt : i * 4 + j < (cells4 l).length := by rw [cells4_length]; omega
      have := h0.cells (g := g) (by rw [hv]; rfl) (i * 4 + j) ((cells4 l)[i * 4 + j]) (List.getElem?_eq_getElem hlt)
      rw [List.getElem?_eq_getElem hlt, ← this]
      congr 1
      unfold Addr.add
      split <;> simp_all
    exact ⟨hc' 0 (by omega), hc' 1 (by omega), hc' 2 (by omega), hc' 3 (by omega)⟩
def UpTo (n : Nat) (w : World) (i : Value) (wr : World) : Prop := ∃ k : Nat, k ≤ n ∧ i = .int .i64 (k : Nat) ∧ Below w.heap.size w wr
theorem core_at (l m : List Tok) (h : l.map Tok.core = m.map Tok.core) (k : Nat) : (nth l k).kind = (nth m k).kind ∧ (nth l k).text = (nth m k).text ∧ (nth l k).num = (nth m k).num := by
  have e : (nth l k).core = (nth m k).core := by
    unfold nth
    have h1 := congrArg (fun x => x.getD k (Tok.core ⟨0, [], 0, 0⟩)) h
    simp only [List.getD_eq_getElem?_getD, List.getElem?_map, Option.getD_map] at h1 ⊢
    exact h1
  simp only [Tok.core, Prod.mk.injEq] at e
  exact e
end Go.Proofs.YtdimgomigidbkaaGreatDoor
/- token.Scan and the reference's, alike. -/
namespace Go.Proofs.YtdimgomigidbkaaGreatDoor
open Go.RowKit

theorem Reads.nil (w : World) : Reads w (.slice none 0 0) [] := ⟨none, 0, rfl, Nat.le_refl _, Nat.zero_le _, fun _ hi => absurd hi (Nat.not_lt_zero _)⟩
theorem scan_len : ∀ (n : Nat) (l : List UInt8) (a : Nat) (ts : List Tok), l.length ≤ n → scanF l a = .ok ts → ts.length ≤ l.length
  | _, [], a, ts, _, h => by
    rw [scanF_nil] at h
    cases h
    exact Nat.le_refl _
  | 0, b :: t, _, _, h, _ => absurd h (by simp)
  | n + 1, b :: t, a, ts, hn, h => by
    by_cases hb : 0 < blankN (b :: t)
    · rw [scanF_blank _ _ hb] at h
      have := scan_len n _ _ ts (by rw [List.length_drop]; omega) h
      rw [List.length_drop] at this
      omega
    · rw [scanF_one _ _ (by simp) (by omega)] at h
      cases h1 : oneN (b :: t) with
      | error e => rw [h1] at h; cases h
      | ok x =>
        obtain ⟨k, u, v, m⟩ := x
        have hl := oneN_len h1
        rw [h1] at h
        dsimp only at h
        cases h2 : scanF ((b :: t).drop m) (a + m) with
        | error e => rw [h2] at h; cases h
        | ok us =>
          rw [h2] at h
          cases h
          have := scan_len n _ _ us (by rw [List.length_drop]; omega) h2
          rw [List.length_drop] at this
          rw [List.length_cons]
          omega
/-- What a scan answers: a place, an error, tokens. -/
def scanAns (l : List UInt8) : Nat × Int × List Tok :=
  if 4000 < l.length then (0, 2, []) else match scanL l with
    | .error e => (e.1, e.2, [])
    | .ok ts => (0, 0, ts)
def Ans (l : List UInt8) (w : World) (e : Ending) (w' : World) : Prop :=
  ∃ v, e = .returned (.tuple #[v, .int .i64 ((scanAns l).1 : Nat), .int .i64 (scanAns l).2.1]) ∧ Reads w' v (scanAns l).2.2 ∧ Below w.heap.size w w'
theorem ans_long {l : List UInt8} {w w' : World} {e : Ending} (h : 4000 < l.length) (he : e = .returned (.tuple #[.slice none 0 0, .int .i64 0, .int .i64 2]) ∧ w = w') : Ans l w e w' := by
  obtain ⟨rfl, rfl⟩ := he
  have e : scanAns l = (0, 2, []) := if_pos h
  unfold Ans
  rw [e]
  exact ⟨_, rfl, Reads.nil _, Below.refl _ _⟩
theorem ans_short {l : List UInt8} {w w' : World} {e : Ending} (h : ¬ 4000 < l.length) (he : ScanEnd l w e w') : Ans l w e w' := by
  obtain ⟨v, rfl, h1, h2⟩ := he
  have e : scanAns l = match scanL l with
    | .error e => (e.1, e.2, [])
    | .ok ts => (0, 0, ts) := if_neg h
  unfold Ans
  rw [e]
  cases hs : scanL l with
  | error x => exact ⟨_, rfl, Reads.nil _, h2⟩
  | ok ts => exact ⟨v, rfl, (h1 ts hs).reads, h2⟩
theorem scan_ans (l : List UInt8) (w : World) (hE : Env w) : Calls Tryz.prog 17 #[.string (bs l)] w (Ans l w) := by
  by_cases h : 4000 < l.length
  · exact (scan_long l w h).mono fun _ _ he => ans_long h he
  · exact (scan_any l w (by omega) hE).mono fun _ _ he => ans_short h he
theorem rscan_ans (l : List UInt8) (w : World) : Calls Tryz.prog 20 #[.string (bs l)] w (Ans l w) := by
  by_cases h : 4000 < l.length
  · exact (rscan_long l w h).mono fun _ _ he => ans_long h he
  · exact (rscan_any l w (by omega)).mono fun _ _ he => ans_short h he

theorem ans_len (l : List UInt8) : (scanAns l).2.2.length ≤ 4000 := by
  unfold scanAns
  by_cases h : 4000 < l.length
  · rw [if_pos h]; exact Nat.zero_le _
  · rw [if_neg h]
    cases hs : scanL l with
    | error x => exact Nat.zero_le _
    | ok ts => exact Nat.le_trans (scan_len l.length l 0 ts (Nat.le_refl _) hs) (by omega)
end Go.Proofs.YtdimgomigidbkaaGreatDoor
/- Numbers of stage 8, third part: what a text is read as. -/
namespace Go.Proofs.YtdimgomigidbkaaGreatDoor

theorem numberN_bad {l : List UInt8} {e : Int} (h : numberN l = .error e) : e ≠ 0 := by
  rw [numberN_eq] at h
  unfold numberK at h
  split at h
  · cases h; decide
  · split at h
    · cases h; decide
    · cases h
theorem oneN_bad {l : List UInt8} {e : Int} (h : oneN l = .error e) : e ≠ 0 := by
  cases l with
  | nil => cases h; decide
  | cons b r =>
    by_cases h1 : b.toNat = 123
    · rw [oneN_open r h1] at h; cases h
    by_cases h2 : b.toNat = 125
    · rw [oneN_close r h2] at h; cases h
    by_cases h3 : b.toNat = 59
    · rw [oneN_end r h3] at h; cases h
    by_cases h4 : b.toNat = 45 ∨ isDigit b = true
    · rw [oneN_num r h4] at h
      cases e1 : numberN (b :: r) with
      | error x => rw [e1] at h; cases h; exact numberN_bad e1
      | ok x => rw [e1] at h; cases h
    · rw [oneN_word r h1 h2 h3 h4] at h
      split at h
      · cases h; decide
      · split at h
        · cases h; decide
        · cases h
theorem numberN_fit {l : List UInt8} {v : Int} {n : Nat} (h : numberN l = .ok (v, n)) : -1000000000 ≤ v ∧ v ≤ 1000000000 := by
  rw [numberN_eq] at h
  unfold numberK at h
  split at h
  · cases h
  · split at h
    · cases h
    · rename_i h2
      simp only [Except.ok.injEq, Prod.mk.injEq] at h
      have hv := h.1
      unfold sgn at hv
      split at hv <;> omega
theorem oneN_right {l : List UInt8} {k : Int} {t : List UInt8} {v : Int} {n : Nat} (h : oneN l = .ok (k, t, v, n)) : RightN k t v := by
  cases l with
  | nil => cases h
  | cons b r =>
    by_cases h1 : b.toNat = 123
    · rw [oneN_open r h1] at h; cases h; exact Or.inr (Or.inr ⟨Or.inl rfl, rfl, rfl⟩)
    by_cases h2 : b.toNat = 125
    · rw [oneN_close r h2] at h; cases h; exact Or.inr (Or.inr ⟨Or.inr (Or.inl rfl), rfl, rfl⟩)
    by_cases h3 : b.toNat = 59
    · rw [oneN_end r h3] at h; cases h; exact Or.inr (Or.inr ⟨Or.inr (Or.inr rfl), rfl, rfl⟩)
    by_cases h4 : b.toNat = 45 ∨ isDigit b = true
    · rw [oneN_num r h4] at h
      cases e1 : numberN (b :: r) with
      | error x => rw [e1] at h; cases h
      | ok x =>
        obtain ⟨w, m⟩ := x
        rw [e1] at h
        cases h
        exact Or.inr (Or.inl ⟨rfl, rfl, numberN_fit e1⟩)
    · rw [oneN_word r h1 h2 h3 h4] at h
      have hsl := spanLen_le isLetter (b :: r)
      have hall := spanLen_take isLetter (b :: r)
      generalize spanLen isLetter (b :: r) = m at h hsl hall
      by_cases q : m = 0
      · rw [if_pos q] at h; cases h
      rw [if_neg q] at h
      by_cases q2 : 12 < m
      · rw [if_pos q2] at h; cases h
      rw [if_neg q2] at h
      simp only [Except.ok.injEq, Prod.mk.injEq] at h
      obtain ⟨rfl, rfl, rfl, -⟩ := h
      exact Or.inl ⟨rfl, hall, by rw [List.length_take]; omega, by rw [List.length_take]; omega, rfl⟩
theorem scan_told : ∀ (n : Nat) (l : List UInt8) (a : Nat), l.length ≤ n →
    (∀ ts, scanF l a = .ok ts → ∀ t ∈ ts, t.right ∧ (a : Int) ≤ t.place ∧ t.place ≤ (a + l.length : Nat)) ∧ (∀ p e, scanF l a = .error (p, e) → e ≠ 0 ∧ a ≤ p ∧ p ≤ a + l.length)
  | n, [], a, _ => ⟨(fun ts h t ht => by rw [scanF_nil] at h; cases h; cases ht), (fun p e h => by rw [scanF_nil] at h; cases h)⟩
  | 0, b :: r, a, h => absurd h (by simp)
  | n + 1, b :: r, a, h => by
    rw [List.length_cons] at h
    have hb := blankN_le (b :: r)
    rw [List.length_cons] at hb
    by_cases c : 0 < blankN (b :: r)
    · rw [scanF_blank _ _ c]
      have ih := scan_told n ((b :: r).drop (blankN (b :: r))) (a + blankN (b :: r)) (by rw [List.length_drop, List.length_cons]; omega)
      rw [List.length_drop, List.length_cons] at ih
      refine ⟨fun ts h t ht => ?_, fun p e h => ?_⟩
      · obtain ⟨h1, h2, h3⟩ := ih.1 ts h t ht
        exact ⟨h1, by omega, by rw [List.length_cons]; omega⟩
      · obtain ⟨h1, h2, h3⟩ := ih.2 p e h
        exact ⟨h1, by omega, by rw [List.length_cons]; omega⟩
    · rw [scanF_one _ _ (by simp) (by omega)]
      cases e1 : oneN (b :: r) with
      | error x =>
        refine ⟨(fun ts h => by cases h), fun p e h => ?_⟩
        dsimp only at h
        cases h
        exact ⟨oneN_bad e1, Nat.le_refl _, Nat.le_add_right _ _⟩
      | ok x =>
        obtain ⟨k, u, v, m⟩ := x
        have hl := oneN_len e1
        rw [List.length_cons] at hl
        have ih := scan_told n ((b :: r).drop m) (a + m) (by rw [List.length_drop, List.length_cons]; omega)
        rw [List.length_drop, List.length_cons] at ih
        dsimp only
        cases e2 : scanF ((b :: r).drop m) (a + m) with
        | error x =>
          refine ⟨(fun ts h => by cases h), fun p e h => ?_⟩
          dsimp only at h
          cases h
          obtain ⟨h1, h2, h3⟩ := ih.2 _ _ e2
          exact ⟨h1, by omega, by rw [List.length_cons]; omega⟩
        | ok us =>
          refine ⟨fun ts h t ht => ?_, (fun p e h => by cases h)⟩
          dsimp only at h
          cases h
          rcases List.mem_cons.1 ht with rfl | ht
          · exact ⟨oneN_right e1, Int.le_refl _, by show (a : Int) ≤ _; omega⟩
          · obtain ⟨h1, h2, h3⟩ := ih.1 us e2 t ht
            exact ⟨h1, by omega, by rw [List.length_cons]; omega⟩

/-! ### What a text is read as -/
def placeOf (n : Nat) (s : List Tok) : Int := if s = [] then (n : Int) else (hd s).place
def parseAns (l : List UInt8) : Int × Int × List Ch :=
  if (scanAns l).2.1 ≠ 0 then ((scanAns l).1, (scanAns l).2.1, [])
  else match parseS ((scanAns l).2.2.length + 1) (scanAns l).2.2 [] with
    | .error x => (placeOf l.length x.1, x.2, [])
    | .ok cs => (0, 0, cs)
/-- What a scan answers: an error and a place in the text, or tokens that may be, at places of it. -/
theorem scan_ans_told (l : List UInt8) : ((scanAns l).2.1 ≠ 0 → (scanAns l).1 ≤ l.length) ∧ ((scanAns l).2.1 = 0 → scanL l = .ok (scanAns l).2.2 ∧ l.length ≤ 4000 ∧ ∀ t ∈ (scanAns l).2.2, t.right ∧ 0 ≤ t.place ∧ t.place ≤ (l.length : Nat)) := by
  unfold scanAns
  by_cases c : 4000 < l.length
  · rw [if_pos c]
    exact ⟨fun _ => Nat.zero_le _, fun h => absurd h (by show ¬ (2 : Int) = 0; decide)⟩
  · rw [if_neg c]
    have h := scan_told l.length l 0 (Nat.le_refl _)
    cases e : scanL l with
    | error x =>
      obtain ⟨p, er⟩ := x
      obtain ⟨h1, h2, h3⟩ := h.2 p er e
      exact ⟨fun _ => by show p ≤ _; omega, fun q => absurd q h1⟩
    | ok ts =>
      refine ⟨fun q => absurd rfl q, fun _ => ⟨rfl, by omega, fun t ht => ?_⟩⟩
      obtain ⟨h1, h2, h3⟩ := h.1 ts e t ht
      exact ⟨h1, by omega, by omega⟩
theorem close_bad {l s : List Tok} {c : Ch} {met : Nat → Bool} {e : Int} (h : closeS l c met = .error (s, e)) : e ≠ 0 ∧ s = l := by
  unfold closeS at h
  split at h
  · cases h; exact ⟨by decide, rfl⟩
  · split at h
    · cases h; exact ⟨by decide, rfl⟩
    · split at h
      · cases h; exact ⟨by decide, rfl⟩
      · cases h
theorem fields_bad : ∀ (n : Nat) (l : List Tok) (c : Ch) (met : Nat → Bool) (s : List Tok) (e : Int), fieldsS n l c met = .error (s, e) → e ≠ 0 ∧ ∃ j, s = l.drop j
  | 0, _, _, _, _, _, h => by cases h; exact ⟨by decide, 0, rfl⟩
  | n + 1, l, c, met, s, e, h => by
    unfold fieldsS at h
    split at h
    · obtain ⟨h1, rfl⟩ := close_bad h
      exact ⟨h1, 0, rfl⟩
    · split at h
      · cases h; exact ⟨by decide, 0, rfl⟩
      · split at h
        · cases h; exact ⟨by decide, 0, rfl⟩
        · split at h
          · cases h; exact ⟨by decide, 0, rfl⟩
          · split at h
            · cases h; exact ⟨by decide, 1, rfl⟩
            · split at h
              · cases h; exact ⟨by decide, 1, rfl⟩
              · split at h
                · cases h; exact ⟨by decide, 2, rfl⟩
                · obtain ⟨h1, j, rfl⟩ := fields_bad n _ _ _ s e h
                  exact ⟨h1, 3 + j, by rw [List.drop_drop]⟩
theorem channel_bad {l s : List Tok} {ahead : List Ch} {e : Int} (h : channelS l ahead = .error (s, e)) : e ≠ 0 ∧ ∃ j, s = l.drop j := by
  unfold channelS at h
  split at h
  · cases h; exact ⟨by decide, 0, rfl⟩
  · split at h
    · cases h; exact ⟨by decide, 0, rfl⟩
    · split at h
      · cases h; exact ⟨by decide, 1, rfl⟩
      · split at h
        · cases h; exact ⟨by decide, 1, rfl⟩
        · split at h
          · cases h; exact ⟨by decide, 2, rfl⟩
          · split at h
            · cases h; exact ⟨by decide, 3, rfl⟩
            · obtain ⟨h1, j, rfl⟩ := fields_bad _ _ _ _ s e h
              exact ⟨h1, 4 + j, by rw [List.drop_drop]⟩
theorem parse_bad : ∀ (n : Nat) (l : List Tok) (out : List Ch) (s : List Tok) (e : Int), (∀ t ∈ l, t.right) → parseS n l out = .error (s, e) → e ≠ 0 ∧ ∃ j, s = l.drop j
  | 0, _, _, _, _, _, h => by cases h; exact ⟨by decide, 0, rfl⟩
  | n + 1, l, out, s, e, ht, h => by
    unfold parseS at h
    split at h
    · cases h
    · cases e1 : channelS l out with
      | error x =>
        rw [e1] at h
        cases h
        exact channel_bad e1
      | ok x =>
        obtain ⟨c, r⟩ := x
        rw [e1] at h
        obtain ⟨-, -, -, -, j, -, -, rfl⟩ := channel_may e1 ht
        obtain ⟨h1, i, rfl⟩ := parse_bad n _ _ s e (fun t q => ht t (List.mem_of_mem_drop q)) h
        exact ⟨h1, j + i, by rw [List.drop_drop]⟩
/-- What is read of any text: an error, no channel and a place of the text, or a recipe that may be, and place 0. -/
theorem parse_told (l : List UInt8) : ((parseAns l).2.1 ≠ 0 → 0 ≤ (parseAns l).1 ∧ (parseAns l).1 ≤ (l.length : Nat) ∧ (parseAns l).2.2 = []) ∧
    ((parseAns l).2.1 = 0 → (parseAns l).1 = 0 ∧ recB (parseAns l).2.2 = true ∧ ∀ c ∈ (parseAns l).2.2, c.fin) := by
  have hs := scan_ans_told l
  unfold parseAns
  by_cases c : (scanAns l).2.1 ≠ 0
  · rw [if_pos c]
    exact ⟨fun _ => ⟨by show (0 : Int) ≤ ((scanAns l).1 : Int); omega, by have := hs.1 c; show ((scanAns l).1 : Int) ≤ _; omega, rfl⟩, fun h => absurd h c⟩
  · rw [if_neg c]
    obtain ⟨h1, h2, h3⟩ := hs.2 (Decidable.of_not_not c)
    generalize (scanAns l).2.2 = ts at h1 h3
    cases e : parseS (ts.length + 1) ts [] with
    | error x =>
      obtain ⟨s, er⟩ := x
      obtain ⟨k1, j, rfl⟩ := parse_bad _ _ _ s er (fun t ht => (h3 t ht).1) e
      refine ⟨fun _ => ?_, fun h => absurd h k1⟩
      show 0 ≤ placeOf _ _ ∧ placeOf _ _ ≤ _ ∧ _
      unfold placeOf
      by_cases z : ts.drop j = []
      · rw [if_pos z]
        exact ⟨by omega, Int.le_refl _, rfl⟩
      · rw [if_neg z]
        have hm : hd (ts.drop j) ∈ ts := by
          cases e2 : ts.drop j with
          | nil => exact absurd e2 z
          | cons t r => exact List.mem_of_mem_drop (i := j) (by rw [e2, hd_cons]; simp)
        obtain ⟨-, q1, q2⟩ := h3 _ hm
        exact ⟨q1, q2, rfl⟩
    | ok cs =>
      refine ⟨fun h => absurd rfl h, fun _ => ⟨rfl, ?_⟩⟩
      exact parse_may _ ts [] cs e (fun t ht => (h3 t ht).1) (by simp) (fun c hc => by cases hc) (by simp)

/-! ### What is printed is read as it was -/
theorem lay_len : ∀ (l : List (Tok × List UInt8)) (tail : List UInt8), LayOk l tail → (∀ x ∈ l, x.2.length ≤ 1) → (layN l).length ≤ 13 * l.length
  | [], _, _, _ => Nat.zero_le _
  | x :: r, tail, ⟨h1, _, _, h4⟩, h => by
    have := bytes_le h1
    have := h x (by simp)
    have := lay_len r tail h4 fun y hy => h y (by simp [hy])
    show (x.1.bytes ++ (x.2 ++ layN r)).length ≤ _
    rw [List.length_append, List.length_append, List.length_cons]
    omega
theorem lines_sep (c : Ch) : ∀ ks : List Nat, (∀ x ∈ linesF c ks, x.2.length ≤ 1) ∧ (linesF c ks).length = 3 * ks.length
  | [] => ⟨(fun _ h => by cases h), rfl⟩
  | k :: ks => by
    have e : linesF c (k :: ks) = lineF c k ++ linesF c ks := by unfold linesF; rw [List.flatMap_cons]
    obtain ⟨h1, h2⟩ := lines_sep c ks
    rw [e]
    refine ⟨fun x hx => ?_, by rw [List.length_append, h2, List.length_cons]; show 3 + _ = _; omega⟩
    rcases List.mem_append.1 hx with q | q
    · unfold lineF at q
      simp only [List.mem_cons, List.not_mem_nil, or_false] at q
      rcases q with rfl | rfl | rfl
      · exact Nat.le_refl _
      · exact Nat.zero_le _
      · exact Nat.le_refl _
    · exact h1 x q
theorem chan_sep (c : Ch) : (∀ x ∈ chanF c, x.2.length ≤ 1) ∧ (chanF c).length ≤ 41 := by
  obtain ⟨h1, h2⟩ := lines_sep c (shown c)
  have h3 := shown_len c
  unfold chanF
  refine ⟨fun x hx => ?_, by rw [List.length_append, List.length_append, h2]; show 4 + (_ + 1) ≤ _; omega⟩
  rcases List.mem_append.1 hx with q | q
  · unfold headF at q
    simp only [List.mem_cons, List.not_mem_nil, or_false] at q
    rcases q with rfl | rfl | rfl | rfl <;> exact Nat.le_refl _
  · rcases List.mem_append.1 q with q | q
    · exact h1 x q
    · obtain rfl := List.mem_singleton.1 q
      exact Nat.le_refl _
theorem rec_sep : ∀ l : List Ch, (∀ x ∈ recF l, x.2.length ≤ 1) ∧ (recF l).length ≤ 41 * l.length
  | [] => ⟨(fun _ h => by cases h), Nat.le_refl _⟩
  | c :: l => by
    obtain ⟨h1, h2⟩ := rec_sep l
    obtain ⟨h3, h4⟩ := chan_sep c
    rw [recF_cons]
    refine ⟨fun x hx => ?_, by rw [List.length_append, List.length_cons]; omega⟩
    rcases List.mem_append.1 hx with q | q
    · exact h3 x q
    · exact h1 x q
theorem print_len (l : List Ch) (hm : ∀ c ∈ l, c.may) (h4 : l.length ≤ 4) : (printR l).length ≤ 2132 := by
  have h := lay_len (recF l) [] (rec_ok l [] hm) (rec_sep l).1
  have := (rec_sep l).2
  show (layN (recF l)).length ≤ _
  omega
theorem layT_len : ∀ (l : List (Tok × List UInt8)) (a : Nat), (layT l a).length = l.length
  | [], _ => rfl
  | x :: r, a => by
    show (layT r _).length + 1 = _
    rw [layT_len r, List.length_cons]
theorem rec_len : ∀ l : List Ch, l.length ≤ (recF l).length
  | [] => Nat.le_refl _
  | c :: l => by
    have := rec_len l
    rw [recF_cons, List.length_append, List.length_cons]
    have : 4 ≤ (chanF c).length := by unfold chanF; rw [List.length_append]; show 4 ≤ 4 + _; omega
    omega
theorem scan_ans_print (cs : List Ch) (hm : ∀ c ∈ cs, c.may) (h4 : cs.length ≤ 4) : scanAns (printR cs) = (0, 0, layT (recF cs) 0) := by
  have := print_len cs hm h4
  unfold scanAns
  rw [if_neg (by omega), scan_rec cs hm]
theorem read_print (cs : List Ch) (h : recB cs = true) (hf : ∀ c ∈ cs, c.fin) : parseAns (printR cs) = (0, 0, cs) := by
  obtain ⟨⟨h1, h4⟩, hm, hd⟩ := (recB_iff cs).1 h
  unfold parseAns
  rw [scan_ans_print cs hm h4, if_neg (fun q => q rfl)]
  have hl := rec_len cs
  have := parse_print cs ((layT (recF cs) 0).length + 1) h hf (by rw [layT_len]; omega)
  dsimp only
  rw [this]
/-- Two channels of one name: the second one's name is wrong. -/
theorem read_twice (a b : Ch) (ha : a.may) (hb : b.may) (fa : a.fin) (hn : a.name = b.name) : parseAns (printR [a, b]) = ((((printR [a]).length + 8 : Nat) : Int), 9, []) := by
  have hm : ∀ c ∈ [a, b], c.may := fun c hc => by
    simp only [List.mem_cons, List.not_mem_nil, or_false] at hc
    rcases hc with rfl | rfl
    · exact ha
    · exact hb
  unfold parseAns
  rw [scan_ans_print [a, b] hm (by simp), if_neg (fun q => q rfl)]
  dsimp only
  have hc := rec_core [a, b] 0
  have hsplit : layT (recF [a, b]) 0 = layT (chanF a) 0 ++ layT (chanF b) (layN (chanF a)).length := by
    rw [recF_cons, recF_cons, show recF [] = [] from rfl, List.append_nil, layT_append, Nat.zero_add]
  have hright : ∀ t ∈ layT (recF [a, b]) 0, t.right := by
    have hs := scan_rec [a, b] hm
    exact fun t ht => ((scan_told _ (printR [a, b]) 0 (Nat.le_refl _)).1 _ hs t ht).1
  rw [show [a, b].flatMap coresC = coresC a ++ coresC b by simp [List.flatMap_cons]] at hc
  obtain ⟨r, h1, h2⟩ := channel_read ha fa (layT (recF [a, b]) 0) [] _ hc (by decide) (by simp)
  obtain ⟨-, -, -, -, j, -, hj, hr⟩ := channel_may h1 hright
  have hlb : (layT (chanF b) (layN (chanF a)).length).map Tok.core = coresC b := by rw [layT_core, chan_core]
  have hrr : r = layT (chanF b) (layN (chanF a)).length := by
    have l1 := congrArg List.length h2
    have l2 := congrArg List.length hlb
    rw [List.length_map] at l1 l2
    rw [hsplit] at hr hj
    rw [List.length_append] at hj
    have l3 := congrArg List.length hr
    rw [List.length_drop, List.length_append] at l3
    rw [hr, show j = (layT (chanF a) 0).length by omega, List.drop_left' rfl]
  have hne : ¬ (layT (recF [a, b]) 0 = [] ∧ ([] : List Ch) ≠ []) := fun q => q.2 rfl
  have e1 : parseS ((layT (recF [a, b]) 0).length + 1) (layT (recF [a, b]) 0) [] = parseS (layT (recF [a, b]) 0).length r [a] := by
    conv => lhs; unfold parseS
    rw [if_neg hne, h1]
    rfl
  have hpos : ∃ m, (layT (recF [a, b]) 0).length = m + 1 := by
    refine ⟨(layT (recF [a, b]) 0).length - 1, ?_⟩
    have := rec_len [a, b]
    rw [layT_len]
    simp only [List.length_cons, List.length_nil] at this
    omega
  obtain ⟨m, hmm⟩ := hpos
  have hform : layT (chanF b) (layN (chanF a)).length = ⟨1, chanW, 0, ((layN (chanF a)).length : Nat)⟩ :: ⟨1, b.name, 0, ((layN (chanF a)).length + 8 : Nat)⟩ :: (layT (chanF b) (layN (chanF a)).length).drop 2 := rfl
  have e2 : channelS r [a] = .error (r.drop 1, 9) := by
    rw [hrr, hform]
    unfold channelS
    rw [if_neg (fun h => h rfl), if_neg (show ¬ [a].length = 4 from by simp), if_neg (fun h => h rfl), if_pos (show (hd (List.drop 1 (⟨1, chanW, 0, ((layN (chanF a)).length : Nat)⟩ :: ⟨1, b.name, 0, ((layN (chanF a)).length + 8 : Nat)⟩ :: (layT (chanF b) (layN (chanF a)).length).drop 2))).text ∈ [a].map Ch.name from by show b.name ∈ [a.name]; rw [hn]; simp)]
  rw [e1, hmm]
  have e3 : parseS (m + 1) r [a] = .error (r.drop 1, 9) := by
    unfold parseS
    rw [if_neg (by rw [hrr, hform]; simp), e2]
  rw [e3]
  dsimp only
  have hp : placeOf (printR [a, b]).length (r.drop 1) = (((layN (chanF a)).length + 8 : Nat) : Int) := by
    rw [hrr, hform]
    rfl
  rw [hp]
  have : printR [a] = layN (chanF a) := by
    unfold printR
    rw [recF_cons, show recF [] = [] from rfl, List.append_nil]
  rw [this]
end Go.Proofs.YtdimgomigidbkaaGreatDoor
/- Numbers of stage 8's code: the table of fields, by rows; which of them a chart needs or may have. -/
namespace Go.Proofs.YtdimgomigidbkaaGreatDoor

def rowF (r : Nat) : Nat := if r ≤ 1 then 0 else r - 1
def rowW (r : Nat) : List UInt8 := fieldW.getD (rowF r) []
def rLoT : List Int := [2, 1, -1000000, -1000000, 2, 1, -1000000, 0, 1, 1, 1, -1000000, -1000000]
def rHiT : List Int := [10, 1000, 1000000, 1000000, 25, 1000000000, 1000000, 1000000, 1000000000, 99, 1000000, 1000000, 1000000]
def rChT : List (List Int) := [[0], [2, 3, 5], [0, 1, 6, 7], [0, 1, 6, 7], [0, 1, 2, 3, 4, 5], [0, 1, 2, 3, 4, 5, 6, 7], [6, 7], [6], [6], [7], [7], [0, 1], [0, 1]]
def rLo (r : Nat) : Int := rLoT.getD r 0
def rHi (r : Nat) : Int := rHiT.getD r 0
def rCh (r : Nat) : List Int := rChT.getD r []
def rNeed (r : Nat) : Bool := decide (r < 11)
def rowsL (ch : Nat) : List Nat := (List.range 13).filter fun r => (rCh r).contains (ch : Int)
theorem rows_may : ∀ ch, ch < 8 → ∀ r ∈ rowsL ch, r < 13 ∧ rowF r < 12 ∧ mayB ch (rowF r) = true ∧ needB ch (rowF r) = rNeed r ∧ lowK ch (rowF r) = rLo r ∧ highK ch (rowF r) = rHi r := by decide
theorem may_rows : ∀ ch, ch < 8 → ∀ k, k < 12 → mayB ch k = true → ∃ r ∈ rowsL ch, rowF r = k := by decide
theorem rows_nodup : ∀ ch, ch < 8 → ((rowsL ch).map rowF).Nodup := by decide
theorem rows_lt (ch r : Nat) (h : r ∈ rowsL ch) : r < 13 := List.mem_range.1 (List.mem_filter.1 h).1
theorem rowF_lt : ∀ r, r < 13 → rowF r < 12 := by decide
theorem rows_len : ∀ ch, ch < 8 → (rowsL ch).length ≤ 13 := by decide
theorem need_may : ∀ ch, ch < 8 → ∀ k, k < 12 → needB ch k = true → mayB ch k = true ∧ k < 10 := by decide
theorem may_need : ∀ ch, ch < 8 → ∀ k, k < 10 → mayB ch k = true → needB ch k = true := by decide
/-- Which fields came. -/
def metOf (l : List Nat) (k : Nat) : Bool := l.any fun r => decide (rowF r = k)
theorem metOf_iff {l : List Nat} {k : Nat} : metOf l k = true ↔ ∃ r ∈ l, rowF r = k := by
  unfold metOf
  simp only [List.any_eq_true, decide_eq_true_eq]
theorem metOf_snoc (l : List Nat) (r : Nat) : metOf (l ++ [r]) = put (metOf l) (rowF r) := by
  funext k
  unfold metOf Go.Proofs.YtdimgomigidbkaaGreatDoor.put
  rw [List.any_append, Bool.or_comm]
  simp [eq_comm]
theorem fieldW_len : fieldW.length = 12 := rfl
theorem fieldW_inj {j k : Nat} (hj : j < 12) (hk : k < 12) (h : fieldW.getD j [] = fieldW.getD k []) : j = k := by
  have h1 := field_found j hj
  rw [h, field_found k hk] at h1
  injection h1 with h1
  exact h1.symm
theorem words_get (l : List Nat) (i : Nat) (h : i < l.length) : (l.map rowW).getD i [] = rowW (l.getD i 0) := by
  rw [List.getD_eq_getElem?_getD, List.getD_eq_getElem?_getD, List.getElem?_map, List.getElem?_eq_getElem h]
  rfl
theorem getD_mem (l : List Nat) (i : Nat) (h : i < l.length) : l.getD i 0 ∈ l := by
  rw [List.getD_eq_getElem?_getD, List.getElem?_eq_getElem h]
  exact List.getElem_mem h
theorem findW_none_iff {ws : List (List UInt8)} {s : List UInt8} : findW ws s = none ↔ ∀ x ∈ ws, x ≠ s := by
  unfold findW
  rw [List.findIdx?_eq_none_iff]
  constructor
  · intro h x hx e
    have := h x hx
    rw [e] at this
    simp at this
  · intro h x hx
    have := h x hx
    simpa using this
/-- A field's word among rows. -/
theorem have_met {l : List Nat} (hl : ∀ r ∈ l, r < 13) {k : Nat} (hk : k < 12) : (findW (l.map rowW) (fieldW.getD k [])).isSome = metOf l k := by
  cases hm : metOf l k with
  | true =>
    cases hf : findW (l.map rowW) (fieldW.getD k []) with
    | some i => rfl
    | none =>
      obtain ⟨r, hr, rfl⟩ := metOf_iff.1 hm
      exact absurd rfl (findW_none_iff.1 hf _ (List.mem_map.2 ⟨r, hr, rfl⟩))
  | false =>
    cases hf : findW (l.map rowW) (fieldW.getD k []) with
    | none => rfl
    | some i =>
      obtain ⟨h1, h2⟩ := findW_some hf
      rw [List.length_map] at h1
      rw [words_get l i h1] at h2
      have hr := getD_mem l i h1
      have : metOf l k = true := metOf_iff.2 ⟨_, hr, fieldW_inj (rowF_lt _ (hl _ hr)) hk h2⟩
      rw [hm] at this
      cases this
/-- A text among a chart's words. -/
theorem find_rows {ch : Nat} (hc : ch < 8) {s : List UInt8} {i : Nat} (h : findW ((rowsL ch).map rowW) s = some i) :
    i < (rowsL ch).length ∧ findW fieldW s = some (rowF ((rowsL ch).getD i 0)) ∧ mayB ch (rowF ((rowsL ch).getD i 0)) = true ∧ s = rowW ((rowsL ch).getD i 0) := by
  obtain ⟨h1, h2⟩ := findW_some h
  rw [List.length_map] at h1
  rw [words_get _ i h1] at h2
  have hr := rows_may ch hc _ (getD_mem _ i h1)
  refine ⟨h1, ?_, hr.2.2.1, h2.symm⟩
  rw [← h2]
  exact field_found _ hr.2.1
theorem find_rows_none {ch : Nat} (hc : ch < 8) {s : List UInt8} (h : findW ((rowsL ch).map rowW) s = none) {k : Nat} (hf : findW fieldW s = some k) : mayB ch k = false := by
  obtain ⟨h1, h2⟩ := findW_some hf
  cases hm : mayB ch k with
  | false => rfl
  | true =>
    obtain ⟨r, hr, rfl⟩ := may_rows ch hc k h1 hm
    exact absurd h2 (findW_none_iff.1 h _ (List.mem_map.2 ⟨r, hr, rfl⟩))
/-- Only words have a text. -/
theorem right_text {t : Tok} (h : t.right) (hk : t.kind ≠ 1) : t.text = [] := by
  rcases h with ⟨h1, -⟩ | ⟨-, h2, -⟩ | ⟨-, h2, -⟩
  · exact absurd h1 hk
  · exact h2
  · exact h2
theorem word_field {t : Tok} (h : t.right ∨ t = tok0) : findW fieldW (wordT t) = findW fieldW t.text := by
  unfold wordT
  by_cases hk : t.kind = 1
  · rw [if_pos hk]
  · rw [if_neg hk]
    have e : t.text = [] := by
      rcases h with h | h
      · exact right_text h hk
      · rw [h]; rfl
    rw [e]
    decide
theorem word_chart {t : Tok} (h : t.right ∨ t = tok0) : findW chartW (wordT t) = findW chartW t.text := by
  unfold wordT
  by_cases hk : t.kind = 1
  · rw [if_pos hk]
  · rw [if_neg hk]
    have e : t.text = [] := by
      rcases h with h | h
      · exact right_text h hk
      · rw [h]; rfl
    rw [e]
    decide
theorem word_chan {t : Tok} (h : t.right ∨ t = tok0) : wordT t = chanW ↔ t.text = chanW := by
  unfold wordT
  by_cases hk : t.kind = 1
  · rw [if_pos hk]
  · rw [if_neg hk]
    have e : t.text = [] := by
      rcases h with h | h
      · exact right_text h hk
      · rw [h]; rfl
    rw [e]
    decide
theorem hd_right {l : List Tok} (h : ∀ t ∈ l, t.right) : (hd l).right ∨ hd l = tok0 := by
  cases l with
  | nil => exact Or.inr rfl
  | cons t r => exact Or.inl (h t List.mem_cons_self)
/-- The next token; behind the last one, one of no kind at the text's end. -/
def tokE (n : Nat) (l : List Tok) : Tok := if l = [] then ⟨0, [], 0, (n : Int)⟩ else hd l
theorem tokE_kind (n : Nat) (l : List Tok) : (tokE n l).kind = (hd l).kind ∧ (tokE n l).text = (hd l).text ∧ (tokE n l).num = (hd l).num ∧ (tokE n l).place = placeOf n l := by
  unfold tokE placeOf
  cases l with
  | nil => exact ⟨rfl, rfl, rfl, rfl⟩
  | cons t r => exact ⟨rfl, rfl, rfl, rfl⟩
/-- Are fields lacking? -/
def lackB (ch : Nat) (l : List Nat) : Bool := ((rowsL ch).any fun r => rNeed r && !metOf l (rowF r)) || (metOf l 10 != metOf l 11)
def orderB (c : Ch) (l : List Nat) : Bool := !(metOf l 1 && decide (c.f 2 ≤ c.f 1)) && (!metOf l 10 || decide (c.f 10 < c.f 11))
theorem lack_any {ch : Nat} (hc : ch < 8) (l : List Nat) : ((rowsL ch).any fun r => rNeed r && !metOf l (rowF r)) = (List.range 10).any fun k => needB ch k && !metOf l k := by
  rw [Bool.eq_iff_iff]
  simp only [List.any_eq_true, Bool.and_eq_true, List.mem_range]
  constructor
  · rintro ⟨r, hr, h1, h2⟩
    have hm := rows_may ch hc r hr
    have hn : needB ch (rowF r) = true := by rw [hm.2.2.2.1]; exact h1
    exact ⟨rowF r, (need_may ch hc _ hm.2.1 hn).2, hn, h2⟩
  · rintro ⟨k, hk, h1, h2⟩
    obtain ⟨r, hr, rfl⟩ := may_rows ch hc k (by omega) (need_may ch hc k (by omega) h1).1
    have hm := rows_may ch hc r hr
    exact ⟨r, hr, by rw [← hm.2.2.2.1]; exact h1, h2⟩
/-- At a channel's end, by rows. -/
theorem close_rows {l : List Tok} {c : Ch} {m : List Nat} (hc : c.ch < 8) (hm : ∀ r ∈ m, r ∈ rowsL c.ch) :
    closeS l c (metOf m) = if lackB c.ch m = true then .error (l, 10) else if orderB c m = false then .error (l, 3) else .ok (c, l.drop 1) := by
  unfold closeS lackB
  rw [← lack_any hc]
  cases h1 : ((rowsL c.ch).any fun r => rNeed r && !metOf m (rowF r)) with
  | true => rw [if_pos rfl, Bool.true_or, if_pos rfl]
  | false =>
    rw [if_neg (by decide), Bool.false_or]
    cases h2 : (metOf m 10 != metOf m 11) with
    | true => rw [if_pos (bne_iff_ne.1 h2), if_pos rfl]
    | false =>
      have h2' : ¬ metOf m 10 ≠ metOf m 11 := fun e => by rw [bne_iff_ne.2 e] at h2; cases h2
      rw [if_neg h2', if_neg (show ¬ (false = true) from by decide)]
      have e : needB c.ch 1 = metOf m 1 := by
        rw [Bool.eq_iff_iff]
        constructor
        · intro hn
          obtain ⟨r, hr, e1⟩ := may_rows c.ch hc 1 (by omega) (need_may c.ch hc 1 (by omega) hn).1
          rw [List.any_eq_false] at h1
          have h3 := h1 r hr
          have h4 := (rows_may c.ch hc r hr).2.2.2.1
          rw [e1] at h3 h4
          rw [← h4, hn] at h3
          simpa using h3
        · intro hn
          obtain ⟨r, hr, e1⟩ := metOf_iff.1 hn
          have := (rows_may c.ch hc r (hm r hr)).2.2.1
          rw [e1] at this
          exact may_need c.ch hc 1 (by omega) this
      rw [e]
      have e2 : ((metOf m 1 && decide (c.f 2 ≤ c.f 1)) || (metOf m 10 && decide (c.f 11 ≤ c.f 10))) = !orderB c m := by
        unfold orderB
        have e3 : decide (c.f 11 ≤ c.f 10) = !decide (c.f 10 < c.f 11) := by
          by_cases q : c.f 11 ≤ c.f 10
          · rw [decide_eq_true q, decide_eq_false (by omega)]; rfl
          · rw [decide_eq_false q, decide_eq_true (by omega)]; rfl
        rw [e3]
        cases metOf m 1 <;> cases metOf m 10 <;> cases decide (c.f 2 ≤ c.f 1) <;> cases decide (c.f 10 < c.f 11) <;> rfl
      rw [e2]
      cases orderB c m <;> rfl
/-- The rows that are told of a channel. -/
def toldL (c : Ch) : List Nat := (rowsL c.ch).filter fun r => rNeed r || !(decide (c.f 10 = 0) && decide (c.f 11 = 0))
theorem told_rows {c : Ch} {r : Nat} (h : r ∈ toldL c) : r ∈ rowsL c.ch := (List.mem_filter.1 h).1
/-- The numbers that are told are within their ends. -/
def rowFit (r : Nat) (v : Int) : Bool := decide (rLo r ≤ v) && decide (v ≤ rHi r)
theorem fit_within {ch r : Nat} (hc : ch < 8) (hr : r ∈ rowsL ch) (v : Int) : rowFit r v = withinB ch (rowF r) v := by
  have hm := rows_may ch hc r hr
  unfold rowFit withinB
  rw [hm.2.2.2.2.1, hm.2.2.2.2.2]
  by_cases h1 : rLo r ≤ v
  · by_cases h2 : v ≤ rHi r
    · rw [decide_eq_true h1, decide_eq_true h2, decide_eq_true ⟨h1, h2⟩]; rfl
    · rw [decide_eq_true h1, decide_eq_false h2, decide_eq_false (fun h => h2 h.2)]; rfl
  · rw [decide_eq_false h1, Bool.false_and, decide_eq_false (show ¬ (rLo r ≤ v ∧ v ≤ rHi r) from fun h => h1 h.1)]
theorem row_opt : ∀ ch, ch < 8 → ∀ r ∈ rowsL ch, rNeed r = false → (r = 11 ∨ r = 12) ∧ ch ≤ 1 := by decide
theorem may_10 : ∀ ch, ch < 8 → (mayB ch 10 = mayB ch 11) ∧ (mayB ch 10 = true → 11 ∈ rowsL ch ∧ 12 ∈ rowsL ch) := by decide
theorem told_iff (c : Ch) (r : Nat) : r ∈ toldL c ↔ r ∈ rowsL c.ch ∧ (rNeed r = true ∨ ¬ (c.f 10 = 0 ∧ c.f 11 = 0)) := by
  unfold toldL
  rw [List.mem_filter]
  refine and_congr_right fun _ => ?_
  by_cases h1 : c.f 10 = 0
  · by_cases h2 : c.f 11 = 0
    · simp [h1, h2]
    · simp [h1, h2]
  · simp [h1]
theorem ch_rows (c : Ch) (hn : RightN 1 c.name 0) (h0 : 0 ≤ c.chart) (h7 : c.chart ≤ 7) :
    chB c = true ↔ (∀ r ∈ toldL c, rowFit r (c.f (rowF r)) = true) ∧ (∀ k, k < 12 → metOf (toldL c) k = false → c.f k = 0) ∧ orderB c (toldL c) = true := by
  have hc : c.ch < 8 := by unfold Ch.ch; omega
  rw [chB_iff]
  have hrow : ∀ k, k < 12 → mayB c.ch k = true → ∃ r ∈ rowsL c.ch, rowF r = k := fun k => may_rows c.ch hc k
  constructor
  · intro h
    have told10 : metOf (toldL c) 10 = true → ¬ (c.f 10 = 0 ∧ c.f 11 = 0) := fun hm => by
      obtain ⟨r, hr, e⟩ := metOf_iff.1 hm
      obtain ⟨h1, h2⟩ := (told_iff c r).1 hr
      rcases h2 with h2 | h2
      · have h3 := (rows_may c.ch hc r h1).2.2.2.1
        rw [e, h2] at h3
        exact absurd (need_may c.ch hc 10 (by omega) h3).2 (by omega)
      · exact h2
    refine ⟨fun r hr => ?_, fun k hk hm => ?_, ?_⟩
    · obtain ⟨h1, h2⟩ := (told_iff c r).1 hr
      rw [fit_within hc h1]
      have hm := rows_may c.ch hc r h1
      cases hq : rNeed r with
      | true => exact h.need _ hm.2.1 (by rw [hm.2.2.2.1]; exact hq)
      | false =>
        have h3 := row_opt c.ch hc r h1 hq
        have h4 : ¬ (c.f 10 = 0 ∧ c.f 11 = 0) := by
          rcases h2 with h2 | h2
          · rw [hq] at h2; cases h2
          · exact h2
        rcases h.ends with h5 | ⟨h5, h6, h7⟩
        · exact absurd h5 h4
        · rcases h3.1 with rfl | rfl
          · exact h5
          · exact h6
    · cases hq : mayB c.ch k with
      | false => exact h.zero k hk hq
      | true =>
        obtain ⟨r, hr, rfl⟩ := hrow k hk hq
        have hno : ¬ r ∈ toldL c := fun hr2 => by
          have := metOf_iff.2 ⟨r, hr2, rfl⟩
          rw [hm] at this
          cases this
        have h3 : rNeed r = false ∧ (c.f 10 = 0 ∧ c.f 11 = 0) := by
          rw [told_iff] at hno
          refine ⟨?_, ?_⟩
          · cases hx : rNeed r with
            | false => rfl
            | true => exact absurd ⟨hr, Or.inl hx⟩ hno
          · exact Decidable.of_not_not fun hx => hno ⟨hr, Or.inr hx⟩
        rcases (row_opt c.ch hc r hr h3.1).1 with rfl | rfl
        · exact h3.2.1
        · exact h3.2.2
    · unfold orderB
      rw [Bool.and_eq_true, Bool.not_eq_true', Bool.or_eq_true, Bool.not_eq_true']
      refine ⟨?_, ?_⟩
      · cases hm : metOf (toldL c) 1 with
        | false => rfl
        | true =>
          obtain ⟨r, hr, e⟩ := metOf_iff.1 hm
          have h1 := (told_iff c r).1 hr
          have h2 := (rows_may c.ch hc r h1.1).2.2.1
          rw [e] at h2
          have h3 := h.order (may_need c.ch hc 1 (by omega) h2)
          rw [Bool.true_and]
          exact decide_eq_false (by omega)
      · cases hm : metOf (toldL c) 10 with
        | false => exact Or.inl rfl
        | true =>
          rcases h.ends with h5 | ⟨-, -, h7⟩
          · exact absurd h5 (told10 hm)
          · exact Or.inr (decide_eq_true h7)
  · rintro ⟨h1, h2, h3⟩
    have needRow : ∀ k, k < 12 → needB c.ch k = true → ∃ r ∈ toldL c, rowF r = k ∧ r ∈ rowsL c.ch := fun k hk hn => by
      obtain ⟨r, hr, e⟩ := hrow k hk (need_may c.ch hc k hk hn).1
      have h4 := (rows_may c.ch hc r hr).2.2.2.1
      rw [e, hn] at h4
      exact ⟨r, (told_iff c r).2 ⟨hr, Or.inl h4.symm⟩, e, hr⟩
    unfold orderB at h3
    rw [Bool.and_eq_true, Bool.not_eq_true', Bool.or_eq_true, Bool.not_eq_true'] at h3
    refine ⟨hn, h0, h7, fun k hk hn => ?_, fun k hk hm => ?_, fun hn => ?_, ?_⟩
    · obtain ⟨r, hr, e, hr2⟩ := needRow k hk hn
      have := h1 r hr
      rw [fit_within hc hr2, e] at this
      exact this
    · refine h2 k hk ?_
      cases hq : metOf (toldL c) k with
      | false => rfl
      | true =>
        obtain ⟨r, hr, e⟩ := metOf_iff.1 hq
        have := (rows_may c.ch hc r (told_rows hr)).2.2.1
        rw [e, hm] at this
        cases this
    · obtain ⟨r, hr, e, _⟩ := needRow 1 (by omega) hn
      have hm : metOf (toldL c) 1 = true := metOf_iff.2 ⟨r, hr, e⟩
      rw [hm, Bool.true_and] at h3
      have := of_decide_eq_false h3.1
      omega
    · by_cases hz : c.f 10 = 0 ∧ c.f 11 = 0
      · exact Or.inl hz
      · right
        cases hq : mayB c.ch 10 with
        | false =>
          exfalso
          have z : ∀ k, k < 12 → mayB c.ch k = false → c.f k = 0 := fun k hk hm => by
            refine h2 k hk ?_
            cases hx : metOf (toldL c) k with
            | false => rfl
            | true =>
              obtain ⟨r, hr, e⟩ := metOf_iff.1 hx
              have := (rows_may c.ch hc r (told_rows hr)).2.2.1
              rw [e, hm] at this
              cases this
          exact hz ⟨z 10 (by omega) hq, z 11 (by omega) (by rw [← (may_10 c.ch hc).1]; exact hq)⟩
        | true =>
          obtain ⟨r11, r12⟩ := (may_10 c.ch hc).2 hq
          have t11 : 11 ∈ toldL c := (told_iff c 11).2 ⟨r11, Or.inr hz⟩
          have t12 : 12 ∈ toldL c := (told_iff c 12).2 ⟨r12, Or.inr hz⟩
          have w11 := h1 11 t11
          have w12 := h1 12 t12
          rw [fit_within hc r11] at w11
          rw [fit_within hc r12] at w12
          have hm : metOf (toldL c) 10 = true := metOf_iff.2 ⟨11, t11, rfl⟩
          rw [hm] at h3
          refine ⟨w11, w12, ?_⟩
          rcases h3.2 with h4 | h4
          · cases h4
          · exact of_decide_eq_true h4
theorem shown_need : ∀ ch, ch < 8 → ((rowsL ch).filter fun r => rNeed r).map rowF = (List.range 12).filter (needB ch) := by decide
theorem shown_all : ∀ ch, ch ≤ 1 → (rowsL ch).map rowF = (List.range 12).filter fun k => needB ch k || decide (10 ≤ k) := by decide
theorem rows_10 : ∀ ch, ch < 8 → mayB ch 10 = true → ch ≤ 1 := by decide
/-- What is told of a channel that may be. -/
theorem told_shown {c : Ch} (h : c.may) : (toldL c).map rowF = shown c := by
  have hc : c.ch < 8 := h.ch8.1
  by_cases hz : c.f 10 = 0 ∧ c.f 11 = 0
  · have e1 : toldL c = (rowsL c.ch).filter fun r => rNeed r := by
      unfold toldL
      rw [decide_eq_true hz.1, decide_eq_true hz.2]
      simp
    have e2 : shown c = (List.range 12).filter (needB c.ch) := by
      unfold shown showB
      rw [hz.1, hz.2]
      simp
    rw [e1, e2, shown_need c.ch hc]
  · have e1 : toldL c = rowsL c.ch := by
      unfold toldL
      refine List.filter_eq_self.2 fun r _ => ?_
      by_cases h1 : c.f 10 = 0
      · have h2 : c.f 11 ≠ 0 := fun e => hz ⟨h1, e⟩
        simp [h1, h2]
      · simp [h1]
    obtain ⟨-, -, hlt⟩ := h.ends.resolve_left hz
    have e2 : shown c = (List.range 12).filter fun k => needB c.ch k || decide (10 ≤ k) := by
      unfold shown showB
      rw [decide_eq_true hlt]
      simp
    have h1 : c.ch ≤ 1 := by
      refine rows_10 c.ch hc ?_
      cases hq : mayB c.ch 10 with
      | true => rfl
      | false => exact absurd ⟨h.zero 10 (by omega) hq, h.zero 11 (by omega) (by rw [← (may_10 c.ch hc).1]; exact hq)⟩ hz
    rw [e1, e2, shown_all c.ch h1]
end Go.Proofs.YtdimgomigidbkaaGreatDoor
/- The reference's Word: which words may be. -/
namespace Go.Proofs.YtdimgomigidbkaaGreatDoor
open Go.RowKit

def wordB (t : List UInt8) : Bool := decide (1 ≤ t.length) && (decide (t.length ≤ 12) && decide (spanLen isLetter t = t.length))
theorem rword_any (t : List UInt8) (w : World) (hm : t.length ≤ 100000) :
    Calls Tryz.prog 54 #[.string (bs t)] w fun e w' => e = .returned (.bool (wordB t)) ∧ w = w' := by
  have hs := bs_size t
  have hsl := spanLen_le isLetter t
  unfold wordB
  obtain ⟨n, hn⟩ : ∃ n, spanLen isLetter t = n := ⟨_, rfl⟩
  have HN := Lib.hid hn
  rw [hn] at hsl ⊢
  clear hn
  have hI : ∀ k, k < t.length → (∀ w, (Instr.index 9 (.string (bs t)) (.int .i64 (k : Int))).run Tryz.prog w = .ok (.int .u8 (bt t k : Nat)) w) := fun k hk w => idx_at t k hk w
  have HI := Lib.hid hI
  clear hI
  go_enter Tryz.func54, Tryz.ntmps54
  go_wp2
  go_loop [3] (fun i => ∃ k : Nat, k ≤ n ∧ i = .int .i64 (k : Nat)) (fun i => t.length - (intOf i).toNat)
  case atStart => exact ⟨0, Nat.zero_le _, rfl⟩
  case round =>
    obtain ⟨k, hk, rfl⟩ := hrel
    by_cases hl : k < t.length
    · have hix := HI.out k hl
      have hlt := letter_any (bt t k) (bt_lt t k)
      cases hd : letB (bt t k)
      · have HS := Lib.hid (show ¬ n = t.length from fun e => by
          have := spanLen_yes isLetter t k (by rw [HN.out]; omega)
          rw [show isLetter (t.getD k 0) = letB (bt t k) from rfl, hd] at this
          exact absurd this (by decide))
        rw [hd] at hlt
        generalize bt t k = q at hix hlt
        clear hd
        go_wp2_with fail
        refine (hlt _).mono ?_
        rintro e w2 ⟨rfl, rfl⟩
        clear hlt
        go_wp2
        go_ret
        exact ⟨by rw [decide_eq_false HS.out]; simp, rfl⟩
      · have HS := Lib.hid (spanLen_step isLetter t k (by rw [HN.out]; exact hk) hl (by rw [show isLetter (t.getD k 0) = letB (bt t k) from rfl, hd]))
        rw [HN.out] at HS
        rw [hd] at hlt
        generalize bt t k = q at hix hlt
        clear hd
        go_wp2_with fail
        refine (hlt _).mono ?_
        rintro e w2 ⟨rfl, rfl⟩
        clear hlt
        go_wp2
        go_round
        case rel => exact ⟨k + 1, HS.out, by go_num⟩
        case measure => simp [intOf]; omega
    · have HS := Lib.hid (show n = t.length by omega)
      clear HI HN
      by_cases h1 : 1 ≤ t.length
      · by_cases h2 : t.length ≤ 12
        · have h1b : decide ((1 : Int) ≤ (t.length : Int)) = true := decide_eq_true (by omega)
          have h2b : decide ((t.length : Int) ≤ 12) = true := decide_eq_true (by omega)
          go_wp2
          go_ret
          exact ⟨by rw [decide_eq_true HS.out]; rfl, rfl⟩
        · have h1b : decide ((1 : Int) ≤ (t.length : Int)) = true := decide_eq_true (by omega)
          have h2c : 12 < t.length := by omega
          have HQ := Lib.hid h2
          clear h2
          go_wp2
          go_ret
          exact ⟨by rw [decide_eq_false HQ.out]; simp <;> omega, rfl⟩
      · have h1c : t.length < 1 := by omega
        have HQ := Lib.hid h1
        clear h1
        go_wp2
        go_ret
        exact ⟨by rw [decide_eq_false HQ.out]; simp <;> omega, rfl⟩
end Go.Proofs.YtdimgomigidbkaaGreatDoor
/- The reference of stage 8, its small functions: which fields a chart needs, within which ends; a field of a channel. -/
namespace Go.Proofs.YtdimgomigidbkaaGreatDoor
open Go.RowKit

def needS : List (List UInt8) := [[49, 49, 49, 49, 49, 48, 48, 48, 48, 48, 48, 48], [48, 49, 49, 49, 49, 48, 48, 48, 48, 48, 48, 48], [49, 48, 48, 49, 49, 48, 48, 48, 48, 48, 48, 48], [49, 48, 48, 49, 49, 48, 48, 48, 48, 48, 48, 48], [48, 48, 48, 49, 49, 48, 48, 48, 48, 48, 48, 48], [49, 48, 48, 49, 49, 48, 48, 48, 48, 48, 48, 48], [48, 49, 49, 48, 49, 49, 49, 49, 48, 48, 48, 48], [48, 49, 49, 48, 49, 49, 48, 48, 49, 49, 48, 48]]
theorem need_bt : ∀ a, a < 8 → ∀ k, k < 12 → needB a k = ((bt (needS.getD a []) k : Int) == 49) := by decide
theorem needS_len : ∀ a, a < 8 → (needS.getD a []).length = 12 := by decide
/-- A cell of a literal slice, wherever that lies. -/
theorem lit_at (l : List Value) (T : TypeId) (k : Nat) (v : Value) (h : l[k]? = some v) (w : World) : (w.alloc (.cells l.toArray T)).cell? ⟨w.heap.size, k, none⟩ = some v := ((Has.new w l T).cell k).trans h
theorem needs_at (a : Nat) (ha : a < 8) (w : World) : (w.alloc (.cells #[.string ⟨#[49, 49, 49, 49, 49, 48, 48, 48, 48, 48, 48, 48]⟩, .string ⟨#[48, 49, 49, 49, 49, 48, 48, 48, 48, 48, 48, 48]⟩, .string ⟨#[49, 48, 48, 49, 49, 48, 48, 48, 48, 48, 48, 48]⟩, .string ⟨#[49, 48, 48, 49, 49, 48, 48, 48, 48, 48, 48, 48]⟩, .string ⟨#[48, 48, 48, 49, 49, 48, 48, 48, 48, 48, 48, 48]⟩, .string ⟨#[49, 48, 48, 49, 49, 48, 48, 48, 48, 48, 48, 48]⟩, .string ⟨#[48, 49, 49, 48, 49, 49, 49, 49, 48, 48, 48, 48]⟩, .string ⟨#[48, 49, 49, 48, 49, 49, 48, 48, 49, 49, 48, 48]⟩] 9)).cell? ⟨w.heap.size, a, none⟩ = some (.string (bs (needS.getD a []))) :=
  lit_at [.string ⟨#[49, 49, 49, 49, 49, 48, 48, 48, 48, 48, 48, 48]⟩, .string ⟨#[48, 49, 49, 49, 49, 48, 48, 48, 48, 48, 48, 48]⟩, .string ⟨#[49, 48, 48, 49, 49, 48, 48, 48, 48, 48, 48, 48]⟩, .string ⟨#[49, 48, 48, 49, 49, 48, 48, 48, 48, 48, 48, 48]⟩, .string ⟨#[48, 48, 48, 49, 49, 48, 48, 48, 48, 48, 48, 48]⟩, .string ⟨#[49, 48, 48, 49, 49, 48, 48, 48, 48, 48, 48, 48]⟩, .string ⟨#[48, 49, 49, 48, 49, 49, 49, 49, 48, 48, 48, 48]⟩, .string ⟨#[48, 49, 49, 48, 49, 49, 48, 48, 49, 49, 48, 48]⟩] _ a _ (by
    have h : a = 0 ∨ a = 1 ∨ a = 2 ∨ a = 3 ∨ a = 4 ∨ a = 5 ∨ a = 6 ∨ a = 7 := by omega
    rcases h with rfl | rfl | rfl | rfl | rfl | rfl | rfl | rfl <;> rfl) w
theorem needs_any (a : Nat) (ha : a < 8) (w : World) :
    Calls Tryz.prog 57 #[.int .i64 (a : Nat)] w fun e w' => e = .returned (.string (bs (needS.getD a []))) ∧ Below w.heap.size w w' := by
  have hc := needs_at a ha
  have hB := (Below.refl w.heap.size w).alloc (Nat.le_refl _) (.cells #[.string ⟨#[49, 49, 49, 49, 49, 48, 48, 48, 48, 48, 48, 48]⟩, .string ⟨#[48, 49, 49, 49, 49, 48, 48, 48, 48, 48, 48, 48]⟩, .string ⟨#[49, 48, 48, 49, 49, 48, 48, 48, 48, 48, 48, 48]⟩, .string ⟨#[49, 48, 48, 49, 49, 48, 48, 48, 48, 48, 48, 48]⟩, .string ⟨#[48, 48, 48, 49, 49, 48, 48, 48, 48, 48, 48, 48]⟩, .string ⟨#[49, 48, 48, 49, 49, 48, 48, 48, 48, 48, 48, 48]⟩, .string ⟨#[48, 49, 49, 48, 49, 49, 49, 49, 48, 48, 48, 48]⟩, .string ⟨#[48, 49, 49, 48, 49, 49, 48, 48, 49, 49, 48, 48]⟩] 9)
  generalize needS.getD a [] = s at hc
  go_enter Tryz.func57, Tryz.ntmps57
  go_wp2
  go_ret
  exact ⟨rfl, hB⟩
theorem need_any (a k : Nat) (ha : a < 8) (hk : k < 12) (w : World) :
    Calls Tryz.prog 30 #[.int .i64 (a : Nat), .int .i64 (k : Nat)] w fun e w' => e = .returned (.bool (needB a k)) ∧ Below w.heap.size w w' := by
  have hn := needs_any a ha w
  have hl := needS_len a ha
  rw [need_bt a ha k hk]
  generalize needS.getD a [] = s at hn hl
  have hi : ∀ w, (Instr.index 9 (.string (bs s)) (.int .i64 (k : Int))).run Tryz.prog w = .ok (.int .u8 (bt s k : Nat)) w := fun w => run_index_bs w _ s .i64 k Tryz.underlying9 (by omega)
  generalize bt s k = y at hi
  clear hl
  go_enter Tryz.func30, Tryz.ntmps30
  go_wp2_with fail
  refine hn.mono ?_
  rintro e w2 ⟨rfl, h2⟩
  clear hn
  go_wp2
  go_ret
  exact ⟨rfl, h2⟩
theorem may_any (a k : Nat) (ha : a < 8) (hk : k < 12) (w : World) :
    Calls Tryz.prog 56 #[.int .i64 (a : Nat), .int .i64 (k : Nat)] w fun e w' => e = .returned (.bool (mayB a k)) ∧ Below w.heap.size w w' := by
  have hn := need_any a k ha hk w
  unfold mayB
  generalize needB a k = y at hn
  cases y
  · by_cases h1 : a ≤ 1
    · by_cases h2 : 10 ≤ k
      · rw [decide_eq_true h1, decide_eq_true h2]
        have q : decide (10 ≤ (k : Int)) = true := decide_eq_true (by omega)
        go_enter Tryz.func56, Tryz.ntmps56
        go_wp2_with fail
        refine hn.mono ?_
        rintro e w2 ⟨rfl, h2⟩
        clear hn
        go_wp2
        go_ret
        exact ⟨rfl, h2⟩
      · rw [decide_eq_true h1, decide_eq_false h2]
        have q : decide (10 ≤ (k : Int)) = false := decide_eq_false (by omega)
        go_enter Tryz.func56, Tryz.ntmps56
        go_wp2_with fail
        refine hn.mono ?_
        rintro e w2 ⟨rfl, h2⟩
        clear hn
        go_wp2
        go_ret
        exact ⟨rfl, h2⟩
    · rw [decide_eq_false h1]
      go_enter Tryz.func56, Tryz.ntmps56
      go_wp2_with fail
      refine hn.mono ?_
      rintro e w2 ⟨rfl, h2⟩
      clear hn
      go_wp2
      go_ret
      exact ⟨rfl, h2⟩
  · go_enter Tryz.func56, Tryz.ntmps56
    go_wp2_with fail
    refine hn.mono ?_
    rintro e w2 ⟨rfl, h2⟩
    clear hn
    go_wp2
    go_ret
    exact ⟨rfl, h2⟩
theorem low_at (k : Nat) (hk : k < 12) : ([.int .i64 1, .int .i64 (-1000000), .int .i64 (-1000000), .int .i64 2, .int .i64 1, .int .i64 (-1000000), .int .i64 0, .int .i64 1, .int .i64 1, .int .i64 1, .int .i64 (-1000000), .int .i64 (-1000000)] : List Value)[k]'hk = .int .i64 (lowT.getD k 0) := by
  have h : k = 0 ∨ k = 1 ∨ k = 2 ∨ k = 3 ∨ k = 4 ∨ k = 5 ∨ k = 6 ∨ k = 7 ∨ k = 8 ∨ k = 9 ∨ k = 10 ∨ k = 11 := by omega
  rcases h with rfl | rfl | rfl | rfl | rfl | rfl | rfl | rfl | rfl | rfl | rfl | rfl <;> rfl
theorem high_at (k : Nat) (hk : k < 12) : ([.int .i64 1000, .int .i64 1000000, .int .i64 1000000, .int .i64 25, .int .i64 1000000000, .int .i64 1000000, .int .i64 1000000, .int .i64 1000000000, .int .i64 99, .int .i64 1000000, .int .i64 1000000, .int .i64 1000000] : List Value)[k]'hk = .int .i64 (highT.getD k 0) := by
  have h : k = 0 ∨ k = 1 ∨ k = 2 ∨ k = 3 ∨ k = 4 ∨ k = 5 ∨ k = 6 ∨ k = 7 ∨ k = 8 ∨ k = 9 ∨ k = 10 ∨ k = 11 := by omega
  rcases h with rfl | rfl | rfl | rfl | rfl | rfl | rfl | rfl | rfl | rfl | rfl | rfl <;> rfl
set_option maxHeartbeats 1000000 in
theorem within_any (a k : Nat) (ha : a < 8) (hk : k < 12) (v : Int) (w : World) :
    Calls Tryz.prog 55 #[.int .i64 (a : Nat), .int .i64 (k : Nat), .int .i64 v] w fun e w' => e = .returned (.bool (withinB a k v)) ∧ Below w.heap.size w w' := by
  have hB := ((Below.refl w.heap.size w).alloc (Nat.le_refl _) (.cells #[.int .i64 1, .int .i64 (-1000000), .int .i64 (-1000000), .int .i64 2, .int .i64 1, .int .i64 (-1000000), .int .i64 0, .int .i64 1, .int .i64 1, .int .i64 1, .int .i64 (-1000000), .int .i64 (-1000000)] 3)).alloc (by simp) (.cells #[.int .i64 1000, .int .i64 1000000, .int .i64 1000000, .int .i64 25, .int .i64 1000000000, .int .i64 1000000, .int .i64 1000000, .int .i64 1000000000, .int .i64 99, .int .i64 1000000, .int .i64 1000000, .int .i64 1000000] 3)
  have e : withinB a k v = (decide (lowK a k ≤ v) && decide (v ≤ highK a k)) := Bool.decide_and ..
  rw [e]
  unfold lowK highK
  clear e
  by_cases h0 : k = 0
  · subst h0
    by_cases h1 : a = 0
    · subst h1
      rw [if_pos ⟨rfl, rfl⟩, if_pos ⟨rfl, rfl⟩]
      obtain ⟨y1, g1⟩ : ∃ y, decide (2 ≤ v) = y := ⟨_, rfl⟩
      obtain ⟨y2, g2⟩ : ∃ y, decide (v ≤ 10) = y := ⟨_, rfl⟩
      rw [g1, g2]
      cases y1
      · go_enter Tryz.func55, Tryz.ntmps55
        go_wp2
        go_ret
        exact ⟨rfl, hB⟩
      · go_enter Tryz.func55, Tryz.ntmps55
        go_wp2
        go_ret
        exact ⟨rfl, hB⟩
    · rw [if_neg (by omega), if_neg (by omega)]
      obtain ⟨y1, g1⟩ : ∃ y, decide (1 ≤ v) = y := ⟨_, rfl⟩
      obtain ⟨y2, g2⟩ : ∃ y, decide (v ≤ 1000) = y := ⟨_, rfl⟩
      rw [show lowT.getD 0 0 = 1 from rfl, show highT.getD 0 0 = 1000 from rfl, g1, g2]
      have q0 : ((a : Int) == 0) = false := beq_false_of_ne (by omega)
      clear h1
      cases y1
      · go_enter Tryz.func55, Tryz.ntmps55
        go_wp2
        go_ret
        exact ⟨rfl, hB⟩
      · go_enter Tryz.func55, Tryz.ntmps55
        go_wp2
        go_ret
        exact ⟨rfl, hB⟩
  · rw [if_neg (by omega), if_neg (by omega)]
    have c1 := low_at k hk
    have c2 := high_at k hk
    generalize lowT.getD k 0 = lo at c1
    generalize highT.getD k 0 = hi at c2
    obtain ⟨y1, g1⟩ : ∃ y, decide (lo ≤ v) = y := ⟨_, rfl⟩
    obtain ⟨y2, g2⟩ : ∃ y, decide (v ≤ hi) = y := ⟨_, rfl⟩
    rw [g1, g2]
    have q0 : ((k : Int) == 0) = false := beq_false_of_ne (by omega)
    clear h0
    cases y1
    · go_enter Tryz.func55, Tryz.ntmps55
      go_wp2
      go_ret
      exact ⟨rfl, hB⟩
    · go_enter Tryz.func55, Tryz.ntmps55
      go_wp2
      go_ret
      exact ⟨rfl, hB⟩
def chL (c : Ch) : List Value := [.string (bs c.name), .int .i64 c.chart, .int .i64 (c.f 0), .int .i64 (c.f 1), .int .i64 (c.f 2), .int .i64 (c.f 3), .int .i64 (c.f 4), .int .i64 (c.f 5), .int .i64 (c.f 6), .int .i64 (c.f 7), .int .i64 (c.f 8), .int .i64 (c.f 9), .int .i64 (c.f 10), .int .i64 (c.f 11)]
def chV (c : Ch) : Value := .agg #[.string (bs c.name), .int .i64 c.chart, .int .i64 (c.f 0), .int .i64 (c.f 1), .int .i64 (c.f 2), .int .i64 (c.f 3), .int .i64 (c.f 4), .int .i64 (c.f 5), .int .i64 (c.f 6), .int .i64 (c.f 7), .int .i64 (c.f 8), .int .i64 (c.f 9), .int .i64 (c.f 10), .int .i64 (c.f 11)]
theorem get_core (s : ByteArray) (q f0 f1 f2 f3 f4 f5 f6 f7 f8 f9 f10 f11 v : Int) (k : Nat) (hk : k < 12) (h : ([.int .i64 f0, .int .i64 f1, .int .i64 f2, .int .i64 f3, .int .i64 f4, .int .i64 f5, .int .i64 f6, .int .i64 f7, .int .i64 f8, .int .i64 f9, .int .i64 f10, .int .i64 f11] : List Value)[k]'hk = .int .i64 v) (w : World) :
    Calls Tryz.prog 32 #[.agg #[.string s, .int .i64 q, .int .i64 f0, .int .i64 f1, .int .i64 f2, .int .i64 f3, .int .i64 f4, .int .i64 f5, .int .i64 f6, .int .i64 f7, .int .i64 f8, .int .i64 f9, .int .i64 f10, .int .i64 f11], .int .i64 (k : Nat)] w fun e w' => e = .returned (.int .i64 v) ∧ Below w.heap.size w w' := by
  have hB := ((Below.refl w.heap.size w).alloc (Nat.le_refl _) (.cells #[.string s, .int .i64 q, .int .i64 f0, .int .i64 f1, .int .i64 f2, .int .i64 f3, .int .i64 f4, .int .i64 f5, .int .i64 f6, .int .i64 f7, .int .i64 f8, .int .i64 f9, .int .i64 f10, .int .i64 f11] 37)).alloc (by simp) (.cells #[.int .i64 f0, .int .i64 f1, .int .i64 f2, .int .i64 f3, .int .i64 f4, .int .i64 f5, .int .i64 f6, .int .i64 f7, .int .i64 f8, .int .i64 f9, .int .i64 f10, .int .i64 f11] 3)
  go_enter Tryz.func32, Tryz.ntmps32
  go_wp2
  go_ret
  exact ⟨rfl, hB⟩
theorem get_any (c : Ch) (k : Nat) (hk : k < 12) (w : World) :
    Calls Tryz.prog 32 #[chV c, .int .i64 (k : Nat)] w fun e w' => e = .returned (.int .i64 (c.f k)) ∧ Below w.heap.size w w' :=
  get_core _ _ _ _ _ _ _ _ _ _ _ _ _ _ _ k hk (by
    have h : k = 0 ∨ k = 1 ∨ k = 2 ∨ k = 3 ∨ k = 4 ∨ k = 5 ∨ k = 6 ∨ k = 7 ∨ k = 8 ∨ k = 9 ∨ k = 10 ∨ k = 11 := by omega
    rcases h with rfl | rfl | rfl | rfl | rfl | rfl | rfl | rfl | rfl | rfl | rfl | rfl <;> rfl) w
end Go.Proofs.YtdimgomigidbkaaGreatDoor
/- The reference of stage 8: words, a token of a row, a word's place. -/
namespace Go.Proofs.YtdimgomigidbkaaGreatDoor
open Go.RowKit

theorem hd_nth (l : List Tok) (k : Nat) : hd (l.drop k) = nth l k := by
  unfold hd nth
  rw [List.headD_eq_head?_getD, List.head?_drop, List.getD_eq_getElem?_getD]
  rfl
def tokA (t : Tok) : Value := .agg #[.int .i64 t.kind, .string (bs t.text), .int .i64 t.num, .int .i64 t.place]
theorem rget_any (l : List Tok) (v : Value) (k : Nat) (w : World) (hr : Reads w v l) :
    Calls Tryz.prog 43 #[v, .int .i64 (k : Nat)] w fun e w' => e = .returned (tokA (nth l k)) ∧ Below w.heap.size w w' := by
  obtain ⟨ao, cap, rfl, hlc, hcm, hc⟩ := hr
  unfold maxLen at hcm
  by_cases h : k < l.length
  · obtain ⟨b, off, rfl, hlt, hd⟩ := hc k h
    obtain ⟨x0, x1, x2, x3⟩ := hd
    unfold tokA
    generalize (nth l k).kind = tk at x0
    generalize (nth l k).text = tt at x1
    generalize (nth l k).num = tn at x2
    generalize (nth l k).place = tp at x3
    generalize l.length = n at h hlc hc
    clear hc
    have hne : (b == w.heap.size) = false := beq_false_of_ne (by omega)
    go_enter Tryz.func43, Tryz.ntmps43
    go_wp2
    refine bodyPost_ret (v := .agg #[.int .i64 tk, .string (bs tt), .int .i64 tn, .int .i64 tp]) (by simp [results, Tryz.results43, go_sem]) rfl ⟨rfl, ?_⟩
    exact (Below.refl _ _).alloc (Nat.le_refl _) _
  · have e : nth l k = tok0 := by
      unfold nth
      rw [List.getD_eq_getElem?_getD, List.getElem?_eq_none (by omega)]
      rfl
    rw [e]
    generalize l.length = n at h hlc hc
    clear hc e
    go_enter Tryz.func43, Tryz.ntmps43
    go_wp2
    refine bodyPost_ret (v := .agg #[.int .i64 0, .string ⟨#[]⟩, .int .i64 0, .int .i64 0]) (by simp [results, Tryz.results43, go_sem]) rfl ⟨rfl, ?_⟩
    exact (Below.refl _ _).alloc (Nat.le_refl _) _
theorem rwordt_any (t : Tok) (w : World) :
    Calls Tryz.prog 42 #[tokA t] w fun e w' => e = .returned (.string (bs (wordT t))) ∧ Below w.heap.size w w' := by
  obtain ⟨k, s, n, p⟩ := t
  unfold tokA wordT
  dsimp only
  have hB := (Below.refl w.heap.size w).alloc (Nat.le_refl _) (.cells #[.int .i64 k, .string (bs s), .int .i64 n, .int .i64 p] 55)
  by_cases h : k = 1
  · subst h
    rw [if_pos rfl]
    go_enter Tryz.func42, Tryz.ntmps42
    go_wp2
    go_ret
    exact ⟨rfl, hB⟩
  · rw [if_neg h]
    have q : (k == 1) = false := beq_false_of_ne h
    clear h
    go_enter Tryz.func42, Tryz.ntmps42
    go_wp2
    go_ret
    exact ⟨rfl, hB⟩
/-- A slice of texts. -/
def ReadsS (w : World) (v : Value) (l : List (List UInt8)) : Prop :=
  ∃ b off cap, v = .slice (some ⟨b, off, none⟩) l.length cap ∧ l.length ≤ cap ∧ cap ≤ maxLen ∧ b < w.heap.size ∧ ∀ i, i < l.length → w.cell? ⟨b, off + i, none⟩ = some (.string (bs (l.getD i [])))
theorem ReadsS.below {w w' : World} {v : Value} {l : List (List UInt8)} (h : ReadsS w v l) (hb : Below w.heap.size w w') : ReadsS w' v l := by
  obtain ⟨b, off, cap, h1, h2, h3, h4, h5⟩ := h
  exact ⟨b, off, cap, h1, h2, h3, Nat.lt_of_lt_of_le h4 hb.size, fun i hi => (hb.cell h4).trans (h5 i hi)⟩
theorem ReadsS.lit (ws : List (List UInt8)) (T : TypeId) (w : World) (hm : ws.length ≤ maxLen) : ReadsS (w.alloc (.cells (ws.map fun x => Value.string (bs x)).toArray T)) (.slice (some ⟨w.heap.size, 0, none⟩) ws.length ws.length) ws := by
  refine ⟨w.heap.size, 0, ws.length, rfl, Nat.le_refl _, hm, by simp, fun i hi => ?_⟩
  rw [Nat.zero_add]
  refine ((Has.new w _ T).cell i).trans ?_
  rw [List.getElem?_map, List.getElem?_eq_getElem hi, List.getD_eq_getElem?_getD, List.getElem?_eq_getElem hi]
  rfl
theorem charts_any (w : World) : Calls Tryz.prog 28 #[] w fun e w' => ∃ v, e = .returned v ∧ ReadsS w' v chartW ∧ Below w.heap.size w w' := by
  have h := ReadsS.lit chartW 9 w (by decide)
  have hB := (Below.refl w.heap.size w).alloc (Nat.le_refl _) (.cells (chartW.map fun x => Value.string (bs x)).toArray 9)
  go_enter Tryz.func28, Tryz.ntmps28
  go_wp2
  go_ret
  exact ⟨_, rfl, h, hB⟩
theorem words_any (w : World) : Calls Tryz.prog 29 #[] w fun e w' => ∃ v, e = .returned v ∧ ReadsS w' v fieldW ∧ Below w.heap.size w w' := by
  have h := ReadsS.lit fieldW 9 w (by decide)
  have hB := (Below.refl w.heap.size w).alloc (Nat.le_refl _) (.cells (fieldW.map fun x => Value.string (bs x)).toArray 9)
  go_enter Tryz.func29, Tryz.ntmps29
  go_wp2
  go_ret
  exact ⟨_, rfl, h, hB⟩
def found : Option Nat → Int
  | none => -1
  | some k => (k : Int)
def FindRel (ws : List (List UInt8)) (s : List UInt8) (n : Nat) (i : Value) : Prop := ∃ k : Nat, k ≤ n ∧ i = .int .i64 (k : Nat) ∧ ∀ j, j < k → ws.getD j [] ≠ s
theorem findW_at {ws : List (List UInt8)} {s : List UInt8} {k : Nat} (hk : k < ws.length) (h1 : ws.getD k [] = s) (h2 : ∀ j, j < k → ws.getD j [] ≠ s) : findW ws s = some k := by
  unfold findW
  rw [List.findIdx?_eq_some_iff_getElem]
  have ge : ∀ j (hj : j < ws.length), ws.getD j [] = ws[j] := fun j hj => by rw [List.getD_eq_getElem?_getD, List.getElem?_eq_getElem hj]; rfl
  refine ⟨hk, by rw [← ge k hk, h1]; exact beq_self_eq_true s, fun j hj => ?_⟩
  have := h2 j hj
  rw [ge j (by omega)] at this
  simpa using this
theorem findW_none {ws : List (List UInt8)} {s : List UInt8} (h : ∀ j, j < ws.length → ws.getD j [] ≠ s) : findW ws s = none := by
  unfold findW
  rw [List.findIdx?_eq_none_iff]
  intro x hx
  obtain ⟨j, hj, rfl⟩ := List.getElem_of_mem hx
  have := h j hj
  rw [List.getD_eq_getElem?_getD, List.getElem?_eq_getElem hj] at this
  simpa using this
theorem find_any (ws : List (List UInt8)) (v : Value) (s : List UInt8) (w : World) (hr : ReadsS w v ws) (hm : ws.length ≤ 1000) :
    Calls Tryz.prog 44 #[v, .string (bs s)] w fun e w' => e = .returned (.int .i64 (found (findW ws s))) ∧ w = w' := by
  obtain ⟨b, off, cap, rfl, hlc, hcm, hlt, hc⟩ := hr
  unfold maxLen at hcm
  have HC := Lib.hid hc
  obtain ⟨n, hn⟩ : ∃ n, ws.length = n := ⟨_, rfl⟩
  have HN := Lib.hid hn
  obtain ⟨R, hR⟩ : ∃ R, found (findW ws s) = R := ⟨_, rfl⟩
  have HR := Lib.hid hR
  rw [hR]
  rw [hn] at hlc hm ⊢
  clear hn hc hR
  have hsz := bs_size s
  go_enter Tryz.func44, Tryz.ntmps44
  go_wp2
  go_loop [9] (FindRel ws s n) (fun i => n - (intOf i).toNat)
  case atStart => exact ⟨0, Nat.zero_le _, rfl, fun j hj => absurd hj (Nat.not_lt_zero _)⟩
  case round =>
    obtain ⟨k, hk, rfl, hno⟩ := hrel
    have HNO := Lib.hid hno
    clear hno
    by_cases hl : k < n
    · have hcell := HC.out k (by rw [HN.out]; exact hl)
      by_cases he : ws.getD k [] = s
      · have hf := findW_at (by rw [HN.out]; exact hl) he HNO.out
        have e1 : R = (k : Int) := by rw [← HR.out, hf]; rfl
        have HE1 := Lib.hid e1
        have heq : ((bs (ws.getD k [])).toList == (bs s).toList) = true := by rw [he]; exact beq_self_eq_true _
        clear hf he e1
        generalize ws.getD k [] = u at hcell heq
        go_wp2
        go_ret
        exact ⟨(congrArg (fun z => Ending.returned (.int .i64 z)) HE1.out).symm, rfl⟩
      · have HNO2 := Lib.hid (show ∀ j, j < k + 1 → ws.getD j [] ≠ s from fun j hj => by
          by_cases c : j = k
          · rw [c]; exact he
          · exact HNO.out j (by omega))
        have heq : ((bs (ws.getD k [])).toList == (bs s).toList) = false := by rw [bs_toList, bs_toList]; exact beq_false_of_ne he
        clear he
        generalize ws.getD k [] = u at hcell heq
        go_wp2
        go_round
        case rel => exact ⟨k + 1, hl, by go_num, HNO2.out⟩
        case measure => simp [intOf]; omega
    · have hf := findW_none (ws := ws) (s := s) fun j hj => HNO.out j (by rw [HN.out] at hj; omega)
      have e1 : R = -1 := by rw [← HR.out, hf]; rfl
      have HE1 := Lib.hid e1
      clear hf e1
      go_wp2
      go_ret
      exact ⟨(congrArg (fun z => Ending.returned (.int .i64 z)) HE1.out).symm, rfl⟩
end Go.Proofs.YtdimgomigidbkaaGreatDoor
/- What a law's walk leans on: a wide number in a block of the call's own stays there; and how a law over wide numbers becomes the statement. -/
namespace Go.Proofs.YtdimgomigidbkaaGreatDoor
open Go.RowKit Go.ChangeShapes Go.WideShapes Go.ChangeAt Go.Joins

theorem keep2 {W w1 : World} (hb : Below W.heap.size W w1) {b : Nat} {x y : Value} (h : b < W.heap.size) (hc : W.cell? ⟨b, 0, none⟩ = some x ∧ W.cell? ⟨b, 1, none⟩ = some y) : b < w1.heap.size ∧ w1.cell? ⟨b, 0, none⟩ = some x ∧ w1.cell? ⟨b, 1, none⟩ = some y :=
  ⟨Nat.lt_of_lt_of_le h hb.size, (hb.cell (p := ⟨b, 0, none⟩) h).trans hc.1, (hb.cell (p := ⟨b, 1, none⟩) h).trans hc.2⟩

/-- A law's last step, where the world behind the call is known to be as it was below its own blocks. -/
theorem lawPost {H : Type} {enc : TypeId × Value → H} {P : Program} {f : Func} {s : ChangeSpec} {apart fresh handsOn : Bool} {W W' : World} {args : Array Value} {v : Value} {ds gs : List (DataW H)} {before : List MemPlace} (pa pv : List MemPlace)
    (hW : DataW.Whole enc P f.params.toList s.vars apart W args.toList ds gs before)
    (hres : DataW.TrodAll enc P W' (match fresh with | true => W.heap.size | false => 0) (fun _ => false) handsOn f.resultTypes.toList (v.resultList f.resultTypes.size) (s.fn H (ds ++ gs)).results [])
    (hargs : DataW.TrodAll enc P W' 0 (fun b => decide (b < W.heap.size)) true f.params.toList args.toList (s.fn H (ds ++ gs)).args pa)
    (hvars : DataW.TrodVars enc P W' (fun b => decide (b < W.heap.size)) s.vars (s.fn H (ds ++ gs)).vars pv)
    (hb : Below W.heap.size W W') : s.post enc P f apart fresh handsOn false W args v W' :=
  ⟨ds, gs, before, [], pa, pv, hW, hres, hargs, hvars, hb.frame _, fun h => by cases h⟩

theorem own : ownKnob Tryz.prog.godebug = none := by kernel_rfl
end Go.Proofs.YtdimgomigidbkaaGreatDoor
/- A slice of ints among a law's arguments: opened. -/
namespace Go.Proofs.YtdimgomigidbkaaGreatDoor
open Go.RowKit Go.ChangeShapes Go.WideShapes Go.Deep Go.Joins

set_option maxRecDepth 100000

/-- Ints of a slice. -/
def ReadsI (w : World) (v : Value) (zs : List Int) : Prop :=
  ∃ ao cap, v = .slice ao zs.length cap ∧ zs.length ≤ cap ∧ cap ≤ maxLen ∧ ∀ i, i < zs.length → ∃ b off, ao = some ⟨b, off, none⟩ ∧ b < w.heap.size ∧ w.cell? ⟨b, off + i, none⟩ = some (.int .i64 (zs.getD i 0))
theorem ReadsI.below {w w' : World} {v : Value} {zs : List Int} (h : ReadsI w v zs) (hb : Below w.heap.size w w') : ReadsI w' v zs := by
  obtain ⟨ao, cap, h1, h2, h3, h4⟩ := h
  refine ⟨ao, cap, h1, h2, h3, fun i hi => ?_⟩
  obtain ⟨b, off, h5, h6, h7⟩ := h4 i hi
  exact ⟨b, off, h5, Nat.lt_of_lt_of_le h6 hb.size, (hb.cell h6).trans h7⟩
section
variable {H : Type} {enc : TypeId × Value → H} {W : World} {base : Nat}
theorem openInts {v : Value} {d : DataW H} {p : List MemPlace} (hv : Value.okWide Tryz.prog W .any base 102 v) (h : DataW.Trod enc Tryz.prog W 0 (fun _ => true) true 102 v d p) :
    ∃ zs : List Int, ReadsI W v zs ∧ ∀ i, i < zs.length → -9223372036854775808 ≤ zs.getD i 0 ∧ zs.getD i 0 ≤ 9223372036854775807 := by
  obtain ⟨a0, len, cap, rfl⟩ := okWide_slice Tryz.underlying102 hv
  obtain ⟨fuel, hf⟩ := h
  have hc1 : (Tryz.prog).cellsOf 3 = 1 := by kernel_rfl
  rcases open_ints Tryz.underlying102 Tryz.underlying3 hc1 hf with ⟨hcs, _⟩ | ⟨a, len', cap', zs, hcs, _, hl, hm, hlen, _, hcell, hwf⟩
  · simp [Value.cells] at hcs
    obtain ⟨rfl, rfl, rfl⟩ := hcs
    exact ⟨[], ⟨none, 0, rfl, Nat.le_refl _, Nat.zero_le _, fun i hi => absurd hi (Nat.not_lt_zero _)⟩, fun i hi => absurd hi (Nat.not_lt_zero _)⟩
  · simp [Value.cells] at hcs
    obtain ⟨rfl, rfl, rfl⟩ := hcs
    have hzc : zs.length = cap := by simpa using hlen
    have hle : (zs.take len).length = len := by rw [List.length_take]; omega
    have hget : ∀ i, i < len → (zs.take len).getD i 0 = zs.getD i 0 := fun i hi => by
      rw [List.getD_eq_getElem?_getD, List.getD_eq_getElem?_getD, List.getElem?_take_of_lt hi]
    refine ⟨zs.take len, ⟨some a, cap, by rw [hle], by omega, hm, fun i hi => ?_⟩, fun i hi => ?_⟩
    · have hcl := hcell i (by omega)
      have h0 := hcell 0 (by omega)
      have hsp : a.spot = none := World.cell?_spot (by rw [show a.add 0 = a from rfl] at h0; exact h0)
      have hlt : a.block < W.heap.size := World.block_lt_of_cell? W a (by rw [show a.add 0 = a from rfl] at h0; exact h0)
      obtain ⟨b, off, sp⟩ := a
      obtain rfl : sp = none := hsp
      refine ⟨b, off, rfl, hlt, ?_⟩
      have e : (⟨b, off, none⟩ : Addr).add i = ⟨b, off + i, none⟩ := by unfold Addr.add; split <;> simp_all
      rw [e] at hcl
      rw [hcl, hget i (by omega)]
    · rw [hget i (by omega)]
      have hz : zs.getD i 0 ∈ zs := by
        rw [List.getD_eq_getElem?_getD, List.getElem?_eq_getElem (show i < zs.length by omega)]
        exact List.getElem_mem _
      have := hwf _ hz
      unfold Lit.wf at this
      rw [Bool.and_eq_true] at this
      exact ⟨of_decide_eq_true this.1, of_decide_eq_true this.2⟩
end
end Go.Proofs.YtdimgomigidbkaaGreatDoor
/- Rows of ints that the call makes itself. -/
namespace Go.Proofs.YtdimgomigidbkaaGreatDoor
open Go.RowKit

def IRow (B : Nat) (v : Value) (l : List Int) (w : World) : Prop := w.ownsRow B 3 1 v l.length (l.map (Value.int .i64))
theorem IRow.below {B : Nat} {v : Value} {l : List Int} {w w' : World} (h : IRow B v l w) (hb : Below w.heap.size w w') : IRow B v l w' :=
  h.kept (show w.grownBy w' none from ⟨hb.os, hb.tape, hb.output, hb.size, fun k hk _ => hb.block k hk⟩) (by cases v.ownBlock <;> simp)
theorem IRow.alloc {B : Nat} {v : Value} {l : List Int} {w : World} (h : IRow B v l w) (o : Obj) : IRow B v l (w.alloc o) := h.below ((Below.refl _ w).alloc (Nat.le_refl _) o)
theorem IRow.nil (B : Nat) (w : World) : IRow B (.slice none 0 0) [] w := World.ownsRow_nil w B _ 1
theorem IRow.made (w : World) : IRow w.heap.size (.slice (some ⟨w.heap.size, 0, none⟩) 0 0) [] (w.alloc (.cells #[] 3)) := World.ownsRow_made w #[] 0 (Nat.le_refl _) (Nat.zero_le _) rfl
theorem IRow.snoc {B : Nat} {v : Value} {l : List Int} {z : Int} {w : World} (h : w.ownsRow B 3 1 v (l.length + 1) (l.map (Value.int .i64) ++ [.int .i64 z])) : IRow B v (l ++ [z]) w := by
  unfold IRow
  rw [List.map_append, List.length_append]
  exact h
theorem IRow.reads {B : Nat} {v : Value} {l : List Int} {w : World} (h : IRow B v l w) : ReadsI w v l := by
  have h0 : w.ownsRow B 3 1 v l.length (l.map (Value.int .i64)) := h
  rcases h0.2 with ⟨h1, h2⟩ | ⟨g, cap, cur, hv, hB, hg, hl, hc, hs, ht⟩
  · have hl : l = [] := List.eq_nil_of_length_eq_zero h2
    subst hl
    exact ⟨none, 0, h1, Nat.le_refl _, Nat.zero_le _, fun i hi => absurd hi (Nat.not_lt_zero _)⟩
  · refine ⟨_, cap, hv, hl, hc, fun i hi => ⟨g, 0, rfl, (Array.getElem?_eq_some_iff.1 hg).1, ?_⟩⟩
    have := h0.cells (g := g) (by rw [hv]; rfl) i (.int .i64 (l[i]'hi)) (by rw [List.getElem?_map, List.getElem?_eq_getElem hi]; rfl)
    have e : (⟨g, 0, none⟩ : Addr).add i = ⟨g, 0 + i, none⟩ := by unfold Addr.add; split <;> simp_all
    rw [e] at this
    rw [this, List.getD_eq_getElem?_getD, List.getElem?_eq_getElem hi]
    rfl
theorem infoInt : ((Tryz.prog).info? 3).map (fun i => (i.zero, i.size, i.bytes)) = some (some (.int .i64 0), 1, 8) := by kernel_rfl
/-- An int that was laid in a block of its own. -/
theorem int_at (w : World) (z : Int) {b : Nat} (hb : w.heap.size = b) (T : TypeId) (j : Nat) (u : Value) (h : ([Value.int .i64 z] : List Value)[j]? = some u) : (w.alloc (.cells #[.int .i64 z] T)).cell? ((⟨b, 0, none⟩ : Addr).add j) = some u := by
  subst hb
  have e : (⟨w.heap.size, 0, none⟩ : Addr).add j = ⟨w.heap.size, j, none⟩ := by unfold Addr.add; split <;> simp_all
  rw [e]
  have hn : (w.alloc (.cells #[.int .i64 z] T)).heap[w.heap.size]? = some (.cells #[.int .i64 z] T) := heap_alloc_new w _
  have : (w.alloc (.cells #[.int .i64 z] T)).cell? ⟨w.heap.size, j, none⟩ = ([Value.int .i64 z] : List Value)[j]? := by
    unfold World.cell?
    rw [hn]
    cases j <;> rfl
  rw [this, h]
end Go.Proofs.YtdimgomigidbkaaGreatDoor
/- The reference of stage 8: a channel with a field set. -/
namespace Go.Proofs.YtdimgomigidbkaaGreatDoor
open Go.RowKit

def firstF (f : Nat → Int) (n : Nat) : List Int := (List.range n).map f
theorem firstF_succ (f : Nat → Int) (n : Nat) : firstF f (n + 1) = firstF f n ++ [f n] := by
  unfold firstF
  rw [List.range_succ, List.map_append]
  rfl
theorem firstF_len (f : Nat → Int) (n : Nat) : (firstF f n).length = n := by
  unfold firstF
  rw [List.length_map, List.length_range]
theorem Has.chan {w : World} {b : Nat} {c : Ch} {T : TypeId} (h : Has w b (chL c) T) : w.cell? ⟨b, 0, none⟩ = some (.string (bs c.name)) ∧ w.cell? ⟨b, 1, none⟩ = some (.int .i64 c.chart) ∧ w.cell? ⟨b, 2, none⟩ = some (.int .i64 (c.f 0)) ∧ w.cell? ⟨b, 3, none⟩ = some (.int .i64 (c.f 1)) ∧ w.cell? ⟨b, 4, none⟩ = some (.int .i64 (c.f 2)) ∧ w.cell? ⟨b, 5, none⟩ = some (.int .i64 (c.f 3)) ∧ w.cell? ⟨b, 6, none⟩ = some (.int .i64 (c.f 4)) ∧ w.cell? ⟨b, 7, none⟩ = some (.int .i64 (c.f 5)) ∧ w.cell? ⟨b, 8, none⟩ = some (.int .i64 (c.f 6)) ∧ w.cell? ⟨b, 9, none⟩ = some (.int .i64 (c.f 7)) ∧ w.cell? ⟨b, 10, none⟩ = some (.int .i64 (c.f 8)) ∧ w.cell? ⟨b, 11, none⟩ = some (.int .i64 (c.f 9)) ∧ w.cell? ⟨b, 12, none⟩ = some (.int .i64 (c.f 10)) ∧ w.cell? ⟨b, 13, none⟩ = some (.int .i64 (c.f 11)) :=
  ⟨h.cell 0, h.cell 1, h.cell 2, h.cell 3, h.cell 4, h.cell 5, h.cell 6, h.cell 7, h.cell 8, h.cell 9, h.cell 10, h.cell 11, h.cell 12, h.cell 13⟩
theorem Has.put14 {w : World} {b : Nat} {T : TypeId} {z0 z1 z2 z3 z4 z5 z6 z7 z8 z9 z10 z11 z12 z13 : Value} (h : Has w b [z0, z1, z2, z3, z4, z5, z6, z7, z8, z9, z10, z11, z12, z13] T) (x0 x1 x2 x3 x4 x5 x6 x7 x8 x9 x10 x11 x12 x13 : Value) : Has ((((((((((((((w.setCell ⟨b, 0, none⟩ x0).setCell ⟨b, 1, none⟩ x1).setCell ⟨b, 2, none⟩ x2).setCell ⟨b, 3, none⟩ x3).setCell ⟨b, 4, none⟩ x4).setCell ⟨b, 5, none⟩ x5).setCell ⟨b, 6, none⟩ x6).setCell ⟨b, 7, none⟩ x7).setCell ⟨b, 8, none⟩ x8).setCell ⟨b, 9, none⟩ x9).setCell ⟨b, 10, none⟩ x10).setCell ⟨b, 11, none⟩ x11).setCell ⟨b, 12, none⟩ x12).setCell ⟨b, 13, none⟩ x13) b [x0, x1, x2, x3, x4, x5, x6, x7, x8, x9, x10, x11, x12, x13] T :=
  (((((((((((((h.set 0 x0).set 1 x1).set 2 x2).set 3 x3).set 4 x4).set 5 x5).set 6 x6).set 7 x7).set 8 x8).set 9 x9).set 10 x10).set 11 x11).set 12 x12).set 13 x13
theorem Below.put14 {w0 w : World} {B b : Nat} (h : Below B w0 w) (hb : B ≤ b) (x0 x1 x2 x3 x4 x5 x6 x7 x8 x9 x10 x11 x12 x13 : Value) : Below B w0 ((((((((((((((w.setCell ⟨b, 0, none⟩ x0).setCell ⟨b, 1, none⟩ x1).setCell ⟨b, 2, none⟩ x2).setCell ⟨b, 3, none⟩ x3).setCell ⟨b, 4, none⟩ x4).setCell ⟨b, 5, none⟩ x5).setCell ⟨b, 6, none⟩ x6).setCell ⟨b, 7, none⟩ x7).setCell ⟨b, 8, none⟩ x8).setCell ⟨b, 9, none⟩ x9).setCell ⟨b, 10, none⟩ x10).setCell ⟨b, 11, none⟩ x11).setCell ⟨b, 12, none⟩ x12).setCell ⟨b, 13, none⟩ x13) :=
  (((((((((((((h.setCell (p := ⟨b, 0, none⟩) hb x0).setCell (p := ⟨b, 1, none⟩) hb x1).setCell (p := ⟨b, 2, none⟩) hb x2).setCell (p := ⟨b, 3, none⟩) hb x3).setCell (p := ⟨b, 4, none⟩) hb x4).setCell (p := ⟨b, 5, none⟩) hb x5).setCell (p := ⟨b, 6, none⟩) hb x6).setCell (p := ⟨b, 7, none⟩) hb x7).setCell (p := ⟨b, 8, none⟩) hb x8).setCell (p := ⟨b, 9, none⟩) hb x9).setCell (p := ⟨b, 10, none⟩) hb x10).setCell (p := ⟨b, 11, none⟩) hb x11).setCell (p := ⟨b, 12, none⟩) hb x12).setCell (p := ⟨b, 13, none⟩) hb x13
def zeroL : List Value := [.string ⟨#[]⟩, .int .i64 0, .int .i64 0, .int .i64 0, .int .i64 0, .int .i64 0, .int .i64 0, .int .i64 0, .int .i64 0, .int .i64 0, .int .i64 0, .int .i64 0, .int .i64 0, .int .i64 0]
theorem Has.zeros {w : World} {b : Nat} {T : TypeId} (h : Has w b zeroL T) : w.cell? ⟨b, 0, none⟩ = some (.string ⟨#[]⟩) ∧ w.cell? ⟨b, 1, none⟩ = some (.int .i64 0) ∧ w.cell? ⟨b, 2, none⟩ = some (.int .i64 0) ∧ w.cell? ⟨b, 3, none⟩ = some (.int .i64 0) ∧ w.cell? ⟨b, 4, none⟩ = some (.int .i64 0) ∧ w.cell? ⟨b, 5, none⟩ = some (.int .i64 0) ∧ w.cell? ⟨b, 6, none⟩ = some (.int .i64 0) ∧ w.cell? ⟨b, 7, none⟩ = some (.int .i64 0) ∧ w.cell? ⟨b, 8, none⟩ = some (.int .i64 0) ∧ w.cell? ⟨b, 9, none⟩ = some (.int .i64 0) ∧ w.cell? ⟨b, 10, none⟩ = some (.int .i64 0) ∧ w.cell? ⟨b, 11, none⟩ = some (.int .i64 0) ∧ w.cell? ⟨b, 12, none⟩ = some (.int .i64 0) ∧ w.cell? ⟨b, 13, none⟩ = some (.int .i64 0) :=
  ⟨h.cell 0, h.cell 1, h.cell 2, h.cell 3, h.cell 4, h.cell 5, h.cell 6, h.cell 7, h.cell 8, h.cell 9, h.cell 10, h.cell 11, h.cell 12, h.cell 13⟩
def chanW0 (w : World) (c : Ch) : World := (w.alloc (.cells (chL c).toArray 37)).alloc (.cells zeroL.toArray 37)
theorem chanW0_size (w : World) (c : Ch) : (chanW0 w c).heap.size = w.heap.size + 2 := by unfold chanW0; simp
theorem chanW0_box (w : World) (c : Ch) : Has (chanW0 w c) w.heap.size (chL c) 37 := (Has.new w (chL c) 37).alloc _
theorem chanW0_out (w : World) (c : Ch) : Has (chanW0 w c) (w.heap.size + 1) zeroL 37 := by
  have h := Has.new (w.alloc (.cells (chL c).toArray 37)) zeroL 37
  rw [show (w.alloc (.cells (chL c).toArray 37)).heap.size = w.heap.size + 1 by simp] at h
  exact h
theorem chanW0_below (w : World) (c : Ch) : Below w.heap.size w (chanW0 w c) := ((Below.refl _ w).alloc (Nat.le_refl _) _).alloc (by simp) _
def SetRel (f : Nat → Int) (w : World) (c : Ch) (v i : Value) (wr : World) : Prop :=
  ∃ k : Nat, k ≤ 12 ∧ i = .int .i64 (k : Nat) ∧ IRow (w.heap.size + 2) v (firstF f k) wr ∧ Below (w.heap.size + 2) (chanW0 w c) wr
theorem SetRel.start (f : Nat → Int) (w : World) (c : Ch) : SetRel f w c (.slice (some ⟨w.heap.size + 1 + 1, 0, none⟩) 0 0) (.int .i64 0) ((chanW0 w c).alloc (.cells #[] 3)) := by
  have h := IRow.made (chanW0 w c)
  rw [chanW0_size] at h
  exact ⟨0, by decide, rfl, h, (Below.refl _ _).alloc (by rw [chanW0_size]; exact Nat.le_refl _) _⟩
set_option maxHeartbeats 2000000 in
set_option maxRecDepth 100000 in
theorem set_any (c : Ch) (k : Nat) (v : Int) (w : World) :
    Calls Tryz.prog 77 #[chV c, .int .i64 (k : Nat), .int .i64 v] w fun e w' => e = .returned (chV (c.set k v)) ∧ Below w.heap.size w w' := by
  obtain ⟨i0, hi, hz0, hz1, hz2⟩ := info_parts infoInt
  have hget := fun j hj W => get_any c j hj W
  have hstart := SetRel.start (c.set k v).f w c
  have hb0 := chanW0_below w c
  have hw1 := chanW0_box w c
  have hw2 := chanW0_out w c
  have hs0 := chanW0_size w c
  have HS0 := Lib.hid hs0
  clear hs0
  unfold chV at hget ⊢
  go_enter Tryz.func77, Tryz.ntmps77
  go_wp2
  go_loopw [7, 8] (SetRel (c.set k v).f w c) (fun _ i _ => 12 - (intOf i).toNat)
  case atStart => exact hstart
  case round =>
    obtain ⟨j, hj, rfl, hrow, hb⟩ := hrel
    clear hstart
    have hx := (hw1.below hb (by omega)).chan
    obtain ⟨x0, x1, x2, x3, x4, x5, x6, x7, x8, x9, x10, x11, x12, x13⟩ := hx
    have hsz := hb.size
    rw [HS0.out] at hsz
    by_cases hl : j < 12
    · have hg := hget j hl wr
      have hsn := firstF_succ (c.set k v).f j
      have hfl := firstF_len (c.set k v).f j
      obtain ⟨z, hz⟩ : ∃ z, (c.set k v).f j = z := ⟨_, rfl⟩
      have hset : z = if j = k then v else c.f j := hz.symm
      rw [hz] at hsn
      have HSN := Lib.hid hsn
      generalize firstF (c.set k v).f j = acc at hrow hfl HSN
      obtain ⟨y, hy⟩ : ∃ y, c.f j = y := ⟨_, rfl⟩
      rw [hy] at hset hg
      have HZ := Lib.hid hset
      clear hsn hz hy hset hget
      by_cases hjk : j = k
      · subst hjk
        obtain rfl : z = v := by have := HZ.out; rwa [if_pos rfl] at this
        clear HZ
        go_wp2_with fail
        refine hg.mono ?_
        rintro e w4 ⟨rfl, h4⟩
        have hrow4 := (hrow.below h4).alloc (.cells #[.int .i64 z] 3)
        have hb4 := (hb.trans (h4.mono (by omega)))
        have hs4 := h4.size
        have hb5 := hb4.alloc (by omega) (.cells #[.int .i64 z] 3)
        clear hrow hb hg h4 hb4 x0 x1 x2 x3 x4 x5 x6 x7 x8 x9 x10 x11 x12 x13
        go_wp2_with (at_builtin; refine wpList_append_own _ rfl (.tmp 22) (.tmp 24) 102 rfl (w.heap.size + 2) 3 i0 (.int .i64 0) 1 8 Tryz.underlying102 hi hz0 hz1 hz2 rfl (by decide) _ _ _ rfl hrow4 ⟨w4.heap.size, 0, none⟩ 1 1 [.int .i64 z] rfl rfl ?c1 ?c2 ?c3 ?c4 ?c5 ?_)
        case c1 => exact fun i u hi => int_at _ _ rfl _ i u hi
        case c2 => exact fun u hu => by rw [List.mem_singleton.1 hu]; rfl
        case c3 => unfold maxLen; omega
        case c4 => omega
        case c5 => simp; omega
        intro v2 w6 hown hgrow _
        have hb6 := hb5.grown hgrow (by simp; omega) (fun q hq => (World.ownsRow.lt hrow4 q hq).1)
        have hr6 := IRow.snoc (l := acc) (by rw [hfl]; exact hown)
        rw [← HSN.out] at hr6
        clear hown hgrow hb5 hrow4
        go_wp2
        go_roundw
        case rel => exact ⟨j + 1, hl, by go_num, hr6, hb6⟩
        case measure => simp [intOf]; omega
      · have q1 : ((j : Int) == (k : Int)) = false := beq_false_of_ne (by omega)
        have q2 : (j == k) = false := beq_false_of_ne hjk
        obtain rfl : z = y := by have := HZ.out; rwa [if_neg hjk] at this
        clear HZ hjk
        go_wp2_with fail
        refine hg.mono ?_
        rintro e w4 ⟨rfl, h4⟩
        have hrow4 := (hrow.below h4).alloc (.cells #[.int .i64 z] 3)
        have hb4 := (hb.trans (h4.mono (by omega)))
        have hs4 := h4.size
        have hb5 := hb4.alloc (by omega) (.cells #[.int .i64 z] 3)
        clear hrow hb hg h4 hb4 x0 x1 x2 x3 x4 x5 x6 x7 x8 x9 x10 x11 x12 x13
        go_wp2_with (at_builtin; refine wpList_append_own _ rfl (.tmp 22) (.tmp 24) 102 rfl (w.heap.size + 2) 3 i0 (.int .i64 0) 1 8 Tryz.underlying102 hi hz0 hz1 hz2 rfl (by decide) _ _ _ rfl hrow4 ⟨w4.heap.size, 0, none⟩ 1 1 [.int .i64 z] rfl rfl ?c1 ?c2 ?c3 ?c4 ?c5 ?_)
        case c1 => exact fun i u hi => int_at _ _ rfl _ i u hi
        case c2 => exact fun u hu => by rw [List.mem_singleton.1 hu]; rfl
        case c3 => unfold maxLen; omega
        case c4 => omega
        case c5 => simp; omega
        intro v2 w6 hown hgrow _
        have hb6 := hb5.grown hgrow (by simp; omega) (fun q hq => (World.ownsRow.lt hrow4 q hq).1)
        have hr6 := IRow.snoc (l := acc) (by rw [hfl]; exact hown)
        rw [← HSN.out] at hr6
        clear hown hgrow hb5 hrow4
        go_wp2
        go_roundw
        case rel => exact ⟨j + 1, hl, by go_num, hr6, hb6⟩
        case measure => simp [intOf]; omega
    · obtain rfl : j = 12 := by omega
      obtain ⟨ao, cap, rfl, hlc, hcm, hcc⟩ := hrow.reads
      rw [firstF_len] at hlc hcc ⊢
      obtain ⟨g, off, rfl, hg0, -⟩ := hcc 0 (by decide)
      have hcell : ∀ i, i < 12 → wr.cell? ⟨g, off + i, none⟩ = some (.int .i64 ((c.set k v).f i)) := fun i hi => by
        obtain ⟨g', off', e, -, h⟩ := hcc i hi
        injection e with e
        injection e with e1 e2 _
        subst e1 e2
        rw [h, List.getD_eq_getElem?_getD, firstF, List.getElem?_map, List.getElem?_range hi]
        rfl
      have e0 := hcell 0 (by decide)
      rw [Nat.add_zero] at e0
      have e1 := hcell 1 (by decide)
      have e2 := hcell 2 (by decide)
      have e3 := hcell 3 (by decide)
      have e4 := hcell 4 (by decide)
      have e5 := hcell 5 (by decide)
      have e6 := hcell 6 (by decide)
      have e7 := hcell 7 (by decide)
      have e8 := hcell 8 (by decide)
      have e9 := hcell 9 (by decide)
      have e10 := hcell 10 (by decide)
      have e11 := hcell 11 (by decide)
      have hz := (hw2.below hb (by omega))
      have y0 := hz.frozen 0
      have y1 := hz.frozen 1
      have y2 := hz.frozen 2
      have y3 := hz.frozen 3
      have y4 := hz.frozen 4
      have y5 := hz.frozen 5
      have y6 := hz.frozen 6
      have y7 := hz.frozen 7
      have y8 := hz.frozen 8
      have y9 := hz.frozen 9
      have y10 := hz.frozen 10
      have y11 := hz.frozen 11
      have y12 := hz.frozen 12
      have y13 := hz.frozen 13
      obtain ⟨z0, z1, z2, z3, z4, z5, z6, z7, z8, z9, z10, z11, z12, z13⟩ := hz.zeros
      have hbE := hb0.trans (hb.mono (by omega))
      unfold maxLen at hcm
      clear hcell hcc hw1 hw2 hb hget hrow hb0
      go_wp2
      go_still_tail 41, (by kernel_rfl)
      change wpList _ _ _ _ _ wr.drew
      go_wp2
      have hH := hz.put14 (.string (bs c.name)) (.int .i64 c.chart) (.int .i64 ((c.set k v).f 0)) (.int .i64 ((c.set k v).f 1)) (.int .i64 ((c.set k v).f 2)) (.int .i64 ((c.set k v).f 3)) (.int .i64 ((c.set k v).f 4)) (.int .i64 ((c.set k v).f 5)) (.int .i64 ((c.set k v).f 6)) (.int .i64 ((c.set k v).f 7)) (.int .i64 ((c.set k v).f 8)) (.int .i64 ((c.set k v).f 9)) (.int .i64 ((c.set k v).f 10)) (.int .i64 ((c.set k v).f 11))
      have hbF := Below.put14 hbE (b := w.heap.size + 1) (Nat.le_succ _) (.string (bs c.name)) (.int .i64 c.chart) (.int .i64 ((c.set k v).f 0)) (.int .i64 ((c.set k v).f 1)) (.int .i64 ((c.set k v).f 2)) (.int .i64 ((c.set k v).f 3)) (.int .i64 ((c.set k v).f 4)) (.int .i64 ((c.set k v).f 5)) (.int .i64 ((c.set k v).f 6)) (.int .i64 ((c.set k v).f 7)) (.int .i64 ((c.set k v).f 8)) (.int .i64 ((c.set k v).f 9)) (.int .i64 ((c.set k v).f 10)) (.int .i64 ((c.set k v).f 11))
      generalize ((((((((((((((wr.setCell ⟨w.heap.size + 1, 0, none⟩ (.string (bs c.name))).setCell ⟨w.heap.size + 1, 1, none⟩ (.int .i64 c.chart)).setCell ⟨w.heap.size + 1, 2, none⟩ (.int .i64 ((c.set k v).f 0))).setCell ⟨w.heap.size + 1, 3, none⟩ (.int .i64 ((c.set k v).f 1))).setCell ⟨w.heap.size + 1, 4, none⟩ (.int .i64 ((c.set k v).f 2))).setCell ⟨w.heap.size + 1, 5, none⟩ (.int .i64 ((c.set k v).f 3))).setCell ⟨w.heap.size + 1, 6, none⟩ (.int .i64 ((c.set k v).f 4))).setCell ⟨w.heap.size + 1, 7, none⟩ (.int .i64 ((c.set k v).f 5))).setCell ⟨w.heap.size + 1, 8, none⟩ (.int .i64 ((c.set k v).f 6))).setCell ⟨w.heap.size + 1, 9, none⟩ (.int .i64 ((c.set k v).f 7))).setCell ⟨w.heap.size + 1, 10, none⟩ (.int .i64 ((c.set k v).f 8))).setCell ⟨w.heap.size + 1, 11, none⟩ (.int .i64 ((c.set k v).f 9))).setCell ⟨w.heap.size + 1, 12, none⟩ (.int .i64 ((c.set k v).f 10))).setCell ⟨w.heap.size + 1, 13, none⟩ (.int .i64 ((c.set k v).f 11))) = wE at hH hbF ⊢
      obtain ⟨c0, c1, c2, c3, c4, c5, c6, c7, c8, c9, c10, c11, c12, c13⟩ := Has.chan (c := c.set k v) hH
      refine bodyPost_ret (v := chV (c.set k v)) (by simp [results, Tryz.results77, go_sem, c0, c1, c2, c3, c4, c5, c6, c7, c8, c9, c10, c11, c12, c13, chV]) rfl ⟨rfl, ?_⟩
      exact hbF.trans ⟨rfl, rfl, rfl, Nat.le_refl _, fun _ _ => rfl⟩
end Go.Proofs.YtdimgomigidbkaaGreatDoor
