/- Rows of tokens, read: datumref07.Same, Like. -/
import Derived.Test.YticgmbhdcegoeaaDoorTokF
namespace Go.Proofs.YticgmbhdcegoeaaDoor
open Go.RowKit

def nth (l : List Tok) (i : Nat) : Tok := l.getD i ⟨0, [], 0, 0⟩
theorem nth_get (l : List Tok) (i : Nat) (h : i < l.length) : nth l i = l[i]'h := by
  unfold nth
  rw [List.getD_eq_getElem?_getD, List.getElem?_eq_getElem h]
  rfl
/-- A token's cells, at an address. -/
structure TokAt (w : World) (b o : Nat) (t : Tok) : Prop where
  c0 : w.cell? ⟨b, o, none⟩ = some (.int .i64 t.kind)
  c1 : w.cell? ⟨b, o + 1, none⟩ = some (.string (bs t.text))
  c2 : w.cell? ⟨b, o + 2, none⟩ = some (.int .i64 t.num)
  c3 : w.cell? ⟨b, o + 3, none⟩ = some (.int .i64 t.place)
/-- A slice value that reads as these tokens. -/
def Reads (w : World) (v : Value) (l : List Tok) : Prop :=
  ∃ ao cap, v = .slice ao l.length cap ∧ l.length ≤ cap ∧ cap ≤ maxLen ∧ ∀ i, i < l.length → ∃ b off, ao = some ⟨b, off, none⟩ ∧ b < w.heap.size ∧ TokAt w b (off + i * 4) (nth l i)
theorem TokAt.below {w w' : World} {b o B : Nat} {t : Tok} (h : TokAt w b o t) (hb : Below B w w') (hB : b < B) : TokAt w' b o t :=
  ⟨(hb.cell hB).trans h.c0, (hb.cell hB).trans h.c1, (hb.cell hB).trans h.c2, (hb.cell hB).trans h.c3⟩
theorem Reads.below {w w' : World} {v : Value} {l : List Tok} (h : Reads w v l) (hb : Below w.heap.size w w') : Reads w' v l := by
  obtain ⟨ao, cap, h1, h2, h3, h4⟩ := h
  refine ⟨ao, cap, h1, h2, h3, fun i hi => ?_⟩
  obtain ⟨b, off, h5, h6, h7⟩ := h4 i hi
  exact ⟨b, off, h5, Nat.lt_of_lt_of_le h6 hb.size, h7.below hb h6⟩
theorem cells4_at (l : List Tok) (i j : Nat) (h : i < l.length) (hj : j < 4) : (cells4 l)[i * 4 + j]? = (cellsT (nth l i))[j]? := by
  induction l generalizing i with
  | nil => exact absurd h (Nat.not_lt_zero _)
  | cons t r ih =>
    have e : cells4 (t :: r) = cellsT t ++ cells4 r := by unfold cells4; rw [List.flatMap_cons]
    rw [e]
    have hc : (cellsT t).length = 4 := rfl
    cases i with
    | zero =>
      rw [List.getElem?_append_left (by rw [hc]; omega), Nat.zero_mul, Nat.zero_add]
      rfl
    | succ i =>
      rw [List.getElem?_append_right (by rw [hc]; omega), hc, show (i + 1) * 4 + j - 4 = i * 4 + j by omega, ih i (by rw [List.length_cons] at h; omega)]
      rfl
theorem Row.reads {B : Nat} {v : Value} {l : List Tok} {w : World} (h : Row B v l w) : Reads w v l := by
  have h0 : w.ownsRow B 30 4 v l.length (cells4 l) := h
  rcases h0.2 with ⟨h1, h2⟩ | ⟨g, cap, cur, hv, hB, hg, hl, hc, hs, ht⟩
  · have hl : l = [] := List.eq_nil_of_length_eq_zero h2
    subst hl
    exact ⟨none, 0, h1, Nat.le_refl _, Nat.zero_le _, fun i hi => absurd hi (Nat.not_lt_zero _)⟩
  · refine ⟨_, cap, hv, hl, hc, fun i hi => ⟨g, 0, rfl, (Array.getElem?_eq_some_iff.1 hg).1, ?_⟩⟩
    have hc' : ∀ j, j < 4 → w.cell? ⟨g, 0 + i * 4 + j, none⟩ = (cellsT (nth l i))[j]? := by
      intro j hj
      rw [← cells4_at l i j hi hj]
      have hlt : i * 4 + j < (cells4 l).length := by rw [cells4_length]; omega
      have := h0.cells (g := g) (by rw [hv]; rfl) (i * 4 + j) ((cells4 l)[i * 4 + j]) (List.getElem?_eq_getElem hlt)
      rw [List.getElem?_eq_getElem hlt, ← this]
      congr 1
      unfold Addr.add
      split <;> simp_all
    exact ⟨hc' 0 (by omega), hc' 1 (by omega), hc' 2 (by omega), hc' 3 (by omega)⟩
theorem eqTok (k v p : Int) (t : List UInt8) (w : World) : (Op.equalIn 10000 30 (.agg #[.int .i64 k, .string (bs t), .int .i64 v, .int .i64 p]) (.agg #[.int .i64 k, .string (bs t), .int .i64 v, .int .i64 p])).run Tryd.prog w = .ok true w := by
  go_simp
def UpTo (n : Nat) (w : World) (i : Value) (wr : World) : Prop := ∃ k : Nat, k ≤ n ∧ i = .int .i64 (k : Nat) ∧ Below w.heap.size w wr
set_option maxRecDepth 100000 in
theorem same_any (l : List Tok) (va vb : Value) (w : World) (hm : l.length ≤ 100000) (ha : Reads w va l) (hb : Reads w vb l) :
    Calls Tryd.prog 10 #[va, vb] w fun e w' => e = .returned (.bool true) ∧ Below w.heap.size w w' := by
  have heq := eqTok
  obtain ⟨a1, p1, rfl, -, -, hc1⟩ := ha
  obtain ⟨a2, p2, rfl, -, -, hc2⟩ := hb
  have HA := Lib.hid hc1
  have HB := Lib.hid hc2
  clear hc1 hc2
  obtain ⟨n, hn⟩ : ∃ n, l.length = n := ⟨_, rfl⟩
  have HN := Lib.hid hn
  rw [hn] at hm ⊢
  clear hn
  go_enter Tryd.func10, Tryd.ntmps10
  go_wp2
  go_loopw [13] (UpTo n w) (fun i _ => n - (intOf i).toNat)
  case atStart => exact ⟨0, Nat.zero_le _, rfl, Below.refl _ _⟩
  case round =>
    obtain ⟨k, hk, rfl, hb⟩ := hrel
    by_cases hl : k < n
    · obtain ⟨b1, o1, rfl, hlt1, hd1⟩ := HA.out k (by rw [HN.out]; exact hl)
      obtain ⟨b2, o2, rfl, hlt2, hd2⟩ := HB.out k (by rw [HN.out]; exact hl)
      obtain ⟨x0, x1, x2, x3⟩ := hd1.below hb hlt1
      obtain ⟨y0, y1, y2, y3⟩ := hd2.below hb hlt2
      clear hd1 hd2 HA HB
      generalize nth l k = t at x0 x1 x2 x3 y0 y1 y2 y3
      obtain ⟨tk, tt, tn, tp⟩ := t
      dsimp only at x0 x1 x2 x3 y0 y1 y2 y3
      go_wp2
      go_quiet (fail)
      go_wp2
      go_roundw
      case rel => exact ⟨k + 1, hl, by go_num, hb.trans ⟨rfl, rfl, rfl, Nat.le_refl _, fun _ _ => rfl⟩⟩
      case measure => simp [intOf]; omega
    · clear HA HB
      go_wp2
      go_ret
      exact ⟨rfl, hb⟩
theorem core_at (l m : List Tok) (h : l.map Tok.core = m.map Tok.core) (k : Nat) : (nth l k).kind = (nth m k).kind ∧ (nth l k).text = (nth m k).text ∧ (nth l k).num = (nth m k).num := by
  have e : (nth l k).core = (nth m k).core := by
    unfold nth
    have h1 := congrArg (fun x => x.getD k (Tok.core ⟨0, [], 0, 0⟩)) h
    simp only [List.getD_eq_getElem?_getD, List.getElem?_map, Option.getD_map] at h1 ⊢
    exact h1
  simp only [Tok.core, Prod.mk.injEq] at e
  exact e
set_option maxRecDepth 100000 in
theorem like_any (l m : List Tok) (va vb : Value) (w : World) (hm : m.length ≤ 100000) (hlm : l.map Tok.core = m.map Tok.core) (ha : Reads w va l) (hb : Reads w vb m) :
    Calls Tryd.prog 17 #[va, vb] w fun e w' => e = .returned (.bool true) ∧ Below w.heap.size w w' := by
  have heq := eqTok
  obtain ⟨a1, p1, rfl, -, -, hc1⟩ := ha
  obtain ⟨a2, p2, rfl, -, -, hc2⟩ := hb
  have hle : l.length = m.length := by have := congrArg List.length hlm; rwa [List.length_map, List.length_map] at this
  have hcore := core_at l m hlm
  rw [hle] at hc1 ⊢
  have HA := Lib.hid hc1
  have HB := Lib.hid hc2
  have HC := Lib.hid hcore
  clear hc1 hc2 hcore hlm hle
  obtain ⟨n, hn⟩ : ∃ n, m.length = n := ⟨_, rfl⟩
  have HN := Lib.hid hn
  rw [hn] at hm ⊢
  clear hn
  go_enter Tryd.func17, Tryd.ntmps17
  go_wp2
  go_loopw [14] (UpTo n w) (fun i _ => n - (intOf i).toNat)
  case atStart => exact ⟨0, Nat.zero_le _, rfl, Below.refl _ _⟩
  case round =>
    obtain ⟨k, hk, rfl, hb⟩ := hrel
    by_cases hl : k < n
    · obtain ⟨b1, o1, rfl, hlt1, hd1⟩ := HA.out k (by rw [HN.out]; exact hl)
      obtain ⟨b2, o2, rfl, hlt2, hd2⟩ := HB.out k (by rw [HN.out]; exact hl)
      obtain ⟨x0, x1, x2, x3⟩ := hd1.below hb hlt1
      obtain ⟨y0, y1, y2, y3⟩ := hd2.below hb hlt2
      obtain ⟨e0, e1, e2⟩ := HC.out k
      rw [e0] at x0
      rw [e1] at x1
      rw [e2] at x2
      have hlt1' : b1 < wr.heap.size := Nat.lt_of_lt_of_le hlt1 hb.size
      have hlt2' : b2 < wr.heap.size := Nat.lt_of_lt_of_le hlt2 hb.size
      have hbs := hb.size
      clear hd1 hd2 HA HB HC e0 e1 e2
      generalize nth m k = t at x0 x1 x2 y0 y1 y2 y3
      generalize (nth l k).place = q at x3
      obtain ⟨tk, tt, tn, tp⟩ := t
      dsimp only at x0 x1 x2 y0 y1 y2 y3
      go_wp2
      go_quiet (fail)
      go_wp2
      go_roundw
      case rel => exact ⟨k + 1, hl, by go_num, (hb.alloc hbs _).trans ⟨rfl, rfl, rfl, Nat.le_refl _, fun _ _ => rfl⟩⟩
      case measure => simp [intOf]; omega
    · clear HA HB HC
      go_wp2
      go_ret
      exact ⟨rfl, hb⟩
end Go.Proofs.YticgmbhdcegoeaaDoor
