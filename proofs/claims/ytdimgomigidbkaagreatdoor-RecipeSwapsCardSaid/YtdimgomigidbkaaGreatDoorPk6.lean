/- Texts of one proof, put together: RcE, RcD, RcF, RcG, RcO, RcJ, RcK, RcI, RcM, RcP. -/
import Derived.Test.YtdimgomigidbkaaGreatDoorPk5
import Derived.Deep.MidRow
import Derived.Maps.RangeWalk
/- Stage 8's code: order, lack, the reader's next token. -/
namespace Go.Proofs.YtdimgomigidbkaaGreatDoor
open Go.RowKit

theorem size14 : ((Tryz.prog).info? 37).map (·.size) = some 14 := by kernel_rfl
theorem size4 : ((Tryz.prog).info? 55).map (·.size) = some 4 := by kernel_rfl
/-! ### Whole structs, loaded and stored -/
theorem Has.range {w : World} {b : Nat} {cs : List Value} {T : TypeId} (h : Has w b cs T) : w.rangeAt b 0 cs := fun j v hv => by rw [Nat.zero_add, h.cell, hv]
theorem Has.there {w : World} {b : Nat} {cs : List Value} {T : TypeId} (h : Has w b cs T) : w.there b 0 cs.length := fun j hj => by
  rw [Nat.zero_add, h.cell, List.getElem?_eq_getElem hj]
  exact ⟨rfl, h.frozen j⟩
theorem sets_list (b : Nat) (T : TypeId) : ∀ (vs : List Value) (w : World) (pre post : List Value), post.length = vs.length → Has w b (pre ++ post) T → Has (w.setCells b pre.length vs) b (pre ++ vs) T
  | [], _, _, [], _, h => h
  | v :: r, w, pre, u :: post, hl, h => by
    have h1 := h.set pre.length v
    have e : (pre ++ u :: post).set pre.length v = (pre ++ [v]) ++ post := by
      rw [List.set_append_right _ _ (Nat.le_refl _), Nat.sub_self]
      simp
    rw [e] at h1
    have h2 := sets_list b T r _ (pre ++ [v]) post (by simpa using hl) h1
    rw [List.length_append, List.append_assoc] at h2
    exact h2
/-- The whole block is stored. -/
theorem Has.sets {w : World} {b : Nat} {cs : List Value} {T : TypeId} (h : Has w b cs T) (vs : List Value) (hl : cs.length = vs.length) : Has (w.setCells b 0 vs) b vs T :=
  sets_list b T vs w [] cs hl h
theorem Has.setsO {w : World} {b b' : Nat} {cs : List Value} {T : TypeId} (h : Has w b cs T) (hb : b ≠ b') (o : Nat) (vs : List Value) : Has (w.setCells b' o vs) b cs T := h.of (sets_other b' vs o w b hb)
theorem Below.sets {B b : Nat} {x y : World} (h : Below B x y) (hb : B ≤ b) (o : Nat) (vs : List Value) : Below B x (y.setCells b o vs) := by
  obtain ⟨h1, h2, h3, h4⟩ := sets_same b vs o y
  exact ⟨h1.trans h.os, h2.trans h.tape, h3.trans h.output, by rw [h4]; exact h.size, fun k hk => (sets_other b vs o y k (by omega)).trans (h.block k hk)⟩
theorem WB.ownSets {b c : Nat} {x y : World} (h : WB b x y) (hc : x.heap.size ≤ c) (o : Nat) (vs : List Value) : WB b x (y.setCells c o vs) := by
  obtain ⟨h1, h2, h3, h4⟩ := sets_same c vs o y
  exact ⟨h1.trans h.os, h2.trans h.tape, h3.trans h.output, by rw [h4]; exact h.size, fun k hk hx => (sets_other c vs o y k (by omega)).trans (h.block k hk hx)⟩
theorem chL_len (c : Ch) : (chL c).length = 14 := rfl
theorem chL_one (c : Ch) : (chL c).toArray.all (·.oneCell') = true := by simp [chL, Value.oneCell']
theorem load14 {w : World} {b : Nat} {c : Ch} (h : Has w b (chL c) 37) : (loadVar 37 ⟨b, 0, none⟩).run Tryz.prog w = .ok (chV c) w :=
  run_loadVar_mid w b 0 37 (chL c) _ h.range Tryz.underlying37 rfl size14
/-! ### What is wrong -/
def errV (p e : Int) : Value := .iface 49 (.agg #[.int .i64 p, .int .i64 e])
theorem wrongAt_any (t : Tok) (e0 : Int) (w : World) : Calls Tryz.prog 88 #[tokA t, .int .i64 e0] w fun e w' => e = .returned (errV t.place e0) ∧ Below w.heap.size w w' := by
  have hB := (Below.refl w.heap.size w).alloc (Nat.le_refl _) (.cells #[.int .i64 t.kind, .string (bs t.text), .int .i64 t.num, .int .i64 t.place] 55)
  unfold tokA errV
  go_enter Tryz.func88, Tryz.ntmps88
  go_wp2
  go_ret
  exact ⟨rfl, hB⟩
/-! ### The reader -/
/-- A reader in block b: the tokens that are not read yet lie in older blocks; n: where the text ends. -/
def Rdr (w : World) (b n : Nat) (l : List Tok) : Prop :=
  ∃ ao cap, Has w b [.slice ao l.length cap, .int .i64 (n : Nat)] 43 ∧ l.length ≤ cap ∧ cap ≤ maxLen ∧ ∀ i, i < l.length → ∃ b' off, ao = some ⟨b', off, none⟩ ∧ b' < b ∧ TokAt w b' (off + i * 4) (nth l i)
theorem Rdr.lt {w : World} {b n : Nat} {l : List Tok} (h : Rdr w b n l) : b < w.heap.size := by
  obtain ⟨_, _, h, _⟩ := h
  exact h.lt
theorem Rdr.call {w w' : World} {b n : Nat} {l : List Tok} (h : Rdr w b n l) (hb : Below w.heap.size w w') : Rdr w' b n l := by
  have hlt := h.lt
  obtain ⟨ao, cap, h1, h2, h3, h4⟩ := h
  refine ⟨ao, cap, h1.call hb, h2, h3, fun i hi => ?_⟩
  obtain ⟨b', off, h5, h6, h7⟩ := h4 i hi
  exact ⟨b', off, h5, h6, h7.below hb (by omega)⟩
theorem Rdr.set {w : World} {b n : Nat} {l : List Tok} (h : Rdr w b n l) {c : Nat} (hc : b < c) (k : Nat) (v : Value) : Rdr (w.setCell ⟨c, k, none⟩ v) b n l := by
  obtain ⟨ao, cap, h1, h2, h3, h4⟩ := h
  refine ⟨ao, cap, h1.other (by dsimp only; omega) v, h2, h3, fun i hi => ?_⟩
  obtain ⟨b', off, h5, h6, h7⟩ := h4 i hi
  have far : ∀ o, (w.setCell ⟨c, k, none⟩ v).cell? ⟨b', o, none⟩ = w.cell? ⟨b', o, none⟩ := fun o => World.cell?_setCell_far _ _ _ _ (by dsimp only; omega)
  exact ⟨b', off, h5, h6, (far _).trans h7.c0, (far _).trans h7.c1, (far _).trans h7.c2, (far _).trans h7.c3⟩
theorem Rdr.sets {w : World} {b n : Nat} {l : List Tok} (h : Rdr w b n l) {c : Nat} (hc : b < c) : ∀ (vs : List Value) (o : Nat), Rdr (w.setCells c o vs) b n l := by
  intro vs
  induction vs generalizing w with
  | nil => intro o; exact h
  | cons v r ih => intro o; exact ih (h.set hc o v) (o + 1)
theorem tokE_nil (n : Nat) : tokA (tokE n []) = .agg #[.int .i64 0, .string ⟨#[]⟩, .int .i64 0, .int .i64 (n : Nat)] := rfl
theorem heap_two (w : World) (o o' : Obj) {k : Nat} (hk : k < w.heap.size) : ((w.alloc o).alloc o').heap[k]? = w.heap[k]? :=
  (((Below.refl w.heap.size w).alloc (Nat.le_refl _) o).alloc (by simp) o').block k hk
set_option maxHeartbeats 1000000 in
theorem rnext_any (l : List Tok) (b n : Nat) (w : World) (h : Rdr w b n l) :
    Calls Tryz.prog 87 #[.pointer (some ⟨b, 0, none⟩)] w fun e w' => e = .returned (tokA (tokE n l)) ∧ Rdr w' b n (l.drop 1) ∧ WB b w w' := by
  have hlt := h.lt
  cases l with
  | nil =>
    rw [tokE_nil]
    have hr : ∀ W, Below w.heap.size w W → Rdr W b n (([] : List Tok).drop 1) := fun W hW => h.call hW
    have HR := Lib.hid hr
    obtain ⟨ao, cap, h1, h2, h3, h4⟩ := h
    have c0 : w.cell? ⟨b, 0, none⟩ = some (.slice ao 0 cap) := h1.cell 0
    have c1 : w.cell? ⟨b, 1, none⟩ = some (.int .i64 (n : Nat)) := h1.cell 1
    have hB := (Below.refl w.heap.size w).alloc (Nat.le_refl _) (.cells #[.int .i64 0, .string ⟨#[]⟩, .int .i64 0, .int .i64 0] 55)
    have hne : (b == w.heap.size) = false := beq_false_of_ne (by omega)
    clear h1 h4 hr
    have hB2 := (((hB.setCell (p := ⟨w.heap.size, 0, none⟩) (Nat.le_refl _) (.int .i64 0)).setCell (p := ⟨w.heap.size, 1, none⟩) (Nat.le_refl _) (.string ⟨#[]⟩)).setCell (p := ⟨w.heap.size, 2, none⟩) (Nat.le_refl _) (.int .i64 0)).setCell (p := ⟨w.heap.size, 3, none⟩) (Nat.le_refl _) (.int .i64 (n : Nat))
    go_enter Tryz.func87, Tryz.ntmps87
    go_wp2
    refine bodyPost_ret (v := .agg #[.int .i64 0, .string ⟨#[]⟩, .int .i64 0, .int .i64 (n : Nat)]) (by simp [results, Tryz.results87, go_sem]) rfl ⟨rfl, HR.out _ ?_, WB.of ?_⟩
    all_goals exact (Below.refl w.heap.size w).alloc (Nat.le_refl _) _
  | cons t r =>
    obtain ⟨ao, cap, h1, h2, h3, h4⟩ := h
    unfold maxLen at h3
    have h4s := fun i (hi : i < r.length) => h4 (i + 1) (by rw [List.length_cons]; omega)
    obtain ⟨b', off, rfl, hb', hd⟩ := h4 0 (by rw [List.length_cons]; omega)
    rw [Nat.zero_mul, Nat.add_zero, show nth (t :: r) 0 = t from rfl] at hd
    obtain ⟨x0, x1, x2, x3⟩ := hd
    have c0 : w.cell? ⟨b, 0, none⟩ = some (.slice (some ⟨b', off, none⟩) (r.length + 1) cap) := h1.cell 0
    have f0 : w.frozen? ⟨b, 0, none⟩ = false := h1.frozen 0
    rw [show tokE n (t :: r) = t from rfl, show (t :: r).drop 1 = r from rfl]
    have hne : (b == w.heap.size) = false := beq_false_of_ne (by omega)
    have hne2 : (b' == w.heap.size) = false := beq_false_of_ne (by omega)
    have hlb : b' < w.heap.size := by omega
    rw [List.length_cons] at h2
    have HF := Lib.hid (show ∀ W a2 c2, Has W b [.slice a2 r.length c2, .int .i64 (n : Nat)] 43 → r.length ≤ c2 → c2 ≤ 2 ^ 63 - 1 → (r.length = 0 ∨ a2 = some ⟨b', off + 4, none⟩) → W.heap[b']? = w.heap[b']? → Rdr W b n r from fun W a2 c2 q1 q3 q4 q5 q2 =>
      ⟨_, c2, q1, q3, by unfold maxLen; omega, fun i hi => by
        obtain ⟨b2, off2, e, h6, h7⟩ := h4s i hi
        rcases q5 with q5 | rfl
        · omega
        simp only [Option.some.injEq, Addr.mk.injEq, and_true] at e
        obtain ⟨rfl, rfl⟩ := e
        refine ⟨_, _, rfl, hb', ?_⟩
        rw [show nth (t :: r) (i + 1) = nth r i from rfl, show off + (i + 1) * 4 = off + 4 + i * 4 by omega] at h7
        have far : ∀ o, W.cell? ⟨b', o, none⟩ = w.cell? ⟨b', o, none⟩ := fun o => World.cell?_of_block (a := ⟨b', o, none⟩) q2
        exact ⟨(far _).trans h7.c0, (far _).trans h7.c1, (far _).trans h7.c2, (far _).trans h7.c3⟩⟩)
    have HN := Lib.hid (show ∀ v, Has (w.setCell ⟨b, 0, none⟩ v) b [v, .int .i64 (n : Nat)] 43 ∧ (w.setCell ⟨b, 0, none⟩ v).heap[b']? = w.heap[b']? from fun v => ⟨h1.set 0 v, Below.heap_setCell _ _ _ _ (by dsimp only; omega)⟩)
    unfold tokA
    generalize t.kind = tk at x0
    generalize t.text = tt at x1
    generalize t.num = tn at x2
    generalize t.place = tp at x3
    generalize r.length = q at *
    clear h4 h4s h1
    go_enter Tryz.func87, Tryz.ntmps87
    go_wp2
    all_goals refine bodyPost_ret (v := .agg #[.int .i64 tk, .string (bs tt), .int .i64 tn, .int .i64 tp]) (by simp [results, Tryz.results87, go_sem]) rfl ⟨rfl, ?_, ?_⟩
    case inl.refine_2 => exact (((WB.set w 0 _).alloc _).alloc _)
    case inr.refine_2 => exact (((WB.set w 0 _).alloc _).alloc _)
    case inl.refine_1 => exact HF.out _ _ _ (((HN.out _).1.alloc _).alloc _) (by omega) (by omega) (Or.inl (by omega)) (by rw [heap_two _ _ _ (by simpa using hlb)]; exact (HN.out _).2)
    case inr.refine_1 => exact HF.out _ _ _ (((HN.out _).1.alloc _).alloc _) (by omega) (by omega) (Or.inr rfl) (by rw [heap_two _ _ _ (by simpa using hlb)]; exact (HN.out _).2)
end Go.Proofs.YtdimgomigidbkaaGreatDoor
/- Stage 8's code: what is told of a channel. -/
namespace Go.Proofs.YtdimgomigidbkaaGreatDoor
open Go.RowKit

set_option maxHeartbeats 4000000 in
set_option maxRecDepth 100000 in
theorem told_any (c : Ch) (w : World) (h0 : c.chart = (c.ch : Int)) : Calls Tryz.prog 49 #[chV c] w fun e w' => ∃ v, e = .returned v ∧ OwnF w.heap.size v (toldL c) w' ∧ Below w.heap.size w w' := by
  have hx := Has.new w (chL c) 37
  have hB := (Below.refl w.heap.size w).alloc (Nat.le_refl _) (.cells (chL c).toArray 37)
  obtain ⟨q, hq⟩ : ∃ q, (decide (c.f 10 = 0) && decide (c.f 11 = 0)) = q := ⟨_, rfl⟩
  have hfo := fieldsOf_any c.ch
  have hde := delTold_any (rowsL c.ch) q
  have hl13 := rows_13 c.ch
  have hrl := rows_lt c.ch
  have ht : toldL c = (rowsL c.ch).filter fun r => rNeed r || !q := by unfold toldL; rw [hq]
  rw [ht]
  have hl2 : ((rowsL c.ch).filter fun r => rNeed r || !q).length ≤ (rowsL c.ch).length := List.length_filter_le _ _
  unfold chV
  unfold chL at hx hB
  rw [h0] at hx hB ⊢
  clear ht
  generalize c.ch = ch at *
  generalize rowsL ch = L at *
  obtain ⟨F, hF⟩ : ∃ F, (L.filter fun r => rNeed r || !q) = F := ⟨_, rfl⟩
  rw [hF] at hl2 ⊢
  simp only [hF] at hde
  clear hF
  generalize c.name = cn at *
  generalize c.f 0 = f0 at *
  generalize c.f 1 = f1 at *
  generalize c.f 2 = f2 at *
  generalize c.f 3 = f3 at *
  generalize c.f 4 = f4 at *
  generalize c.f 5 = f5 at *
  generalize c.f 6 = f6 at *
  generalize c.f 7 = f7 at *
  generalize c.f 8 = f8 at *
  generalize c.f 9 = f9 at *
  generalize c.f 10 = f10 at *
  generalize c.f 11 = f11 at *
  clear h0
  by_cases h10 : f10 = 0
  · by_cases h11 : f11 = 0
    · rw [decide_eq_true h10, decide_eq_true h11] at hq
      subst hq
      subst h10
      subst h11
      have hb2 := hB.alloc (by simp) (.cells #[.bool true] 4)
      have hn := Has.new (w.alloc (.cells #[.string (bs cn), .int .i64 (ch : Nat), .int .i64 f0, .int .i64 f1, .int .i64 f2, .int .i64 f3, .int .i64 f4, .int .i64 f5, .int .i64 f6, .int .i64 f7, .int .i64 f8, .int .i64 f9, .int .i64 0, .int .i64 0] 37)) [.bool true] 4
      have hf := hfo ((w.alloc (.cells #[.string (bs cn), .int .i64 (ch : Nat), .int .i64 f0, .int .i64 f1, .int .i64 f2, .int .i64 f3, .int .i64 f4, .int .i64 f5, .int .i64 f6, .int .i64 f7, .int .i64 f8, .int .i64 f9, .int .i64 0, .int .i64 0] 37)).alloc (.cells #[.bool true] 4))
      clear hfo hB hx
      rw [show (w.alloc (.cells #[.string (bs cn), .int .i64 (ch : Nat), .int .i64 f0, .int .i64 f1, .int .i64 f2, .int .i64 f3, .int .i64 f4, .int .i64 f5, .int .i64 f6, .int .i64 f7, .int .i64 f8, .int .i64 f9, .int .i64 0, .int .i64 0] 37)).heap.size = w.heap.size + 1 by simp] at hn
      go_enter Tryz.func49, Tryz.ntmps49
      go_wp2_with fail
      refine hf.mono ?_
      rintro e w2 ⟨v, rfl, ⟨cv, rb, cap, rfl, g1, g2, g3, g4⟩, h2⟩
      have g4' : w.heap.size + 1 + 1 ≤ rb := by simpa using g4
      have hd := hde (w.heap.size + 1) cv rb cap w2 g3 (by omega) g1 g2 hrl (hn.call h2) (by omega)
      have hbig := hb2.trans (h2.mono (by simp; omega))
      clear hf hde hn hb2 g3 g4 h2
      go_wp2_with fail
      refine hd.mono ?_
      rintro e w3 ⟨rfl, h3, h4⟩
      go_wp2
      go_ret
      exact ⟨_, rfl, ⟨_, _, _, rfl, Nat.le_trans hl2 g1, g2, h3, by omega⟩, hbig.trans (h4.low (by omega) hbig.size)⟩
    · rw [decide_eq_true h10, decide_eq_false h11] at hq
      have b11 : (f11 == 0) = false := beq_false_of_ne h11
      subst hq
      subst h10
      clear h11
      have hb2 := hB.alloc (by simp) (.cells #[.bool false] 4)
      have hn := Has.new (w.alloc (.cells #[.string (bs cn), .int .i64 (ch : Nat), .int .i64 f0, .int .i64 f1, .int .i64 f2, .int .i64 f3, .int .i64 f4, .int .i64 f5, .int .i64 f6, .int .i64 f7, .int .i64 f8, .int .i64 f9, .int .i64 0, .int .i64 f11] 37)) [.bool false] 4
      have hf := hfo ((w.alloc (.cells #[.string (bs cn), .int .i64 (ch : Nat), .int .i64 f0, .int .i64 f1, .int .i64 f2, .int .i64 f3, .int .i64 f4, .int .i64 f5, .int .i64 f6, .int .i64 f7, .int .i64 f8, .int .i64 f9, .int .i64 0, .int .i64 f11] 37)).alloc (.cells #[.bool false] 4))
      clear hfo hB hx
      rw [show (w.alloc (.cells #[.string (bs cn), .int .i64 (ch : Nat), .int .i64 f0, .int .i64 f1, .int .i64 f2, .int .i64 f3, .int .i64 f4, .int .i64 f5, .int .i64 f6, .int .i64 f7, .int .i64 f8, .int .i64 f9, .int .i64 0, .int .i64 f11] 37)).heap.size = w.heap.size + 1 by simp] at hn
      go_enter Tryz.func49, Tryz.ntmps49
      go_wp2_with fail
      refine hf.mono ?_
      rintro e w2 ⟨v, rfl, ⟨cv, rb, cap, rfl, g1, g2, g3, g4⟩, h2⟩
      have g4' : w.heap.size + 1 + 1 ≤ rb := by simpa using g4
      have hd := hde (w.heap.size + 1) cv rb cap w2 g3 (by omega) g1 g2 hrl (hn.call h2) (by omega)
      have hbig := hb2.trans (h2.mono (by simp; omega))
      clear hf hde hn hb2 g3 g4 h2
      go_wp2_with fail
      refine hd.mono ?_
      rintro e w3 ⟨rfl, h3, h4⟩
      go_wp2
      go_ret
      exact ⟨_, rfl, ⟨_, _, _, rfl, Nat.le_trans hl2 g1, g2, h3, by omega⟩, hbig.trans (h4.low (by omega) hbig.size)⟩
  · rw [decide_eq_false h10] at hq
    have b10 : (f10 == 0) = false := beq_false_of_ne h10
    rw [Bool.false_and] at hq
    subst hq
    clear h10
    have hb2 := hB.alloc (by simp) (.cells #[.bool false] 4)
    have hn := Has.new (w.alloc (.cells #[.string (bs cn), .int .i64 (ch : Nat), .int .i64 f0, .int .i64 f1, .int .i64 f2, .int .i64 f3, .int .i64 f4, .int .i64 f5, .int .i64 f6, .int .i64 f7, .int .i64 f8, .int .i64 f9, .int .i64 f10, .int .i64 f11] 37)) [.bool false] 4
    have hf := hfo ((w.alloc (.cells #[.string (bs cn), .int .i64 (ch : Nat), .int .i64 f0, .int .i64 f1, .int .i64 f2, .int .i64 f3, .int .i64 f4, .int .i64 f5, .int .i64 f6, .int .i64 f7, .int .i64 f8, .int .i64 f9, .int .i64 f10, .int .i64 f11] 37)).alloc (.cells #[.bool false] 4))
    clear hfo hB hx
    rw [show (w.alloc (.cells #[.string (bs cn), .int .i64 (ch : Nat), .int .i64 f0, .int .i64 f1, .int .i64 f2, .int .i64 f3, .int .i64 f4, .int .i64 f5, .int .i64 f6, .int .i64 f7, .int .i64 f8, .int .i64 f9, .int .i64 f10, .int .i64 f11] 37)).heap.size = w.heap.size + 1 by simp] at hn
    go_enter Tryz.func49, Tryz.ntmps49
    go_wp2_with fail
    refine hf.mono ?_
    rintro e w2 ⟨v, rfl, ⟨cv, rb, cap, rfl, g1, g2, g3, g4⟩, h2⟩
    have g4' : w.heap.size + 1 + 1 ≤ rb := by simpa using g4
    have hd := hde (w.heap.size + 1) cv rb cap w2 g3 (by omega) g1 g2 hrl (hn.call h2) (by omega)
    have hbig := hb2.trans (h2.mono (by simp; omega))
    clear hf hde hn hb2 g3 g4 h2
    go_wp2_with fail
    refine hd.mono ?_
    rintro e w3 ⟨rfl, h3, h4⟩
    go_wp2
    go_ret
    exact ⟨_, rfl, ⟨_, _, _, rfl, Nat.le_trans hl2 g1, g2, h3, by omega⟩, hbig.trans (h4.low (by omega) hbig.size)⟩
end Go.Proofs.YtdimgomigidbkaaGreatDoor
/- Stage 8's code: order, lack; the reader's parts. -/
namespace Go.Proofs.YtdimgomigidbkaaGreatDoor
open Go.RowKit

set_option maxHeartbeats 2000000 in
set_option maxRecDepth 100000 in
theorem inOrder_any (c : Ch) (l : List Nat) (cv : Nat → Nat) (v : Value) (w : World) (hr : ReadsF w cv v l) (hm : l.length ≤ 1000) (hl : ∀ r ∈ l, r < 13) :
    Calls Tryz.prog 53 #[chV c, v] w fun e w' => e = .returned (.bool (orderB c l)) ∧ Below w.heap.size w w' := by
  have hx := Has.new w (chL c) 37
  have hB := (Below.refl w.heap.size w).alloc (Nat.le_refl _) (.cells (chL c).toArray 37)
  have h1 := fun W (hW : Below w.heap.size w W) => have_any l cv v (fieldW.getD 1 []) W (hr.below hW) hm hl
  have h2 := fun W (hW : Below w.heap.size w W) => have_any l cv v (fieldW.getD 10 []) W (hr.below hW) hm hl
  rw [have_met hl (by omega)] at h1 h2
  have H1 := Lib.hid h1
  have H2 := Lib.hid h2
  unfold orderB chV
  unfold chL at hx hB
  clear h1 h2 hr hl
  generalize metOf l 1 = m1 at *
  generalize metOf l 10 = m2 at *
  generalize c.name = cn at *
  generalize c.chart = cc at *
  generalize c.f 0 = f0 at *
  generalize c.f 1 = f1 at *
  generalize c.f 2 = f2 at *
  generalize c.f 3 = f3 at *
  generalize c.f 4 = f4 at *
  generalize c.f 5 = f5 at *
  generalize c.f 6 = f6 at *
  generalize c.f 7 = f7 at *
  generalize c.f 8 = f8 at *
  generalize c.f 9 = f9 at *
  generalize c.f 10 = f10 at *
  generalize c.f 11 = f11 at *
  have hc1 := H1.out _ hB
  have second : ∀ W, Below w.heap.size w W → Has W w.heap.size [.string (bs cn), .int .i64 cc, .int .i64 f0, .int .i64 f1, .int .i64 f2, .int .i64 f3, .int .i64 f4, .int .i64 f5, .int .i64 f6, .int .i64 f7, .int .i64 f8, .int .i64 f9, .int .i64 f10, .int .i64 f11] 37 → True := fun _ _ _ => trivial
  clear second
  obtain ⟨g, hg⟩ : ∃ g, decide (f2 ≤ f1) = g := ⟨_, rfl⟩
  obtain ⟨g', hg'⟩ : ∃ g', decide (f10 < f11) = g' := ⟨_, rfl⟩
  rw [hg, hg']
  cases m1
  · go_enter Tryz.func53, Tryz.ntmps53
    go_wp2_with fail
    refine hc1.mono ?_
    rintro e w1 ⟨rfl, k1⟩
    have hB1 := hB.trans (k1.mono (by simp))
    have hx1 := hx.call k1
    have hc2 := H2.out _ hB1
    clear hc1 hB hx k1
    go_wp2_with fail
    refine hc2.mono ?_
    rintro e w2 ⟨rfl, k2⟩
    have hB2 := hB1.trans (k2.mono hB1.size)
    have hx2 := hx1.call k2
    have e12 : w2.cell? ⟨w.heap.size, 12, none⟩ = some (.int .i64 f10) := hx2.cell 12
    have e13 : w2.cell? ⟨w.heap.size, 13, none⟩ = some (.int .i64 f11) := hx2.cell 13
    clear hc2 hB1 hx1 k2 hx2
    cases m2
    · go_wp2
      go_ret
      exact ⟨by simp, hB2⟩
    · go_wp2
      go_ret
      exact ⟨by simp [← hg'], hB2⟩
  · cases g
    · have q1 : f1 < f2 := by have := of_decide_eq_false hg; omega
      have q2 : decide (f2 ≤ f1) = false := hg
      go_enter Tryz.func53, Tryz.ntmps53
      go_wp2_with fail
      refine hc1.mono ?_
      rintro e w1 ⟨rfl, k1⟩
      have hB1 := hB.trans (k1.mono (by simp))
      have hx1 := hx.call k1
      have hc2 := H2.out _ hB1
      have e3 : w1.cell? ⟨w.heap.size, 3, none⟩ = some (.int .i64 f1) := hx1.cell 3
      have e4 : w1.cell? ⟨w.heap.size, 4, none⟩ = some (.int .i64 f2) := hx1.cell 4
      clear hc1 hB hx k1
      go_wp2_with fail
      refine hc2.mono ?_
      rintro e w2 ⟨rfl, k2⟩
      have hB2 := hB1.trans (k2.mono hB1.size)
      have hx2 := hx1.call k2
      have e12 : w2.cell? ⟨w.heap.size, 12, none⟩ = some (.int .i64 f10) := hx2.cell 12
      have e13 : w2.cell? ⟨w.heap.size, 13, none⟩ = some (.int .i64 f11) := hx2.cell 13
      clear hc2 hB1 hx1 k2 hx2 e3 e4
      cases m2
      · go_wp2
        go_ret
        exact ⟨by simp, hB2⟩
      · go_wp2
        go_ret
        exact ⟨by simp [← hg'], hB2⟩
    · have q1 : f2 ≤ f1 := of_decide_eq_true hg
      go_enter Tryz.func53, Tryz.ntmps53
      go_wp2_with fail
      refine hc1.mono ?_
      rintro e w1 ⟨rfl, k1⟩
      have hB1 := hB.trans (k1.mono (by simp))
      have hx1 := hx.call k1
      have e3 : w1.cell? ⟨w.heap.size, 3, none⟩ = some (.int .i64 f1) := hx1.cell 3
      have e4 : w1.cell? ⟨w.heap.size, 4, none⟩ = some (.int .i64 f2) := hx1.cell 4
      clear hc1 hB hx k1
      go_wp2
      go_ret
      exact ⟨by simp, hB1⟩
def LackRel (m : List Nat) (L : List Nat) (n : Nat) (w : World) (i : Value) (wr : World) : Prop :=
  ∃ k : Nat, k ≤ n ∧ i = .int .i64 (k : Nat) ∧ (∀ j, j < k → (rNeed (L.getD j 0) && !metOf m (rowF (L.getD j 0))) = false) ∧ Below w.heap.size w wr
theorem any_at {L : List Nat} {p : Nat → Bool} {k : Nat} (hk : k < L.length) (h : p (L.getD k 0) = true) : L.any p = true := List.any_eq_true.2 ⟨_, getD_mem L k hk, h⟩
theorem any_none {L : List Nat} {p : Nat → Bool} (h : ∀ j, j < L.length → p (L.getD j 0) = false) : L.any p = false := by
  rw [List.any_eq_false]
  intro x hx e
  obtain ⟨j, hj, rfl⟩ := List.getElem_of_mem hx
  have := h j hj
  rw [List.getD_eq_getElem?_getD, List.getElem?_eq_getElem hj] at this
  rw [show ((some L[j]).getD 0) = L[j] from rfl, e] at this
  cases this
set_option maxHeartbeats 2000000 in
set_option maxRecDepth 100000 in
theorem lacks_any (ch : Nat) (m : List Nat) (cv : Nat → Nat) (v : Value) (w : World) (hr : ReadsF w cv v m) (hm : m.length ≤ 1000) (hl : ∀ r ∈ m, r < 13) :
    Calls Tryz.prog 102 #[.int .i64 (ch : Nat), v] w fun e w' => e = .returned (.bool (lackB ch m)) ∧ Below w.heap.size w w' := by
  have hfo := fieldsOf_any ch w
  have h1 := fun W (hW : Below w.heap.size w W) => have_any m cv v (fieldW.getD 10 []) W (hr.below hW) hm hl
  have h2 := fun W (hW : Below w.heap.size w W) => have_any m cv v (fieldW.getD 11 []) W (hr.below hW) hm hl
  have h3 := fun r (hr13 : r < 13) W (hW : Below w.heap.size w W) => have_any m cv v (rowW r) W (hr.below hW) hm hl
  rw [have_met hl (by omega)] at h1 h2
  have h3' : ∀ r, r < 13 → ∀ W, Below w.heap.size w W → Calls Tryz.prog 83 #[v, .string (bs (rowW r))] W fun e w' => e = .returned (.bool (metOf m (rowF r))) ∧ Below W.heap.size W w' := fun r hr13 W hW => by
    have := h3 r hr13 W hW
    rw [show rowW r = fieldW.getD (rowF r) [] from rfl, have_met hl (rowF_lt r hr13)] at this
    exact this
  have H1 := Lib.hid h1
  have H2 := Lib.hid h2
  have H3 := Lib.hid h3'
  have hL := rows_lt ch
  have hL13 := rows_13 ch
  clear h1 h2 h3 h3' hr hl
  obtain ⟨R, hR⟩ : ∃ R, lackB ch m = R := ⟨_, rfl⟩
  rw [hR]
  unfold lackB at hR
  generalize rowsL ch = L at *
  generalize metOf m 10 = m10 at *
  generalize metOf m 11 = m11 at *
  have HR := Lib.hid hR
  have HLL := Lib.hid hL
  clear hR hL
  obtain ⟨n, hn⟩ : ∃ n, L.length = n := ⟨_, rfl⟩
  have HN := Lib.hid hn
  go_enter Tryz.func102, Tryz.ntmps102
  go_wp2_with fail
  refine hfo.mono ?_
  rintro e w1 ⟨lv, rfl, hown, k1⟩
  obtain ⟨cw, rb, cap, rfl, g1, g2, g3, g4⟩ := hown
  unfold maxLen at g2
  rw [hn] at g1 g3 hL13 ⊢
  have HF := Lib.hid g3
  have HK1 := Lib.hid k1
  clear hfo g3 hn
  go_wp2
  go_loopw [10] (LackRel m L n w1) (fun i _ => n - (intOf i).toNat)
  case atStart => exact ⟨0, Nat.zero_le _, rfl, fun j hj => absurd hj (Nat.not_lt_zero _), Below.refl _ _⟩
  case round =>
    obtain ⟨k, hk, rfl, hno, hb⟩ := hrel
    have HNO := Lib.hid hno
    have hbw := HK1.out.trans (hb.mono HK1.out.size)
    clear hno
    by_cases hlt : k < n
    · have hFk := HF.out.at' k hlt
      have hrlt := HF.out.lt
      obtain ⟨x0, x1, x2, x3, x4⟩ := hFk.below hb hrlt
      have hr13 : L.getD k 0 < 13 := HLL.out _ (getD_mem L k (by rw [HN.out]; exact hlt))
      have hba := hb.alloc hb.size (.cells (fldL cw (L.getD k 0)).toArray 104)
      have hbx := hbw.alloc hbw.size (.cells (fldL cw (L.getD k 0)).toArray 104)
      have hcall := H3.out (L.getD k 0) hr13 _ hbx
      have hb' := hb
      unfold fldL at hba hbx hcall
      have hsr : rb < wr.heap.size := Nat.lt_of_lt_of_le hrlt hb.size
      cases hq : rNeed (L.getD k 0) with
      | false =>
        have HNO2 := Lib.hid (show ∀ j, j < k + 1 → (rNeed (L.getD j 0) && !metOf m (rowF (L.getD j 0))) = false from fun j hj => by
          by_cases c : j = k
          · rw [c, hq]; rfl
          · exact HNO.out j (by omega))
        rw [hq] at x4 hba
        clear hq hFk hr13 hcall hbx
        generalize L.getD k 0 = r at *
        go_wp2
        go_roundw
        case rel => exact ⟨k + 1, hlt, by go_num, HNO2.out, hba⟩
        case measure => simp [intOf]; omega
      | true =>
        obtain ⟨y, hy⟩ : ∃ y, metOf m (rowF (L.getD k 0)) = y := ⟨_, rfl⟩
        rw [hy] at hcall
        rw [hq] at x4 hba hcall hbx
        cases y
        · have hRt : R = true := by
            rw [← HR.out, any_at (p := fun r => rNeed r && !metOf m (rowF r)) (by rw [HN.out]; exact hlt) (by rw [hq, hy]; rfl)]
            rfl
          have HRT := Lib.hid hRt
          clear hy hq hFk hr13 hRt
          generalize L.getD k 0 = r at *
          go_wp2_with fail
          refine hcall.mono ?_
          rintro e w3 ⟨rfl, h3⟩
          go_wp2
          go_ret
          exact ⟨(congrArg (fun z => Ending.returned (.bool z)) HRT.out).symm, hbx.trans (h3.mono hbx.size)⟩
        · have HNO2 := Lib.hid (show ∀ j, j < k + 1 → (rNeed (L.getD j 0) && !metOf m (rowF (L.getD j 0))) = false from fun j hj => by
            by_cases c : j = k
            · rw [c, hy]; simp
            · exact HNO.out j (by omega))
          clear hy hq hFk hr13
          generalize L.getD k 0 = r at *
          go_wp2_with fail
          refine hcall.mono ?_
          rintro e w3 ⟨rfl, h3⟩
          have hb3 := hba.trans (h3.mono hba.size)
          clear hcall h3 hba hbx
          go_wp2
          go_roundw
          case rel => exact ⟨k + 1, hlt, by go_num, HNO2.out, hb3⟩
          case measure => simp [intOf]; omega
    · have hA := any_none (p := fun r => rNeed r && !metOf m (rowF r)) (L := L) fun j hj => HNO.out j (by rw [HN.out] at hj; omega)
      have hRe : R = (m10 != m11) := by rw [← HR.out, hA, Bool.false_or]
      have HRE := Lib.hid hRe
      have hc1 := H1.out wr hbw
      clear hA hRe
      go_wp2_with fail
      refine hc1.mono ?_
      rintro e w3 ⟨rfl, h3⟩
      have hb3 := hbw.trans (h3.mono hbw.size)
      have hc2 := H2.out w3 hb3
      clear hc1 h3
      go_wp2_with fail
      refine hc2.mono ?_
      rintro e w4 ⟨rfl, h4⟩
      have hb4 := hb3.trans (h4.mono hb3.size)
      clear hc2 h4
      go_wp2
      go_ret
      exact ⟨by rw [HRE.out]; cases m10 <;> cases m11 <;> rfl, hb4⟩
end Go.Proofs.YtdimgomigidbkaaGreatDoor
/- Stage 8's code: the reader's parts: a token of a kind, how a channel begins, its name. -/
namespace Go.Proofs.YtdimgomigidbkaaGreatDoor
open Go.RowKit

def tokL (t : Tok) : List Value := [.int .i64 t.kind, .string (bs t.text), .int .i64 t.num, .int .i64 t.place]
/-- What take answers. -/
def takeT (kd : Int) (t : Tok) : Tok := if t.kind = kd then t else tok0
def takeE (kd : Int) (t : Tok) : Value := if t.kind = kd then .nilIface else errV t.place 8
theorem WB.own4 {b c : Nat} {x y : World} (h : WB b x y) (hc : x.heap.size ≤ c) (v0 v1 v2 v3 : Value) : WB b x ((((y.setCell ⟨c, 0, none⟩ v0).setCell ⟨c, 1, none⟩ v1).setCell ⟨c, 2, none⟩ v2).setCell ⟨c, 3, none⟩ v3) :=
  (((h.own hc 0 v0).own hc 1 v1).own hc 2 v2).own hc 3 v3
theorem Rdr.set4 {w : World} {b n : Nat} {l : List Tok} (h : Rdr w b n l) {c : Nat} (hc : b < c) (v0 v1 v2 v3 : Value) : Rdr ((((w.setCell ⟨c, 0, none⟩ v0).setCell ⟨c, 1, none⟩ v1).setCell ⟨c, 2, none⟩ v2).setCell ⟨c, 3, none⟩ v3) b n l :=
  (((h.set hc 0 v0).set hc 1 v1).set hc 2 v2).set hc 3 v3
set_option maxHeartbeats 1000000 in
theorem take_any (l : List Tok) (b n : Nat) (kd : Int) (w : World) (h : Rdr w b n l) :
    Calls Tryz.prog 69 #[.pointer (some ⟨b, 0, none⟩), .int .i64 kd] w fun e w' => e = .returned (.tuple #[tokA (takeT kd (tokE n l)), takeE kd (tokE n l)]) ∧ Rdr w' b n (l.drop 1) ∧ WB b w w' := by
  have hlt := h.lt
  have hz := Has.new w [.int .i64 0, .string ⟨#[]⟩, .int .i64 0, .int .i64 0] 55
  have hB := (WB.refl b w).alloc (.cells #[.int .i64 0, .string ⟨#[]⟩, .int .i64 0, .int .i64 0] 55)
  have hn := rnext_any l b n _ (h.call ((Below.refl w.heap.size w).alloc (Nat.le_refl _) (.cells #[.int .i64 0, .string ⟨#[]⟩, .int .i64 0, .int .i64 0] 55)))
  have hne : w.heap.size ≠ b := by omega
  have hwr := wrongAt_any (tokE n l) 8
  have H0 : tokA tok0 = .agg #[.int .i64 0, .string ⟨#[]⟩, .int .i64 0, .int .i64 0] := rfl
  unfold takeT takeE
  generalize tokE n l = t at *
  clear h
  by_cases hk : t.kind = kd
  · rw [if_pos hk, if_pos hk]
    unfold tokA at hn ⊢
    obtain ⟨kx, tx, nx, px⟩ := t
    dsimp only at hk hn ⊢
    subst hk
    clear hwr H0
    go_enter Tryz.func69, Tryz.ntmps69
    go_wp2_with fail
    refine hn.mono ?_
    rintro e w2 ⟨rfl, k1, k2⟩
    have hz2 := k2.has hne hz
    have hB2 := hB.trans k2
    have hsz := hz2.lt
    have hqq : (w.heap.size == w2.heap.size) = false := beq_false_of_ne (by omega)
    have c0 := hz2.cell 0
    have c1 := hz2.cell 1
    have c2 := hz2.cell 2
    have c3 := hz2.cell 3
    simp only [List.getElem?_cons_zero, List.getElem?_cons_succ] at c0 c1 c2 c3
    have f0 := hz2.frozen 0
    have f1 := hz2.frozen 1
    have f2 := hz2.frozen 2
    have f3 := hz2.frozen 3
    have k3 := (k1.set4 hlt (.int .i64 kx) (.string (bs tx)) (.int .i64 nx) (.int .i64 px)).call ((Below.refl _ _).alloc (Nat.le_refl _) (.cells #[.int .i64 kx, .string (bs tx), .int .i64 nx, .int .i64 px] 55))
    have hB3 := (hB2.own4 (Nat.le_refl w.heap.size) (.int .i64 kx) (.string (bs tx)) (.int .i64 nx) (.int .i64 px)).alloc (.cells #[.int .i64 kx, .string (bs tx), .int .i64 nx, .int .i64 px] 55)
    clear hn hz hB k1 k2 hz2 hB2
    go_wp2
    refine bodyPost_ret (v := .tuple #[.agg #[.int .i64 kx, .string (bs tx), .int .i64 nx, .int .i64 px], .nilIface]) (by simp [results, Tryz.results69, go_sem, c0, c1, c2, c3, hsz]) rfl ⟨rfl, k3, hB3⟩
  · rw [if_neg hk, if_neg hk, H0]
    have q : (t.kind == kd) = false := beq_false_of_ne hk
    unfold tokA at hn hwr
    obtain ⟨kx, tx, nx, px⟩ := t
    dsimp only at hn hwr q ⊢
    clear hk
    generalize errV px 8 = ev at *
    go_enter Tryz.func69, Tryz.ntmps69
    go_wp2_with fail
    refine hn.mono ?_
    rintro e w2 ⟨rfl, k1, k2⟩
    have hz2 := k2.has hne hz
    have hB2 := hB.trans k2
    have k3 := k1.call ((Below.refl w2.heap.size w2).alloc (Nat.le_refl _) (.cells #[.int .i64 kx, .string (bs tx), .int .i64 nx, .int .i64 px] 55))
    have hB3 := hB2.alloc (.cells #[.int .i64 kx, .string (bs tx), .int .i64 nx, .int .i64 px] 55)
    have hz3 := hz2.alloc (.cells #[.int .i64 kx, .string (bs tx), .int .i64 nx, .int .i64 px] 55)
    have hw := hwr (w2.alloc (.cells #[.int .i64 kx, .string (bs tx), .int .i64 nx, .int .i64 px] 55))
    clear hn hz hB k1 k2 hz2 hB2 hwr
    go_wp2_with fail
    refine hw.mono ?_
    rintro e w4 ⟨rfl, k4⟩
    have hz4 := hz3.call k4
    have hB4 := (hB3.call k4).own4 (Nat.le_refl _) (.int .i64 0) (.string ⟨#[]⟩) (.int .i64 0) (.int .i64 0)
    have k5 := (k3.call k4).set4 hlt (.int .i64 0) (.string ⟨#[]⟩) (.int .i64 0) (.int .i64 0)
    have hsz := hz4.lt
    have c0 := hz4.cell 0
    have c1 := hz4.cell 1
    have c2 := hz4.cell 2
    have c3 := hz4.cell 3
    simp only [List.getElem?_cons_zero, List.getElem?_cons_succ] at c0 c1 c2 c3
    have f0 := hz4.frozen 0
    have f1 := hz4.frozen 1
    have f2 := hz4.frozen 2
    have f3 := hz4.frozen 3
    clear hw k4 k3 hB3 hz3 hz4
    go_wp2
    refine bodyPost_ret (v := .tuple #[.agg #[.int .i64 0, .string ⟨#[]⟩, .int .i64 0, .int .i64 0], ev]) (by simp [results, Tryz.results69, go_sem, c0, c1, c2, c3]) rfl ⟨rfl, k5, hB4⟩
/-- How a channel begins, behind so many. -/
def beginE (k : Nat) (t : Tok) : Value := if t.text ≠ chanW then errV t.place 8 else if k = 4 then errV t.place 2 else .nilIface
theorem begin_any (l : List Tok) (b n k : Nat) (w : World) (h : Rdr w b n l) :
    Calls Tryz.prog 66 #[.pointer (some ⟨b, 0, none⟩), .int .i64 (k : Nat)] w fun e w' => e = .returned (beginE k (tokE n l)) ∧ Rdr w' b n (l.drop 1) ∧ WB b w w' := by
  have hn := rnext_any l b n _ h
  have hwr := wrongAt_any (tokE n l)
  unfold beginE
  generalize tokE n l = t at *
  unfold tokA at hn hwr
  obtain ⟨kx, tx, nx, px⟩ := t
  dsimp only at hn hwr ⊢
  have e7 : ((bs tx).toList == ([99, 104, 97, 110, 110, 101, 108] : List UInt8)) = decide (tx = chanW) := by
    rw [bs_toList]
    by_cases hx : tx = chanW
    · rw [decide_eq_true hx, hx]; rfl
    · rw [decide_eq_false hx]; exact beq_false_of_ne hx
  by_cases hx : tx = chanW
  · rw [if_neg (fun e => e hx)]
    rw [decide_eq_true hx] at e7
    clear hx
    by_cases h4 : k = 4
    · rw [if_pos h4]
      subst h4
      generalize hev : errV px 2 = ev at *
      have hw2 := hwr 2
      rw [hev] at hw2
      clear hwr hev
      go_enter Tryz.func66, Tryz.ntmps66
      go_wp2_with fail
      refine hn.mono ?_
      rintro e w2 ⟨rfl, k1, k2⟩
      have k3 := k1.call ((Below.refl w2.heap.size w2).alloc (Nat.le_refl _) (.cells #[.int .i64 kx, .string (bs tx), .int .i64 nx, .int .i64 px] 55))
      have hB3 := k2.alloc (.cells #[.int .i64 kx, .string (bs tx), .int .i64 nx, .int .i64 px] 55)
      have hw := hw2 (w2.alloc (.cells #[.int .i64 kx, .string (bs tx), .int .i64 nx, .int .i64 px] 55))
      clear hn hw2 k1 k2
      go_wp2_with fail
      refine hw.mono ?_
      rintro e w4 ⟨rfl, k4⟩
      go_wp2
      go_ret
      exact ⟨rfl, k3.call k4, hB3.call k4⟩
    · rw [if_neg h4]
      have q4 : ((k : Int) == 4) = false := beq_false_of_ne (by omega)
      clear hwr
      go_enter Tryz.func66, Tryz.ntmps66
      go_wp2_with fail
      refine hn.mono ?_
      rintro e w2 ⟨rfl, k1, k2⟩
      have k3 := k1.call ((Below.refl w2.heap.size w2).alloc (Nat.le_refl _) (.cells #[.int .i64 kx, .string (bs tx), .int .i64 nx, .int .i64 px] 55))
      have hB3 := k2.alloc (.cells #[.int .i64 kx, .string (bs tx), .int .i64 nx, .int .i64 px] 55)
      go_wp2
      go_ret
      exact ⟨rfl, k3, hB3⟩
  · rw [if_pos hx]
    rw [decide_eq_false hx] at e7
    generalize hev : errV px 8 = ev at *
    have hw2 := hwr 8
    rw [hev] at hw2
    clear hwr hev hx
    go_enter Tryz.func66, Tryz.ntmps66
    go_wp2_with fail
    refine hn.mono ?_
    rintro e w2 ⟨rfl, k1, k2⟩
    have k3 := k1.call ((Below.refl w2.heap.size w2).alloc (Nat.le_refl _) (.cells #[.int .i64 kx, .string (bs tx), .int .i64 nx, .int .i64 px] 55))
    have hB3 := k2.alloc (.cells #[.int .i64 kx, .string (bs tx), .int .i64 nx, .int .i64 px] 55)
    have hw := hw2 (w2.alloc (.cells #[.int .i64 kx, .string (bs tx), .int .i64 nx, .int .i64 px] 55))
    clear hn hw2 k1 k2
    go_wp2_with fail
    refine hw.mono ?_
    rintro e w4 ⟨rfl, k4⟩
    go_wp2
    go_ret
    exact ⟨rfl, k3.call k4, hB3.call k4⟩
end Go.Proofs.YtdimgomigidbkaaGreatDoor
/- Stage 8's code: a channel's end. -/
namespace Go.Proofs.YtdimgomigidbkaaGreatDoor
open Go.RowKit

theorem ch0_L : chL ch0 = zeroL := rfl
theorem results_cell_tmp {P : Program} {fn : Func} {tmps : Array Value} {w : World} {a e : Nat} {t : TypeId} {ad : Addr} {v : Value} (h : fn.results = #[.cell a t, .tmp e]) (ha : tmps.getD a undef = .pointer (some ad)) (hl : (loadVar t ad).run P w = .ok v w) :
    (results fn tmps).run P w = .ok (.tuple #[v, tmps.getD e undef]) w := by
  have ha' : tmps[a]?.getD undef = .pointer (some ad) := by simpa using ha
  simp [results, h, ha', hl, asAddr]
def closedV (c : Ch) (m : List Nat) (t : Tok) : Value :=
  if lackB c.ch m = true then .tuple #[chV ch0, errV t.place 10] else if orderB c m = false then .tuple #[chV ch0, errV t.place 3] else .tuple #[chV c, .nilIface]
set_option maxHeartbeats 2000000 in
set_option maxRecDepth 100000 in
theorem closed_any (c : Ch) (m : List Nat) (cv : Nat → Nat) (v : Value) (t : Tok) (w : World) (hr : ReadsF w cv v m) (hm : m.length ≤ 1000) (hl : ∀ r ∈ m, r < 13) (h0 : c.chart = (c.ch : Int)) :
    Calls Tryz.prog 90 #[chV c, v, tokA t] w fun e w' => e = .returned (closedV c m t) ∧ Below w.heap.size w w' := by
  have hwr := wrongAt_any t
  have hla := fun W (hW : Below w.heap.size w W) => lacks_any c.ch m cv v W (hr.below hW) hm hl
  have hio := fun W (hW : Below w.heap.size w W) => inOrder_any c m cv v W (hr.below hW) hm hl
  rw [← h0] at hla
  unfold closedV
  generalize lackB c.ch m = g1 at *
  generalize orderB c m = g2 at *
  unfold tokA at hwr ⊢
  obtain ⟨kx, tx, nx, px⟩ := t
  dsimp only at hwr ⊢
  have hB := (((Below.refl w.heap.size w).alloc (Nat.le_refl _) (.cells (chL c).toArray 37)).alloc (by simp) (.cells #[.int .i64 kx, .string (bs tx), .int .i64 nx, .int .i64 px] 55)).alloc (by simp; omega) (.cells zeroL.toArray 37)
  have hx := ((Has.new w (chL c) 37).alloc (.cells #[.int .i64 kx, .string (bs tx), .int .i64 nx, .int .i64 px] 55)).alloc (.cells zeroL.toArray 37)
  have ht := (Has.new (w.alloc (.cells (chL c).toArray 37)) [.int .i64 kx, .string (bs tx), .int .i64 nx, .int .i64 px] 55).alloc (.cells zeroL.toArray 37)
  have hz := Has.new ((w.alloc (.cells (chL c).toArray 37)).alloc (.cells #[.int .i64 kx, .string (bs tx), .int .i64 nx, .int .i64 px] 55)) zeroL 37
  rw [show (w.alloc (.cells (chL c).toArray 37)).heap.size = w.heap.size + 1 by simp] at ht
  rw [show ((w.alloc (.cells (chL c).toArray 37)).alloc (.cells #[.int .i64 kx, .string (bs tx), .int .i64 nx, .int .i64 px] 55)).heap.size = w.heap.size + 2 by simp] at hz
  have hc1 := hla _ hB
  rw [show chL c = [.string (bs c.name), .int .i64 c.chart, .int .i64 (c.f 0), .int .i64 (c.f 1), .int .i64 (c.f 2), .int .i64 (c.f 3), .int .i64 (c.f 4), .int .i64 (c.f 5), .int .i64 (c.f 6), .int .i64 (c.f 7), .int .i64 (c.f 8), .int .i64 (c.f 9), .int .i64 (c.f 10), .int .i64 (c.f 11)] from rfl, show zeroL = [.string ⟨#[]⟩, .int .i64 0, .int .i64 0, .int .i64 0, .int .i64 0, .int .i64 0, .int .i64 0, .int .i64 0, .int .i64 0, .int .i64 0, .int .i64 0, .int .i64 0, .int .i64 0, .int .i64 0] from rfl] at hB
  clear hla hr hl h0
  unfold chV at hio ⊢
  cases g1 with
  | true =>
    rw [if_pos rfl]
    have hwr8 := hwr 10
    generalize errV px 10 = ev at *
    clear hio hwr
    go_enter Tryz.func90, Tryz.ntmps90
    go_wp2_with fail
    refine hc1.mono ?_
    rintro e w2 ⟨rfl, k2⟩
    have ht2 := ht.call k2
    have hz2 := hz.call k2
    have hB2 := hB.trans (k2.mono hB.size)
    have c0 : w2.cell? ⟨w.heap.size + 1, 0, none⟩ = some (.int .i64 kx) := ht2.cell 0
    have c1 : w2.cell? ⟨w.heap.size + 1, 1, none⟩ = some (.string (bs tx)) := ht2.cell 1
    have c2 : w2.cell? ⟨w.heap.size + 1, 2, none⟩ = some (.int .i64 nx) := ht2.cell 2
    have c3 : w2.cell? ⟨w.heap.size + 1, 3, none⟩ = some (.int .i64 px) := ht2.cell 3
    have hw := hwr8 w2
    clear hc1 k2 hx ht hz hB hwr8
    go_wp2_with fail
    refine hw.mono ?_
    rintro e w4 ⟨rfl, k4⟩
    have hz4 := hz2.call k4
    have hB4 := Below.sets (hB2.trans (k4.mono hB2.size)) (b := w.heap.size + 2) (by omega) 0 zeroL
    have hlt := hz4.lt
    have hH := hz4.sets zeroL rfl
    have hT := hz4.there
    clear hw k4 ht2 hz2 hB2 c0 c1 c2 c3
    go_wp2_with (refine wpList_store_mid rfl 37 _ _ rfl (w.heap.size + 2) 0 _ rfl rfl hT size14 (by simp [Value.oneCell']) ?_)
    exact bodyPost_ret (results_cell_tmp Tryz.results90 rfl (load14 (c := ch0) hH)) rfl ⟨rfl, hB4⟩
  | false =>
    rw [if_neg (show ¬ (false = true) from by decide)]
    cases g2 with
    | false =>
      rw [if_pos rfl]
      have hwr3 := hwr 3
      generalize errV px 3 = ev at *
      clear hwr
      go_enter Tryz.func90, Tryz.ntmps90
      go_wp2_with fail
      refine hc1.mono ?_
      rintro e w2 ⟨rfl, k2⟩
      have hx2 := hx.call k2
      have ht2 := ht.call k2
      have hz2 := hz.call k2
      have hB2 := hB.trans (k2.mono hB.size)
      have hio2 := hio w2 hB2
      have hR := hx2.range
      clear hc1 k2 hx ht hz hB hio
      go_wp2_with (refine wpList_load_mid rfl 37 _ rfl w.heap.size 0 rfl (chL c) _ hR Tryz.underlying37 rfl size14 ?_)
      go_wp2_with fail
      refine hio2.mono ?_
      rintro e w3 ⟨rfl, k3⟩
      have ht3 := ht2.call k3
      have hz3 := hz2.call k3
      have hB3 := hB2.trans (k3.mono hB2.size)
      have c0 : w3.cell? ⟨w.heap.size + 1, 0, none⟩ = some (.int .i64 kx) := ht3.cell 0
      have c1 : w3.cell? ⟨w.heap.size + 1, 1, none⟩ = some (.string (bs tx)) := ht3.cell 1
      have c2 : w3.cell? ⟨w.heap.size + 1, 2, none⟩ = some (.int .i64 nx) := ht3.cell 2
      have c3 : w3.cell? ⟨w.heap.size + 1, 3, none⟩ = some (.int .i64 px) := ht3.cell 3
      have hw := hwr3 w3
      clear hio2 k3 hx2 ht2 hz2 hB2 hwr3 hR
      go_wp2_with fail
      refine hw.mono ?_
      rintro e w4 ⟨rfl, k4⟩
      have hz4 := hz3.call k4
      have hB4 := Below.sets (hB3.trans (k4.mono hB3.size)) (b := w.heap.size + 2) (by omega) 0 zeroL
      have hH := hz4.sets zeroL rfl
      have hT := hz4.there
      clear hw k4 ht3 hz3 hB3 c0 c1 c2 c3
      go_wp2_with (refine wpList_store_mid rfl 37 _ _ rfl (w.heap.size + 2) 0 _ rfl rfl hT size14 (by simp [Value.oneCell']) ?_)
      exact bodyPost_ret (results_cell_tmp Tryz.results90 rfl (load14 (c := ch0) hH)) rfl ⟨rfl, hB4⟩
    | true =>
      rw [if_neg (show ¬ (true = false) from by decide)]
      clear hwr
      go_enter Tryz.func90, Tryz.ntmps90
      go_wp2_with fail
      refine hc1.mono ?_
      rintro e w2 ⟨rfl, k2⟩
      have hx2 := hx.call k2
      have hz2 := hz.call k2
      have hB2 := hB.trans (k2.mono hB.size)
      have hio2 := hio w2 hB2
      have hR := hx2.range
      clear hc1 k2 hx ht hz hB hio
      go_wp2_with (refine wpList_load_mid rfl 37 _ rfl w.heap.size 0 rfl (chL c) _ hR Tryz.underlying37 rfl size14 ?_)
      go_wp2_with fail
      refine hio2.mono ?_
      rintro e w3 ⟨rfl, k3⟩
      have hx3 := hx2.call k3
      have hz3 := hz2.call k3
      have hB4 := Below.sets (hB2.trans (k3.mono hB2.size)) (b := w.heap.size + 2) (by omega) 0 (chL c)
      have hH := hz3.sets (chL c) rfl
      have hT := hz3.there
      have hR3 := hx3.range
      clear hio2 k3 hx2 hz2 hB2 hR
      go_wp2_with (first | (refine wpList_load_mid rfl 37 _ rfl w.heap.size 0 rfl (chL c) _ hR3 Tryz.underlying37 rfl size14 ?_) | refine wpList_store_mid rfl 37 _ _ rfl (w.heap.size + 2) 0 _ rfl rfl hT size14 (by simp [Value.oneCell', chL]) ?_)
      exact bodyPost_ret (results_cell_tmp Tryz.results90 rfl (load14 hH)) rfl ⟨rfl, hB4⟩
end Go.Proofs.YtdimgomigidbkaaGreatDoor
/- Stage 8's code: a field's word, its number, a channel's end. -/
namespace Go.Proofs.YtdimgomigidbkaaGreatDoor
open Go.RowKit

def zfV : Value := .agg #[.string ⟨#[]⟩, .int .i64 0, .int .i64 0, .slice none 0 0, .bool false]
def freshV (cv : Nat → Nat) (L m : List Nat) (t : Tok) : Value := match findW (L.map rowW) t.text with
  | none => .tuple #[zfV, errV t.place 8]
  | some i => if (findW (m.map rowW) t.text).isSome = true then .tuple #[zfV, errV t.place 9] else .tuple #[fldV cv (L.getD i 0), .nilIface]
theorem Below.own5 {w0 w : World} {B b : Nat} (h : Below B w0 w) (hb : B ≤ b) (x0 x1 x2 x3 x4 : Value) : Below B w0 (((((w.setCell ⟨b, 0, none⟩ x0).setCell ⟨b, 1, none⟩ x1).setCell ⟨b, 2, none⟩ x2).setCell ⟨b, 3, none⟩ x3).setCell ⟨b, 4, none⟩ x4) :=
  ((((h.setCell (p := ⟨b, 0, none⟩) hb x0).setCell (p := ⟨b, 1, none⟩) hb x1).setCell (p := ⟨b, 2, none⟩) hb x2).setCell (p := ⟨b, 3, none⟩) hb x3).setCell (p := ⟨b, 4, none⟩) hb x4
set_option maxHeartbeats 2000000 in
set_option maxRecDepth 100000 in
theorem fresh_any (cv : Nat → Nat) (L m : List Nat) (vL vm : Value) (t : Tok) (w : World) (hL : ReadsF w cv vL L) (hm : ReadsF w cv vm m) (nL : L.length ≤ 1000) (nm : m.length ≤ 1000) (rL : ∀ r ∈ L, r < 13) (rm : ∀ r ∈ m, r < 13) :
    Calls Tryz.prog 91 #[vL, vm, tokA t] w fun e w' => e = .returned (freshV cv L m t) ∧ Below w.heap.size w w' := by
  have hwr := wrongAt_any t
  have hfi := fun W (hW : Below w.heap.size w W) => findF_any L cv vL t.text W (hL.below hW) nL rL
  have hha := fun W (hW : Below w.heap.size w W) => have_any m cv vm t.text W (hm.below hW) nm rm
  unfold freshV zfV
  unfold tokA at hwr ⊢
  obtain ⟨kx, tx, nx, px⟩ := t
  dsimp only at hwr hfi hha ⊢
  cases hf : findW (L.map rowW) tx with
  | none =>
    rw [hf, show found none = -1 from rfl] at hfi
    dsimp only
    have hB := ((Below.refl w.heap.size w).alloc (Nat.le_refl _) (.cells #[.int .i64 kx, .string (bs tx), .int .i64 nx, .int .i64 px] 55)).alloc (by simp) (.cells #[.string ⟨#[]⟩, .int .i64 0, .int .i64 0, .slice none 0 0, .bool false] 104)
    have hx := (Has.new w [.int .i64 kx, .string (bs tx), .int .i64 nx, .int .i64 px] 55).alloc (.cells #[.string ⟨#[]⟩, .int .i64 0, .int .i64 0, .slice none 0 0, .bool false] 104)
    have hz := Has.new (w.alloc (.cells #[.int .i64 kx, .string (bs tx), .int .i64 nx, .int .i64 px] 55)) [.string ⟨#[]⟩, .int .i64 0, .int .i64 0, .slice none 0 0, .bool false] 104
    rw [show (w.alloc (.cells #[.int .i64 kx, .string (bs tx), .int .i64 nx, .int .i64 px] 55)).heap.size = w.heap.size + 1 by simp] at hz
    have hc1 := hfi _ hB
    have hwr8 := hwr 8
    generalize errV px 8 = ev at *
    clear hfi hha hwr hf hL hm rL rm
    go_enter Tryz.func91, Tryz.ntmps91
    go_wp2_with fail
    refine hc1.mono ?_
    rintro e w2 ⟨rfl, k2⟩
    have hx2 := hx.call k2
    have hz2 := hz.call k2
    have hB2 := hB.trans (k2.mono hB.size)
    have c0 : w2.cell? ⟨w.heap.size, 0, none⟩ = some (.int .i64 kx) := hx2.cell 0
    have c1 : w2.cell? ⟨w.heap.size, 1, none⟩ = some (.string (bs tx)) := hx2.cell 1
    have c2 : w2.cell? ⟨w.heap.size, 2, none⟩ = some (.int .i64 nx) := hx2.cell 2
    have c3 : w2.cell? ⟨w.heap.size, 3, none⟩ = some (.int .i64 px) := hx2.cell 3
    have hw := hwr8 w2
    clear hc1 k2 hx hz hB hwr8
    go_wp2_with fail
    refine hw.mono ?_
    rintro e w4 ⟨rfl, k4⟩
    have hz4 := hz2.call k4
    have hB4 := Below.own5 (hB2.trans (k4.mono hB2.size)) (b := w.heap.size + 1) (Nat.le_succ _) (.string ⟨#[]⟩) (.int .i64 0) (.int .i64 0) (.slice none 0 0) (.bool false)
    have hlt := hz4.lt
    have z0 : w4.cell? ⟨w.heap.size + 1, 0, none⟩ = some (.string ⟨#[]⟩) := hz4.cell 0
    have z1 : w4.cell? ⟨w.heap.size + 1, 1, none⟩ = some (.int .i64 0) := hz4.cell 1
    have z2 : w4.cell? ⟨w.heap.size + 1, 2, none⟩ = some (.int .i64 0) := hz4.cell 2
    have z3 : w4.cell? ⟨w.heap.size + 1, 3, none⟩ = some (.slice none 0 0) := hz4.cell 3
    have z4 : w4.cell? ⟨w.heap.size + 1, 4, none⟩ = some (.bool false) := hz4.cell 4
    have f0 : w4.frozen? ⟨w.heap.size + 1, 0, none⟩ = false := hz4.frozen 0
    have f1 : w4.frozen? ⟨w.heap.size + 1, 1, none⟩ = false := hz4.frozen 1
    have f2 : w4.frozen? ⟨w.heap.size + 1, 2, none⟩ = false := hz4.frozen 2
    have f3 : w4.frozen? ⟨w.heap.size + 1, 3, none⟩ = false := hz4.frozen 3
    have f4 : w4.frozen? ⟨w.heap.size + 1, 4, none⟩ = false := hz4.frozen 4
    clear hw k4 hx2 hz2 hB2 hz4 c0 c1 c2 c3
    go_wp2
    refine bodyPost_ret (v := .tuple #[.agg #[.string ⟨#[]⟩, .int .i64 0, .int .i64 0, .slice none 0 0, .bool false], ev]) (by simp [results, Tryz.results91, go_sem, z0, z1, z2, z3, z4]) rfl ⟨rfl, hB4⟩
  | some i =>
    obtain ⟨hi1, -⟩ := findW_some hf
    rw [List.length_map] at hi1
    have hri : L.getD i 0 < 13 := rL _ (getD_mem L i hi1)
    rw [hf, show found (some i) = (i : Int) from rfl] at hfi
    dsimp only
    have hB := ((Below.refl w.heap.size w).alloc (Nat.le_refl _) (.cells #[.int .i64 kx, .string (bs tx), .int .i64 nx, .int .i64 px] 55)).alloc (by simp) (.cells #[.string ⟨#[]⟩, .int .i64 0, .int .i64 0, .slice none 0 0, .bool false] 104)
    have hx := (Has.new w [.int .i64 kx, .string (bs tx), .int .i64 nx, .int .i64 px] 55).alloc (.cells #[.string ⟨#[]⟩, .int .i64 0, .int .i64 0, .slice none 0 0, .bool false] 104)
    have hz := Has.new (w.alloc (.cells #[.int .i64 kx, .string (bs tx), .int .i64 nx, .int .i64 px] 55)) [.string ⟨#[]⟩, .int .i64 0, .int .i64 0, .slice none 0 0, .bool false] 104
    rw [show (w.alloc (.cells #[.int .i64 kx, .string (bs tx), .int .i64 nx, .int .i64 px] 55)).heap.size = w.heap.size + 1 by simp] at hz
    have hc1 := hfi _ hB
    cases hs : (findW (m.map rowW) tx).isSome with
    | true =>
      rw [if_pos rfl]
      rw [hs] at hha
      have hwr9 := hwr 9
      generalize errV px 9 = ev at *
      clear hfi hwr hf hL hm rL rm hs hri hi1
      go_enter Tryz.func91, Tryz.ntmps91
      go_wp2_with fail
      refine hc1.mono ?_
      rintro e w2 ⟨rfl, k2⟩
      have hx2 := hx.call k2
      have hz2 := hz.call k2
      have hB2 := hB.trans (k2.mono hB.size)
      have d1 : w2.cell? ⟨w.heap.size, 1, none⟩ = some (.string (bs tx)) := hx2.cell 1
      have hc2 := hha w2 hB2
      clear hc1 k2 hx hz hB hha
      go_wp2_with fail
      refine hc2.mono ?_
      rintro e w3 ⟨rfl, k3⟩
      have hx3 := hx2.call k3
      have hz3 := hz2.call k3
      have hB3 := hB2.trans (k3.mono hB2.size)
      have c0 : w3.cell? ⟨w.heap.size, 0, none⟩ = some (.int .i64 kx) := hx3.cell 0
      have c1 : w3.cell? ⟨w.heap.size, 1, none⟩ = some (.string (bs tx)) := hx3.cell 1
      have c2 : w3.cell? ⟨w.heap.size, 2, none⟩ = some (.int .i64 nx) := hx3.cell 2
      have c3 : w3.cell? ⟨w.heap.size, 3, none⟩ = some (.int .i64 px) := hx3.cell 3
      have hw := hwr9 w3
      clear hc2 k3 hx2 hz2 hB2 hwr9 d1
      go_wp2_with fail
      refine hw.mono ?_
      rintro e w4 ⟨rfl, k4⟩
      have hz4 := hz3.call k4
      have hB4 := Below.own5 (hB3.trans (k4.mono hB3.size)) (b := w.heap.size + 1) (Nat.le_succ _) (.string ⟨#[]⟩) (.int .i64 0) (.int .i64 0) (.slice none 0 0) (.bool false)
      have hlt := hz4.lt
      have z0 : w4.cell? ⟨w.heap.size + 1, 0, none⟩ = some (.string ⟨#[]⟩) := hz4.cell 0
      have z1 : w4.cell? ⟨w.heap.size + 1, 1, none⟩ = some (.int .i64 0) := hz4.cell 1
      have z2 : w4.cell? ⟨w.heap.size + 1, 2, none⟩ = some (.int .i64 0) := hz4.cell 2
      have z3 : w4.cell? ⟨w.heap.size + 1, 3, none⟩ = some (.slice none 0 0) := hz4.cell 3
      have z4 : w4.cell? ⟨w.heap.size + 1, 4, none⟩ = some (.bool false) := hz4.cell 4
      have f0 : w4.frozen? ⟨w.heap.size + 1, 0, none⟩ = false := hz4.frozen 0
      have f1 : w4.frozen? ⟨w.heap.size + 1, 1, none⟩ = false := hz4.frozen 1
      have f2 : w4.frozen? ⟨w.heap.size + 1, 2, none⟩ = false := hz4.frozen 2
      have f3 : w4.frozen? ⟨w.heap.size + 1, 3, none⟩ = false := hz4.frozen 3
      have f4 : w4.frozen? ⟨w.heap.size + 1, 4, none⟩ = false := hz4.frozen 4
      clear hw k4 hx3 hz3 hB3 hz4 c0 c1 c2 c3
      go_wp2
      refine bodyPost_ret (v := .tuple #[.agg #[.string ⟨#[]⟩, .int .i64 0, .int .i64 0, .slice none 0 0, .bool false], ev]) (by simp [results, Tryz.results91, go_sem, z0, z1, z2, z3, z4]) rfl ⟨rfl, hB4⟩
    | false =>
      rw [if_neg (by decide)]
      rw [hs] at hha
      obtain ⟨ao, cap, rfl, hlc, hcm, hcr⟩ := hL
      unfold maxLen at hcm
      obtain ⟨bb, off, rfl, hbb, hfl⟩ := hcr i hi1
      have HFL := Lib.hid hfl
      obtain ⟨n, hn⟩ : ∃ n, L.length = n := ⟨_, rfl⟩
      rw [hn] at hi1 hlc nL hc1 ⊢
      clear hfi hwr hf hm rL rm hs hcr hn hfl
      generalize L.getD i 0 = r at *
      go_enter Tryz.func91, Tryz.ntmps91
      go_wp2_with fail
      refine hc1.mono ?_
      rintro e w2 ⟨rfl, k2⟩
      have hx2 := hx.call k2
      have hz2 := hz.call k2
      have hB2 := hB.trans (k2.mono hB.size)
      have d1 : w2.cell? ⟨w.heap.size, 1, none⟩ = some (.string (bs tx)) := hx2.cell 1
      have hc2 := hha w2 hB2
      clear hc1 k2 hx hz hB hha
      go_wp2_with fail
      refine hc2.mono ?_
      rintro e w3 ⟨rfl, k3⟩
      have hz3 := hz2.call k3
      have hB3 := hB2.trans (k3.mono hB2.size)
      obtain ⟨x0, x1, x2, x3, x4⟩ := HFL.out.below hB3 hbb
      have hB4 := Below.own5 hB3 (b := w.heap.size + 1) (Nat.le_succ _) (.string (bs (rowW r))) (.int .i64 (rLo r)) (.int .i64 (rHi r)) (.slice (some ⟨cv r, 0, none⟩) (nCh r) (nCh r)) (.bool (rNeed r))
      have hlt := hz3.lt
      have z0 : w3.cell? ⟨w.heap.size + 1, 0, none⟩ = some (.string ⟨#[]⟩) := hz3.cell 0
      have z1 : w3.cell? ⟨w.heap.size + 1, 1, none⟩ = some (.int .i64 0) := hz3.cell 1
      have z2 : w3.cell? ⟨w.heap.size + 1, 2, none⟩ = some (.int .i64 0) := hz3.cell 2
      have z3 : w3.cell? ⟨w.heap.size + 1, 3, none⟩ = some (.slice none 0 0) := hz3.cell 3
      have z4 : w3.cell? ⟨w.heap.size + 1, 4, none⟩ = some (.bool false) := hz3.cell 4
      have f0 : w3.frozen? ⟨w.heap.size + 1, 0, none⟩ = false := hz3.frozen 0
      have f1 : w3.frozen? ⟨w.heap.size + 1, 1, none⟩ = false := hz3.frozen 1
      have f2 : w3.frozen? ⟨w.heap.size + 1, 2, none⟩ = false := hz3.frozen 2
      have f3 : w3.frozen? ⟨w.heap.size + 1, 3, none⟩ = false := hz3.frozen 3
      have f4 : w3.frozen? ⟨w.heap.size + 1, 4, none⟩ = false := hz3.frozen 4
      clear hc2 k3 hx2 hz2 hB2 hz3 d1 HFL
      go_wp2
      refine bodyPost_ret (v := .tuple #[.agg #[.string (bs (rowW r)), .int .i64 (rLo r), .int .i64 (rHi r), .slice (some ⟨cv r, 0, none⟩) (nCh r) (nCh r), .bool (rNeed r)], .nilIface]) (by simp [results, Tryz.results91, go_sem, z0, z1, z2, z3, z4]) rfl ⟨rfl, hB4⟩
end Go.Proofs.YtdimgomigidbkaaGreatDoor
/- Stage 8's code: a field's number, read. -/
namespace Go.Proofs.YtdimgomigidbkaaGreatDoor
open Go.RowKit

/-- What number answers, and how many tokens it takes. -/
def numV (r : Nat) (t u : Tok) : Value :=
  if t.kind ≠ 2 then .tuple #[.int .i64 0, errV t.place 8] else if rowFit r t.num = false then .tuple #[.int .i64 0, errV t.place 3] else if u.kind ≠ 5 then .tuple #[.int .i64 0, errV u.place 8] else .tuple #[.int .i64 t.num, .nilIface]
def numN (r : Nat) (t : Tok) : Nat := if t.kind ≠ 2 then 1 else if rowFit r t.num = false then 1 else 2
set_option maxHeartbeats 2000000 in
set_option maxRecDepth 100000 in
theorem fnum_any (l : List Tok) (b n : Nat) (cv : Nat → Nat) (r : Nat) (w : World) (h : Rdr w b n l) :
    Calls Tryz.prog 92 #[.pointer (some ⟨b, 0, none⟩), fldV cv r] w fun e w' => e = .returned (numV r (tokE n l) (tokE n (l.drop 1))) ∧ Rdr w' b n (l.drop (numN r (tokE n l))) ∧ WB b w w' := by
  have hlt := h.lt
  have hba := (Below.refl w.heap.size w).alloc (Nat.le_refl _) (.cells (fldL cv r).toArray 104)
  have hB := (WB.refl b w).alloc (.cells (fldL cv r).toArray 104)
  have hz := Has.new w (fldL cv r) 104
  have hn1 := take_any l b n 2 _ (h.call hba)
  have hn2 := fun W => take_any (l.drop 1) b n 5 W
  have hwr := wrongAt_any (tokE n l) 3
  have hfi := fits_any cv r (tokE n l).num
  have hne : w.heap.size ≠ b := by omega
  unfold numV numN
  rw [show (l.drop 1).drop 1 = l.drop 2 from by rw [List.drop_drop]] at hn2
  generalize tokE n (l.drop 1) = u at *
  generalize tokE n l = t at *
  unfold fldV at hfi ⊢
  unfold fldL at hba hB hz hn1
  generalize hrf : rowFit r t.num = g at *
  generalize rowW r = rw at *
  generalize rLo r = lo at *
  generalize rHi r = hi at *
  generalize cv r = cr at *
  generalize nCh r = nc at *
  generalize rNeed r = nd at *
  unfold takeT takeE tokA at hn1
  unfold tokA at hwr
  clear h hba hrf
  by_cases hk : t.kind = 2
  · rw [if_neg (show ¬ t.kind ≠ 2 from fun e => e hk), if_neg (show ¬ t.kind ≠ 2 from fun e => e hk)]
    rw [if_pos hk, if_pos hk] at hn1
    obtain ⟨kx, tx, nx, px⟩ := t
    dsimp only at hn1 hwr hfi hk ⊢
    clear hk
    cases g with
    | false =>
      rw [if_pos rfl, if_pos rfl]
      clear hn2
      generalize errV px 3 = ev at *
      go_enter Tryz.func92, Tryz.ntmps92
      go_wp2_with fail
      refine hn1.mono ?_
      rintro e w2 ⟨rfl, k1, k2⟩
      have hz2 := k2.has hne hz
      have c0 : w2.cell? ⟨w.heap.size, 0, none⟩ = some (.string (bs rw)) := hz2.cell 0
      have c1 : w2.cell? ⟨w.heap.size, 1, none⟩ = some (.int .i64 lo) := hz2.cell 1
      have c2 : w2.cell? ⟨w.heap.size, 2, none⟩ = some (.int .i64 hi) := hz2.cell 2
      have c3 : w2.cell? ⟨w.heap.size, 3, none⟩ = some (.slice (some ⟨cr, 0, none⟩) nc nc) := hz2.cell 3
      have c4 : w2.cell? ⟨w.heap.size, 4, none⟩ = some (.bool nd) := hz2.cell 4
      have k3 := k1.call ((Below.refl w2.heap.size w2).alloc (Nat.le_refl _) (.cells #[.int .i64 kx, .string (bs tx), .int .i64 nx, .int .i64 px] 55))
      have hB3 := (hB.trans k2).alloc (.cells #[.int .i64 kx, .string (bs tx), .int .i64 nx, .int .i64 px] 55)
      have hx3 := Has.new w2 [.int .i64 kx, .string (bs tx), .int .i64 nx, .int .i64 px] 55
      have hlt2 := hz2.lt
      have hc2 := hfi (w2.alloc (.cells #[.int .i64 kx, .string (bs tx), .int .i64 nx, .int .i64 px] 55))
      clear hn1 hB hz k1 k2 hz2 hfi
      go_wp2_with fail
      refine hc2.mono ?_
      rintro e w3 ⟨rfl, k4⟩
      have k5 := k3.call k4
      have hB5 := hB3.call k4
      have hx5 := hx3.call k4
      have d0 : w3.cell? ⟨w2.heap.size, 0, none⟩ = some (.int .i64 kx) := hx5.cell 0
      have d1 : w3.cell? ⟨w2.heap.size, 1, none⟩ = some (.string (bs tx)) := hx5.cell 1
      have d2 : w3.cell? ⟨w2.heap.size, 2, none⟩ = some (.int .i64 nx) := hx5.cell 2
      have d3 : w3.cell? ⟨w2.heap.size, 3, none⟩ = some (.int .i64 px) := hx5.cell 3
      have hw := hwr w3
      clear hc2 k4 k3 hB3 hx3 hx5 hwr c0 c1 c2 c3 c4
      go_wp2_with fail
      refine hw.mono ?_
      rintro e w4 ⟨rfl, k6⟩
      go_wp2
      go_ret2
      exact ⟨rfl, k5.call k6, hB5.call k6⟩
    | true =>
      rw [if_neg (show ¬ (true = false) from by decide), if_neg (show ¬ (true = false) from by decide)]
      unfold takeT takeE tokA at hn2
      by_cases hk5 : u.kind = 5
      · rw [if_neg (show ¬ u.kind ≠ 5 from fun e => e hk5)]
        simp only [if_pos hk5] at hn2
        clear hk5 hwr
        go_enter Tryz.func92, Tryz.ntmps92
        go_wp2_with fail
        refine hn1.mono ?_
        rintro e w2 ⟨rfl, k1, k2⟩
        have hz2 := k2.has hne hz
        have c0 : w2.cell? ⟨w.heap.size, 0, none⟩ = some (.string (bs rw)) := hz2.cell 0
        have c1 : w2.cell? ⟨w.heap.size, 1, none⟩ = some (.int .i64 lo) := hz2.cell 1
        have c2 : w2.cell? ⟨w.heap.size, 2, none⟩ = some (.int .i64 hi) := hz2.cell 2
        have c3 : w2.cell? ⟨w.heap.size, 3, none⟩ = some (.slice (some ⟨cr, 0, none⟩) nc nc) := hz2.cell 3
        have c4 : w2.cell? ⟨w.heap.size, 4, none⟩ = some (.bool nd) := hz2.cell 4
        have k3 := k1.call ((Below.refl w2.heap.size w2).alloc (Nat.le_refl _) (.cells #[.int .i64 kx, .string (bs tx), .int .i64 nx, .int .i64 px] 55))
        have hB3 := (hB.trans k2).alloc (.cells #[.int .i64 kx, .string (bs tx), .int .i64 nx, .int .i64 px] 55)
        have hx3 := Has.new w2 [.int .i64 kx, .string (bs tx), .int .i64 nx, .int .i64 px] 55
        have hlt2 := hz2.lt
        have hc2 := hfi (w2.alloc (.cells #[.int .i64 kx, .string (bs tx), .int .i64 nx, .int .i64 px] 55))
        clear hn1 hB hz k1 k2 hz2 hfi
        go_wp2_with fail
        refine hc2.mono ?_
        rintro e w3 ⟨rfl, k4⟩
        have k5 := k3.call k4
        have hB5 := hB3.call k4
        have hx5 := hx3.call k4
        have hn3 := hn2 w3 k5
        have hne2 : w2.heap.size ≠ b := by omega
        clear hc2 k4 k3 hB3 hx3 hn2 c0 c1 c2 c3 c4
        go_wp2_with fail
        refine hn3.mono ?_
        rintro e w4 ⟨rfl, k6, k7⟩
        have hx7 := k7.has hne2 hx5
        have d0 : w4.cell? ⟨w2.heap.size, 0, none⟩ = some (.int .i64 kx) := hx7.cell 0
        have d1 : w4.cell? ⟨w2.heap.size, 1, none⟩ = some (.string (bs tx)) := hx7.cell 1
        have d2 : w4.cell? ⟨w2.heap.size, 2, none⟩ = some (.int .i64 nx) := hx7.cell 2
        have d3 : w4.cell? ⟨w2.heap.size, 3, none⟩ = some (.int .i64 px) := hx7.cell 3
        have k8 := k6.call ((Below.refl w4.heap.size w4).alloc (Nat.le_refl _) (.cells #[.int .i64 u.kind, .string (bs u.text), .int .i64 u.num, .int .i64 u.place] 55))
        have hB8 := (hB5.trans k7).alloc (.cells #[.int .i64 u.kind, .string (bs u.text), .int .i64 u.num, .int .i64 u.place] 55)
        have hlt7 := hx7.lt
        clear hn3 k6 k7 hx7 hx5 hB5 k5
        go_wp2
        go_ret2
        exact ⟨rfl, k8, hB8⟩
      · rw [if_pos hk5]
        simp only [if_neg hk5] at hn2
        unfold errV at hn2 ⊢
        clear hk5 hwr
        go_enter Tryz.func92, Tryz.ntmps92
        go_wp2_with fail
        refine hn1.mono ?_
        rintro e w2 ⟨rfl, k1, k2⟩
        have hz2 := k2.has hne hz
        have c0 : w2.cell? ⟨w.heap.size, 0, none⟩ = some (.string (bs rw)) := hz2.cell 0
        have c1 : w2.cell? ⟨w.heap.size, 1, none⟩ = some (.int .i64 lo) := hz2.cell 1
        have c2 : w2.cell? ⟨w.heap.size, 2, none⟩ = some (.int .i64 hi) := hz2.cell 2
        have c3 : w2.cell? ⟨w.heap.size, 3, none⟩ = some (.slice (some ⟨cr, 0, none⟩) nc nc) := hz2.cell 3
        have c4 : w2.cell? ⟨w.heap.size, 4, none⟩ = some (.bool nd) := hz2.cell 4
        have k3 := k1.call ((Below.refl w2.heap.size w2).alloc (Nat.le_refl _) (.cells #[.int .i64 kx, .string (bs tx), .int .i64 nx, .int .i64 px] 55))
        have hB3 := (hB.trans k2).alloc (.cells #[.int .i64 kx, .string (bs tx), .int .i64 nx, .int .i64 px] 55)
        have hlt2 := hz2.lt
        have hc2 := hfi (w2.alloc (.cells #[.int .i64 kx, .string (bs tx), .int .i64 nx, .int .i64 px] 55))
        clear hn1 hB hz k1 k2 hz2 hfi
        go_wp2_with fail
        refine hc2.mono ?_
        rintro e w3 ⟨rfl, k4⟩
        have k5 := k3.call k4
        have hB5 := hB3.call k4
        have hn3 := hn2 w3 k5
        clear hc2 k4 k3 hB3 hn2 c0 c1 c2 c3 c4
        go_wp2_with fail
        refine hn3.mono ?_
        rintro e w4 ⟨rfl, k6, k7⟩
        have k8 := k6.call ((Below.refl w4.heap.size w4).alloc (Nat.le_refl _) (.cells #[.int .i64 tok0.kind, .string (bs tok0.text), .int .i64 tok0.num, .int .i64 tok0.place] 55))
        have hB8 := (hB5.trans k7).alloc (.cells #[.int .i64 tok0.kind, .string (bs tok0.text), .int .i64 tok0.num, .int .i64 tok0.place] 55)
        clear hn3 k6 k7 hB5 k5
        go_wp2
        go_ret2
        exact ⟨rfl, k8, hB8⟩
  · rw [if_pos hk, if_pos hk]
    rw [if_neg hk, if_neg hk] at hn1
    unfold errV at hn1 ⊢
    clear hn2 hwr hfi
    go_enter Tryz.func92, Tryz.ntmps92
    go_wp2_with fail
    refine hn1.mono ?_
    rintro e w2 ⟨rfl, k1, k2⟩
    have k3 := k1.call ((Below.refl w2.heap.size w2).alloc (Nat.le_refl _) (.cells #[.int .i64 tok0.kind, .string (bs tok0.text), .int .i64 tok0.num, .int .i64 tok0.place] 55))
    have hB3 := (hB.trans k2).alloc (.cells #[.int .i64 tok0.kind, .string (bs tok0.text), .int .i64 tok0.num, .int .i64 tok0.place] 55)
    clear hn1 k1 k2 hB
    go_wp2
    go_ret2
    exact ⟨rfl, k3, hB3⟩
end Go.Proofs.YtdimgomigidbkaaGreatDoor
/- Stage 8's code: rows of fields and of channels that the call makes. -/
namespace Go.Proofs.YtdimgomigidbkaaGreatDoor
open Go.RowKit

/-! ### Rows of cells by a fixed size -/
theorem flat_len {α : Type} (f : α → List Value) (s : Nat) (hf : ∀ x, (f x).length = s) : ∀ l : List α, (l.flatMap f).length = l.length * s
  | [] => by simp
  | x :: r => by rw [List.flatMap_cons, List.length_append, hf, flat_len f s hf r, List.length_cons, Nat.succ_mul]; omega
theorem flat_at {α : Type} (f : α → List Value) (s : Nat) (hf : ∀ x, (f x).length = s) (d : α) : ∀ (l : List α) (i j : Nat), i < l.length → j < s → (l.flatMap f)[i * s + j]? = (f (l.getD i d))[j]?
  | [], _, _, h, _ => absurd h (Nat.not_lt_zero _)
  | x :: r, 0, j, _, hj => by
    rw [List.flatMap_cons, Nat.zero_mul, Nat.zero_add, List.getElem?_append_left (by rw [hf]; exact hj)]
    rfl
  | x :: r, i + 1, j, h, hj => by
    rw [List.flatMap_cons, List.getElem?_append_right (by rw [hf, Nat.succ_mul]; omega), hf, show (i + 1) * s + j - s = i * s + j by rw [Nat.succ_mul]; omega, flat_at f s hf d r i j (by rw [List.length_cons] at h; omega) hj]
    rfl
theorem flat_snoc {α : Type} (f : α → List Value) (l : List α) (x : α) : (l ++ [x]).flatMap f = l.flatMap f ++ f x := by
  rw [List.flatMap_append]
  simp
theorem own_cells {B : Nat} {T : TypeId} {s : Nat} {v : Value} {n : Nat} {cs : List Value} {w : World} (h0 : w.ownsRow B T s v n cs) (hn : n ≠ 0) : ∃ g cap, v = .slice (some ⟨g, 0, none⟩) n cap ∧ n ≤ cap ∧ cap ≤ maxLen ∧ g < w.heap.size ∧ B ≤ g ∧ ∀ i, i < cs.length → w.cell? ⟨g, i, none⟩ = cs[i]? := by
  rcases h0.2 with ⟨h1, h2⟩ | ⟨g, cap, cur, hv, hB, hg, hl, hc, hs, ht⟩
  · exact absurd h2 hn
  · refine ⟨g, cap, hv, hl, hc, (Array.getElem?_eq_some_iff.1 hg).1, hB, fun i hi => ?_⟩
    have := h0.cells (g := g) (by rw [hv]; rfl) i (cs[i]) (List.getElem?_eq_getElem hi)
    rw [List.getElem?_eq_getElem hi, ← this]
    congr 1
    unfold Addr.add
    split <;> simp_all
/-! ### Fields -/
def FRow (B : Nat) (cv : Nat → Nat) (v : Value) (l : List Nat) (w : World) : Prop := w.ownsRow B 104 5 v l.length (l.flatMap (fldL cv))
theorem FRow.below {B : Nat} {cv : Nat → Nat} {v : Value} {l : List Nat} {w w' : World} (h : FRow B cv v l w) (hb : Below w.heap.size w w') : FRow B cv v l w' :=
  h.kept (Below.grows hb) (by cases v.ownBlock <;> simp)
theorem FRow.nil (B : Nat) (cv : Nat → Nat) (w : World) : FRow B cv (.slice none 0 0) [] w := World.ownsRow_nil w B _ 5
theorem fldL_len (cv : Nat → Nat) (r : Nat) : (fldL cv r).length = 5 := rfl
theorem FRow.snoc {B : Nat} {cv : Nat → Nat} {v : Value} {l : List Nat} {r : Nat} {w : World} (h : w.ownsRow B 104 5 v (l.length + 1) (l.flatMap (fldL cv) ++ fldL cv r)) : FRow B cv v (l ++ [r]) w := by
  unfold FRow
  rw [flat_snoc, List.length_append]
  exact h
theorem fldL_one (cv : Nat → Nat) (r : Nat) : ∀ u ∈ fldL cv r, u.oneCell' = true := by
  intro u hu
  simp only [fldL, List.mem_cons, List.not_mem_nil, or_false] at hu
  rcases hu with rfl | rfl | rfl | rfl | rfl <;> rfl
theorem fld_at (w : World) (cv : Nat → Nat) (r : Nat) {b : Nat} (hb : w.heap.size = b) (j : Nat) (u : Value) (h : (fldL cv r)[j]? = some u) :
    (w.alloc (.cells #[.string (bs (rowW r)), .int .i64 (rLo r), .int .i64 (rHi r), .slice (some ⟨cv r, 0, none⟩) (nCh r) (nCh r), .bool (rNeed r)] 104)).cell? ((⟨b, 0, none⟩ : Addr).add j) = some u := by
  subst hb
  have e : (⟨w.heap.size, 0, none⟩ : Addr).add j = ⟨w.heap.size, j, none⟩ := by unfold Addr.add; split <;> simp_all
  rw [e]
  exact ((Has.new w (fldL cv r) 104).cell j).trans h
theorem infoFld : ((Tryz.prog).info? 104).map (fun i => (i.zero, i.size, i.bytes)) = some (some (.agg #[.string ⟨#[]⟩, .int .i64 0, .int .i64 0, .slice none 0 0, .bool false]), 5, 64) := by kernel_rfl
theorem FRow.reads {B : Nat} {cv : Nat → Nat} {v : Value} {l : List Nat} {w : World} (h : FRow B cv v l w) : ReadsF w cv v l := by
  by_cases hn : l.length = 0
  · obtain rfl := List.eq_nil_of_length_eq_zero hn
    rcases (show w.ownsRow _ _ _ _ _ _ from h).2 with ⟨h1, h2⟩ | ⟨g, cap, cur, hv, hB, hg, hl, hc, hs, ht⟩
    · rw [h1]; exact ReadsF.nil cv w
    · exact ⟨_, cap, hv, hl, hc, fun i hi => absurd hi (Nat.not_lt_zero _)⟩
  · obtain ⟨g, cap, h1, h2, h3, h4, -, h5⟩ := own_cells h hn
    refine ⟨_, cap, h1, h2, h3, fun i hi => ⟨g, 0, rfl, h4, ?_⟩⟩
    have hc' : ∀ j, j < 5 → w.cell? ⟨g, 0 + i * 5 + j, none⟩ = (fldL cv (l.getD i 0))[j]? := by
      intro j hj
      rw [← flat_at (fldL cv) 5 (fldL_len cv) 0 l i j hi hj, Nat.zero_add]
      exact h5 _ (by rw [flat_len _ 5 (fldL_len cv)]; omega)
    exact ⟨hc' 0 (by omega), hc' 1 (by omega), hc' 2 (by omega), hc' 3 (by omega), hc' 4 (by omega)⟩
/-! ### Channels -/
def CRow (B : Nat) (v : Value) (l : List Ch) (w : World) : Prop := w.ownsRow B 37 14 v l.length (l.flatMap chL)
theorem CRow.below {B : Nat} {v : Value} {l : List Ch} {w w' : World} (h : CRow B v l w) (hb : Below w.heap.size w w') : CRow B v l w' :=
  h.kept (Below.grows hb) (by cases v.ownBlock <;> simp)
theorem CRow.nil (B : Nat) (w : World) : CRow B (.slice none 0 0) [] w := World.ownsRow_nil w B _ 14
theorem CRow.snoc {B : Nat} {v : Value} {l : List Ch} {c : Ch} {w : World} (h : w.ownsRow B 37 14 v (l.length + 1) (l.flatMap chL ++ chL c)) : CRow B v (l ++ [c]) w := by
  unfold CRow
  rw [flat_snoc, List.length_append]
  exact h
theorem chL_ones (c : Ch) : ∀ u ∈ chL c, u.oneCell' = true := by
  intro u hu
  simp only [chL, List.mem_cons, List.not_mem_nil, or_false] at hu
  rcases hu with rfl | rfl | rfl | rfl | rfl | rfl | rfl | rfl | rfl | rfl | rfl | rfl | rfl | rfl <;> rfl
theorem ch_at (w : World) (c : Ch) {b : Nat} (hb : w.heap.size = b) (T : TypeId) (j : Nat) (u : Value) (h : (chL c)[j]? = some u) : (w.alloc (.cells (chL c).toArray T)).cell? ((⟨b, 0, none⟩ : Addr).add j) = some u := by
  subst hb
  have e : (⟨w.heap.size, 0, none⟩ : Addr).add j = ⟨w.heap.size, j, none⟩ := by unfold Addr.add; split <;> simp_all
  rw [e]
  exact ((Has.new w (chL c) T).cell j).trans h
theorem infoChan : ((Tryz.prog).info? 37).map (fun i => (i.zero, i.size, i.bytes)) = some (some (.agg zeroL.toArray), 14, 120) := by kernel_rfl
theorem CRow.reads {B : Nat} {v : Value} {l : List Ch} {w : World} (h : CRow B v l w) : ReadsC w v l := by
  by_cases hn : l.length = 0
  · obtain rfl := List.eq_nil_of_length_eq_zero hn
    rcases (show w.ownsRow _ _ _ _ _ _ from h).2 with ⟨h1, h2⟩ | ⟨g, cap, cur, hv, hB, hg, hl, hc, hs, ht⟩
    · rw [h1]; exact ReadsC.nil w
    · exact ⟨_, cap, hv, hl, hc, fun i hi => absurd hi (Nat.not_lt_zero _)⟩
  · obtain ⟨g, cap, h1, h2, h3, h4, -, h5⟩ := own_cells h hn
    refine ⟨_, cap, h1, h2, h3, fun i hi => ⟨g, 0, rfl, h4, ?_⟩⟩
    have hc' : ∀ j, j < 14 → w.cell? ⟨g, 0 + i * 14 + j, none⟩ = (chL (nthC l i))[j]? := by
      intro j hj
      have := flat_at chL 14 (fun _ => rfl) ch0 l i j hi hj
      rw [show l.getD i ch0 = nthC l i from rfl] at this
      rw [← this, Nat.zero_add]
      exact h5 _ (by rw [flat_len chL 14 (fun _ => rfl)]; omega)
    exact ⟨hc' 0 (by omega), hc' 1 (by omega), hc' 2 (by omega), hc' 3 (by omega), hc' 4 (by omega), hc' 5 (by omega), hc' 6 (by omega), hc' 7 (by omega), hc' 8 (by omega), hc' 9 (by omega), hc' 10 (by omega), hc' 11 (by omega), hc' 12 (by omega), hc' 13 (by omega)⟩
end Go.Proofs.YtdimgomigidbkaaGreatDoor
/- Stage 8's code: the map of a channel's fields, as it reads: which fields are in it, and where each leads. -/
namespace Go.Proofs.YtdimgomigidbkaaGreatDoor
open Go.RowKit
open Go.Maps (Keyed)

def kf (k : Nat) : Lit := .string (fieldW.getD k [])
def vf (k : Nat) : DataW Unit := .lit (.int .i64 ((k : Int) + 2))
theorem kf_inj {j k : Nat} (hj : j < 12) (hk : k < 12) (h : kf j = kf k) : j = k := by
  unfold kf at h
  injection h with h
  exact fieldW_inj hj hk h
theorem kf_key (k : Nat) : WideAt.IsKeyLit (kf k) := trivial
/-- The map holds the fields of p, each with the cell that it leads to. -/
structure PM (D : DataW Unit) (p : Nat → Bool) : Prop where
  map : Maps.IsMap D
  at' : ∀ k, k < 12 → p k = true → ∀ z, D.atKey (kf k) z = vf k
  out : ∀ kl, Maps.has D kl = true → ∃ k, k < 12 ∧ p k = true ∧ kl = kf k
theorem PM.has {D : DataW Unit} {p : Nat → Bool} (h : PM D p) {k : Nat} (hk : k < 12) (hp : p k = true) : Maps.has D (kf k) = true := Maps.has_true_of_atKey (h.at' k hk hp)
theorem PM.nil : PM (.map []) (fun _ => false) := ⟨Maps.isMap_empty, (fun _ _ h => by cases h), (fun kl h => by cases h)⟩
theorem PM.put {D : DataW Unit} {p : Nat → Bool} (h : PM D p) {k : Nat} (hk : k < 12) : PM (D.put (kf k) (vf k)) (put p k) := by
  refine ⟨h.map.put _ _, fun j hj hp z => ?_, fun kl hl => ?_⟩
  · by_cases e : j = k
    · rw [e, Maps.atKey_put_same h.map (kf_key k)]
    · rw [Maps.atKey_put_other (fun e2 => e (kf_inj hj hk e2))]
      unfold Go.Proofs.YtdimgomigidbkaaGreatDoor.put at hp
      rw [decide_eq_false e, Bool.false_or] at hp
      exact h.at' j hj hp z
  · by_cases e : kl = kf k
    · exact ⟨k, hk, by unfold Go.Proofs.YtdimgomigidbkaaGreatDoor.put; simp, e⟩
    · rw [Maps.has_put_other e] at hl
      obtain ⟨j, h1, h2, h3⟩ := h.out kl hl
      exact ⟨j, h1, by unfold Go.Proofs.YtdimgomigidbkaaGreatDoor.put; simp [h2], h3⟩
def cut (p : Nat → Bool) (k : Nat) : Nat → Bool := fun j => p j && !decide (j = k)
theorem PM.del {D : DataW Unit} {p : Nat → Bool} (h : PM D p) {k : Nat} (hk : k < 12) : PM (D.del (kf k)) (cut p k) := by
  refine ⟨h.map.del _, fun j hj hp z => ?_, fun kl hl => ?_⟩
  · unfold cut at hp
    rw [Bool.and_eq_true, Bool.not_eq_true', decide_eq_false_iff_not] at hp
    rw [Maps.atKey_del_other (fun e2 => hp.2 (kf_inj hj hk e2))]
    exact h.at' j hj hp.1 z
  · by_cases e : kl = kf k
    · rw [e, Maps.has_del_same] at hl
      cases hl
    · rw [Maps.has_del_other e] at hl
      obtain ⟨j, h1, h2, h3⟩ := h.out kl hl
      refine ⟨j, h1, ?_, h3⟩
      unfold cut
      rw [h2, Bool.true_and, Bool.not_eq_true', decide_eq_false_iff_not]
      rintro rfl
      exact e h3
/-- How a pointer into block c reads. -/
def ptrE (c : Nat) : Value → Option (DataW Unit × List MemPlace)
  | .pointer (some a) => if a.block = c ∧ a.spot = none then some (.lit (.int .i64 (a.off : Nat)), []) else none
  | .pointer none => some (.nil, [])
  | _ => none
theorem ptrE_at (c o : Nat) : ptrE c (.pointer (some ⟨c, o, none⟩)) = some (.lit (.int .i64 (o : Nat)), []) := by
  show (if c = c ∧ (none : Option Nat) = none then some (DataW.lit (.int .i64 (o : Nat)), []) else none) = _
  rw [if_pos ⟨rfl, rfl⟩]
theorem ptrE_vf (c k : Nat) : ptrE c (.pointer (some ⟨c, k + 2, none⟩)) = some (vf k, []) := by
  rw [ptrE_at]
  rfl
theorem ptrE_inv {c : Nat} {v : Value} {k : Nat} {ps : List MemPlace} (h : ptrE c v = some (vf k, ps)) : v = .pointer (some ⟨c, k + 2, none⟩) := by
  unfold ptrE vf at h
  split at h
  · rename_i a
    split at h
    · rename_i hc
      simp only [Option.some.injEq, Prod.mk.injEq, DataW.lit.injEq, Lit.int.injEq, true_and] at h
      obtain ⟨b, o, i⟩ := a
      obtain ⟨rfl, rfl⟩ := hc
      have : o = k + 2 := by have := h.1; simp only at this; omega
      rw [this]
    · cases h
  · cases h
  · cases h
theorem lawS : Keyed Tryz.prog 9 := Maps.string_keyed Tryz.underlying9
theorem key_bs (l : List UInt8) (h : l.length ≤ 1000) : keyOf Tryz.prog 9 (.string (bs l)) = some (.string l) := by
  have := WideMaps.keyOf_string_mk Tryz.underlying9 (s := bs l) (by rw [bs_size]; unfold maxLen; omega)
  rw [bs_list] at this
  exact this
theorem key_row (r : Nat) (h : r < 13) : keyOf Tryz.prog 9 (.string (bs (rowW r))) = some (kf (rowF r)) := by
  have hl : ∀ r, r < 13 → (rowW r).length ≤ 1000 := by decide
  exact key_bs _ (hl r h)
theorem key_inv {key : Value} {kl : Lit} (h : keyOf Tryz.prog 9 key = some kl) : ∃ x : ByteArray, key = .string x := by
  have e := Tryz.underlying9
  cases key <;> simp [keyOf, e, mapKey] at h
  exact ⟨_, rfl⟩
theorem ptrE_shape {c : Nat} {v : Value} {y : DataW Unit × List MemPlace} (h : ptrE c v = some y) : ∃ x : Option Addr, v = .pointer x := by
  unfold ptrE at h
  split at h
  · exact ⟨_, rfl⟩
  · exact ⟨_, rfl⟩
  · cases h
theorem zeroP (w : World) : (zeroValue 105).run Tryz.prog w = .ok (.pointer none) w := by kernel_rfl
end Go.Proofs.YtdimgomigidbkaaGreatDoor
/- Stage 8's code: the map of a channel's fields is made: its literal's entries come in any order. -/
namespace Go.Proofs.YtdimgomigidbkaaGreatDoor
open Go.RowKit
open Go.Maps (Keyed)

/-! ### A region that fills a map in whatever order: operations 4, 8 .. 48 lay the entries, 49 and 50 come last -/
def insI (j : Nat) : Bool := j % 4 == 0 && decide (4 ≤ j) && decide (j ≤ 48)
def Lf (p : Nat → Bool) (i : Nat) : Bool := if insI i then p (i / 4 - 1) else decide (i < 49)
def Lp (p : Nat → Bool) : Array Bool := ((List.range 51).map (Lf p)).toArray
theorem Lp_get (p : Nat → Bool) (j : Nat) (d : Bool) (h : j < 51) : (Lp p).getD j d = Lf p j := by
  unfold Lp
  simp [h]
theorem Lp_far (p : Nat → Bool) (j : Nat) (d : Bool) (h : ¬ j < 51) : (Lp p).getD j d = d := by
  unfold Lp
  simp [h]
theorem ins_at (k : Nat) (h : k < 12) : insI (4 * k + 4) = true ∧ (4 * k + 4) / 4 - 1 = k := by
  unfold insI
  refine ⟨?_, by omega⟩
  rw [Bool.and_eq_true, Bool.and_eq_true, beq_iff_eq, decide_eq_true_iff, decide_eq_true_iff]
  omega
theorem ins_of {j : Nat} (h : insI j = true) : ∃ k, k < 12 ∧ j = 4 * k + 4 := by
  unfold insI at h
  rw [Bool.and_eq_true, Bool.and_eq_true, beq_iff_eq, decide_eq_true_iff, decide_eq_true_iff] at h
  exact ⟨j / 4 - 1, by omega, by omega⟩
theorem Lf_ins (p : Nat → Bool) (k : Nat) (h : k < 12) : Lf p (4 * k + 4) = p k := by
  unfold Lf
  rw [if_pos (ins_at k h).1, (ins_at k h).2]
theorem Lp_put (p : Nat → Bool) (k : Nat) (h : k < 12) : (Lp p).setIfInBounds (4 * k + 4) true = Lp (put p k) := by
  unfold Lp
  rw [List.setIfInBounds_toArray]
  congr 1
  refine List.ext_getElem (by simp) fun i h1 h2 => ?_
  rw [List.getElem_set]
  simp only [List.getElem_map, List.getElem_range]
  by_cases e : 4 * k + 4 = i
  · rw [if_pos e, ← e, Lf_ins _ _ h]
    unfold Go.Proofs.YtdimgomigidbkaaGreatDoor.put
    simp
  · rw [if_neg e]
    unfold Lf
    by_cases hi : insI i = true
    · obtain ⟨j, hj, rfl⟩ := ins_of hi
      rw [if_pos hi, if_pos hi, (ins_at j hj).2]
      unfold Go.Proofs.YtdimgomigidbkaaGreatDoor.put
      rw [decide_eq_false (fun q => e (by rw [q])), Bool.false_or]
    · rw [if_neg hi, if_neg hi]
theorem Lp_all {p : Nat → Bool} (h : ∀ k, k < 12 → p k = true) : Lp p = Lp (fun _ => true) := by
  unfold Lp
  congr 1
  refine List.map_congr_left fun i _ => ?_
  unfold Lf
  by_cases hi : insI i = true
  · obtain ⟨j, hj, rfl⟩ := ins_of hi
    rw [if_pos hi, if_pos hi, (ins_at j hj).2, h j hj]
  · rw [if_neg hi, if_neg hi]
/-- Laying an entry waits for what is taken first alone; the last two wait for all entries. -/
def chk (md : Region.Mode) (ops : Array Oper) : Bool :=
  (List.range 12).all (fun k => match ops[4 * k + 4]? with | some o => o.after.all (fun e => !Region.binds md e || (decide (e.on < 49) && !insI e.on)) | none => false) &&
  (match ops[49]? with | some o => (List.range 12).all fun k => o.after.any fun e => Region.binds md e && e.on == 4 * k + 4 | none => false) &&
  (match ops[50]? with | some o => o.after.any fun e => Region.binds md e && e.on == 49 | none => false)
theorem chk_ready {md : Region.Mode} {ops : Array Oper} (h : chk md ops = true) (p : Nat → Bool) {k0 : Nat} (hk0 : k0 < 12) (hp : p k0 = false) :
    Region.ready md ops (Lp p) ≠ [] ∧ ∀ j ∈ Region.ready md ops (Lp p), ∃ k, k < 12 ∧ j = 4 * k + 4 ∧ p k = false := by
  unfold chk at h
  rw [Bool.and_eq_true, Bool.and_eq_true, List.all_eq_true] at h
  obtain ⟨⟨h1, h2⟩, h3⟩ := h
  refine ⟨fun e => ?_, fun j hj => ?_⟩
  · have : 4 * k0 + 4 ∈ Region.ready md ops (Lp p) := by
      rw [mem_ready, Lp_get _ _ _ (by omega), Lf_ins _ _ hk0]
      refine ⟨hp, ?_⟩
      have hk := h1 k0 (List.mem_range.2 hk0)
      cases ho : ops[4 * k0 + 4]? with
      | none => rw [ho] at hk; cases hk
      | some o =>
        rw [ho] at hk
        refine ⟨o, rfl, fun e he hb => ?_⟩
        have := Array.all_eq_true_iff_forall_mem.1 hk e he
        rw [hb, Bool.not_true, Bool.false_or, Bool.and_eq_true, decide_eq_true_iff, Bool.not_eq_true'] at this
        rw [Lp_get _ _ _ (by omega)]
        unfold Lf
        rw [if_neg (by rw [this.2]; decide)]
        exact decide_eq_true this.1
    rw [e] at this
    cases this
  · obtain ⟨hf, o, ho, ha⟩ := mem_ready.1 hj
    have hj51 : j < 51 := by
      rcases Nat.lt_or_ge j 51 with q | q
      · exact q
      · rw [Lp_far _ _ _ (by omega)] at hf
        cases hf
    rw [Lp_get _ _ _ hj51] at hf
    by_cases hi : insI j = true
    · obtain ⟨k, hk, rfl⟩ := ins_of hi
      rw [Lf_ins _ _ hk] at hf
      exact ⟨k, hk, rfl, hf⟩
    · unfold Lf at hf
      rw [if_neg hi, decide_eq_false_iff_not] at hf
      exfalso
      have hj2 : j = 49 ∨ j = 50 := by omega
      rcases hj2 with rfl | rfl
      · rw [ho] at h2
        have := List.all_eq_true.1 h2 k0 (List.mem_range.2 hk0)
        obtain ⟨i, hi1, hi2⟩ := Array.any_eq_true.1 this
        rw [Bool.and_eq_true, beq_iff_eq] at hi2
        have q := ha _ (Array.getElem_mem hi1) hi2.1
        rw [hi2.2, Lp_get _ _ _ (by omega), Lf_ins _ _ hk0, hp] at q
        cases q
      · rw [ho] at h3
        obtain ⟨i, hi1, hi2⟩ := Array.any_eq_true.1 h3
        rw [Bool.and_eq_true, beq_iff_eq] at hi2
        have q := ha _ (Array.getElem_mem hi1) hi2.1
        rw [hi2.2, Lp_get _ _ _ (by omega)] at q
        have : Lf p 49 = false := by unfold Lf; rw [if_neg (by decide)]; decide
        rw [this] at q
        cases q
def cnt (p : Nat → Bool) : Nat := ((List.range 12).filter fun k => !p k).length
theorem cnt_put : ∀ (l : List Nat), l.Nodup → ∀ (p : Nat → Bool) (k : Nat), p k = false → (l.filter fun j => !put p k j).length + (if k ∈ l then 1 else 0) = (l.filter fun j => !p j).length
  | [], _, _, _, _ => rfl
  | x :: r, h, p, k, hp => by
    obtain ⟨h1, h2⟩ := List.nodup_cons.1 h
    have ih := cnt_put r h2 p k hp
    by_cases e : x = k
    · subst e
      rw [if_neg h1] at ih
      have e1 : put p x x = true := by unfold Go.Proofs.YtdimgomigidbkaaGreatDoor.put; simp
      simp [e1, hp]
      omega
    · have e1 : put p k x = p x := by unfold Go.Proofs.YtdimgomigidbkaaGreatDoor.put; rw [decide_eq_false e, Bool.false_or]
      have e2 : (k ∈ x :: r) ↔ k ∈ r := by rw [List.mem_cons]; exact ⟨fun q => q.resolve_left (fun q => e q.symm), Or.inr⟩
      simp only [List.filter_cons, e1, e2]
      cases p x <;> simp <;> omega
theorem cnt_zero {p : Nat → Bool} (h : cnt p = 0) : ∀ k, k < 12 → p k = true := fun k hk => by
  unfold cnt at h
  have := List.filter_eq_nil_iff.1 (List.eq_nil_of_length_eq_zero h) k (List.mem_range.2 hk)
  simpa using this
theorem cnt_pos {p : Nat → Bool} {r : Nat} (h : cnt p = r + 1) : ∃ k, k < 12 ∧ p k = false := by
  unfold cnt at h
  obtain ⟨k, hk⟩ := List.exists_mem_of_length_pos (l := (List.range 12).filter fun k => !p k) (by omega)
  rw [List.mem_filter, List.mem_range] at hk
  exact ⟨k, hk.1, by simpa using hk.2⟩
theorem ins_run {P : Program} {ρ : Operand → Value} {o : Oper} {t : TypeId} {b : Nat} {key val : Value} {w w' : World} (m x v : Operand) (hop : o.op = Op.insert t m x v) (hm : ρ m = .map (some b)) (hx : ρ x = key) (hv : ρ v = val)
    (hrun : (Instr.mapUpdate t (.map (some b)) key val).run P w = .ok () w') : (execOp ρ o).run P w = .ok .skip w' := by
  simp [execOp, hop, hm, hx, hv, hrun, Result.andThen]
/-- The map in block mb, laid above w0: it holds the fields of p. -/
def Fill (c mb : Nat) (w0 : World) (p : Nat → Bool) (W : World) : Prop := ∃ D, W.ownsMap Tryz.prog 9 (ptrE c) mb (12 - cnt p) D ∧ PM D p ∧ Below w0.heap.size w0 W
theorem Fill.step {c mb : Nat} {w0 : World} {p : Nat → Bool} {W : World} (h : Fill c mb w0 p W) (hmb : w0.heap.size ≤ mb) {k : Nat} (hk : k < 12) (hp : p k = false) :
    ∃ W', (Instr.mapUpdate 97 (.map (some mb)) (.string (bs (fieldW.getD k []))) (.pointer (some ⟨c, k + 2, none⟩))).run Tryz.prog W = .ok () W' ∧ Fill c mb w0 (put p k) W' := by
  obtain ⟨D, h1, h2, h3⟩ := h
  have hl : ∀ k, k < 12 → (fieldW.getD k []).length ≤ 1000 := by decide
  obtain ⟨W', r1, r2, r3⟩ := h1.update lawS Tryz.underlying97 (by unfold maxLen; omega) (key_bs _ (hl k hk)) (ptrE_vf c k)
  have e := cnt_put (List.range 12) List.nodup_range p k hp
  rw [if_pos (List.mem_range.2 hk)] at e
  have e' : cnt (put p k) + 1 = cnt p := e
  have hc : cnt p ≤ 12 := Nat.le_trans (List.length_filter_le _ _) (Nat.le_of_eq List.length_range)
  refine ⟨W', r1, D.put (kf k) (vf k), ?_, h2.put hk, h3.grown r3 h3.size (fun j hj => by injection hj with hj; omega)⟩
  rw [show 12 - cnt (put p k) = 12 - cnt p + 1 by omega]
  exact r2
theorem regFill {ops : Array Oper} {Q : Exit → Act → World → Prop} {md : Region.Mode} {a : Act} {c mb : Nat} {w0 : World} (hmb : w0.heap.size ≤ mb) (hc : chk md ops = true)
    (hs : ∀ k, k < 12 → ∃ o m x v, ops[4 * k + 4]? = some o ∧ o.dst = none ∧ o.guard = none ∧ o.op = Op.insert 97 m x v ∧ a.eval m = .map (some mb) ∧ a.eval x = .string (bs (fieldW.getD k [])) ∧ a.eval v = .pointer (some ⟨c, k + 2, none⟩))
    (hend : ∀ W, Fill c mb w0 (fun _ => true) W → wpAnyH Tryz.prog md ops Q (fun _ => True) 2 (Lp fun _ => true) a W) :
    ∀ (r : Nat) (p : Nat → Bool) (W : World), cnt p = r → Fill c mb w0 p W → wpAnyH Tryz.prog md ops Q (fun _ => True) (r + 2) (Lp p) a W
  | 0, p, W, hr, hF => by
    have hp := cnt_zero hr
    rw [Lp_all hp, Nat.zero_add]
    refine hend W ?_
    obtain ⟨D, h1, h2, h3⟩ := hF
    have e : cnt (fun _ => true) = cnt p := by rw [hr]; rfl
    exact ⟨D, by rw [e]; exact h1, ⟨h2.map, fun k hk _ => h2.at' k hk (hp k hk), fun kl hl => by obtain ⟨k, a1, _, a3⟩ := h2.out kl hl; exact ⟨k, a1, rfl, a3⟩⟩, h3⟩
  | r + 1, p, W, hr, hF => by
    obtain ⟨k0, hk0, hp0⟩ := cnt_pos hr
    obtain ⟨q1, q2⟩ := chk_ready hc p hk0 hp0
    rw [show r + 1 + 2 = (r + 2) + 1 by omega]
    refine wpAnyH_all rfl q1 fun j hj => ?_
    obtain ⟨k, hk, rfl, hp⟩ := q2 j hj
    obtain ⟨o, m, x, v, h1, h2, h3, h4, h5, h6, h7⟩ := hs k hk
    obtain ⟨W', r1, r2⟩ := hF.step hmb hk hp
    have e := cnt_put (List.range 12) List.nodup_range p k hp
    rw [if_pos (List.mem_range.2 hk)] at e
    have e' : cnt (put p k) + 1 = cnt p := e
    refine wpOp_step h1 fun K hK => ?_
    rw [if_pos (by unfold Region.wanted; rw [h3])]
    unfold Oper.wp
    rw [ins_run m x v h4 h5 h6 h7 r1, Oper.upon_skip, h2]
    refine hK _ _ ⟨trivial, ?_⟩
    rw [Lp_put p k hk]
    exact regFill hmb hc hs hend r (put p k) W' (by omega) r2
end Go.Proofs.YtdimgomigidbkaaGreatDoor
