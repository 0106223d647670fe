/- token's pieces: letters, a word, a number, a mark. -/
import Derived.Test.YticgmbhdcegoeaaDoorTokB
namespace Go.Proofs.YticgmbhdcegoeaaDoor
open Go.RowKit

theorem run_slice_hi {P : Program} (w : World) (t : TypeId) (l : List UInt8) (k : IntKind) (b : Nat) (h : P.underlying t = some .string) (h2 : b ≤ l.length) :
    (Instr.slice t (.string (bs l)) none (some (.int k (b : Int))) none).run P w = .ok (.string (bs (l.take b))) w := by
  rw [run_slice_string_h (P := P) (s := bs l) w t h k b (by omega) (by rw [bs_size]; omega), Int.toNat_natCast, bs_extract]
  rfl
theorem run_slice_lo {P : Program} (w : World) (t : TypeId) (l : List UInt8) (k : IntKind) (a : Nat) (h : P.underlying t = some .string) (h2 : a ≤ l.length) :
    (Instr.slice t (.string (bs l)) (some (.int k (a : Int))) none none).run P w = .ok (.string (bs (l.drop a))) w := by
  rw [run_slice_string_l (P := P) (s := bs l) w t h k a (by omega) (by rw [bs_size]; omega), Int.toNat_natCast, bs_extract, bs_size, List.take_of_length_le (by rw [List.length_drop]; exact Nat.le_refl _)]

/-! ### Letters -/
theorem rune_at (l : List UInt8) (pos : Nat) (h : pos < l.length) : ∃ r d, Utf8.decode (bs l) pos = (r, d) ∧ 1 ≤ d ∧ (isLetter (l.getD pos 0) = true → 97 ≤ r ∧ r ≤ 122 ∧ d = 1) ∧ (isLetter (l.getD pos 0) = false → r < 97 ∨ 122 < r) := by
  have hs : pos < (bs l).size := by rw [bs_size]; exact h
  have e := bs_get l pos hs
  have hb : bt l pos = (l.getD pos 0).toNat := rfl
  by_cases c : ((bs l)[pos]'hs).toNat < 128
  · refine ⟨_, _, decode_ascii (bs l) pos hs c, Nat.le_refl _, fun hl => ?_, fun hl => ?_⟩
    · have := letter_nat hl
      rw [e, hb]
      exact ⟨this.1, this.2, rfl⟩
    · rw [e, hb]
      have := of_decide_eq_false hl
      omega
  · have hd := decode_high (bs l) pos hs (by omega)
    refine ⟨(Utf8.decode (bs l) pos).1, (Utf8.decode (bs l) pos).2, rfl, hd.2, ?_, ?_⟩
    · intro hl
      have k := letter_nat hl
      exact absurd (show ((bs l)[pos]'hs).toNat < 128 by rw [e, hb]; exact Nat.lt_of_le_of_lt k.2 (by decide)) c
    · intro _
      exact Or.inr (Nat.lt_of_lt_of_le (by decide) hd.1)
set_option maxHeartbeats 1000000 in
theorem letters_any (l : List UInt8) (w : World) :
    Calls Tryd.prog 28 #[.string (bs l)] w fun e w' => e = .returned (.int .i64 (spanLen isLetter l : Nat)) ∧ Below w.heap.size w w' := by
  have hsl := spanLen_le isLetter l
  have hk0 : (w.iter (bs l) 0).heap[w.heap.size]? = some (.stringIter (bs l) 0) := World.iter_heap w (bs l) 0
  have hb0 : Below w.heap.size w (w.iter (bs l) 0) := (Below.refl _ w).alloc (Nat.le_refl _) _
  have hs := bs_size l
  go_enter Tryd.func28, Tryd.ntmps28
  go_wp2
  go_loopw [3, 4] (fun _ _ wr => ∃ pos : Nat, pos ≤ spanLen isLetter l ∧ wr.heap[w.heap.size]? = some (.stringIter (bs l) pos) ∧ Below w.heap.size w wr) (fun _ _ wr => l.length - wr.iterPos w.heap.size)
  case atStart => exact ⟨0, Nat.zero_le _, hk0, hb0⟩
  case round =>
    obtain ⟨pos, hp, hk, hb⟩ := hrel
    clear hk0 hb0
    by_cases hl : pos < l.length
    · obtain ⟨r, d, hd, h1, h2, h3⟩ := rune_at l pos hl
      have hnext : ∀ ty, (Instr.next (.pointer (some ⟨w.heap.size, 0, none⟩)) true ty).run Tryd.prog wr = .ok (.tuple #[.bool true, .int .i64 (pos : Nat), .int .i32 (r : Nat)]) (wr.iterAt w.heap.size (bs l) (pos + d)) := fun ty => by
        rw [Lib.run_next_any_at wr w.heap.size (bs l) pos ty hk (by rw [hs]; exact hl), hd]
      have hk1 := Lib.iterAt_heap wr w.heap.size (bs l) pos (pos + d) hk
      have hb1 : Below w.heap.size w (wr.iterAt w.heap.size (bs l) (pos + d)) := Lib.below_iterAt hb (Nat.le_refl _) (bs l) (pos + d)
      have hmu : wr.iterPos w.heap.size = pos := by simp [World.iterPos, hk]
      generalize wr.iterAt w.heap.size (bs l) (pos + d) = w1 at hnext hk1 hb1
      have HM := Lib.hid hmu
      clear hmu hd
      cases hlet : isLetter (l.getD pos 0)
      · have HS := Lib.hid (spanLen_stop isLetter l pos hp (Or.inr hlet))
        have h3' := h3 hlet
        clear h2 h3 hlet
        rcases h3' with h3' | h3'
        all_goals
          go_wp2
          go_ret
          exact ⟨ret_nat HS.out, hb1⟩
      · obtain ⟨h4, h5, h6⟩ := h2 hlet
        have HS := Lib.hid (spanLen_step isLetter l pos hp hl hlet)
        clear h2 h3 hlet
        subst h6
        go_wp2
        go_roundw
        case rel => exact ⟨pos + 1, HS.out, hk1, hb1⟩
        case measure =>
          have : w1.iterPos w.heap.size = pos + 1 := by simp [World.iterPos, hk1]
          rw [HM.out, this]
          omega
    · have hnext : ∀ ty, (Instr.next (.pointer (some ⟨w.heap.size, 0, none⟩)) true ty).run Tryd.prog wr = .ok (.tuple #[.bool false]) wr := fun ty => Lib.run_next_end_at wr w.heap.size (bs l) pos ty hk (by rw [hs]; exact hl)
      have HS := Lib.hid (show l.length = spanLen isLetter l by omega)
      go_wp2
      go_ret
      exact ⟨ret_nat HS.out, hb⟩

/-! ### A piece, told -/
def tokV (k : Int) (t : List UInt8) (v p : Int) : Value := .agg #[.int .i64 k, .string (bs t), .int .i64 v, .int .i64 p]
def pieceOut : Except Int (Int × List UInt8 × Int × Nat) → Value
  | .error e => .tuple #[tokV 0 [] 0 0, .int .i64 0, .int .i64 e]
  | .ok (k, t, v, n) => .tuple #[tokV k t v 0, .int .i64 (n : Nat), .int .i64 0]
theorem Has.four {w : World} {b : Nat} {x0 x1 x2 x3 : Value} {T : TypeId} (h : Has w b [x0, x1, x2, x3] T) :
    (w.cell? ⟨b, 0, none⟩ = some x0 ∧ w.cell? ⟨b, 1, none⟩ = some x1 ∧ w.cell? ⟨b, 2, none⟩ = some x2 ∧ w.cell? ⟨b, 3, none⟩ = some x3) ∧
    (w.frozen? ⟨b, 0, none⟩ = false ∧ w.frozen? ⟨b, 1, none⟩ = false ∧ w.frozen? ⟨b, 2, none⟩ = false ∧ w.frozen? ⟨b, 3, none⟩ = false) :=
  ⟨⟨h.cell 0, h.cell 1, h.cell 2, h.cell 3⟩, ⟨h.frozen 0, h.frozen 1, h.frozen 2, h.frozen 3⟩⟩
/-- A token's box, fresh, behind a call. -/
def zeroTok : List Value := [.int .i64 0, .string ⟨#[]⟩, .int .i64 0, .int .i64 0]
theorem box_kept {w w2 : World} (h2 : Below (w.alloc (.cells #[.int .i64 0, .string ⟨#[]⟩, .int .i64 0, .int .i64 0] 30)).heap.size (w.alloc (.cells #[.int .i64 0, .string ⟨#[]⟩, .int .i64 0, .int .i64 0] 30)) w2) :
    Has w2 w.heap.size zeroTok 30 ∧ Below w.heap.size w w2 ∧ w.heap.size < w2.heap.size :=
  ⟨(Has.new w zeroTok 30).call h2, ((Below.refl _ w).alloc (Nat.le_refl _) _).trans (h2.mono (by simp)), by have := h2.size; simp at this; omega⟩
theorem below_four {B b : Nat} {w w2 : World} (h : Below B w w2) (hB : B ≤ b) (x0 x1 x2 x3 : Value) : Below B w ((((w2.setCell ⟨b, 0, none⟩ x0).setCell ⟨b, 1, none⟩ x1).setCell ⟨b, 2, none⟩ x2).setCell ⟨b, 3, none⟩ x3) :=
  (((h.setCell hB _).setCell hB _).setCell hB _).setCell hB _
theorem word_any (l : List UInt8) (w : World) :
    Calls Tryd.prog 34 #[.string (bs l)] w fun e w' => e = .returned (pieceOut (wordN l)) ∧ Below w.heap.size w w' := by
  have hsl := spanLen_le isLetter l
  have hsli : ∀ w, (Instr.slice 9 (.string (bs l)) none (some (.int .i64 ((spanLen isLetter l : Nat) : Int))) none).run Tryd.prog w = .ok (.string (bs (l.take (spanLen isLetter l)))) w := fun w => run_slice_hi w _ l .i64 _ Tryd.underlying9 hsl
  have hlet := letters_any l
  have e : wordN l = if 12 < spanLen isLetter l then .error 2 else .ok (1, l.take (spanLen isLetter l), 0, spanLen isLetter l) := rfl
  rw [e]
  clear e
  generalize l.take (spanLen isLetter l) = t at hsli
  generalize spanLen isLetter l = n at hlet hsli hsl
  by_cases h : 12 < n
  · rw [if_pos h]
    go_enter Tryd.func34, Tryd.ntmps34
    go_wp2_with fail
    refine (hlet _).mono ?_
    rintro e w2 ⟨rfl, h2⟩
    obtain ⟨hH, hb, hlt⟩ := box_kept h2
    clear h2
    obtain ⟨⟨c0, c1, c2, c3⟩, ⟨f0, f1, f2, f3⟩⟩ := hH.four
    go_wp2
    refine bodyPost_ret (v := .tuple #[tokV 0 [] 0 0, .int .i64 0, .int .i64 2]) (by simp [results, Tryd.results34, go_sem, tokV, bs, *]) rfl ⟨rfl, below_four hb (Nat.le_refl _) _ _ _ _⟩
  · rw [if_neg h]
    have h' : n ≤ 12 := by omega
    clear h
    go_enter Tryd.func34, Tryd.ntmps34
    go_wp2_with fail
    refine (hlet _).mono ?_
    rintro e w2 ⟨rfl, h2⟩
    obtain ⟨hH, hb, hlt⟩ := box_kept h2
    clear h2
    obtain ⟨⟨c0, c1, c2, c3⟩, ⟨f0, f1, f2, f3⟩⟩ := hH.four
    go_wp2
    refine bodyPost_ret (v := .tuple #[tokV 1 t 0 0, .int .i64 (n : Nat), .int .i64 0]) (by simp [results, Tryd.results34, go_sem, tokV, *]) rfl ⟨rfl, below_four hb (Nat.le_refl _) _ _ _ _⟩
end Go.Proofs.YticgmbhdcegoeaaDoor
