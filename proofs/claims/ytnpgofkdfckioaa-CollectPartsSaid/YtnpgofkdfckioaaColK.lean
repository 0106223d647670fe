/- What Add and Feed gather by. -/
import Derived.Test.YtnpgofkdfckioaaColJ
namespace Go.Proofs.Ytnpgofkdfckioaa
open Go.RowKit

/-- The last row that was full. -/
def LastRow (c B : Nat) (w : World) (L : List (List Int)) : Prop :=
  (L = [] ∧ Has w c [.slice none 0 0] 22) ∨ ∃ M row y, L = M ++ [row] ∧ B + 3 ≤ y ∧ Has w c [.slice (some ⟨y, 0, none⟩) row.length row.length] 22 ∧ Has w y (intsV row) 3
theorem LastRow.below {c B : Nat} {w w' : World} {L : List (List Int)} (h : LastRow c B w L) (hb : Below w.heap.size w w') : LastRow c B w' L := by
  rcases h with ⟨h1, h2⟩ | ⟨M, row, y, h1, h2, h3, h4⟩
  · exact .inl ⟨h1, h2.call hb⟩
  · exact .inr ⟨M, row, y, h1, h2, h3.call hb, h4.call hb⟩
theorem LastRow.own {c B b : Nat} {w w' : World} {L : List (List Int)} (hc : c < B) (h1 : B ≤ b) (h2 : b < B + 3) (h : LastRow c B w L) (ho : Only b w w') : LastRow c B w' L := by
  rcases h with ⟨h3, h4⟩ | ⟨M, row, y, h3, h4, h5, h6⟩
  · exact .inl ⟨h3, ho.has (by omega) h4⟩
  · exact .inr ⟨M, row, y, h3, h4, ho.has (by omega) h5, ho.has (by omega) h6⟩
theorem LastRow.old {c B : Nat} {w : World} {L : List (List Int)} (h : LastRow c B w L) : ∃ u, Has w c [u] 22 := by
  rcases h with ⟨_, h4⟩ | ⟨_, _, _, _, _, h5, _⟩
  · exact ⟨_, h4⟩
  · exact ⟨_, h5⟩
theorem add1_any (c y n : Nat) (u : Value) (w : World) (h : Has w c [u] 22) : Calls Try.prog 24 #[.slice (some ⟨y, 0, none⟩) n n, .pointer (some ⟨c, 0, none⟩)] w fun e w' => (∃ v, e = .returned v) ∧ w' = w.setCell ⟨c, 0, none⟩ (.slice (some ⟨y, 0, none⟩) n n) := by
  have c0 : w.cell? ⟨c, 0, none⟩ = some u := h.cell 0
  have f0 : w.frozen? ⟨c, 0, none⟩ = false := h.frozen 0
  clear h
  go_enter Try.func24, Try.ntmps24
  go_wp2
  exact bodyPost_end (v := .tuple #[]) (by simp [results, Try.results24]) rfl ⟨⟨_, rfl⟩, rfl⟩
theorem gathAdd (c B : Nat) (hc : c < B) : Gath 24 c B (LastRow c B) where
  eg := fun args w => by kernel_rfl
  below := fun _ _ _ h hb => h.below hb
  own := fun _ _ _ _ h1 h2 h ho => h.own hc h1 h2 ho
  run := fun w L row y hB hy _ _ hh hj => by
    obtain ⟨u, hu⟩ := hj.old
    refine (add1_any c y row.length u w hu).mono ?_
    rintro e w' ⟨he, rfl⟩
    exact ⟨he, .inr ⟨L, row, y, rfl, hy, hu.set 0 _, hh.other (p := ⟨c, 0, none⟩) (by dsimp only; omega) _⟩, ⟨rfl, rfl, rfl, by simp, fun k _ hk => Below.heap_setCell _ _ _ _ hk⟩⟩

/-- All rows that were full. -/
def AllRows (c B : Nat) (w : World) (L : List (List Int)) : Prop :=
  ∃ (rv : Value) (vs : List Value), Has w c [rv] 42 ∧ w.ownsRow (B + 3) 22 1 rv L.length vs ∧ ∀ (i : Nat) (row : List Int), L[i]? = some row → ∃ y, vs[i]? = some (Value.slice (some ⟨y, 0, none⟩) row.length row.length) ∧ B + 3 ≤ y ∧ Has w y (intsV row) 3
theorem own_not {w : World} {B n y : Nat} {v : Value} {vs cs : List Value} (h : w.ownsRow B 22 1 v n vs) (hy : Has w y cs 3) : v.ownBlock ≠ some y := by
  intro e
  rcases h.2 with ⟨rfl, _⟩ | ⟨g, cap, cur, rfl, _, hg, _⟩
  · cases e
  · injection e with e
    have e2 : g = y := e
    subst e2
    have hy' : w.heap[g]? = _ := hy
    rw [hg] at hy'
    injection hy' with hy'
    injection hy' with _ hy' _
    exact absurd hy' (by decide)
theorem AllRows.below {c B : Nat} {w w' : World} {L : List (List Int)} (h : AllRows c B w L) (hb : Below w.heap.size w w') : AllRows c B w' L := by
  obtain ⟨rv, vs, h1, h2, h3⟩ := h
  refine ⟨rv, vs, h1.call hb, h2.kept (row := none) ⟨hb.os, hb.tape, hb.output, hb.size, fun k hk _ => hb.block k hk⟩ (by cases rv.ownBlock <;> simp), fun i row hi => ?_⟩
  obtain ⟨y, h4, h5, h6⟩ := h3 i row hi
  exact ⟨y, h4, h5, h6.call hb⟩
theorem AllRows.own {c B b : Nat} {w w' : World} {L : List (List Int)} (hc : c < B) (h1 : B ≤ b) (h2 : b < B + 3) (h : AllRows c B w L) (ho : Only b w w') : AllRows c B w' L := by
  obtain ⟨rv, vs, h3, h4, h5⟩ := h
  refine ⟨rv, vs, ho.has (by omega) h3, h4.kept (row := some b) ⟨ho.os, ho.tape, ho.output, by rw [ho.size]; exact Nat.le_refl _, fun k _ hk => ho.block k (fun e => hk (by rw [e]))⟩ (.inr fun e => by have := (h4.lt _ e).1; omega), fun i row hi => ?_⟩
  obtain ⟨y, h6, h7, h8⟩ := h5 i row hi
  exact ⟨y, h6, h7, ho.has (by omega) h8⟩
theorem infoRow : ((Try.prog).info? 22).map (fun i => (i.zero, i.size, i.bytes)) = some (some (.slice none 0 0), 1, 24) := by kernel_rfl
set_option maxRecDepth 100000 in
theorem feed1_any (c B y n k : Nat) (rv : Value) (vs : List Value) (w : World) (hc : c < B) (hB : B + 3 ≤ w.heap.size) (hk : k ≤ 100000) (h : Has w c [rv] 42) (ho : w.ownsRow (B + 3) 22 1 rv k vs) :
    Calls Try.prog 25 #[.slice (some ⟨y, 0, none⟩) n n, .pointer (some ⟨c, 0, none⟩)] w fun e w' => (∃ v, e = .returned v) ∧ ∃ rv' w2, w' = w2.setCell ⟨c, 0, none⟩ rv' ∧ w2.ownsRow (B + 3) 22 1 rv' (k + 1) (vs ++ [.slice (some ⟨y, 0, none⟩) n n]) ∧ (w.alloc (.cells #[.slice (some ⟨y, 0, none⟩) n n] 22)).grownBy w2 rv.ownBlock := by
  obtain ⟨i0, hi, hz0, hz1, hz2⟩ := info_parts infoRow
  have c0 : w.cell? ⟨c, 0, none⟩ = some rv := h.cell 0
  have ho1 := ho.alloc (.cells #[.slice (some ⟨y, 0, none⟩) n n] 22)
  have hn : (w.alloc (.cells #[.slice (some ⟨y, 0, none⟩) n n] 22)).cell? ⟨w.heap.size, 0, none⟩ = some (.slice (some ⟨y, 0, none⟩) n n) := (Has.new w [.slice (some ⟨y, 0, none⟩) n n] 22).cell 0
  have HN := Lib.hid hn
  have HC := Lib.hid (h.alloc (.cells #[.slice (some ⟨y, 0, none⟩) n n] 22))
  have HO := Lib.hid ho
  clear h hn ho
  obtain ⟨ao, cap, rfl⟩ : ∃ ao cap, rv = .slice ao k cap := by
    rcases HO.out.2 with ⟨rfl, rfl⟩ | ⟨g, cap, cur, rfl, _⟩
    · exact ⟨_, _, rfl⟩
    · exact ⟨_, _, rfl⟩
  go_enter Try.func25, Try.ntmps25
  go_wp2_with (at_builtin; refine wpList_append_own _ rfl (.tmp 3) (.tmp 5) 42 rfl (B + 3) 22 i0 (.slice none 0 0) 1 24 Try.underlying42 hi hz0 hz1 hz2 rfl (by decide) _ k vs rfl ho1 ⟨w.heap.size, 0, none⟩ 1 1 [.slice (some ⟨y, 0, none⟩) n n] rfl rfl ?c1 ?c2 ?c3 ?c4 ?c5 ?_)
  case c1 =>
    intro j u hj
    cases j with
    | zero => cases hj; exact HN.out
    | succ j => cases hj
  case c2 => exact fun u hu => by rw [List.mem_singleton.1 hu]; rfl
  case c3 => unfold maxLen; omega
  case c4 => omega
  case c5 => simp; omega
  intro v2 w6 hown hgrow _
  have hcs : c < (w.alloc (.cells #[.slice (some ⟨y, 0, none⟩) n n] 22)).heap.size := by simp; omega
  have HC6 := Lib.hid (HC.out.of (hgrow.block c hcs (fun e => by have := (ho1.lt _ e.symm).1; omega)))
  have d0 : w6.cell? ⟨c, 0, none⟩ = some (.slice ao k cap) := HC6.out.cell 0
  have f0 : w6.frozen? ⟨c, 0, none⟩ = false := HC6.out.frozen 0
  have HOWN := Lib.hid hown
  have HG := Lib.hid hgrow
  clear hown hgrow ho1 hcs c0
  obtain ⟨ao2, cap2, rfl⟩ : ∃ ao cap, v2 = .slice ao (k + 1) cap := by
    rcases HOWN.out.2 with ⟨rfl, h⟩ | ⟨g, cap, cur, rfl, _⟩
    · exact absurd h (by omega)
    · exact ⟨_, _, rfl⟩
  go_wp2
  exact bodyPost_end (v := .tuple #[]) (by simp [results, Try.results25]) rfl ⟨⟨_, rfl⟩, _, w6, rfl, HOWN.out, HG.out⟩
theorem gathFeed (c B : Nat) (hc : c < B) : Gath 25 c B (AllRows c B) where
  eg := fun args w => by kernel_rfl
  below := fun _ _ _ h hb => h.below hb
  own := fun _ _ _ _ h1 h2 h ho => h.own hc h1 h2 ho
  run := fun w L row y hB hy _ hL hh hj => by
    obtain ⟨rv, vs, h1, h2, h3⟩ := hj
    refine (feed1_any c B y row.length L.length rv vs w hc hB hL h1 h2).mono ?_
    rintro e w' ⟨he, rv', w2, rfl, h4, h5⟩
    have hs := h5.size
    have hs1 : (w.alloc (.cells #[.slice (some ⟨y, 0, none⟩) row.length row.length] 22)).heap.size = w.heap.size + 1 := by simp
    rw [hs1] at hs
    have hcN : rv.ownBlock ≠ some c := fun e => by have := (h2.lt _ e).1; omega
    have hb2 : ∀ z cs, Has w z cs 3 → Has w2 z cs 3 := fun z cs hz =>
      (hz.alloc _).of (h5.block z (by rw [hs1]; have := hz.lt; omega) (fun e => own_not h2 hz e.symm))
    have hc2 : Has w2 c [rv] 42 := (h1.alloc _).of (h5.block c (by rw [hs1]; omega) (fun e => hcN e.symm))
    refine ⟨he, ⟨rv', vs ++ [Value.slice (some ⟨y, 0, none⟩) row.length row.length], hc2.set 0 _, ?_, ?_⟩, ?_⟩
    · rw [List.length_append]
      exact ownsRow_setCell_below h4 (a := ⟨c, 0, none⟩) (by show c < B + 3; omega) _
    · intro i r hi
      rcases Nat.lt_or_ge i L.length with hl | hl
      · rw [List.getElem?_append_left hl] at hi
        obtain ⟨y', h6, h7, h8⟩ := h3 i r hi
        refine ⟨y', ?_, h7, (hb2 _ _ h8).other (p := ⟨c, 0, none⟩) (by dsimp only; omega) _⟩
        rw [List.getElem?_append_left (by have := h2.1; omega)]
        exact h6
      · rw [List.getElem?_append_right hl] at hi
        have hvl := h2.1
        rw [Nat.mul_one] at hvl
        obtain ⟨i', rfl⟩ : ∃ i', i = L.length + i' := ⟨i - L.length, by omega⟩
        rw [Nat.add_sub_cancel_left] at hi
        cases i' with
        | succ i' => cases hi
        | zero =>
          cases hi
          refine ⟨y, ?_, hy, (hb2 _ _ hh).other (p := ⟨c, 0, none⟩) (by dsimp only; omega) _⟩
          rw [Nat.add_zero, List.getElem?_append_right (by omega), hvl, Nat.sub_self]
          rfl
    · refine ⟨h5.os, h5.tape, h5.output, by rw [show (w2.setCell ⟨c, 0, none⟩ rv').heap.size = w2.heap.size by simp]; omega, fun z hz hzc => ?_⟩
      rw [Below.heap_setCell _ _ _ _ (show z ≠ (⟨c, 0, none⟩ : Addr).block from hzc)]
      rw [h5.block z (by rw [hs1]; omega) (fun e => by have := (h2.lt _ e.symm).1; omega)]
      exact Below.heap_alloc w _ z (by omega)
/-- All rows, read. -/
theorem AllRows.reads {c B : Nat} {w : World} {L : List (List Int)} (h : AllRows c B w L) (hL : L.length ≤ 100000) (hr : ∀ r ∈ L, r.length ≤ 10) : ∃ ao cap, Has w c [.slice ao L.length cap] 42 ∧ ReadsR w (.slice ao L.length cap) L := by
  obtain ⟨rv, vs, h1, h2, h3⟩ := h
  rcases id h2.2 with ⟨rfl, h0⟩ | ⟨g, cap, cur, rfl, hb, hg, hn, hm, hs, ht⟩
  · have : L = [] := List.eq_nil_of_length_eq_zero h0
    subst this
    exact ⟨none, 0, h1, ReadsR.nil w⟩
  · refine ⟨_, cap, h1, ⟨_, cap, rfl, hn, hm, fun i hi => ?_⟩⟩
    obtain ⟨y, h4, h5, h6⟩ := h3 i _ (List.getElem?_eq_getElem hi)
    have hc := h2.cells (g := g) rfl i _ h4
    have e : (⟨g, 0, none⟩ : Addr).add i = ⟨g, 0 + i, none⟩ := by unfold Addr.add; split <;> simp_all
    rw [e] at hc
    refine ⟨g, 0, _, rfl, (Array.getElem?_eq_some_iff.1 hg).1, hc, ?_⟩
    rw [List.getD_eq_getElem?_getD, List.getElem?_eq_getElem hi]
    have hle := hr _ (List.getElem_mem hi)
    refine h6.readsI (by rw [intsV_len]) rfl (Nat.le_refl _) (by omega) ?_
    rw [List.take_of_length_le (by rw [intsV_len]; exact Nat.le_refl _)]
    rfl
end Go.Proofs.Ytnpgofkdfckioaa
