/- datumlaw07.few: few tokens, of texts that are not too long. -/
import Derived.Test.YticgmbhdcegoeaaDoorTokV
namespace Go.Proofs.YticgmbhdcegoeaaDoor
open Go.RowKit

def cutT (t : Tok) : Tok := ⟨t.kind, t.text.take 20, t.num, t.place⟩
def fewN (l : List Tok) : List Tok := (l.take 400).map cutT
theorem few_len (l : List Tok) : (fewN l).length ≤ 400 := by unfold fewN; rw [List.length_map, List.length_take]; omega
theorem few_mem (l : List Tok) (t : Tok) (h : t ∈ fewN l) : t.text.length ≤ 20 := by
  obtain ⟨u, _, rfl⟩ := List.mem_map.1 h
  unfold cutT
  rw [List.length_take]
  omega
theorem few_text (l : List Tok) (i : Nat) (hi : i < (fewN l).length) : (nth (fewN l) i).text.length ≤ 20 := by
  rw [nth_get _ i hi]
  exact few_mem l _ (List.getElem_mem hi)
def FRel (l : List Tok) (m : Nat) (w : World) (v i : Value) (wr : World) : Prop := ∃ k : Nat, k ≤ m ∧ i = .int .i64 (k : Nat) ∧ Row w.heap.size v ((l.take k).map cutT) wr ∧ Below w.heap.size w wr
theorem few_snoc (l : List Tok) (k : Nat) (hk : k < l.length) : (l.take (k + 1)).map cutT = (l.take k).map cutT ++ [cutT (nth l k)] := by
  rw [List.take_add_one, List.getElem?_eq_getElem hk, List.map_append, nth_get l k hk]
  rfl
set_option maxHeartbeats 1000000 in
set_option maxRecDepth 100000 in
theorem few_any (l : List Tok) (va : Value) (w : World) (ht : ∀ i, i < l.length → (nth l i).text.length ≤ 9223372036854775807) (ha : Reads w va l) :
    Calls Tryd.prog 11 #[va] w fun e w' => ∃ v, e = .returned v ∧ Row w.heap.size v (fewN l) w' ∧ Below w.heap.size w w' := by
  obtain ⟨i0, hi, hz0, hz1, hz2⟩ := info_parts infoTok
  obtain ⟨a1, p1, rfl, hlc, hcm, hc1⟩ := ha
  have HA := Lib.hid hc1
  have HT := Lib.hid ht
  clear hc1 ht
  obtain ⟨n, hn⟩ : ∃ n, l.length = n := ⟨_, rfl⟩
  have HN := Lib.hid hn
  rw [hn] at hlc ⊢
  unfold maxLen at hcm
  obtain ⟨m, hmm⟩ : ∃ m, min n 400 = m := ⟨_, rfl⟩
  have hmn : m ≤ n := by omega
  have hm4 : m ≤ 400 := by omega
  have hmi : min (n : Int) 400 = (m : Int) := by omega
  have HM := Lib.hid (show fewN l = (l.take m).map cutT by
    unfold fewN
    congr 1
    rw [← hmm, ← hn, Nat.min_comm, ← List.take_eq_take_min])
  clear hn hmm
  go_enter Tryd.func11, Tryd.ntmps11
  go_wp2
  go_loopw [3, 12] (FRel l m w) (fun _ i _ => m - (intOf i).toNat)
  case atStart => exact ⟨0, Nat.zero_le _, rfl, Row.nil _ _, Below.refl _ _⟩
  case round =>
    obtain ⟨k, hk, rfl, hrow, hb⟩ := hrel
    by_cases hl : k < m
    · obtain ⟨b1, o1, rfl, hlt1, hd1⟩ := HA.out k (by rw [HN.out]; omega)
      obtain ⟨x0, x1, x2, x3⟩ := hd1.below hb hlt1
      have htl := HT.out k (by rw [HN.out]; omega)
      have hsn := few_snoc l k (by rw [HN.out]; omega)
      have hbs := hb.size
      have hkl : ((l.take k).map cutT).length ≤ 400 := by rw [List.length_map, List.length_take]; omega
      clear hd1
      generalize nth l k = t at x0 x1 x2 x3 htl hsn
      obtain ⟨tk, tt, tn, tp⟩ := t
      have hct : cutT ⟨tk, tt, tn, tp⟩ = ⟨tk, tt.take 20, tn, tp⟩ := rfl
      rw [hct] at hsn
      dsimp only at x0 x1 x2 x3 htl
      have hz := bs_size tt
      have hcut : ∀ w, (Instr.slice 9 (.string (bs tt)) none (some (.int .i64 (min (tt.length : Int) 20))) none).run Tryd.prog w = .ok (.string (bs (tt.take 20))) w := fun w => by
        have := run_slice_hi (P := Tryd.prog) w 9 tt .i64 (min tt.length 20) Tryd.underlying9 (Nat.min_le_left _ _)
        rw [show ((min tt.length 20 : Nat) : Int) = min (tt.length : Int) 20 by omega, Nat.min_comm, ← List.take_eq_take_min] at this
        exact this
      generalize tt.take 20 = u at hcut hsn
      have HSN := Lib.hid hsn
      generalize (l.take k).map cutT = acc at hrow hkl HSN
      have hr3 := (hrow.alloc (.cells #[.int .i64 tk, .string (bs u), .int .i64 tn, .int .i64 tp] 30)).alloc (.cells #[.int .i64 tk, .string (bs u), .int .i64 tn, .int .i64 tp] 30)
      have hb3 := (hb.alloc hbs (.cells #[.int .i64 tk, .string (bs u), .int .i64 tn, .int .i64 tp] 30)).alloc (by simp; omega) (.cells #[.int .i64 tk, .string (bs u), .int .i64 tn, .int .i64 tp] 30)
      clear hsn hct hrow hb
      go_wp2_with (at_builtin; refine wpList_append_own _ rfl (.tmp 24) (.tmp 26) 22 rfl w.heap.size 30 i0 (.agg #[.int .i64 0, .string ⟨#[]⟩, .int .i64 0, .int .i64 0]) 4 40 Tryd.underlying22 hi hz0 hz1 hz2 rfl (by decide) _ _ _ rfl hr3 ⟨wr.heap.size + 1, 0, none⟩ 1 1 (cellsT ⟨tk, u, tn, tp⟩) rfl rfl ?c1 ?c2 ?c3 ?c4 ?c5 ?_)
      case c1 => exact fun j u hj => tok_at _ _ (by simp) j u hj
      case c2 => exact cellsT_one _
      case c3 => unfold maxLen; omega
      case c4 => omega
      case c5 => exact hb3.size
      intro v2 w4 hown hgrow _
      have hb4 := hb3.grown hgrow hb3.size (fun j hj => (World.ownsRow.lt hr3 j hj).1)
      have hr4 := Row.snoc hown
      rw [← HSN.out] at hr4
      clear hown hgrow hb3 hr3
      go_wp2
      go_roundw
      case rel => exact ⟨k + 1, by omega, by go_num, hr4, hb4⟩
      case measure => simp [intOf]; omega
    · obtain rfl : k = m := by omega
      rw [← HM.out] at hrow
      have HR := Lib.hid hrow
      clear hrow
      go_wp2
      go_ret
      exact ⟨_, rfl, HR.out, hb⟩
end Go.Proofs.YticgmbhdcegoeaaDoor
