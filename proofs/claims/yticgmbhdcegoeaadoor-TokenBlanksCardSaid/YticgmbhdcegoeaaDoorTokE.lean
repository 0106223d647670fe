/- token.piece: the token that a text begins with. -/
import Derived.Test.YticgmbhdcegoeaaDoorTokD
namespace Go.Proofs.YticgmbhdcegoeaaDoor
open Go.RowKit

theorem number_any (l : List UInt8) (w : World) (hl : l.length ≤ 100000) (hE : Env w) :
    Calls Tryd.prog 36 #[.string (bs l)] w fun e w' => e = .returned (numOut (numberN l)) ∧ Below w.heap.size w w' := by
  have hd : (numD l).length ≤ 100000 := by
    unfold numD
    split
    · rw [List.length_drop]; omega
    · exact hl
  exact number_core l (numD l) _ _ _ _ _ w rfl rfl (Digs.mk' (numD l)) hd hE _ (numberN_eq l)
theorem pieceOut_form (r : Except Int (Int × List UInt8 × Int × Nat)) : ∃ (k v : Int) (t : List UInt8) (n e : Int), pieceOut r = .tuple #[.agg #[.int .i64 k, .string (bs t), .int .i64 v, .int .i64 0], .int .i64 n, .int .i64 e] := by
  cases r with
  | error e => exact ⟨0, 0, [], 0, e, rfl⟩
  | ok x => obtain ⟨k, t, v, n⟩ := x; exact ⟨k, v, t, n, 0, rfl⟩
theorem num_piece {b : UInt8} (t : List UInt8) (h : b.toNat = 45 ∨ isDigit b = true) : numOut (numberN (b :: t)) = pieceOut (oneN (b :: t)) := by
  rw [oneN_num t h]
  cases numberN (b :: t) with
  | error e => rfl
  | ok x => rfl
theorem piece_core (l : List UInt8) (n h : Nat) (w : World) (hl : l.length ≤ 100000) (hE : Env w) (r : Except Int (Int × List UInt8 × Int × Nat)) (m : Int) (h256 : h < 256)
    (hh : bt l 0 = h) (hl0 : 0 < l.length) (hn : spanLen isLetter l = n)
    (hm : (if h = 123 then 3 else if h = 125 then 4 else if h = 59 then 5 else 0 : Int) = m)
    (hr1 : 0 < n → r = wordN l) (hr2 : n = 0 → (h = 45 ∨ digB h = true) → pieceOut r = numOut (numberN l)) (hr3 : n = 0 → ¬ (h = 45 ∨ digB h = true) → r = if m = 0 then .error 7 else .ok (m, [], 0, 1)) :
    Calls Tryd.prog 20 #[.string (bs l)] w fun e w' => e = .returned (pieceOut r) ∧ Below w.heap.size w w' := by
  have hlet := letters_any l
  rw [hn] at hlet
  clear hn
  have hidx : ∀ w, (Instr.index 9 (.string (bs l)) (.int .i64 0)).run Tryd.prog w = .ok (.int .u8 (h : Nat)) w := fun w => by
    have := run_index_bs (P := Tryd.prog) w 9 l .i64 0 Tryd.underlying9 hl0
    rw [hh] at this
    exact this
  clear hh hl0
  by_cases c0 : 0 < n
  · have hwd := word_any l
    rw [← hr1 c0] at hwd
    obtain ⟨k, v, t, sz, er, hp⟩ := pieceOut_form r
    rw [hp] at hwd ⊢
    clear hr1 hr2 hr3 hp hm
    go_enter Tryd.func20, Tryd.ntmps20
    go_wp2_with fail
    refine (hlet _).mono ?_
    rintro e w2 ⟨rfl, h2⟩
    obtain ⟨hH, hb, hlt⟩ := box_kept h2
    clear h2 hlet
    go_wp2_with fail
    refine (hwd _).mono ?_
    rintro e w3 ⟨rfl, h3⟩
    replace hH := hH.call h3
    replace hb := hb.trans (h3.mono hb.size)
    clear h3 hwd
    obtain ⟨⟨c0, c1, c2, c3⟩, ⟨f0, f1, f2, f3⟩⟩ := hH.four
    go_wp2
    refine bodyPost_ret (v := .tuple #[.agg #[.int .i64 k, .string (bs t), .int .i64 v, .int .i64 0], .int .i64 sz, .int .i64 er]) (by simp [results, Tryd.results20, go_sem, *]) rfl ⟨rfl, below_four hb (Nat.le_refl _) _ _ _ _⟩
  have hn0 : n = 0 := by omega
  subst hn0
  clear hr1 c0
  have hE2 : ∀ w2, Below (w.alloc (.cells #[.int .i64 0, .string ⟨#[]⟩, .int .i64 0, .int .i64 0] 30)).heap.size (w.alloc (.cells #[.int .i64 0, .string ⟨#[]⟩, .int .i64 0, .int .i64 0] 30)) w2 → Env w2 := fun w2 h2 => (hE.alloc _).below h2
  by_cases c1 : h = 45 ∨ digB h = true
  · have hnum := fun W hE => number_any l W hl hE
    rw [← hr2 rfl c1] at hnum
    obtain ⟨k, v, t, sz, er, hp⟩ := pieceOut_form r
    rw [hp] at hnum ⊢
    clear hr2 hr3 hp hm
    obtain ⟨z, hz⟩ : ∃ z : Int, z = (h : Int) := ⟨_, rfl⟩
    by_cases c2 : h = 45
    · have b1 : ((h : Int) == 45) = true := by rw [c2]; rfl
      clear c1 c2 hz
      go_enter Tryd.func20, Tryd.ntmps20
      go_wp2_with fail
      refine (hlet _).mono ?_
      rintro e w2 ⟨rfl, h2⟩
      have hE3 := hE2 w2 h2
      obtain ⟨hH, hb, hlt⟩ := box_kept h2
      clear h2 hlet hE2
      go_wp2_with fail
      refine (hnum _ hE3).mono ?_
      rintro e w3 ⟨rfl, h3⟩
      replace hH := hH.call h3
      replace hb := hb.trans (h3.mono hb.size)
      clear h3 hnum
      obtain ⟨⟨c0, c1, c2, c3⟩, ⟨f0, f1, f2, f3⟩⟩ := hH.four
      go_wp2
      refine bodyPost_ret (v := .tuple #[.agg #[.int .i64 k, .string (bs t), .int .i64 v, .int .i64 0], .int .i64 sz, .int .i64 er]) (by simp [results, Tryd.results20, go_sem, *]) rfl ⟨rfl, below_four hb (Nat.le_refl _) _ _ _ _⟩
    · have b1 : ((h : Int) == 45) = false := beq_false_of_ne (by omega)
      have hdg := isDigit_any h h256
      rw [show digB h = true from c1.resolve_left c2] at hdg
      clear c1 c2 hz
      go_enter Tryd.func20, Tryd.ntmps20
      go_wp2_with fail
      refine (hlet _).mono ?_
      rintro e w2 ⟨rfl, h2⟩
      have hE3 := hE2 w2 h2
      obtain ⟨hH, hb, hlt⟩ := box_kept h2
      clear h2 hlet hE2
      go_wp2_with fail
      refine (hdg _).mono ?_
      rintro e w2' ⟨rfl, rfl⟩
      go_wp2_with fail
      refine (hnum _ hE3).mono ?_
      rintro e w3 ⟨rfl, h3⟩
      replace hH := hH.call h3
      replace hb := hb.trans (h3.mono hb.size)
      clear h3 hnum
      obtain ⟨⟨c0, c1, c2, c3⟩, ⟨f0, f1, f2, f3⟩⟩ := hH.four
      go_wp2
      refine bodyPost_ret (v := .tuple #[.agg #[.int .i64 k, .string (bs t), .int .i64 v, .int .i64 0], .int .i64 sz, .int .i64 er]) (by simp [results, Tryd.results20, go_sem, *]) rfl ⟨rfl, below_four hb (Nat.le_refl _) _ _ _ _⟩
  · have hr := hr3 rfl c1
    clear hr2 hr3 hE2 hE
    have b1 : ((h : Int) == 45) = false := beq_false_of_ne (by omega)
    have hdg := isDigit_any h h256
    rw [show digB h = false by simpa using fun e => c1 (Or.inr e)] at hdg
    have hmk := fun W => mark_core h m _ hm rfl W
    clear c1 hm
    by_cases c2 : m = 0
    · rw [if_pos c2] at hr hmk
      subst hr
      subst c2
      go_enter Tryd.func20, Tryd.ntmps20
      go_wp2_with fail
      refine (hlet _).mono ?_
      rintro e w2 ⟨rfl, h2⟩
      obtain ⟨hH, hb, hlt⟩ := box_kept h2
      clear h2 hlet
      go_wp2_with fail
      refine (hdg _).mono ?_
      rintro e w2' ⟨rfl, rfl⟩
      go_wp2_with fail
      refine (hmk _).mono ?_
      rintro e w2' ⟨rfl, rfl⟩
      obtain ⟨⟨c0, c1, c2, c3⟩, ⟨f0, f1, f2, f3⟩⟩ := hH.four
      go_wp2
      refine bodyPost_ret (v := .tuple #[tokV 0 [] 0 0, .int .i64 0, .int .i64 7]) (by simp [results, Tryd.results20, go_sem, tokV, bs, *]) rfl ⟨rfl, below_four hb (Nat.le_refl _) _ _ _ _⟩
    · rw [if_neg c2] at hr hmk
      subst hr
      clear c2
      go_enter Tryd.func20, Tryd.ntmps20
      go_wp2_with fail
      refine (hlet _).mono ?_
      rintro e w2 ⟨rfl, h2⟩
      obtain ⟨hH, hb, hlt⟩ := box_kept h2
      clear h2 hlet
      go_wp2_with fail
      refine (hdg _).mono ?_
      rintro e w2' ⟨rfl, rfl⟩
      go_wp2_with fail
      refine (hmk _).mono ?_
      rintro e w2' ⟨rfl, rfl⟩
      obtain ⟨⟨c0, c1, c2, c3⟩, ⟨f0, f1, f2, f3⟩⟩ := hH.four
      go_wp2
      refine bodyPost_ret (v := .tuple #[tokV m [] 0 0, .int .i64 1, .int .i64 0]) (by simp [results, Tryd.results20, go_sem, tokV, bs, *]) rfl ⟨rfl, below_four hb (Nat.le_refl _) _ _ _ _⟩
theorem piece_any (l : List UInt8) (w : World) (h0 : l ≠ []) (hl : l.length ≤ 100000) (hE : Env w) :
    Calls Tryd.prog 20 #[.string (bs l)] w fun e w' => e = .returned (pieceOut (oneN l)) ∧ Below w.heap.size w w' := by
  cases l with
  | nil => exact absurd rfl h0
  | cons b t =>
    refine piece_core (b :: t) _ b.toNat w hl hE _ _ b.toNat_lt rfl (by simp) rfl rfl (fun h => one_word h) (fun _ h => (num_piece t h).symm) (fun h1 h2 => one_mark h1 h2)
end Go.Proofs.YticgmbhdcegoeaaDoor
