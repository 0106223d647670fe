/- TokenBlanks: what stands between two tokens; the closure that says so. -/
import Derived.Test.YticgmbhdcegoeaaDoorTokBack
import Derived.Test.YticgmbhdcegoeaaDoorInts
namespace Go.Proofs.YticgmbhdcegoeaaDoor
open Go.RowKit

/-- What stands ahead of the i-th token, and behind the last one. -/
def sepK (r : Int) (rm : List UInt8) : List UInt8 :=
  if r = 0 then [9] else if r = 1 then [10, 13, 32] else if r = 2 then 35 :: (rm ++ [10]) else if r = 3 then [32, 35, 32, 123, 59, 32, 10, 10] else [32, 32]
def sepN (zs : List Int) (rm : List UInt8) (i : Nat) : List UInt8 :=
  if zs = [] then [32] else sepK ((Int.tmod (zs.getD (i % zs.length) 0) 5 + 5).tmod 5) rm
theorem sepK_skips (r : Int) (rm : List UInt8) (h : ∀ b ∈ rm, notEnd b = true) : Skips (sepK r rm) := by
  unfold sepK
  have sp : ∀ b : UInt8, isSpace b = true → Skips [b] := fun b h => Skips.space h
  split
  · exact sp 9 rfl
  · split
    · exact (sp 10 rfl).append ((sp 13 rfl).append (sp 32 rfl))
    · split
      · exact Skips.remark rm h
      · split
        · have h1 : Skips (35 :: ([32, 123, 59, 32] ++ [10])) := Skips.remark [32, 123, 59, 32] (by decide)
          exact (sp 32 rfl).append (h1.append (sp 10 rfl))
        · exact (sp 32 rfl).append (sp 32 rfl)
theorem sepN_skips (zs : List Int) (rm : List UInt8) (h : ∀ b ∈ rm, notEnd b = true) (i : Nat) : Skips (sepN zs rm i) := by
  unfold sepN
  split
  · exact Skips.space (b := 32) rfl
  · exact sepK_skips _ rm h
theorem sepK_head (r : Int) (rm : List UInt8) : sepK r rm ≠ [] ∧ isLetter ((sepK r rm).headD 0) = false ∧ isDigit ((sepK r rm).headD 0) = false := by
  unfold sepK
  split
  · exact ⟨by simp, rfl, rfl⟩
  · split
    · exact ⟨by simp, rfl, rfl⟩
    · split
      · exact ⟨by simp, rfl, rfl⟩
      · split
        · exact ⟨by simp, rfl, rfl⟩
        · exact ⟨by simp, rfl, rfl⟩
theorem sepN_head (zs : List Int) (rm : List UInt8) (i : Nat) : sepN zs rm i ≠ [] ∧ isLetter ((sepN zs rm i).headD 0) = false ∧ isDigit ((sepN zs rm i).headD 0) = false := by
  unfold sepN
  split
  · exact ⟨by simp, rfl, rfl⟩
  · exact sepK_head _ rm
theorem sepK_len (r : Int) (rm : List UInt8) : (sepK r rm).length ≤ rm.length + 8 := by
  unfold sepK
  split
  · simp
  · split
    · simp
    · split
      · simp
      · split
        · simp
        · simp
theorem sepN_len (zs : List Int) (rm : List UInt8) (i : Nat) : (sepN zs rm i).length ≤ rm.length + 8 := by
  unfold sepN
  split
  · simp
  · exact sepK_len _ rm
theorem mixN_snoc (sep : Nat → List UInt8) : ∀ (l : List Tok) (t : Tok) (i : Nat), mixN sep (l ++ [t]) i = mixN sep l i ++ (t.bytes ++ sep (i + l.length + 1))
  | [], t, i => by
    show t.bytes ++ (sep (i + 1) ++ []) = [] ++ (t.bytes ++ sep (i + 0 + 1))
    simp
  | u :: l, t, i => by
    have h := mixN_snoc sep l t (i + 1)
    show u.bytes ++ (sep (i + 1) ++ mixN sep (l ++ [t]) (i + 1)) = u.bytes ++ (sep (i + 1) ++ mixN sep l (i + 1)) ++ (t.bytes ++ sep (i + (l.length + 1) + 1))
    rw [h, show i + 1 + l.length + 1 = i + (l.length + 1) + 1 by omega]
    simp
def mixT (sep : Nat → List UInt8) (l : List Tok) (k : Nat) : List UInt8 := sep 0 ++ mixN sep (l.take k) 0
theorem mixT_zero (sep : Nat → List UInt8) (l : List Tok) : mixT sep l 0 = sep 0 := by
  unfold mixT
  show sep 0 ++ [] = _
  rw [List.append_nil]
theorem mixT_succ (sep : Nat → List UInt8) (l : List Tok) (k : Nat) (h : k < l.length) : mixT sep l (k + 1) = mixT sep l k ++ ((nth l k).bytes ++ sep (k + 1)) := by
  unfold mixT
  rw [List.take_add_one, List.getElem?_eq_getElem h, nth_get l k h]
  show sep 0 ++ mixN sep (l.take k ++ [l[k]]) 0 = _
  rw [mixN_snoc, List.length_take, Nat.min_eq_left (Nat.le_of_lt h), Nat.zero_add, List.append_assoc]

set_option maxHeartbeats 1000000 in
set_option maxRecDepth 100000 in
theorem sep_any (vz : Value) (zs : List Int) (rm : List UInt8) (bz br i : Nat) (w : World) (hi : i ≤ 100000) (hr : rm.length ≤ 100000) (hz : ReadsI w vz zs) (h1 : w.cell? ⟨bz, 0, none⟩ = some vz) (h2 : w.cell? ⟨br, 0, none⟩ = some (.string (bs rm))) :
    Calls Tryd.prog 18 #[.int .i64 (i : Nat), .pointer (some ⟨bz, 0, none⟩), .pointer (some ⟨br, 0, none⟩)] w fun e w' => e = .returned (.string (bs (sepN zs rm i))) ∧ Below w.heap.size w w' := by
  obtain ⟨ao, cap, rfl, hlc, hcm, hc⟩ := hz
  by_cases h0 : zs = []
  · subst h0
    have e : sepN [] rm i = [32] := if_pos rfl
    rw [e]
    go_enter Tryd.func18, Tryd.ntmps18
    go_wp2
    go_ret
    exact ⟨rfl, Below.refl _ _⟩
  · have hn : 0 < zs.length := List.length_pos_iff.2 h0
    have hm : i % zs.length < zs.length := Nat.mod_lt _ hn
    obtain ⟨b, off, rfl, hlt, hcell⟩ := hc (i % zs.length) hm
    have e : sepN zs rm i = sepK ((Int.tmod (zs.getD (i % zs.length) 0) 5 + 5).tmod 5) rm := if_neg h0
    rw [e]
    generalize zs.getD (i % zs.length) 0 = k at hcell
    unfold maxLen at hcm
    obtain ⟨n, hnn⟩ : ∃ n, zs.length = n := ⟨_, rfl⟩
    rw [hnn] at hn hm hcell hlc h1
    clear hnn hc h0 e
    have ht : Int.tmod (i : Int) (n : Int) = ((i % n : Nat) : Int) := by
      rw [Int.tmod_eq_emod_of_nonneg (by omega)]
      rfl
    have ht2 : (i : Int) % (n : Int) = ((i % n : Nat) : Int) := rfl
    generalize i % n = j at hm hcell ht ht2
    have hq1 : Int.tmod k 5 < 5 := Int.tmod_lt_of_pos _ (by decide)
    have hq2 : -5 < Int.tmod k 5 := by
      have h := Int.tmod_lt_of_pos (-k) (b := 5) (by decide)
      rw [Int.neg_tmod] at h
      omega
    have hw : wrap64 (Int.tmod k 5 + 5) = Int.tmod k 5 + 5 := by unfold wrap64; omega
    have hr1 : 0 ≤ (Int.tmod k 5 + 5).tmod 5 := Int.tmod_nonneg _ (by omega)
    have hr2 : (Int.tmod k 5 + 5).tmod 5 < 5 := Int.tmod_lt_of_pos _ (by decide)
    obtain ⟨r, hrr⟩ : ∃ r, (Int.tmod k 5 + 5).tmod 5 = r := ⟨_, rfl⟩
    rw [hrr] at hr1 hr2 ⊢
    have hr3 : r = 0 ∨ r = 1 ∨ r = 2 ∨ r = 3 ∨ r = 4 := by omega
    rw [← hw] at hrr
    clear hq1 hq2 hw hr1 hr2
    have had1 : ∀ W, (Op.stringOp .add ⟨#[35]⟩ (bs rm)).run Tryd.prog W = .ok (.string (bs (35 :: rm))) W := fun W => run_add_bs W [35] rm (by simp; omega)
    have had2 : ∀ W, (Op.stringOp .add (bs (35 :: rm)) ⟨#[10]⟩).run Tryd.prog W = .ok (.string (bs (35 :: (rm ++ [10])))) W := fun W => run_add_bs W (35 :: rm) [10] (by simp; omega)
    obtain rfl | rfl | rfl | rfl | rfl := hr3
    all_goals
      go_enter Tryd.func18, Tryd.ntmps18
      go_wp2
      go_quiet (fail)
      go_wp2
      go_ret
      exact ⟨rfl, (Below.refl _ _).trans ⟨rfl, rfl, rfl, Nat.le_refl _, fun _ _ => rfl⟩⟩
end Go.Proofs.YticgmbhdcegoeaaDoor
