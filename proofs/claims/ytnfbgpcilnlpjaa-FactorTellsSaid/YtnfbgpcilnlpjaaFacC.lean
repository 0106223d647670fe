/- factor.Factor and factor.Nearest. -/
import Derived.Test.YtnfbgpcilnlpjaaFacB
import Derived.LoopTactic
import Derived.IntWalk
namespace Go.Proofs.Ytnfbgpcilnlpjaa
open Go.RowKit

theorem Only.low {b : Nat} {x y z : World} {B : Nat} (h : Below B x y) (k : Only b y z) (hB : B ≤ b) : Below B x z := h.trans (k.below hB)

set_option maxRecDepth 100000 in
theorem factor_core (x k n : Int) (hk : kindB k = true) (hn : rowsB n = true)
    (m : ∀ b w, Book false b w → Calls Try.prog 16 #[.pointer (some ⟨b, 0, none⟩), .int .i64 k, .int .i64 n] w fun e w' => e = .returned (.int .i64 x) ∧ Book true b w' ∧ Only b w w') (w : World) :
    Calls Try.prog 6 #[.int .i64 k, .int .i64 n] w fun e w' => e = .returned (.tuple #[.int .i64 x, .int .i64 0]) ∧ Below w.heap.size w w' := by
  have M := Lib.hid m
  clear m
  have M1 : Hid (∀ w, Calls Try.prog 14 #[.int .i64 k] w fun e w' => e = .returned (.bool true) ∧ w' = w) := Lib.hid (hk ▸ isFactor_any k)
  have M2 : Hid (∀ w, Calls Try.prog 15 #[.int .i64 n] w fun e w' => e = .returned (.bool true) ∧ w' = w) := Lib.hid (hn ▸ isSize_any n)
  clear hk hn
  have hz := zero_book
  obtain ⟨z, hZ⟩ : ∃ z, (bookC false).toArray = z := ⟨_, rfl⟩
  rw [hZ] at hz
  have HZ := Lib.hid hZ
  clear hZ
  go_enter Try.func6, Try.ntmps6
  go_wp2_with fail
  refine (M1.out _).mono ?_
  rintro e w' ⟨rfl, rfl⟩
  go_wp2_with fail
  refine (M2.out _).mono ?_
  rintro e w' ⟨rfl, rfl⟩
  go_wp2_with fail
  refine (M.out _ _ (by rw [← HZ.out]; exact Book.new _)).mono ?_
  rintro e w1 ⟨rfl, h1, o1⟩
  have HB : Hid (Below w'.heap.size w' w1) := Lib.hid (Only.low ((Below.refl _ _).alloc (Nat.le_refl _) _) o1 (Nat.le_refl _))
  clear h1 o1
  go_wp2_with fail
  go_ret2
  exact ⟨rfl, HB.out⟩
theorem factor_any (k j : Nat) (hk : k < 7) (hj : j < 9) (w : World) :
    Calls Try.prog 6 #[.int .i64 (k : Nat), .int .i64 ((j : Nat) + 2 : Int)] w fun e w' => e = .returned (.tuple #[.int .i64 (fac k j), .int .i64 0]) ∧ Below w.heap.size w w' :=
  factor_core _ _ _ (decide_eq_true ⟨by omega, by omega⟩) (decide_eq_true ⟨by omega, by omega⟩) (fun b w h => ask_any false b k j hk hj w h) w
theorem factor_norow (k n : Int) (hk : kindB k = true) (hn : rowsB n = false) (w : World) :
    Calls Try.prog 6 #[.int .i64 k, .int .i64 n] w fun e w' => e = .returned (.tuple #[.int .i64 0, .int .i64 3]) ∧ Below w.heap.size w w' := by
  have M1 : Hid (∀ w, Calls Try.prog 14 #[.int .i64 k] w fun e w' => e = .returned (.bool true) ∧ w' = w) := Lib.hid (hk ▸ isFactor_any k)
  have M2 : Hid (∀ w, Calls Try.prog 15 #[.int .i64 n] w fun e w' => e = .returned (.bool false) ∧ w' = w) := Lib.hid (hn ▸ isSize_any n)
  clear hk hn
  go_enter Try.func6, Try.ntmps6
  go_wp2_with fail
  refine (M1.out _).mono ?_
  rintro e w' ⟨rfl, rfl⟩
  go_wp2_with fail
  refine (M2.out _).mono ?_
  rintro e w' ⟨rfl, rfl⟩
  go_wp2_with fail
  go_ret2
  exact ⟨rfl, Below.refl _ _⟩
theorem factor_nokind (k n : Int) (hk : kindB k = false) (w : World) :
    Calls Try.prog 6 #[.int .i64 k, .int .i64 n] w fun e w' => e = .returned (.tuple #[.int .i64 0, .int .i64 1]) ∧ Below w.heap.size w w' := by
  have M1 : Hid (∀ w, Calls Try.prog 14 #[.int .i64 k] w fun e w' => e = .returned (.bool false) ∧ w' = w) := Lib.hid (hk ▸ isFactor_any k)
  clear hk
  go_enter Try.func6, Try.ntmps6
  go_wp2_with fail
  refine (M1.out _).mono ?_
  rintro e w' ⟨rfl, rfl⟩
  go_wp2_with fail
  go_ret2
  exact ⟨rfl, Below.refl _ _⟩

/-! ### Nearest -/
def bookS (i : Nat) : Bool := decide (0 < i)
/-- Before the round of n = i + 3 the book may be made, from the second round on it is. -/
def NearRel (w : World) (k : Nat) (v : Int) (x y : Value) (wr : World) : Prop :=
  ∃ i : Nat, i ≤ 8 ∧ x = .int .i64 ((nst k v i : Nat) + 2 : Int) ∧ y = .int .i64 ((i : Nat) + 3 : Int) ∧ (∃ m, Book m w.heap.size wr) ∧ Below w.heap.size w wr
theorem nearest_nokind (k v : Int) (hk : kindB k = false) (w : World) :
    Calls Try.prog 8 #[.int .i64 k, .int .i64 v] w fun e w' => e = .returned (.tuple #[.int .i64 0, .int .i64 1]) ∧ Below w.heap.size w w' := by
  have M1 : Hid (∀ w, Calls Try.prog 14 #[.int .i64 k] w fun e w' => e = .returned (.bool false) ∧ w' = w) := Lib.hid (hk ▸ isFactor_any k)
  clear hk
  go_enter Try.func8, Try.ntmps8
  go_wp2_with fail
  refine (M1.out _).mono ?_
  rintro e w' ⟨rfl, rfl⟩
  go_wp2_with fail
  go_ret2
  exact ⟨rfl, Below.refl _ _⟩
theorem isInt_fac {k j : Nat} (hk : k < 7) (hj : j < 9) : IsInt (fac k j) := by
  have := fac_row k hk j hj
  unfold IsInt
  omega
theorem nearest_any (k : Nat) (v : Int) (hk : k < 7) (hv : IsInt v) (w : World) :
    Calls Try.prog 8 #[.int .i64 (k : Nat), .int .i64 v] w fun e w' => e = .returned (.tuple #[.int .i64 ((nea k v : Nat) + 2 : Int), .int .i64 0]) ∧ Below w.heap.size w w' := by
  have M1 : Hid (∀ w, Calls Try.prog 14 #[.int .i64 (k : Nat)] w fun e w' => e = .returned (.bool true) ∧ w' = w) := Lib.hid ((show kindB (k : Nat) = true from decide_eq_true ⟨by omega, by omega⟩) ▸ isFactor_any (k : Nat))
  have MA : Hid (∀ m b (j : Nat) (n x : Int), j < 9 → n = j + 2 → x = fac k j → ∀ w, Book m b w → Calls Try.prog 16 #[.pointer (some ⟨b, 0, none⟩), .int .i64 (k : Nat), .int .i64 n] w fun e w' => e = .returned (.int .i64 x) ∧ Book true b w' ∧ Only b w w') := Lib.hid (fun m b j n x hj hn hx w h => by subst hn hx; exact ask_any m b k j hk hj w h)
  have MD : Hid (∀ (j : Nat) (x : Int) (d : Nat), j < 9 → x = fac k j → d = dist (fac k j) v → ∀ w, Calls Try.prog 17 #[.int .i64 x, .int .i64 v] w fun e w' => e = .returned (.int .u64 (d : Nat)) ∧ w' = w) := Lib.hid (fun j x d hj hx hd w => by subst hx hd; exact apart_any _ _ (isInt_fac hk hj) hv w)
  have HN : Hid (nea k v = nst k v 8) := Lib.hid rfl
  obtain ⟨N, hN⟩ : ∃ N, nea k v = N := ⟨_, rfl⟩
  rw [hN] at HN ⊢
  clear hN hk hv
  have hz := zero_book
  obtain ⟨z, hZ⟩ : ∃ z, (bookC false).toArray = z := ⟨_, rfl⟩
  rw [hZ] at hz
  have HZ := Lib.hid hZ
  clear hZ
  go_enter Try.func8, Try.ntmps8
  go_wp2_with fail
  refine (M1.out _).mono ?_
  rintro e w' ⟨rfl, rfl⟩
  rename World => w
  go_wp2_with fail
  have hS : Hid (Book false w.heap.size (w.alloc (.cells z 49)) ∧ Below w.heap.size w (w.alloc (.cells z 49))) := Lib.hid ⟨HZ.out ▸ Book.new w, (Below.refl _ _).alloc (Nat.le_refl _) _⟩
  clear HZ hz
  go_loopw [7, 8] (NearRel w k v) (fun _ y _ => 11 - (intOf y).toNat)
  case atStart => exact ⟨0, by omega, rfl, rfl, ⟨false, hS.out.1⟩, hS.out.2⟩
  case round =>
    obtain ⟨i, hi, rfl, rfl, ⟨m, hB⟩, hb⟩ := hrel
    clear hS
    have HB := Lib.hid hB
    have HW := Lib.hid hb
    clear hB hb
    rename World => wr
    by_cases h8 : i = 8
    · subst h8
      go_wp2_with fail
      have e : nst k v 8 = N := HN.out.symm
      rw [← e]
      go_ret2
      exact ⟨rfl, HW.out⟩
    · have HS : Hid (nst k v (i + 1) = if dist (fac k (i + 1)) v < dist (fac k (nst k v i)) v then i + 1 else nst k v i) := Lib.hid rfl
      have hl := nst_le k v i
      obtain ⟨X, hX⟩ : ∃ X, X = fac k (i + 1) := ⟨_, rfl⟩
      obtain ⟨Y, hY⟩ : ∃ Y, Y = fac k (nst k v i) := ⟨_, rfl⟩
      obtain ⟨D, hD⟩ : ∃ D, D = dist (fac k (i + 1)) v := ⟨_, rfl⟩
      obtain ⟨E, hE⟩ : ∃ E, E = dist (fac k (nst k v i)) v := ⟨_, rfl⟩
      have C1 := Lib.hid (MA.out m w.heap.size (i + 1) ((i : Int) + 3) X (by omega) (by omega) hX)
      have C2 := Lib.hid (MD.out (i + 1) X D (by omega) hX hD)
      have C3 := Lib.hid (MA.out true w.heap.size (nst k v i) ((nst k v i : Nat) + 2 : Int) Y (by omega) rfl hY)
      have C4 := Lib.hid (MD.out (nst k v i) Y E (by omega) hY hE)
      rw [← hD, ← hE] at HS
      clear hX hY hD hE MA MD HN M1
      obtain ⟨n, hn⟩ : ∃ n, n = nst k v i := ⟨_, rfl⟩
      rw [← hn] at HS C3 ⊢
      have HN := Lib.hid hn
      clear hn hl
      have hle : ((i : Int) + 3 ≤ 10) := by omega
      go_wp2_with fail
      refine (C1.out _ HB.out).mono ?_
      rintro e w1 ⟨rfl, h1, o1⟩
      have HB1 := Lib.hid h1
      have HW1 := Lib.hid (Only.low HW.out o1 (Nat.le_refl _))
      clear h1 o1 HB HW C1
      go_wp2_with fail
      refine (C2.out _).mono ?_
      rintro e w2 ⟨rfl, rfl⟩
      clear C2
      go_wp2_with fail
      refine (C3.out _ HB1.out).mono ?_
      rintro e w3 ⟨rfl, h1, o1⟩
      have HB3 := Lib.hid h1
      have HW3 := Lib.hid (Only.low HW1.out o1 (Nat.le_refl _))
      clear h1 o1 HB1 HW1 C3
      go_wp2_with fail
      refine (C4.out _).mono ?_
      rintro e w4 ⟨rfl, rfl⟩
      clear C4
      by_cases hc : (D : Int) < (E : Int)
      · have HR : Hid (nst k v (i + 1) = i + 1) := Lib.hid (by rw [HS.out, if_pos (by omega)])
        clear HS
        go_wp2_with fail
        go_roundw
        case rel => exact ⟨i + 1, by omega, by rw [HR.out]; go_num, by go_num, ⟨true, HB3.out⟩, HW3.out⟩
        case measure => simp [intOf]; omega
      · have HR : Hid (nst k v (i + 1) = n) := Lib.hid (by rw [HS.out, if_neg (by omega)])
        clear HS
        go_wp2_with fail
        go_roundw
        case rel => exact ⟨i + 1, by omega, by rw [HR.out], by go_num, ⟨true, HB3.out⟩, HW3.out⟩
        case measure => simp [intOf]; omega
end Go.Proofs.Ytnfbgpcilnlpjaa
