/- The reference: a factor's row, one of its numbers, the nearest. -/
import Derived.Test.YtnfbgpcilnlpjaaFacC
namespace Go.Proofs.Ytnfbgpcilnlpjaa
open Go.RowKit

def rowV (k : Nat) : List Value := (List.range 9).map fun j => .int .i64 (fac k j)
theorem rowV_at (k j : Nat) (h : j < 9) : (rowV k)[j]? = some (.int .i64 (fac k j)) := by
  rcases (by omega : j = 0 ∨ j = 1 ∨ j = 2 ∨ j = 3 ∨ j = 4 ∨ j = 5 ∨ j = 6 ∨ j = 7 ∨ j = 8) with rfl | rfl | rfl | rfl | rfl | rfl | rfl | rfl | rfl <;> rfl
theorem rrow_any (k : Nat) (hk : k < 7) (w : World) :
    Calls Try.prog 18 #[.int .i64 (k : Nat)] w fun e w' => e = .returned (.slice (some ⟨w.heap.size, 0, none⟩) 9 9) ∧ Has w' w.heap.size (rowV k) 3 ∧ Below w.heap.size w w' := by
  have hH := Has.new w (rowV k) 3
  have hW := (Below.refl w.heap.size w).alloc (Nat.le_refl _) (.cells (rowV k).toArray 3)
  rcases (by omega : k = 0 ∨ k = 1 ∨ k = 2 ∨ k = 3 ∨ k = 4 ∨ k = 5 ∨ k = 6) with rfl | rfl | rfl | rfl | rfl | rfl | rfl
  all_goals
    have HH := Lib.hid hH
    have HW := Lib.hid hW
    clear hH hW hk
    go_enter Try.func18, Try.ntmps18
    go_wp2
    go_ret
    exact ⟨rfl, HH.out, HW.out⟩

theorem rfactor_core (k j : Nat) (x n : Int) (hj : j < 9) (hn : IntKind.i64.wrap (n - 2) = (j : Nat)) (hx : (rowV k)[j]? = some (.int .i64 x)) (w : World)
    (m : ∀ w, Calls Try.prog 18 #[.int .i64 (k : Nat)] w fun e w' => e = .returned (.slice (some ⟨w.heap.size, 0, none⟩) 9 9) ∧ Has w' w.heap.size (rowV k) 3 ∧ Below w.heap.size w w') :
    Calls Try.prog 11 #[.int .i64 (k : Nat), .int .i64 n] w fun e w' => e = .returned (.int .i64 x) ∧ Below w.heap.size w w' := by
  have M := Lib.hid m
  have HX := Lib.hid hx
  clear m hx
  go_enter Try.func11, Try.ntmps11
  go_wp2_with fail
  refine (M.out _).mono ?_
  rintro e w1 ⟨rfl, h1, hb⟩
  have c : w1.cell? ⟨w.heap.size, j, none⟩ = some (.int .i64 x) := (h1.cell j).trans HX.out
  have HW := Lib.hid hb
  clear h1 hb
  go_wp2_with fail
  go_ret
  exact ⟨rfl, HW.out⟩
theorem rfactor_any (k j : Nat) (n x : Int) (hk : k < 7) (hj : j < 9) (hn : n = j + 2) (hx : x = fac k j) (w : World) :
    Calls Try.prog 11 #[.int .i64 (k : Nat), .int .i64 n] w fun e w' => e = .returned (.int .i64 x) ∧ Below w.heap.size w w' :=
  rfactor_core k j x n hj (by rw [wrap_int (by unfold IsInt; omega)]; omega) (hx ▸ rowV_at k j hj) w (rrow_any k hk)

def RNearRel (w : World) (k : Nat) (v : Int) (x y : Value) (wr : World) : Prop :=
  ∃ i : Nat, i ≤ 8 ∧ x = .int .i64 ((nst k v i : Nat) + 2 : Int) ∧ y = .int .i64 ((i : Nat) + 3 : Int) ∧ Below w.heap.size w wr
theorem rnearest_any (k : Nat) (v : Int) (hk : k < 7) (hv : IsInt v) (w : World) :
    Calls Try.prog 13 #[.int .i64 (k : Nat), .int .i64 v] w fun e w' => e = .returned (.int .i64 ((nea k v : Nat) + 2 : Int)) ∧ Below w.heap.size w w' := by
  have MA : Hid (∀ (j : Nat) (n x : Int), j < 9 → n = j + 2 → x = fac k j → ∀ w, Calls Try.prog 11 #[.int .i64 (k : Nat), .int .i64 n] w fun e w' => e = .returned (.int .i64 x) ∧ Below w.heap.size w w') := Lib.hid (fun j n x hj hn hx w => rfactor_any k j n x hk hj hn hx w)
  have MD : Hid (∀ (j : Nat) (x : Int) (d : Nat), j < 9 → x = fac k j → d = dist (fac k j) v → ∀ w, Calls Try.prog 19 #[.int .i64 x, .int .i64 v] w fun e w' => e = .returned (.int .u64 (d : Nat)) ∧ w' = w) := Lib.hid (fun j x d hj hx hd w => by subst hx hd; exact rapart_any _ _ (isInt_fac hk hj) hv w)
  have HN : Hid (nea k v = nst k v 8) := Lib.hid rfl
  obtain ⟨N, hN⟩ : ∃ N, nea k v = N := ⟨_, rfl⟩
  rw [hN] at HN ⊢
  clear hN hk hv
  go_enter Try.func13, Try.ntmps13
  go_wp2_with fail
  go_loopw [5, 6] (RNearRel w k v) (fun _ y _ => 11 - (intOf y).toNat)
  case atStart => exact ⟨0, by omega, rfl, rfl, Below.refl _ _⟩
  case round =>
    obtain ⟨i, hi, rfl, rfl, hb⟩ := hrel
    have HW := Lib.hid hb
    clear hb
    rename World => wr
    by_cases h8 : i = 8
    · subst h8
      go_wp2_with fail
      have e : nst k v 8 = N := HN.out.symm
      rw [← e]
      go_ret
      exact ⟨rfl, HW.out⟩
    · have HS : Hid (nst k v (i + 1) = if dist (fac k (i + 1)) v < dist (fac k (nst k v i)) v then i + 1 else nst k v i) := Lib.hid rfl
      have hl := nst_le k v i
      obtain ⟨X, hX⟩ : ∃ X, X = fac k (i + 1) := ⟨_, rfl⟩
      obtain ⟨Y, hY⟩ : ∃ Y, Y = fac k (nst k v i) := ⟨_, rfl⟩
      obtain ⟨D, hD⟩ : ∃ D, D = dist (fac k (i + 1)) v := ⟨_, rfl⟩
      obtain ⟨E, hE⟩ : ∃ E, E = dist (fac k (nst k v i)) v := ⟨_, rfl⟩
      have C1 := Lib.hid (MA.out (i + 1) ((i : Int) + 3) X (by omega) (by omega) hX)
      have C2 := Lib.hid (MD.out (i + 1) X D (by omega) hX hD)
      have C3 := Lib.hid (MA.out (nst k v i) ((nst k v i : Nat) + 2 : Int) Y (by omega) rfl hY)
      have C4 := Lib.hid (MD.out (nst k v i) Y E (by omega) hY hE)
      rw [← hD, ← hE] at HS
      clear hX hY hD hE MA MD HN
      obtain ⟨n, hn⟩ : ∃ n, n = nst k v i := ⟨_, rfl⟩
      rw [← hn] at HS C3 ⊢
      have HN := Lib.hid hn
      clear hn hl
      have hle : ((i : Int) + 3 ≤ 10) := by omega
      go_wp2_with fail
      refine (C1.out _).mono ?_
      rintro e w1 ⟨rfl, hb⟩
      have HW1 := Lib.hid (HW.out.trans (hb.mono HW.out.size))
      clear hb HW C1
      go_wp2_with fail
      refine (C2.out _).mono ?_
      rintro e w2 ⟨rfl, rfl⟩
      clear C2
      go_wp2_with fail
      refine (C3.out _).mono ?_
      rintro e w3 ⟨rfl, hb⟩
      have HW3 := Lib.hid (HW1.out.trans (hb.mono HW1.out.size))
      clear hb HW1 C3
      go_wp2_with fail
      refine (C4.out _).mono ?_
      rintro e w4 ⟨rfl, rfl⟩
      clear C4
      by_cases hc : (D : Int) < (E : Int)
      · have HR : Hid (nst k v (i + 1) = i + 1) := Lib.hid (by rw [HS.out, if_pos (by omega)])
        clear HS
        go_wp2_with fail
        go_roundw
        case rel => exact ⟨i + 1, by omega, by rw [HR.out]; go_num, by go_num, HW3.out⟩
        case measure => simp [intOf]; omega
      · have HR : Hid (nst k v (i + 1) = n) := Lib.hid (by rw [HS.out, if_neg (by omega)])
        clear HS
        go_wp2_with fail
        go_roundw
        case rel => exact ⟨i + 1, by omega, by rw [HR.out], by go_num, HW3.out⟩
        case measure => simp [intOf]; omega
end Go.Proofs.Ytnfbgpcilnlpjaa
