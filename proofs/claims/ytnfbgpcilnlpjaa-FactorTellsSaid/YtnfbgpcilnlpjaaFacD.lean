/- factor.All. -/
import Derived.Test.YtnfbgpcilnlpjaaFacC
namespace Go.Proofs.Ytnfbgpcilnlpjaa
open Go.RowKit

/-- All seven factors of a row, of which the first i are written. -/
def allC (i j : Nat) : List Value := [.int .i64 (if 0 < i then fac 0 j else 0), .int .i64 (if 1 < i then fac 1 j else 0), .int .i64 (if 2 < i then fac 2 j else 0), .int .i64 (if 3 < i then fac 3 j else 0), .int .i64 (if 4 < i then fac 4 j else 0), .int .i64 (if 5 < i then fac 5 j else 0), .int .i64 (if 6 < i then fac 6 j else 0)]
theorem allC_set (i j : Nat) (h : i < 7) : (allC i j).set i (.int .i64 (fac i j)) = allC (i + 1) j := by
  rcases (by omega : i = 0 ∨ i = 1 ∨ i = 2 ∨ i = 3 ∨ i = 4 ∨ i = 5 ∨ i = 6) with rfl | rfl | rfl | rfl | rfl | rfl | rfl <;> rfl
theorem allC_one (i j : Nat) : (allC i j).toArray.all (·.oneCell') = true := by simp [allC, Value.oneCell']
theorem allC_some (i j k : Nat) (h : k < 7) : ∃ x, (allC i j)[k]? = some (.int .i64 x) := by
  rcases (by omega : k = 0 ∨ k = 1 ∨ k = 2 ∨ k = 3 ∨ k = 4 ∨ k = 5 ∨ k = 6) with rfl | rfl | rfl | rfl | rfl | rfl | rfl <;> exact ⟨_, rfl⟩
theorem size7 : ((Try.prog).info? 25).map (·.size) = some 7 := by kernel_rfl
theorem all_norow (n : Int) (hn : rowsB n = false) (w : World) :
    Calls Try.prog 7 #[.int .i64 n] w fun e w' => e = .returned (.tuple #[.agg #[.int .i64 0, .int .i64 0, .int .i64 0, .int .i64 0, .int .i64 0, .int .i64 0, .int .i64 0], .int .i64 3]) ∧ Below w.heap.size w w' := by
  have M2 : Hid (∀ w, Calls Try.prog 15 #[.int .i64 n] w fun e w' => e = .returned (.bool false) ∧ w' = w) := Lib.hid (hn ▸ isSize_any n)
  clear hn
  go_enter Try.func7, Try.ntmps7
  go_wp2_with fail
  refine (M2.out _).mono ?_
  rintro e w' ⟨rfl, rfl⟩
  rename World => w
  go_wp2_with fail
  exact bodyPost_ret (v := .tuple #[.agg #[.int .i64 0, .int .i64 0, .int .i64 0, .int .i64 0, .int .i64 0, .int .i64 0, .int .i64 0], .int .i64 3]) (by simp [results, Try.results7, go_sem]) rfl ⟨rfl, (Below.refl _ _).alloc (Nat.le_refl _) _⟩

def AllRel (w : World) (j : Nat) (_ y : Value) (wr : World) : Prop :=
  ∃ i : Nat, i ≤ 7 ∧ y = .int .i64 (i : Nat) ∧ Has wr w.heap.size (allC 0 j) 25 ∧ (∃ m, Book m (w.heap.size + 1) wr) ∧ Has wr (w.heap.size + 1 + 1) (allC i j) 25 ∧ Below w.heap.size w wr
theorem all_any (j : Nat) (hj : j < 9) (w : World) :
    Calls Try.prog 7 #[.int .i64 ((j : Nat) + 2 : Int)] w fun e w' => e = .returned (.tuple #[.agg (allC 7 j).toArray, .int .i64 0]) ∧ Below w.heap.size w w' := by
  have M2 : Hid (∀ w, Calls Try.prog 15 #[.int .i64 ((j : Nat) + 2 : Int)] w fun e w' => e = .returned (.bool true) ∧ w' = w) := Lib.hid ((show rowsB ((j : Nat) + 2 : Int) = true from decide_eq_true ⟨by omega, by omega⟩) ▸ isSize_any _)
  have MA : Hid (∀ m b (k : Nat) (x : Int), k < 7 → x = fac k j → ∀ w, Book m b w → Calls Try.prog 16 #[.pointer (some ⟨b, 0, none⟩), .int .i64 (k : Nat), .int .i64 ((j : Nat) + 2 : Int)] w fun e w' => e = .returned (.int .i64 x) ∧ Book true b w' ∧ Only b w w') := Lib.hid (fun m b k x hk hx w h => by subst hx; exact ask_any m b k j hk hj w h)
  clear hj
  have hz := zero_book
  obtain ⟨z, hZ⟩ : ∃ z, (bookC false).toArray = z := ⟨_, rfl⟩
  rw [hZ] at hz
  have HZ := Lib.hid hZ
  clear hZ
  go_enter Try.func7, Try.ntmps7
  go_wp2_with fail
  refine (M2.out _).mono ?_
  rintro e w' ⟨rfl, rfl⟩
  rename World => w
  go_wp2_with fail
  have hS : Hid (AllRel w j undef (.int .i64 0) (((w.alloc (.cells #[.int .i64 0, .int .i64 0, .int .i64 0, .int .i64 0, .int .i64 0, .int .i64 0, .int .i64 0] 25)).alloc (.cells z 49)).alloc (.cells #[.int .i64 0, .int .i64 0, .int .i64 0, .int .i64 0, .int .i64 0, .int .i64 0, .int .i64 0] 25))) := Lib.hid (by
    rw [← HZ.out]
    have h1 := Has.new w (allC 0 j) 25
    have h2 := Book.new (w.alloc (.cells (allC 0 j).toArray 25))
    have h3 := Has.new ((w.alloc (.cells (allC 0 j).toArray 25)).alloc (.cells (bookC false).toArray 49)) (allC 0 j) 25
    have e1 : (w.alloc (.cells (allC 0 j).toArray 25)).heap.size = w.heap.size + 1 := by simp
    have e2 : ((w.alloc (.cells (allC 0 j).toArray 25)).alloc (.cells (bookC false).toArray 49)).heap.size = w.heap.size + 1 + 1 := by simp
    rw [e1] at h2
    rw [e2] at h3
    exact ⟨0, by omega, rfl, (h1.alloc _).alloc _, ⟨false, h2.alloc _⟩, h3, (((Below.refl _ _).alloc (Nat.le_refl _) _).alloc (by simp) _).alloc (by simp; omega) _⟩)
  clear HZ hz
  go_loopw [6, 11] (AllRel w j) (fun _ y _ => 7 - (intOf y).toNat)
  case atStart => exact hS.out
  case round =>
    obtain ⟨i, hi, rfl, hR, ⟨m, hB⟩, hA, hb⟩ := hrel
    have HR := Lib.hid hR
    have HB := Lib.hid hB
    have HA := Lib.hid hA
    have HW := Lib.hid hb
    clear hR hB hA hb
    rename World => wr
    by_cases h7 : i = 7
    · subst h7
      have hO1 := allC_one 7 j
      have hRg : wr.rangeAt (w.heap.size + 1 + 1) 0 (allC 7 j) := HA.out.range
      have hT : wr.there w.heap.size 0 (allC 7 j).toArray.size := HR.out.midThere 0 7 (by simp [allC])
      have hN : Has (wr.setCells w.heap.size 0 (allC 7 j)) w.heap.size (allC 7 j) 25 := HR.out.sets _ rfl
      have hBl : Below w.heap.size w (wr.setCells w.heap.size 0 (allC 7 j)) := Below.sets HW.out (Nat.le_refl _) _ _
      have s7 : ((Try.prog).info? 25).map (·.size) = some (allC 7 j).length := size7
      have hL : (loadVar 25 ⟨w.heap.size, 0, none⟩).run Try.prog (wr.setCells w.heap.size 0 (allC 7 j)) = .ok (.agg (allC 7 j).toArray) (wr.setCells w.heap.size 0 (allC 7 j)) := run_loadVar_mid _ _ _ _ _ _ hN.range Try.underlying25 rfl s7
      have S7 := Lib.hid s7
      have HT := Lib.hid hT
      have HO := Lib.hid hO1
      have HG := Lib.hid hRg
      clear s7 hT hO1 hRg
      obtain ⟨L, hLd⟩ : ∃ L, L = allC 7 j := ⟨_, rfl⟩
      rw [← hLd] at S7 HT HO HG hN hBl hL
      have HLd := Lib.hid hLd
      clear hLd
      go_wp2_with (first | (refine wpList_load_mid rfl 25 _ rfl (w.heap.size + 1 + 1) 0 rfl L _ HG.out Try.underlying25 rfl S7.out ?_) | (refine wpList_store_mid rfl 25 _ _ rfl w.heap.size 0 L.toArray rfl rfl HT.out S7.out HO.out ?_))
      have hLd := HLd.out
      subst hLd
      exact bodyPost_ret (results_cell_tmp Try.results7 rfl hL) rfl ⟨rfl, hBl⟩
    · obtain ⟨y, hy⟩ : ∃ y, y = fac i j := ⟨_, rfl⟩
      have HS : Hid ((allC i j).set i (.int .i64 y) = allC (i + 1) j) := Lib.hid (hy ▸ allC_set i j (by omega))
      obtain ⟨u, hu⟩ := allC_some i j i (by omega)
      have HU := Lib.hid hu
      have C := Lib.hid (MA.out m (w.heap.size + 1) i y (by omega) hy)
      clear hy hu
      have hlt : (i : Int) < 7 := by omega
      have hib : i < 7 := by omega
      go_wp2_with fail
      refine (C.out _ HB.out).mono ?_
      rintro e w1 ⟨rfl, h1, o1⟩
      have HB1 := Lib.hid h1
      have HW1 := Lib.hid (Only.low HW.out o1 (by omega))
      have HR1 := Lib.hid (o1.has (by omega) HR.out)
      have HA1 := Lib.hid (o1.has (by omega) HA.out)
      clear h1 o1 HB HW HR HA C
      have c0 : w1.cell? ⟨w.heap.size + 1 + 1, i, none⟩ = some (.int .i64 u) := (HA1.out.cell i).trans HU.out
      have f0 : w1.frozen? ⟨w.heap.size + 1 + 1, i, none⟩ = false := HA1.out.frozen i
      go_wp2_with fail
      have hN : Has (w1.setCell ⟨w.heap.size + 1 + 1, i, none⟩ (.int .i64 y)) (w.heap.size + 1 + 1) (allC (i + 1) j) 25 := by
        rw [← HS.out]
        exact HA1.out.set i (.int .i64 y)
      refine ⟨⟨i + 1, by omega, by go_num, HR1.out.other (by simp; omega) _, ⟨true, HB1.out.other (by simp) _⟩, hN, HW1.out.setCell (by simp; omega) _⟩, ?_⟩
      simp [intOf]
      omega
end Go.Proofs.Ytnfbgpcilnlpjaa
