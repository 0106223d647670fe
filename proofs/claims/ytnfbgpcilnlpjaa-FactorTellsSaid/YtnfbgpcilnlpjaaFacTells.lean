/- The law FactorTells, walked. -/
import Derived.Test.YtnfbgpcilnlpjaaFacD
import Derived.Test.YtnfbgpcilnlpjaaFacE
import Derived.Test.YtnfbgpcilnlpjaaFacLa
import Derived.ChangeKeysEq
namespace Go.Proofs.Ytnfbgpcilnlpjaa
open Go.RowKit

theorem same7 (w : World) : (Op.equalIn 10000 25 (.agg #[.int .i64 0, .int .i64 0, .int .i64 0, .int .i64 0, .int .i64 0, .int .i64 0, .int .i64 0]) (.agg #[.int .i64 0, .int .i64 0, .int .i64 0, .int .i64 0, .int .i64 0, .int .i64 0, .int .i64 0])).run Try.prog w = .ok true w := by
  obtain ⟨i, hi⟩ := Option.isSome_iff_exists.1 (show (Try.prog.info? 3).isSome = true by kernel_rfl)
  have h1 : Try.prog.cellsOf 3 = 1 := by kernel_rfl
  have hr : List.range 7 = [0, 1, 2, 3, 4, 5, 6] := rfl
  refine (run_equalIn_array w 9999 _ _ Try.underlying25 hi).trans ?_
  rw [h1, hr]
  clear hi h1 hr
  simp only [Op.eqItems]
  go_simp
def TellRel (w : World) (b : Nat) (l : List Value) (_ y : Value) (wr : World) : Prop := ∃ i : Nat, i ≤ 7 ∧ y = .int .i64 (i : Nat) ∧ Has wr b l 25 ∧ Below w.heap.size w wr
set_option maxHeartbeats 4000000 in
set_option maxRecDepth 100000 in
theorem ftells_core (kind n v : Int) (kB rB : Bool) (a e l0 l1 l2 l3 l4 l5 l6 f k g : Int) (w : World)
    (m1 : ∀ w, Calls Try.prog 6 #[.int .i64 kind, .int .i64 n] w fun en w' => en = .returned (.tuple #[.int .i64 a, .int .i64 e]) ∧ Below w.heap.size w w')
    (m2 : ∀ w, Calls Try.prog 7 #[.int .i64 n] w fun en w' => en = .returned (.tuple #[.agg #[.int .i64 l0, .int .i64 l1, .int .i64 l2, .int .i64 l3, .int .i64 l4, .int .i64 l5, .int .i64 l6], .int .i64 f]) ∧ Below w.heap.size w w')
    (m3 : ∀ w, Calls Try.prog 8 #[.int .i64 kind, .int .i64 v] w fun en w' => en = .returned (.tuple #[.int .i64 k, .int .i64 g]) ∧ Below w.heap.size w w')
    (mr : ∀ w, Calls Try.prog 10 #[.int .i64 n] w fun e w' => e = .returned (.bool rB) ∧ w' = w)
    (mk : ∀ w, Calls Try.prog 12 #[.int .i64 kind] w fun e w' => e = .returned (.bool kB) ∧ w' = w)
    (hr0 : rB = false → f = 3 ∧ l0 = 0 ∧ l1 = 0 ∧ l2 = 0 ∧ l3 = 0 ∧ l4 = 0 ∧ l5 = 0 ∧ l6 = 0)
    (hr1 : rB = true → f = 0)
    (hr2 : rB = true → ∀ (i : Nat) (x : Int), i < 7 → x = [l0, l1, l2, l3, l4, l5, l6].getD i 0 → ∀ w, Calls Try.prog 11 #[.int .i64 (i : Nat), .int .i64 n] w fun en w' => en = .returned (.int .i64 x) ∧ Below w.heap.size w w')
    (hk0 : kB = false → e = 1 ∧ g = 1 ∧ a = 0 ∧ k = 0)
    (hk1 : kB = true → g = 0)
    (hk2 : kB = true → ∀ w, Calls Try.prog 13 #[.int .i64 kind, .int .i64 v] w fun en w' => en = .returned (.int .i64 k) ∧ Below w.heap.size w w')
    (hk3 : kB = true → rB = false → e = 3 ∧ a = 0)
    (hk4 : kB = true → rB = true → e = 0)
    (hk5 : kB = true → rB = true → ∀ w, Calls Try.prog 11 #[.int .i64 kind, .int .i64 n] w fun en w' => en = .returned (.int .i64 a) ∧ Below w.heap.size w w') :
    Calls Try.prog 3 #[.int .i64 kind, .int .i64 n, .int .i64 v] w fun en w' => en = .returned (.bool true) ∧ Below w.heap.size w w' := by
  have Zm1 := Lib.hid m1
  have Zm2 := Lib.hid m2
  have Zm3 := Lib.hid m3
  have Zmr := Lib.hid mr
  have Zmk := Lib.hid mk
  have Zhr0 := Lib.hid hr0
  have Zhr1 := Lib.hid hr1
  have Zhr2 := Lib.hid hr2
  have Zhk0 := Lib.hid hk0
  have Zhk1 := Lib.hid hk1
  have Zhk2 := Lib.hid hk2
  have Zhk3 := Lib.hid hk3
  have Zhk4 := Lib.hid hk4
  have Zhk5 := Lib.hid hk5
  clear m1 m2 m3 mr mk hr0 hr1 hr2 hk0 hk1 hk2 hk3 hk4 hk5
  have ML : Hid (∀ w, Calls Try.prog 9 #[] w fun en w' => en = .returned (.bool true) ∧ Below w.heap.size w w') := Lib.hid alive9
  go_enter Try.func3, Try.ntmps3
  go_wp2_with fail
  refine (Zm1.out _).mono ?_
  rintro en x1 ⟨rfl, hb⟩
  have HW1 := Lib.hid hb
  clear hb
  go_wp2_with fail
  refine (Zm2.out _).mono ?_
  rintro en x2 ⟨rfl, hb⟩
  have HN := Lib.hid (Has.new x2 [.int .i64 l0, .int .i64 l1, .int .i64 l2, .int .i64 l3, .int .i64 l4, .int .i64 l5, .int .i64 l6] 25)
  have HW2 : Hid (Below w.heap.size w x2) := Lib.hid (HW1.out.trans (hb.mono HW1.out.size))
  have HW3 : Hid (Below w.heap.size w (x2.alloc (.cells #[.int .i64 l0, .int .i64 l1, .int .i64 l2, .int .i64 l3, .int .i64 l4, .int .i64 l5, .int .i64 l6] 25))) := Lib.hid (HW2.out.alloc HW2.out.size _)
  clear hb HW1 HW2
  go_wp2_with fail
  refine (Zm3.out _).mono ?_
  rintro en x3 ⟨rfl, hb⟩
  have HA3 : Hid (Has x3 x2.heap.size [.int .i64 l0, .int .i64 l1, .int .i64 l2, .int .i64 l3, .int .i64 l4, .int .i64 l5, .int .i64 l6] 25) := Lib.hid (HN.out.call hb)
  have HW4 : Hid (Below w.heap.size w x3) := Lib.hid (HW3.out.trans (hb.mono HW3.out.size))
  clear hb HN HW3
  go_wp2_with fail
  refine (ML.out _).mono ?_
  rintro en x4 ⟨rfl, hb⟩
  have HA4 : Hid (Has x4 x2.heap.size [.int .i64 l0, .int .i64 l1, .int .i64 l2, .int .i64 l3, .int .i64 l4, .int .i64 l5, .int .i64 l6] 25) := Lib.hid (HA3.out.call hb)
  have HW5 : Hid (Below w.heap.size w x4) := Lib.hid (HW4.out.trans (hb.mono HW4.out.size))
  clear hb HA3 HW4
  go_wp2_with fail
  refine (Zmr.out _).mono ?_
  rintro en x5 ⟨rfl, rfl⟩
  rename World => x4
  go_upto_if 35 with fail
  go_cut [] (fun wx => Hid (Below w.heap.size w wx))
  case first =>
    cases rB with
    | false =>
      obtain ⟨rfl, rfl, rfl, rfl, rfl, rfl, rfl, rfl⟩ := Zhr0.out rfl
      have c0 : x4.cell? ⟨x2.heap.size, 0, none⟩ = some (.int .i64 0) := HA4.out.cell 0
      have c1 : x4.cell? ⟨x2.heap.size, 1, none⟩ = some (.int .i64 0) := HA4.out.cell 1
      have c2 : x4.cell? ⟨x2.heap.size, 2, none⟩ = some (.int .i64 0) := HA4.out.cell 2
      have c3 : x4.cell? ⟨x2.heap.size, 3, none⟩ = some (.int .i64 0) := HA4.out.cell 3
      have c4 : x4.cell? ⟨x2.heap.size, 4, none⟩ = some (.int .i64 0) := HA4.out.cell 4
      have c5 : x4.cell? ⟨x2.heap.size, 5, none⟩ = some (.int .i64 0) := HA4.out.cell 5
      have c6 : x4.cell? ⟨x2.heap.size, 6, none⟩ = some (.int .i64 0) := HA4.out.cell 6
      have hq := same7
      go_wp2_with fail
      go_meet
      exact HW5
    | true =>
      have hf := Zhr1.out rfl
      subst hf
      have CR := Lib.hid (Zhr2.out rfl)
      clear Zhr0 Zhr1 Zhr2
      go_wp2_with fail
      go_loopw [13, 43] (TellRel w x2.heap.size [.int .i64 l0, .int .i64 l1, .int .i64 l2, .int .i64 l3, .int .i64 l4, .int .i64 l5, .int .i64 l6]) (fun _ y _ => 7 - (intOf y).toNat)
      case atStart => exact ⟨0, by omega, rfl, HA4.out, HW5.out⟩
      case round =>
        obtain ⟨i, hi, rfl, hA6, hW6⟩ := hrel
        clear HA4 HW5
        have HA6 := Lib.hid hA6
        have HW6 := Lib.hid hW6
        clear hA6 hW6
        rename World => V
        by_cases h7 : i = 7
        · subst h7
          go_wp2_with fail
          go_meet
          exact HW6
        · have hi7 : i < 7 := by omega
          have hlt : (i : Int) < 7 := by omega
          obtain ⟨x, hx⟩ : ∃ x, x = ([l0, l1, l2, l3, l4, l5, l6] : List Int).getD i 0 := ⟨_, rfl⟩
          have C := Lib.hid (CR.out i x hi7 hx)
          have hc : ∀ W, Has W x2.heap.size [.int .i64 l0, .int .i64 l1, .int .i64 l2, .int .i64 l3, .int .i64 l4, .int .i64 l5, .int .i64 l6] 25 → W.cell? ⟨x2.heap.size, i, none⟩ = some (.int .i64 x) := fun W hW => by
            rw [hW.cell, hx]
            clear hx C
            rcases (by omega : i = 0 ∨ i = 1 ∨ i = 2 ∨ i = 3 ∨ i = 4 ∨ i = 5 ∨ i = 6) with rfl | rfl | rfl | rfl | rfl | rfl | rfl <;> rfl
          have c0 := hc V HA6.out
          have HC := Lib.hid hc
          clear hc hx
          go_upto_region 12 with fail
          go_cut [56] (fun y wx => y = .bool false ∧ Hid (Has wx x2.heap.size [.int .i64 l0, .int .i64 l1, .int .i64 l2, .int .i64 l3, .int .i64 l4, .int .i64 l5, .int .i64 l6] 25) ∧ Hid (Below w.heap.size w wx))
          case first =>
            clear c0
            refine wp_region_held_drew (S := (fun w' => w'.cell? ⟨x2.heap.size, i, none⟩ = some (.int .i64 x) ∧ Hid (Has w' x2.heap.size [.int .i64 l0, .int .i64 l1, .int .i64 l2, .int .i64 l3, .int .i64 l4, .int .i64 l5, .int .i64 l6] 25) ∧ Hid (Below w.heap.size w w'))) (by kernel_rfl) ⟨HC.out V.drew HA6.out, Lib.hid HA6.out, Lib.hid HW6.out.drew⟩ (fun hHeld => ?_)
            refine regTake 0 (some 46) (v := ?_) rfl rfl (by kernel_rfl) (by kernel_rfl) (by kernel_rfl) (fun _ _ _ h => h) (by rfl) hHeld ?_ ?_
            rotate_left 1
            · (intro w hSw; (try dsimp only at hSw); go_simp; try with_reducible rfl)
            simp only [Act.put, List.setIfInBounds_toArray, List.set_cons_zero, List.set_cons_succ]
            refine regTake 1 (some 47) (v := ?_) rfl rfl (by kernel_rfl) (by kernel_rfl) (by kernel_rfl) (fun _ _ _ h => h) (by rfl) hHeld ?_ ?_
            rotate_left 1
            · (intro w hSw; (try dsimp only at hSw); go_simp; try with_reducible rfl)
            simp only [Act.put, List.setIfInBounds_toArray, List.set_cons_zero, List.set_cons_succ]
            refine regTake 2 (some 48) (v := ?_) rfl rfl (by kernel_rfl) (by kernel_rfl) (by kernel_rfl) (fun _ _ _ h => h) (by rfl) hHeld ?_ ?_
            rotate_left 1
            · (intro w hSw; (try dsimp only at hSw); go_simp; try with_reducible rfl)
            simp only [Act.put, List.setIfInBounds_toArray, List.set_cons_zero, List.set_cons_succ]
            refine regTake 3 (some 49) (v := ?_) rfl rfl (by kernel_rfl) (by kernel_rfl) (by kernel_rfl) (fun _ _ _ h => h) (by rfl) hHeld ?_ ?_
            rotate_left 1
            · (intro w hSw; (try dsimp only at hSw); go_simp; try with_reducible rfl)
            simp only [Act.put, List.setIfInBounds_toArray, List.set_cons_zero, List.set_cons_succ]
            refine regTake 4 (some 50) (v := ?_) rfl rfl (by kernel_rfl) (by kernel_rfl) (by kernel_rfl) (fun _ _ _ h => h) (by rfl) hHeld ?_ ?_
            rotate_left 1
            · (intro w hSw; (try dsimp only at hSw); go_simp; try with_reducible rfl)
            simp only [Act.put, List.setIfInBounds_toArray, List.set_cons_zero, List.set_cons_succ]
            refine regTake 5 (some 51) (v := ?_) rfl rfl (by kernel_rfl) (by kernel_rfl) (by kernel_rfl) (fun _ _ _ h => h) (by rfl) hHeld ?_ ?_
            rotate_left 1
            · (intro w hSw; (try dsimp only at hSw); go_simp; try with_reducible rfl)
            simp only [Act.put, List.setIfInBounds_toArray, List.set_cons_zero, List.set_cons_succ]
            refine regTake 6 (some 52) (v := ?_) rfl rfl (by kernel_rfl) (by kernel_rfl) (by kernel_rfl) (fun _ _ _ h => h) (by rfl) hHeld ?_ ?_
            rotate_left 1
            · (intro w hSw; (try dsimp only at hSw); go_simp; try with_reducible rfl)
            simp only [Act.put, List.setIfInBounds_toArray, List.set_cons_zero, List.set_cons_succ]
            refine regTake 7 (some 53) (v := ?_) rfl rfl (by kernel_rfl) (by kernel_rfl) (by kernel_rfl) (fun _ _ _ h => h) (by rfl) hHeld ?_ ?_
            rotate_left 1
            · (intro w hSw; (try dsimp only at hSw); go_simp; try with_reducible rfl)
            simp only [Act.put, List.setIfInBounds_toArray, List.set_cons_zero, List.set_cons_succ]
            refine regCall 8 (some 54) (f := 11) (args := ?_) rfl rfl (by kernel_rfl) (by rfl) ?_ ?_
            rotate_left 1
            · (go_simp; try with_reducible rfl)
            refine (C.out _).mono ?_
            rintro e wx8 ⟨rfl, hb⟩
            refine ⟨_, rfl, ⟨HC.out _ (Has.call hHeld.2.1.out hb), Lib.hid (Has.call hHeld.2.1.out hb), Lib.hid (hHeld.2.2.out.trans (hb.mono hHeld.2.2.out.size))⟩, fun hHeld => ?_⟩
            simp only [Act.put, List.setIfInBounds_toArray, List.set_cons_zero, List.set_cons_succ]
            refine regTake 9 (some 55) (v := ?_) rfl rfl (by kernel_rfl) (by kernel_rfl) (by kernel_rfl) (fun _ _ _ h => h) (by rfl) hHeld ?_ ?_
            rotate_left 1
            · (intro w hSw; (try dsimp only at hSw); go_simp; try with_reducible rfl)
            simp only [Act.put, List.setIfInBounds_toArray, List.set_cons_zero, List.set_cons_succ]
            refine regTake 10 (some 56) (v := ?_) rfl rfl (by kernel_rfl) (by kernel_rfl) (by kernel_rfl) (fun _ _ _ h => h) (by rfl) hHeld ?_ ?_
            rotate_left 1
            · (intro w hSw; (try dsimp only at hSw); go_simp; try with_reducible rfl)
            simp only [Act.put, List.setIfInBounds_toArray, List.set_cons_zero, List.set_cons_succ]
            refine wpAnyH_done (by kernel_rfl) ?_ _
            obtain ⟨_, HA8, HW8⟩ := hHeld
            go_wp2_with fail
            go_meet
            exact ⟨rfl, HA8, HW8⟩
          case rest =>
            obtain ⟨rfl, HA7, HW7⟩ := hcut
            go_wp2_with fail
            refine ⟨⟨i + 1, by omega, by go_num, HA7.out, HW7.out⟩, ?_⟩
            simp [intOf]
            omega
  case rest =>
    clear HW5 HA4 Zm1 Zm2 Zm3 ML Zhr0 Zhr2
    rename World => wz
    have HWz := hcut
    clear hcut
    go_wp2_with fail
    refine (Zmk.out _).mono ?_
    rintro en x6 ⟨rfl, rfl⟩
    rename World => wz
    cases kB with
    | false =>
      obtain ⟨rfl, rfl, rfl, rfl⟩ := Zhk0.out rfl
      go_wp2_with fail
      go_ret
      exact ⟨rfl, HWz.out⟩
    | true =>
      have hg := Zhk1.out rfl
      subst hg
      have CN := Lib.hid (Zhk2.out rfl)
      have C3 := Lib.hid (Zhk3.out rfl)
      have C4 := Lib.hid (Zhk4.out rfl)
      have C5 := Lib.hid (Zhk5.out rfl)
      clear Zhk0 Zhk1 Zhk2 Zhk3 Zhk4 Zhk5
      have hkk : (k == k) = true := by simp
      go_wp2_with fail
      refine (CN.out _).mono ?_
      rintro en x7 ⟨rfl, hb⟩
      have HW7 : Hid (Below w.heap.size w x7) := Lib.hid (HWz.out.trans (hb.mono HWz.out.size))
      clear hb HWz
      go_wp2_with fail
      refine (Zmr.out _).mono ?_
      rintro en x8 ⟨rfl, rfl⟩
      rename World => x7
      cases rB with
      | false =>
        obtain ⟨rfl, rfl⟩ := C3.out rfl
        go_wp2_with fail
        go_ret
        exact ⟨rfl, HW7.out⟩
      | true =>
        have he := C4.out rfl
        subst he
        have C6 := Lib.hid (C5.out rfl)
        clear C3 C4 C5
        have haa : (a == a) = true := by simp
        go_wp2_with fail
        refine (C6.out _).mono ?_
        rintro en x9 ⟨rfl, hb⟩
        have HW9 : Hid (Below w.heap.size w x9) := Lib.hid (HW7.out.trans (hb.mono HW7.out.size))
        clear hb
        go_wp2_with fail
        go_ret
        exact ⟨rfl, HW9.out⟩

theorem getD7 (j i : Nat) (h : i < 7) : [fac 0 j, fac 1 j, fac 2 j, fac 3 j, fac 4 j, fac 5 j, fac 6 j].getD i 0 = fac i j := by
  rcases (by omega : i = 0 ∨ i = 1 ∨ i = 2 ∨ i = 3 ∨ i = 4 ∨ i = 5 ∨ i = 6) with rfl | rfl | rfl | rfl | rfl | rfl | rfl <;> rfl
set_option maxRecDepth 100000 in
theorem ftells_walk (kind n v : Int) (_ : IsInt kind) (_ : IsInt n) (hv : IsInt v) (w : World) :
    Calls Try.prog 3 #[.int .i64 kind, .int .i64 n, .int .i64 v] w fun en w' => en = .returned (.bool true) ∧ Below w.heap.size w w' := by
  have mr := rows_any n
  have mk := kind_any kind
  cases hk : kindB kind with
  | false =>
    rw [hk] at mk
    cases hn : rowsB n with
    | false =>
      rw [hn] at mr
      exact ftells_core kind n v false false 0 1 0 0 0 0 0 0 0 3 0 1 w (factor_nokind kind n hk) (all_norow n hn) (nearest_nokind kind v hk) mr mk (fun _ => ⟨rfl, rfl, rfl, rfl, rfl, rfl, rfl, rfl⟩) (fun h => Bool.noConfusion h) (fun h => Bool.noConfusion h) (fun _ => ⟨rfl, rfl, rfl, rfl⟩)
        (fun h => Bool.noConfusion h) (fun h => Bool.noConfusion h) (fun h => Bool.noConfusion h) (fun h => Bool.noConfusion h) (fun h => Bool.noConfusion h)
    | true =>
      rw [hn] at mr
      have hr := rowsB_t hn
      obtain ⟨J, hJ⟩ : ∃ J : Nat, n = (J : Int) + 2 := ⟨(n - 2).toNat, by omega⟩
      have hJ9 : J < 9 := by omega
      subst hJ
      exact ftells_core kind _ v false true 0 1 (fac 0 J) (fac 1 J) (fac 2 J) (fac 3 J) (fac 4 J) (fac 5 J) (fac 6 J) 0 0 1 w (factor_nokind kind _ hk) (all_any J hJ9) (nearest_nokind kind v hk) mr mk (fun h => Bool.noConfusion h) (fun _ => rfl)
        (fun _ i x hi hx w => rfactor_any i J _ x hi hJ9 rfl (hx.trans (getD7 J i hi)) w) (fun _ => ⟨rfl, rfl, rfl, rfl⟩)
        (fun h => Bool.noConfusion h) (fun h => Bool.noConfusion h) (fun h => Bool.noConfusion h) (fun h => Bool.noConfusion h) (fun h => Bool.noConfusion h)
  | true =>
    rw [hk] at mk
    have hK := kindB_t hk
    obtain ⟨K, hKK⟩ : ∃ K : Nat, kind = (K : Int) := ⟨kind.toNat, by omega⟩
    have hK7 : K < 7 := by omega
    subst hKK
    cases hn : rowsB n with
    | false =>
      rw [hn] at mr
      exact ftells_core _ n v true false 0 3 0 0 0 0 0 0 0 3 _ 0 w (factor_norow _ n hk hn) (all_norow n hn) (fun w => nearest_any K v hK7 hv w) mr mk (fun _ => ⟨rfl, rfl, rfl, rfl, rfl, rfl, rfl, rfl⟩) (fun h => Bool.noConfusion h) (fun h => Bool.noConfusion h) (fun h => Bool.noConfusion h)
        (fun _ => rfl) (fun _ w => rnearest_any K v hK7 hv w) (fun _ _ => ⟨rfl, rfl⟩) (fun _ h => Bool.noConfusion h) (fun _ h => Bool.noConfusion h)
    | true =>
      rw [hn] at mr
      have hr := rowsB_t hn
      obtain ⟨J, hJ⟩ : ∃ J : Nat, n = (J : Int) + 2 := ⟨(n - 2).toNat, by omega⟩
      have hJ9 : J < 9 := by omega
      subst hJ
      exact ftells_core _ _ v true true (fac K J) 0 (fac 0 J) (fac 1 J) (fac 2 J) (fac 3 J) (fac 4 J) (fac 5 J) (fac 6 J) 0 _ 0 w (fun w => factor_any K J hK7 hJ9 w) (all_any J hJ9) (fun w => nearest_any K v hK7 hv w) mr mk (fun h => Bool.noConfusion h) (fun _ => rfl)
        (fun _ i x hi hx w => rfactor_any i J _ x hi hJ9 rfl (hx.trans (getD7 J i hi)) w) (fun h => Bool.noConfusion h)
        (fun _ => rfl) (fun _ w => rnearest_any K v hK7 hv w) (fun _ h => Bool.noConfusion h) (fun _ _ => rfl) (fun _ _ w => rfactor_any K J _ _ hK7 hJ9 rfl rfl w)
end Go.Proofs.Ytnfbgpcilnlpjaa
