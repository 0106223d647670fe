/- The reference of stage 14: Tell, Exact. -/
import Derived.Test.YtjonpcpcokapkaaNelH
import Derived.LoopTactic
namespace Go.Proofs.Ytjonpcpcokapkaa
open Go.RowKit

/-- Eight ints, the first i written. -/
def telC (T : Nat → Int) (i : Nat) : List Value := [.int .i64 (if 0 < i then T 1 else 0), .int .i64 (if 1 < i then T 2 else 0), .int .i64 (if 2 < i then T 3 else 0), .int .i64 (if 3 < i then T 4 else 0), .int .i64 (if 4 < i then T 5 else 0), .int .i64 (if 5 < i then T 6 else 0), .int .i64 (if 6 < i then T 7 else 0), .int .i64 (if 7 < i then T 8 else 0)]
theorem telC_set (T : Nat → Int) (i : Nat) (h : i < 8) : (telC T i).set i (.int .i64 (T (i + 1))) = telC T (i + 1) := by
  rcases (by omega : i = 0 ∨ i = 1 ∨ i = 2 ∨ i = 3 ∨ i = 4 ∨ i = 5 ∨ i = 6 ∨ i = 7) with rfl | rfl | rfl | rfl | rfl | rfl | rfl | rfl <;> rfl
theorem telC_one (T : Nat → Int) (i : Nat) : (telC T i).toArray.all (·.oneCell') = true := by simp [telC, Value.oneCell']
theorem telC_some (T : Nat → Int) (i k : Nat) (h : k < 8) : ∃ x, (telC T i)[k]? = some (.int .i64 x) := by
  rcases (by omega : k = 0 ∨ k = 1 ∨ k = 2 ∨ k = 3 ∨ k = 4 ∨ k = 5 ∨ k = 6 ∨ k = 7) with rfl | rfl | rfl | rfl | rfl | rfl | rfl | rfl <;> exact ⟨_, rfl⟩
theorem size8 : ((Try.prog).info? 31).map (·.size) = some 8 := by kernel_rfl
def TelRel (T : Nat → Int) (w : World) (y : Value) (wr : World) : Prop :=
  ∃ i : Nat, i ≤ 8 ∧ y = .int .i64 (i : Nat) ∧ Has wr w.heap.size (telC T 0) 31 ∧ Has wr (w.heap.size + 1) (telC T i) 31 ∧ Below w.heap.size w wr
set_option linter.unusedSimpArgs false in
set_option maxHeartbeats 8000000 in
set_option maxRecDepth 100000 in
theorem rtell14_core (T : Nat → Int) (v : Value) (w : World) (hT : ∀ r : Nat, 1 ≤ r → r ≤ 8 → ∀ W, Below w.heap.size w W → Calls Try.prog 30 #[.int .i64 (r : Nat), v] W fun e w' => e = .returned (.int .i64 (T r)) ∧ Below W.heap.size W w') :
    Calls Try.prog 19 #[v] w fun e w' => e = .returned (.agg (telC T 8).toArray) ∧ Below w.heap.size w w' := by
  have MT := Lib.hid hT
  have hS := Lib.hid (show TelRel T w (.int .i64 0) ((w.alloc (.cells #[.int .i64 0, .int .i64 0, .int .i64 0, .int .i64 0, .int .i64 0, .int .i64 0, .int .i64 0, .int .i64 0] 31)).alloc (.cells #[.int .i64 0, .int .i64 0, .int .i64 0, .int .i64 0, .int .i64 0, .int .i64 0, .int .i64 0, .int .i64 0] 31)) by
    have h1 := Has.new w (telC T 0) 31
    have h3 := Has.new (w.alloc (.cells (telC T 0).toArray 31)) (telC T 0) 31
    have e1 : (w.alloc (.cells (telC T 0).toArray 31)).heap.size = w.heap.size + 1 := by simp
    rw [e1] at h3
    exact ⟨0, by omega, rfl, h1.alloc _, h3, ((Below.refl _ _).alloc (Nat.le_refl _) _).alloc (by simp) _⟩)
  clear hT
  go_enter Try.func19, Try.ntmps19
  go_wp2_with fail
  go_loopw [4] (TelRel T w) (fun y _ => 8 - (intOf y).toNat)
  case atStart => exact hS.out
  case round =>
    obtain ⟨i, hi, rfl, hR, hA, hb⟩ := hrel
    have HR := Lib.hid hR
    have HA := Lib.hid hA
    have HW := Lib.hid hb
    clear hR hA hb
    by_cases h8 : i = 8
    · subst h8
      have hO1 := telC_one T 8
      have hRg : wr.rangeAt (w.heap.size + 1) 0 (telC T 8) := HA.out.range
      have hTh : wr.there w.heap.size 0 (telC T 8).toArray.size := HR.out.midThere 0 8 (by simp [telC])
      have hN : Has (wr.setCells w.heap.size 0 (telC T 8)) w.heap.size (telC T 8) 31 := HR.out.sets _ rfl
      have hBl : Below w.heap.size w (wr.setCells w.heap.size 0 (telC T 8)) := Below.sets HW.out (Nat.le_refl _) _ _
      have s7 : ((Try.prog).info? 31).map (·.size) = some (telC T 8).length := size8
      have hL : (loadVar 31 ⟨w.heap.size, 0, none⟩).run Try.prog (wr.setCells w.heap.size 0 (telC T 8)) = .ok (.agg (telC T 8).toArray) (wr.setCells w.heap.size 0 (telC T 8)) := run_loadVar_mid _ _ _ _ _ _ hN.range Try.underlying31 rfl s7
      have S7 := Lib.hid s7
      have HT := Lib.hid hTh
      have HO := Lib.hid hO1
      have HG := Lib.hid hRg
      clear s7 hTh hO1 hRg
      obtain ⟨L, hLd⟩ : ∃ L, L = telC T 8 := ⟨_, rfl⟩
      rw [← hLd] at S7 HT HO HG hN hBl hL
      have HLd := Lib.hid hLd
      clear hLd
      go_wp2_with (first | (refine wpList_load_mid rfl 31 _ rfl (w.heap.size + 1) 0 rfl L _ HG.out Try.underlying31 rfl S7.out ?_) | (refine wpList_store_mid rfl 31 _ _ rfl w.heap.size 0 L.toArray rfl rfl HT.out S7.out HO.out ?_))
      have hLd := HLd.out
      subst hLd
      exact bodyPost_ret (resCellS Try.results19 rfl hL) rfl ⟨rfl, hBl⟩
    · obtain ⟨y, hy⟩ : ∃ y, y = T (i + 1) := ⟨_, rfl⟩
      have HS : Hid ((telC T i).set i (.int .i64 y) = telC T (i + 1)) := Lib.hid (hy ▸ telC_set T i (by omega))
      obtain ⟨u, hu⟩ := telC_some T i i (by omega)
      have HU := Lib.hid hu
      have C := Lib.hid (show Calls Try.prog 30 #[.int .i64 ((i : Int) + 1), v] wr fun e w' => e = .returned (.int .i64 y) ∧ Below wr.heap.size wr w' from hy ▸ MT.out (i + 1) (by omega) (by omega) wr HW.out)
      clear hy hu
      have hlt : (i : Int) < 8 := by omega
      have hib : i < 8 := by omega
      go_wp2_with fail
      refine C.out.mono ?_
      rintro e w1 ⟨rfl, k1⟩
      have HW1 := Lib.hid (HW.out.trans (k1.mono HW.out.size))
      have HR1 := Lib.hid (HR.out.call k1)
      have HA1 := Lib.hid (HA.out.call k1)
      clear k1 HW HR HA C
      have c0 : w1.cell? ⟨w.heap.size + 1, i, none⟩ = some (.int .i64 u) := (HA1.out.cell i).trans HU.out
      have f0 : w1.frozen? ⟨w.heap.size + 1, i, none⟩ = false := HA1.out.frozen i
      go_wp2_with fail
      have hN : Has (w1.setCell ⟨w.heap.size + 1, i, none⟩ (.int .i64 y)) (w.heap.size + 1) (telC T (i + 1)) 31 := by
        rw [← HS.out]
        exact HA1.out.set i (.int .i64 y)
      refine ⟨⟨i + 1, by omega, by go_num, HR1.out.other (by simp) _, hN, HW1.out.setCell (by simp) _⟩, ?_⟩
      simp [intOf]
      omega
def tellV (ms : List Int) : Value := .agg (telC (fun r => tellN r ms) 8).toArray
theorem rtell14_any (ms : List Int) (h15 : ms.length ≤ 15) (v : Value) (w : World) (hr : ReadsI w v ms) :
    Calls Try.prog 19 #[v] w fun e w' => e = .returned (tellV ms) ∧ Below w.heap.size w w' :=
  rtell14_core (fun r => tellN r ms) v w fun r h1 h8 W hb => rule14_any r h1 h8 ms h15 v W (hr.below hb)
/-! ### Exact -/
def exaC (T : Nat → Bool) (i : Nat) : List Value := [.bool (if 0 < i then T 1 else false), .bool (if 1 < i then T 2 else false), .bool (if 2 < i then T 3 else false), .bool (if 3 < i then T 4 else false), .bool (if 4 < i then T 5 else false), .bool (if 5 < i then T 6 else false), .bool (if 6 < i then T 7 else false), .bool (if 7 < i then T 8 else false)]
theorem exaC_set (T : Nat → Bool) (i : Nat) (h : i < 8) : (exaC T i).set i (.bool (T (i + 1))) = exaC T (i + 1) := by
  rcases (by omega : i = 0 ∨ i = 1 ∨ i = 2 ∨ i = 3 ∨ i = 4 ∨ i = 5 ∨ i = 6 ∨ i = 7) with rfl | rfl | rfl | rfl | rfl | rfl | rfl | rfl <;> rfl
theorem exaC_one (T : Nat → Bool) (i : Nat) : (exaC T i).toArray.all (·.oneCell') = true := by simp [exaC, Value.oneCell']
theorem exaC_some (T : Nat → Bool) (i k : Nat) (h : k < 8) : ∃ x, (exaC T i)[k]? = some (.bool x) := by
  rcases (by omega : k = 0 ∨ k = 1 ∨ k = 2 ∨ k = 3 ∨ k = 4 ∨ k = 5 ∨ k = 6 ∨ k = 7) with rfl | rfl | rfl | rfl | rfl | rfl | rfl | rfl <;> exact ⟨_, rfl⟩
theorem size8b : ((Try.prog).info? 24).map (·.size) = some 8 := by kernel_rfl
def ExaRel (T : Nat → Bool) (w : World) (y : Value) (wr : World) : Prop :=
  ∃ i : Nat, i ≤ 8 ∧ y = .int .i64 (i : Nat) ∧ Has wr w.heap.size (exaC T 0) 24 ∧ Has wr (w.heap.size + 1) (exaC T i) 24 ∧ Below w.heap.size w wr
theorem tel_at (T : Nat → Int) (i : Nat) (hi : i < 8) (w : World) : (Instr.index 31 (.agg (telC T 8).toArray) (.int .i64 (i : Nat))).run Try.prog w = .ok (.int .i64 (T (i + 1))) w := by
  rcases (by omega : i = 0 ∨ i = 1 ∨ i = 2 ∨ i = 3 ∨ i = 4 ∨ i = 5 ∨ i = 6 ∨ i = 7) with rfl | rfl | rfl | rfl | rfl | rfl | rfl | rfl <;> kernel_rfl
set_option linter.unusedSimpArgs false in
set_option maxHeartbeats 8000000 in
set_option maxRecDepth 100000 in
theorem rexact14_core (T : Nat → Int) (ls : List Int) (v : Value) (w : World)
    (hs : ∀ W, Below w.heap.size w W → Calls Try.prog 21 #[v] W fun e w' => ∃ v', e = .returned v' ∧ ReadsI w' v' ls ∧ Below W.heap.size W w')
    (hT : ∀ W v', ReadsI W v' ls → Calls Try.prog 19 #[v'] W fun e w' => e = .returned (.agg (telC T 8).toArray) ∧ Below W.heap.size W w') :
    Calls Try.prog 12 #[v] w fun e w' => e = .returned (.agg (exaC (fun r => T r == 2) 8).toArray) ∧ Below w.heap.size w w' := by
  obtain ⟨X, hX⟩ : ∃ X : Nat → Bool, (fun r => T r == 2) = X := ⟨_, rfl⟩
  rw [hX]
  have hXr : ∀ r, (T r == 2) = X r := fun r => by rw [← hX]
  obtain ⟨TV, hTV⟩ : ∃ V, Value.agg (telC T 8).toArray = V := ⟨_, rfl⟩
  rw [hTV] at hT
  have HTV := Lib.hid hTV
  clear hTV
  have MS := Lib.hid hs; have MT := Lib.hid hT; have HX := Lib.hid hXr
  have h0 := Lib.hid (show Has ((w.alloc (.cells #[.bool false, .bool false, .bool false, .bool false, .bool false, .bool false, .bool false, .bool false] 24)).alloc (.cells #[.bool false, .bool false, .bool false, .bool false, .bool false, .bool false, .bool false, .bool false] 24)) w.heap.size (exaC X 0) 24 from (Has.new w (exaC X 0) 24).alloc _)
  have h1 := Lib.hid (show Has ((w.alloc (.cells #[.bool false, .bool false, .bool false, .bool false, .bool false, .bool false, .bool false, .bool false] 24)).alloc (.cells #[.bool false, .bool false, .bool false, .bool false, .bool false, .bool false, .bool false, .bool false] 24)) (w.heap.size + 1) (exaC X 0) 24 by
    have h3 := Has.new (w.alloc (.cells (exaC X 0).toArray 24)) (exaC X 0) 24
    have e1 : (w.alloc (.cells (exaC X 0).toArray 24)).heap.size = w.heap.size + 1 := by simp
    rw [e1] at h3
    exact h3)
  obtain ⟨w2, hw2⟩ : ∃ w2, (w.alloc (.cells #[.bool false, .bool false, .bool false, .bool false, .bool false, .bool false, .bool false, .bool false] 24)).alloc (.cells #[.bool false, .bool false, .bool false, .bool false, .bool false, .bool false, .bool false, .bool false] 24) = w2 := ⟨_, rfl⟩
  have HB2 := Lib.hid (show Below w.heap.size w w2 by rw [← hw2]; exact ((Below.refl _ _).alloc (Nat.le_refl _) _).alloc (by simp) _)
  rw [hw2] at h0 h1
  have HW2 := Lib.hid hw2
  clear hs hT hXr hX hw2
  go_enter Try.func12, Try.ntmps12
  go_upto_region 2 with fail
  rw [HW2.out]
  go_wp2_with fail
  refine (MS.out w2 HB2.out).mono ?_
  rintro e w3 ⟨v3, rfl, hv3, k3⟩
  have HMT := Lib.hid (MT.out w3 v3 hv3)
  have HB3 := Lib.hid (HB2.out.trans (k3.mono HB2.out.size))
  have H03 := Lib.hid (h0.out.call k3); have H13 := Lib.hid (h1.out.call k3)
  clear hv3 k3
  go_wp2_with fail
  refine HMT.out.mono ?_
  rintro e w4 ⟨rfl, k4⟩
  have HB4 := Lib.hid (HB3.out.trans (k4.mono HB3.out.size))
  have hS := Lib.hid (show ExaRel X w (.int .i64 0) w4 from ⟨0, by omega, rfl, H03.out.call k4, H13.out.call k4, HB4.out⟩)
  clear k4
  go_wp2
  go_loopw [10] (ExaRel X w) (fun y _ => 8 - (intOf y).toNat)
  case atStart => exact hS.out
  case round =>
    obtain ⟨i, hi, rfl, hR, hA, hb⟩ := hrel
    have HR := Lib.hid hR
    have HA := Lib.hid hA
    have HW := Lib.hid hb
    clear hR hA hb
    by_cases h8 : i = 8
    · subst h8
      have hO1 := exaC_one X 8
      have hRg : wr.rangeAt (w.heap.size + 1) 0 (exaC X 8) := HA.out.range
      have hTh : wr.there w.heap.size 0 (exaC X 8).toArray.size := HR.out.midThere 0 8 (by simp [exaC])
      have hN : Has (wr.setCells w.heap.size 0 (exaC X 8)) w.heap.size (exaC X 8) 24 := HR.out.sets _ rfl
      have hBl : Below w.heap.size w (wr.setCells w.heap.size 0 (exaC X 8)) := Below.sets HW.out (Nat.le_refl _) _ _
      have s7 : ((Try.prog).info? 24).map (·.size) = some (exaC X 8).length := size8b
      have hL : (loadVar 24 ⟨w.heap.size, 0, none⟩).run Try.prog (wr.setCells w.heap.size 0 (exaC X 8)) = .ok (.agg (exaC X 8).toArray) (wr.setCells w.heap.size 0 (exaC X 8)) := run_loadVar_mid _ _ _ _ _ _ hN.range Try.underlying24 rfl s7
      have S7 := Lib.hid s7
      have HT := Lib.hid hTh
      have HO := Lib.hid hO1
      have HG := Lib.hid hRg
      clear s7 hTh hO1 hRg
      obtain ⟨L, hLd⟩ : ∃ L, L = exaC X 8 := ⟨_, rfl⟩
      rw [← hLd] at S7 HT HO HG hN hBl hL
      have HLd := Lib.hid hLd
      clear hLd
      go_wp2_with (first | (refine wpList_load_mid rfl 24 _ rfl (w.heap.size + 1) 0 rfl L _ HG.out Try.underlying24 rfl S7.out ?_) | (refine wpList_store_mid rfl 24 _ _ rfl w.heap.size 0 L.toArray rfl rfl HT.out S7.out HO.out ?_))
      have hLd := HLd.out
      subst hLd
      exact bodyPost_ret (resCellS Try.results12 rfl hL) rfl ⟨rfl, hBl⟩
    · have hlt : (i : Int) < 8 := by omega
      have hib : i < 8 := by omega
      obtain ⟨x, hx⟩ : ∃ x, x = T (i + 1) := ⟨_, rfl⟩
      obtain ⟨y, hy⟩ : ∃ y, y = X (i + 1) := ⟨_, rfl⟩
      have hxy : (x == 2) = y := by rw [hx, hy]; exact HX.out (i + 1)
      have HS : Hid ((exaC X i).set i (.bool y) = exaC X (i + 1)) := Lib.hid (hy ▸ exaC_set X i hib)
      have hix : ∀ W, (Instr.index 31 TV (.int .i64 (i : Nat))).run Try.prog W = .ok (.int .i64 x) W := fun W => by rw [hx, ← HTV.out]; exact tel_at T i hib W
      obtain ⟨u, hu⟩ := exaC_some X i i hib
      have c0 : wr.cell? ⟨w.heap.size + 1, i, none⟩ = some (.bool u) := (HA.out.cell i).trans hu
      have f0 : wr.frozen? ⟨w.heap.size + 1, i, none⟩ = false := HA.out.frozen i
      clear hx hy hu h8 hi
      go_wp2_with fail
      have hN : Has (wr.setCell ⟨w.heap.size + 1, i, none⟩ (.bool y)) (w.heap.size + 1) (exaC X (i + 1)) 24 := by
        rw [← HS.out]
        exact HA.out.set i (.bool y)
      refine ⟨⟨i + 1, by omega, by go_num, HR.out.other (by simp) _, hN, HW.out.setCell (by simp) _⟩, ?_⟩
      simp [intOf]
      omega
end Go.Proofs.Ytjonpcpcokapkaa
