/- The law SpanTight, walked: where sum, difference and product are met as the closure asks, it answers true; nothing that was in memory before is changed. -/
import Derived.Test.YtacnaencmbnjpaaAlive5
import Derived.Test.YtacnaencmbnjpaaMem
import Derived.Deep.LoopGhost
namespace Go.Proofs.Ytacnaencmbnjpaa
open Go.RowKit

theorem met_ok (w : World) :
    Calls Try.prog 30 #[.int .i64 0, .bool false, .agg #[.bool true, .bool true]] w fun en w' => en = .returned (.bool true) ∧ Below w.heap.size w w' := by
  go_enter Try.func30, Try.ntmps30
  go_wp2_with fail
  go_ret
  exact ⟨rfl, (Below.refl _ _).alloc (Nat.le_refl _) _⟩
theorem met_over (x y : Bool) (w : World) :
    Calls Try.prog 30 #[.int .i64 5, .bool true, .agg #[.bool x, .bool y]] w fun en w' => en = .returned (.bool true) ∧ Below w.heap.size w w' := by
  go_enter Try.func30, Try.ntmps30
  go_wp2_with fail
  go_ret
  exact ⟨rfl, (Below.refl _ _).alloc (Nat.le_refl _) _⟩
/-- Whether one of the first k is no int; whether one that is told is v. -/
def ovT (z : Nat → Int) : Nat → Bool
  | 0 => false
  | k + 1 => ovT z k || (err (z k) != 0)
def eqT (z : Nat → Int) (v : Int) : Nat → Bool
  | 0 => false
  | k + 1 => eqT z v k || (ans (z k) == v)
set_option maxRecDepth 100000 in
set_option maxHeartbeats 4000000 in
theorem stight_core (a b c d p q r s S0 S1 Se T0 T1 Te U0 U1 Ue : Int) (zA zS zU : Nat → Int) (w : World) (hp : min a b = p) (hq : max a b = q) (hr : min c d = r) (hs : max c d = s)
    (mzA : ∀ w, Calls Try.prog 9 #[.agg #[.int .i64 p, .int .i64 q], .agg #[.int .i64 r, .int .i64 s]] w fun en w' => en = .returned (.tuple #[.agg #[.int .i64 S0, .int .i64 S1], .int .i64 Se]) ∧ Below w.heap.size w w')
    (nzA : ∀ i, i < 4 → ∀ w, Calls Try.prog 26 #[.int .i64 (cX p q i), .int .i64 (cY r s i)] w fun en w' => en = .returned (.tuple #[.int .i64 (ans (zA i)), .int .i64 (err (zA i))]) ∧ Below w.heap.size w w')
    (ozA : ∀ w, Calls Try.prog 30 #[.int .i64 Se, .bool (ovT zA 4), .agg #[.bool (eqT zA S0 4), .bool (eqT zA S1 4)]] w fun en w' => en = .returned (.bool true) ∧ Below w.heap.size w w')
    (mzS : ∀ w, Calls Try.prog 10 #[.agg #[.int .i64 p, .int .i64 q], .agg #[.int .i64 r, .int .i64 s]] w fun en w' => en = .returned (.tuple #[.agg #[.int .i64 T0, .int .i64 T1], .int .i64 Te]) ∧ Below w.heap.size w w')
    (nzS : ∀ i, i < 4 → ∀ w, Calls Try.prog 27 #[.int .i64 (cX p q i), .int .i64 (cY r s i)] w fun en w' => en = .returned (.tuple #[.int .i64 (ans (zS i)), .int .i64 (err (zS i))]) ∧ Below w.heap.size w w')
    (ozS : ∀ w, Calls Try.prog 30 #[.int .i64 Te, .bool (ovT zS 4), .agg #[.bool (eqT zS T0 4), .bool (eqT zS T1 4)]] w fun en w' => en = .returned (.bool true) ∧ Below w.heap.size w w')
    (mzU : ∀ w, Calls Try.prog 19 #[.agg #[.int .i64 p, .int .i64 q], .agg #[.int .i64 r, .int .i64 s]] w fun en w' => en = .returned (.tuple #[.agg #[.int .i64 U0, .int .i64 U1], .int .i64 Ue]) ∧ Below w.heap.size w w')
    (nzU : ∀ i, i < 4 → ∀ w, Calls Try.prog 28 #[.int .i64 (cX p q i), .int .i64 (cY r s i)] w fun en w' => en = .returned (.tuple #[.int .i64 (ans (zU i)), .int .i64 (err (zU i))]) ∧ Below w.heap.size w w')
    (ozU : ∀ w, Calls Try.prog 30 #[.int .i64 Ue, .bool (ovT zU 4), .agg #[.bool (eqT zU U0 4), .bool (eqT zU U1 4)]] w fun en w' => en = .returned (.bool true) ∧ Below w.heap.size w w') :
    Calls Try.prog 6 #[.int .i64 a, .int .i64 b, .int .i64 c, .int .i64 d] w fun en w' => en = .returned (.bool true) ∧ Below w.heap.size w w' := by
  have MzA := Lib.hid mzA; have NzA := Lib.hid nzA; have OzA := Lib.hid ozA
  have MzS := Lib.hid mzS; have NzS := Lib.hid nzS; have OzS := Lib.hid ozS
  have MzU := Lib.hid mzU; have NzU := Lib.hid nzU; have OzU := Lib.hid ozU
  clear mzA nzA ozA mzS nzS ozS mzU nzU ozU
  have eM := enters_of Try.func30 (by kernel_rfl) rfl
  go_enter Try.func6, Try.ntmps6
  go_wp2_with fail
  refine (MzA.out _).mono ?_
  rintro e w1 ⟨rfl, hb⟩
  have HMw1 := Lib.hid ((((Mem.start w).new w.heap.size _ _ rfl).new (w.heap.size + 1) _ _ (by simp)).call hb)
  clear hb
  clear hp hq hr hs
  have lone : w.heap.size < w1.heap.size := HMw1.out.lt 1 rfl
  have cone0 : w1.cell? ⟨w.heap.size, 0, none⟩ = some (.int .i64 p) := HMw1.out.cell 1 rfl rfl
  have cone1 : w1.cell? ⟨w.heap.size, 1, none⟩ = some (.int .i64 q) := HMw1.out.cell 1 rfl rfl
  have ltwo : (w.heap.size + 1) < w1.heap.size := HMw1.out.lt 0 rfl
  have ctwo0 : w1.cell? ⟨(w.heap.size + 1), 0, none⟩ = some (.int .i64 r) := HMw1.out.cell 0 rfl rfl
  have ctwo1 : w1.cell? ⟨(w.heap.size + 1), 1, none⟩ = some (.int .i64 s) := HMw1.out.cell 0 rfl rfl
  go_wp2_with fail
  refine (MzS.out _).mono ?_
  rintro e w2 ⟨rfl, hb⟩
  have HMw2 := Lib.hid ((HMw1.out.new w1.heap.size _ _ rfl).call hb)
  clear hb lone cone0 cone1 ltwo ctwo0 ctwo1 HMw1
  have lone : w.heap.size < w2.heap.size := HMw2.out.lt 2 rfl
  have cone0 : w2.cell? ⟨w.heap.size, 0, none⟩ = some (.int .i64 p) := HMw2.out.cell 2 rfl rfl
  have cone1 : w2.cell? ⟨w.heap.size, 1, none⟩ = some (.int .i64 q) := HMw2.out.cell 2 rfl rfl
  have ltwo : (w.heap.size + 1) < w2.heap.size := HMw2.out.lt 1 rfl
  have ctwo0 : w2.cell? ⟨(w.heap.size + 1), 0, none⟩ = some (.int .i64 r) := HMw2.out.cell 1 rfl rfl
  have ctwo1 : w2.cell? ⟨(w.heap.size + 1), 1, none⟩ = some (.int .i64 s) := HMw2.out.cell 1 rfl rfl
  go_wp2_with fail
  refine (MzU.out _).mono ?_
  rintro e w3 ⟨rfl, hb⟩
  have HMw3 := Lib.hid ((HMw2.out.new w2.heap.size _ _ rfl).call hb)
  clear hb lone cone0 cone1 ltwo ctwo0 ctwo1 HMw2
  go_upto_region 7 with fail
  obtain ⟨W7, hW7⟩ : ∃ W7, (((((w3.alloc (.cells #[.int .i64 U0, .int .i64 U1] 23)).alloc (.cells #[.bool false, .bool false] 41)).alloc (.cells #[.bool false, .bool false] 41)).alloc (.cells #[.bool false, .bool false] 41)).alloc (.cells #[.bool false, .bool false, .bool false] 42)) = W7 := ⟨_, rfl⟩
  have HMW7 : Hid (Mem w W7 [((w3.heap.size + 1 + 1 + 1 + 1), #[.bool false, .bool false, .bool false]), ((w3.heap.size + 1 + 1 + 1), #[.bool false, .bool false]), ((w3.heap.size + 1 + 1), #[.bool false, .bool false]), ((w3.heap.size + 1), #[.bool false, .bool false]), (w3.heap.size, #[.int .i64 U0, .int .i64 U1]), (w2.heap.size, #[.int .i64 T0, .int .i64 T1]), (w1.heap.size, #[.int .i64 S0, .int .i64 S1]), ((w.heap.size + 1), #[.int .i64 r, .int .i64 s]), (w.heap.size, #[.int .i64 p, .int .i64 q])]) := Lib.hid (by rw [← hW7]; exact (((((HMw3.out.new w3.heap.size _ _ rfl).new (w3.heap.size + 1) _ _ (by simp)).new (w3.heap.size + 1 + 1) _ _ (by simp)).new (w3.heap.size + 1 + 1 + 1) _ _ (by simp)).new (w3.heap.size + 1 + 1 + 1 + 1) _ _ (by simp)))
  rw [hW7]
  clear hW7 HMw3
  have lone : w.heap.size < W7.heap.size := HMW7.out.lt 8 rfl
  have cone0 : W7.cell? ⟨w.heap.size, 0, none⟩ = some (.int .i64 p) := HMW7.out.cell 8 rfl rfl
  have cone1 : W7.cell? ⟨w.heap.size, 1, none⟩ = some (.int .i64 q) := HMW7.out.cell 8 rfl rfl
  go_wp2_with fail
  go_loopg [71] 2 (fun g i wr => ∃ k : Nat, k ≤ 2 ∧ g = 2 - k ∧ i = .int .i64 k ∧ Hid (Mem w wr [(W7.heap.size, #[.int .i64 p, .int .i64 q]), ((w3.heap.size + 1 + 1 + 1 + 1), #[.bool (ovT zA (2 * k)), .bool (ovT zS (2 * k)), .bool (ovT zU (2 * k))]), ((w3.heap.size + 1 + 1 + 1), #[.bool (eqT zU U0 (2 * k)), .bool (eqT zU U1 (2 * k))]), ((w3.heap.size + 1 + 1), #[.bool (eqT zS T0 (2 * k)), .bool (eqT zS T1 (2 * k))]), ((w3.heap.size + 1), #[.bool (eqT zA S0 (2 * k)), .bool (eqT zA S1 (2 * k))]), (w3.heap.size, #[.int .i64 U0, .int .i64 U1]), (w2.heap.size, #[.int .i64 T0, .int .i64 T1]), (w1.heap.size, #[.int .i64 S0, .int .i64 S1]), ((w.heap.size + 1), #[.int .i64 r, .int .i64 s]), (w.heap.size, #[.int .i64 p, .int .i64 q])]))
  case atStart => exact ⟨0, by omega, by omega, rfl, Lib.hid (HMW7.out.new W7.heap.size _ _ rfl)⟩
  case round =>
    clear lone cone0 cone1 HMW7
    obtain ⟨k, hk, hg, rfl, HMwr⟩ := hrel
    rename World => wa
    by_cases hlt : k < 2
    · have d1 : decide ((k : Int) < 2) = true := by simp; omega
      have lg : W7.heap.size < wa.heap.size := HMwr.out.lt 0 rfl
      have hx : wa.cell? ⟨W7.heap.size, k, none⟩ = some (.int .i64 (cX p q (2 * k))) := by
        rcases (by omega : k = 0 ∨ k = 1) with rfl | rfl
        · exact HMwr.out.cell 0 rfl rfl
        · exact HMwr.out.cell 0 rfl rfl
      have ltwo : (w.heap.size + 1) < wa.heap.size := HMwr.out.lt 8 rfl
      have ctwo0 : wa.cell? ⟨(w.heap.size + 1), 0, none⟩ = some (.int .i64 r) := HMwr.out.cell 8 rfl rfl
      have ctwo1 : wa.cell? ⟨(w.heap.size + 1), 1, none⟩ = some (.int .i64 s) := HMwr.out.cell 8 rfl rfl
      go_wp2_with fail
      go_loopg [81] 2 (fun g i wr => ∃ j : Nat, j ≤ 2 ∧ g = 2 - j ∧ i = .int .i64 j ∧ Hid (Mem w wr [(wa.heap.size, #[.int .i64 r, .int .i64 s]), (W7.heap.size, #[.int .i64 p, .int .i64 q]), ((w3.heap.size + 1 + 1 + 1 + 1), #[.bool (ovT zA (2 * k + j)), .bool (ovT zS (2 * k + j)), .bool (ovT zU (2 * k + j))]), ((w3.heap.size + 1 + 1 + 1), #[.bool (eqT zU U0 (2 * k + j)), .bool (eqT zU U1 (2 * k + j))]), ((w3.heap.size + 1 + 1), #[.bool (eqT zS T0 (2 * k + j)), .bool (eqT zS T1 (2 * k + j))]), ((w3.heap.size + 1), #[.bool (eqT zA S0 (2 * k + j)), .bool (eqT zA S1 (2 * k + j))]), (w3.heap.size, #[.int .i64 U0, .int .i64 U1]), (w2.heap.size, #[.int .i64 T0, .int .i64 T1]), (w1.heap.size, #[.int .i64 S0, .int .i64 S1]), ((w.heap.size + 1), #[.int .i64 r, .int .i64 s]), (w.heap.size, #[.int .i64 p, .int .i64 q])]))
      case atStart => exact ⟨0, by omega, by omega, rfl, Lib.hid (HMwr.out.new wa.heap.size _ _ rfl)⟩
      case round =>
        clear lg hx ltwo ctwo0 ctwo1 HMwr
        obtain ⟨j, hj, hgj, rfl, HMwr⟩ := hrel
        rename World => wi
        by_cases hltj : j < 2
        · have d2 : decide ((j : Int) < 2) = true := by simp; omega
          have lh : wa.heap.size < wi.heap.size := HMwr.out.lt 0 rfl
          have hy : wi.cell? ⟨wa.heap.size, j, none⟩ = some (.int .i64 (cY r s (2 * k + j))) := by
            rcases (by omega : j = 0 ∨ j = 1) with rfl | rfl
            · rw [show cY r s (2 * k + 0) = r by unfold cY; rw [if_pos (by omega)]]; exact HMwr.out.cell 0 rfl rfl
            · rw [show cY r s (2 * k + 1) = s by unfold cY; rw [if_neg (by omega)]]; exact HMwr.out.cell 0 rfl rfl
          have ex : cX p q (2 * k) = cX p q (2 * k + j) := by unfold cX; rcases (by omega : k = 0 ∨ k = 1) with rfl | rfl <;> split <;> split <;> first | rfl | omega
          have hn : 2 * k + j < 4 := by omega
          obtain ⟨n, hnk⟩ : ∃ n, 2 * k + j = n := ⟨_, rfl⟩
          have hnk1 : 2 * k + (j + 1) = n + 1 := by omega
          rw [hnk] at hy hn ex HMwr
          have HN := Lib.hid hnk; have HN1 := Lib.hid hnk1; clear hnk hnk1
          have CzA : Hid (∀ w, Calls Try.prog 26 #[.int .i64 (cX p q (2 * k)), .int .i64 (cY r s n)] w fun en w' => en = .returned (.tuple #[.int .i64 (ans (zA n)), .int .i64 (err (zA n))]) ∧ Below w.heap.size w w') := Lib.hid (fun w => by have := NzA.out n hn w; rwa [← ex] at this)
          have CzS : Hid (∀ w, Calls Try.prog 27 #[.int .i64 (cX p q (2 * k)), .int .i64 (cY r s n)] w fun en w' => en = .returned (.tuple #[.int .i64 (ans (zS n)), .int .i64 (err (zS n))]) ∧ Below w.heap.size w w') := Lib.hid (fun w => by have := NzS.out n hn w; rwa [← ex] at this)
          have CzU : Hid (∀ w, Calls Try.prog 28 #[.int .i64 (cX p q (2 * k)), .int .i64 (cY r s n)] w fun en w' => en = .returned (.tuple #[.int .i64 (ans (zU n)), .int .i64 (err (zU n))]) ∧ Below w.heap.size w w') := Lib.hid (fun w => by have := NzU.out n hn w; rwa [← ex] at this)
          clear hn ex
          go_wp2_with fail
          refine (CzA.out _).mono ?_
          rintro e w4 ⟨rfl, hb⟩
          have HMw4 := Lib.hid (HMwr.out.call hb)
          clear hb lh hy HMwr
          go_wp2_with fail
          refine (CzS.out _).mono ?_
          rintro e w5 ⟨rfl, hb⟩
          have HMw5 := Lib.hid (HMw4.out.call hb)
          clear hb HMw4
          go_wp2_with fail
          refine (CzU.out _).mono ?_
          rintro e w6 ⟨rfl, hb⟩
          have HMw6 := Lib.hid (HMw5.out.call hb)
          clear hb HMw5
          clear CzA CzS CzU
          obtain ⟨x0, hx0⟩ : ∃ x, ovT zA n = x := ⟨_, rfl⟩
          obtain ⟨y0, hy0⟩ : ∃ y, ovT zA (n + 1) = y := ⟨_, rfl⟩
          have r0 : (x0 || (err (zA n) != 0)) = y0 := by rw [← hx0, ← hy0]; rfl
          obtain ⟨x1, hx1⟩ : ∃ x, ovT zS n = x := ⟨_, rfl⟩
          obtain ⟨y1, hy1⟩ : ∃ y, ovT zS (n + 1) = y := ⟨_, rfl⟩
          have r1 : (x1 || (err (zS n) != 0)) = y1 := by rw [← hx1, ← hy1]; rfl
          obtain ⟨x2, hx2⟩ : ∃ x, ovT zU n = x := ⟨_, rfl⟩
          obtain ⟨y2, hy2⟩ : ∃ y, ovT zU (n + 1) = y := ⟨_, rfl⟩
          have r2 : (x2 || (err (zU n) != 0)) = y2 := by rw [← hx2, ← hy2]; rfl
          rw [hx0, hx1, hx2] at HMw6
          have Hy0 := Lib.hid hy0; have Hr0 := Lib.hid r0; clear hx0 hy0 r0
          have Hy1 := Lib.hid hy1; have Hr1 := Lib.hid r1; clear hx1 hy1 r1
          have Hy2 := Lib.hid hy2; have Hr2 := Lib.hid r2; clear hx2 hy2 r2
          go_upto_region 16 with fail
          go_cut [] (fun  wx => Hid (Mem w wx [(wa.heap.size, #[.int .i64 r, .int .i64 s]), (W7.heap.size, #[.int .i64 p, .int .i64 q]), ((w3.heap.size + 1 + 1 + 1 + 1), #[.bool y0, .bool y1, .bool y2]), ((w3.heap.size + 1 + 1 + 1), #[.bool (eqT zU U0 (n)), .bool (eqT zU U1 (n))]), ((w3.heap.size + 1 + 1), #[.bool (eqT zS T0 (n)), .bool (eqT zS T1 (n))]), ((w3.heap.size + 1), #[.bool (eqT zA S0 (n)), .bool (eqT zA S1 (n))]), (w3.heap.size, #[.int .i64 U0, .int .i64 U1]), (w2.heap.size, #[.int .i64 T0, .int .i64 T1]), (w1.heap.size, #[.int .i64 S0, .int .i64 S1]), ((w.heap.size + 1), #[.int .i64 r, .int .i64 s]), (w.heap.size, #[.int .i64 p, .int .i64 q])]))
          case first =>
            have lov : (w3.heap.size + 1 + 1 + 1 + 1) < w6.heap.size := HMw6.out.lt 2 rfl
            have cov0 : w6.cell? ⟨(w3.heap.size + 1 + 1 + 1 + 1), 0, none⟩ = some (.bool x0) := HMw6.out.cell 2 rfl rfl
            have fov0 : w6.frozen? ⟨(w3.heap.size + 1 + 1 + 1 + 1), 0, none⟩ = false := HMw6.out.free 2 rfl 0
            have cov1 : w6.cell? ⟨(w3.heap.size + 1 + 1 + 1 + 1), 1, none⟩ = some (.bool x1) := HMw6.out.cell 2 rfl rfl
            have fov1 : w6.frozen? ⟨(w3.heap.size + 1 + 1 + 1 + 1), 1, none⟩ = false := HMw6.out.free 2 rfl 1
            have cov2 : w6.cell? ⟨(w3.heap.size + 1 + 1 + 1 + 1), 2, none⟩ = some (.bool x2) := HMw6.out.cell 2 rfl rfl
            have fov2 : w6.frozen? ⟨(w3.heap.size + 1 + 1 + 1 + 1), 2, none⟩ = false := HMw6.out.free 2 rfl 2
            have r0 := Hr0.out
            have r1 := Hr1.out
            have r2 := Hr2.out
            clear Hr0 Hy0 Hr1 Hy1 Hr2 Hy2
            cases x0 <;> cases x1 <;> cases x2
            all_goals
              simp only [Bool.true_or, Bool.false_or] at r0 r1 r2
              subst r0 r1 r2
              go_wp2_with fail
              go_meet
              exact Lib.hid (((HMw6.out.set 2 0 _ rfl).set 2 1 _ rfl).set 2 2 _ rfl)
          case rest =>
            rename World => wq16
            clear HMw6
            have HMwq16 := hcut
            clear hcut
            have hy0 := Hy0.out
            clear Hr0 Hy0
            rw [← hy0] at HMwq16
            clear hy0
            have hy1 := Hy1.out
            clear Hr1 Hy1
            rw [← hy1] at HMwq16
            clear hy1
            have hy2 := Hy2.out
            clear Hr2 Hy2
            rw [← hy2] at HMwq16
            clear hy2
            obtain ⟨x0, hx0⟩ : ∃ x, eqT zA S0 n = x := ⟨_, rfl⟩
            obtain ⟨y0, hy0⟩ : ∃ y, eqT zA S0 (n + 1) = y := ⟨_, rfl⟩
            have r0 : (x0 || (ans (zA n) == S0)) = y0 := by rw [← hx0, ← hy0]; rfl
            obtain ⟨x1, hx1⟩ : ∃ x, eqT zA S1 n = x := ⟨_, rfl⟩
            obtain ⟨y1, hy1⟩ : ∃ y, eqT zA S1 (n + 1) = y := ⟨_, rfl⟩
            have r1 : (x1 || (ans (zA n) == S1)) = y1 := by rw [← hx1, ← hy1]; rfl
            rw [hx0, hx1] at HMwq16
            have Hy0 := Lib.hid hy0; have Hr0 := Lib.hid r0; clear hx0 hy0 r0
            have Hy1 := Lib.hid hy1; have Hr1 := Lib.hid r1; clear hx1 hy1 r1
            go_upto_region 17 with fail
            go_cut [] (fun  wx => Hid (Mem w wx [(wa.heap.size, #[.int .i64 r, .int .i64 s]), (W7.heap.size, #[.int .i64 p, .int .i64 q]), ((w3.heap.size + 1 + 1 + 1 + 1), #[.bool (ovT zA (n + 1)), .bool (ovT zS (n + 1)), .bool (ovT zU (n + 1))]), ((w3.heap.size + 1 + 1 + 1), #[.bool (eqT zU U0 (n)), .bool (eqT zU U1 (n))]), ((w3.heap.size + 1 + 1), #[.bool (eqT zS T0 (n)), .bool (eqT zS T1 (n))]), ((w3.heap.size + 1), #[.bool y0, .bool y1]), (w3.heap.size, #[.int .i64 U0, .int .i64 U1]), (w2.heap.size, #[.int .i64 T0, .int .i64 T1]), (w1.heap.size, #[.int .i64 S0, .int .i64 S1]), ((w.heap.size + 1), #[.int .i64 r, .int .i64 s]), (w.heap.size, #[.int .i64 p, .int .i64 q])]))
            case first =>
              have lk1 : (w3.heap.size + 1) < wq16.heap.size := HMwq16.out.lt 5 rfl
              have ck10 : wq16.cell? ⟨(w3.heap.size + 1), 0, none⟩ = some (.bool x0) := HMwq16.out.cell 5 rfl rfl
              have fk10 : wq16.frozen? ⟨(w3.heap.size + 1), 0, none⟩ = false := HMwq16.out.free 5 rfl 0
              have ck11 : wq16.cell? ⟨(w3.heap.size + 1), 1, none⟩ = some (.bool x1) := HMwq16.out.cell 5 rfl rfl
              have fk11 : wq16.frozen? ⟨(w3.heap.size + 1), 1, none⟩ = false := HMwq16.out.free 5 rfl 1
              have ls : w1.heap.size < wq16.heap.size := HMwq16.out.lt 8 rfl
              have cs0 : wq16.cell? ⟨w1.heap.size, 0, none⟩ = some (.int .i64 S0) := HMwq16.out.cell 8 rfl rfl
              have cs1 : wq16.cell? ⟨w1.heap.size, 1, none⟩ = some (.int .i64 S1) := HMwq16.out.cell 8 rfl rfl
              have r0 := Hr0.out
              have r1 := Hr1.out
              clear Hr0 Hy0 Hr1 Hy1
              cases x0 <;> cases x1
              all_goals
                simp only [Bool.true_or, Bool.false_or] at r0 r1
                subst r0 r1
                go_wp2_with fail
                go_meet
                exact Lib.hid ((HMwq16.out.set 5 0 _ rfl).set 5 1 _ rfl)
            case rest =>
              rename World => wq17
              clear HMwq16
              have HMwq17 := hcut
              clear hcut
              have hy0 := Hy0.out
              clear Hr0 Hy0
              rw [← hy0] at HMwq17
              clear hy0
              have hy1 := Hy1.out
              clear Hr1 Hy1
              rw [← hy1] at HMwq17
              clear hy1
              obtain ⟨x0, hx0⟩ : ∃ x, eqT zS T0 n = x := ⟨_, rfl⟩
              obtain ⟨y0, hy0⟩ : ∃ y, eqT zS T0 (n + 1) = y := ⟨_, rfl⟩
              have r0 : (x0 || (ans (zS n) == T0)) = y0 := by rw [← hx0, ← hy0]; rfl
              obtain ⟨x1, hx1⟩ : ∃ x, eqT zS T1 n = x := ⟨_, rfl⟩
              obtain ⟨y1, hy1⟩ : ∃ y, eqT zS T1 (n + 1) = y := ⟨_, rfl⟩
              have r1 : (x1 || (ans (zS n) == T1)) = y1 := by rw [← hx1, ← hy1]; rfl
              rw [hx0, hx1] at HMwq17
              have Hy0 := Lib.hid hy0; have Hr0 := Lib.hid r0; clear hx0 hy0 r0
              have Hy1 := Lib.hid hy1; have Hr1 := Lib.hid r1; clear hx1 hy1 r1
              go_upto_region 18 with fail
              go_cut [] (fun  wx => Hid (Mem w wx [(wa.heap.size, #[.int .i64 r, .int .i64 s]), (W7.heap.size, #[.int .i64 p, .int .i64 q]), ((w3.heap.size + 1 + 1 + 1 + 1), #[.bool (ovT zA (n + 1)), .bool (ovT zS (n + 1)), .bool (ovT zU (n + 1))]), ((w3.heap.size + 1 + 1 + 1), #[.bool (eqT zU U0 (n)), .bool (eqT zU U1 (n))]), ((w3.heap.size + 1 + 1), #[.bool y0, .bool y1]), ((w3.heap.size + 1), #[.bool (eqT zA S0 (n + 1)), .bool (eqT zA S1 (n + 1))]), (w3.heap.size, #[.int .i64 U0, .int .i64 U1]), (w2.heap.size, #[.int .i64 T0, .int .i64 T1]), (w1.heap.size, #[.int .i64 S0, .int .i64 S1]), ((w.heap.size + 1), #[.int .i64 r, .int .i64 s]), (w.heap.size, #[.int .i64 p, .int .i64 q])]))
              case first =>
                have lk2 : (w3.heap.size + 1 + 1) < wq17.heap.size := HMwq17.out.lt 4 rfl
                have ck20 : wq17.cell? ⟨(w3.heap.size + 1 + 1), 0, none⟩ = some (.bool x0) := HMwq17.out.cell 4 rfl rfl
                have fk20 : wq17.frozen? ⟨(w3.heap.size + 1 + 1), 0, none⟩ = false := HMwq17.out.free 4 rfl 0
                have ck21 : wq17.cell? ⟨(w3.heap.size + 1 + 1), 1, none⟩ = some (.bool x1) := HMwq17.out.cell 4 rfl rfl
                have fk21 : wq17.frozen? ⟨(w3.heap.size + 1 + 1), 1, none⟩ = false := HMwq17.out.free 4 rfl 1
                have lt : w2.heap.size < wq17.heap.size := HMwq17.out.lt 7 rfl
                have ct0 : wq17.cell? ⟨w2.heap.size, 0, none⟩ = some (.int .i64 T0) := HMwq17.out.cell 7 rfl rfl
                have ct1 : wq17.cell? ⟨w2.heap.size, 1, none⟩ = some (.int .i64 T1) := HMwq17.out.cell 7 rfl rfl
                have r0 := Hr0.out
                have r1 := Hr1.out
                clear Hr0 Hy0 Hr1 Hy1
                cases x0 <;> cases x1
                all_goals
                  simp only [Bool.true_or, Bool.false_or] at r0 r1
                  subst r0 r1
                  go_wp2_with fail
                  go_meet
                  exact Lib.hid ((HMwq17.out.set 4 0 _ rfl).set 4 1 _ rfl)
              case rest =>
                rename World => wq18
                clear HMwq17
                have HMwq18 := hcut
                clear hcut
                have hy0 := Hy0.out
                clear Hr0 Hy0
                rw [← hy0] at HMwq18
                clear hy0
                have hy1 := Hy1.out
                clear Hr1 Hy1
                rw [← hy1] at HMwq18
                clear hy1
                obtain ⟨x0, hx0⟩ : ∃ x, eqT zU U0 n = x := ⟨_, rfl⟩
                obtain ⟨y0, hy0⟩ : ∃ y, eqT zU U0 (n + 1) = y := ⟨_, rfl⟩
                have r0 : (x0 || (ans (zU n) == U0)) = y0 := by rw [← hx0, ← hy0]; rfl
                obtain ⟨x1, hx1⟩ : ∃ x, eqT zU U1 n = x := ⟨_, rfl⟩
                obtain ⟨y1, hy1⟩ : ∃ y, eqT zU U1 (n + 1) = y := ⟨_, rfl⟩
                have r1 : (x1 || (ans (zU n) == U1)) = y1 := by rw [← hx1, ← hy1]; rfl
                rw [hx0, hx1] at HMwq18
                have Hy0 := Lib.hid hy0; have Hr0 := Lib.hid r0; clear hx0 hy0 r0
                have Hy1 := Lib.hid hy1; have Hr1 := Lib.hid r1; clear hx1 hy1 r1
                have lk3 : (w3.heap.size + 1 + 1 + 1) < wq18.heap.size := HMwq18.out.lt 3 rfl
                have ck30 : wq18.cell? ⟨(w3.heap.size + 1 + 1 + 1), 0, none⟩ = some (.bool x0) := HMwq18.out.cell 3 rfl rfl
                have fk30 : wq18.frozen? ⟨(w3.heap.size + 1 + 1 + 1), 0, none⟩ = false := HMwq18.out.free 3 rfl 0
                have ck31 : wq18.cell? ⟨(w3.heap.size + 1 + 1 + 1), 1, none⟩ = some (.bool x1) := HMwq18.out.cell 3 rfl rfl
                have fk31 : wq18.frozen? ⟨(w3.heap.size + 1 + 1 + 1), 1, none⟩ = false := HMwq18.out.free 3 rfl 1
                have lm : w3.heap.size < wq18.heap.size := HMwq18.out.lt 6 rfl
                have cm0 : wq18.cell? ⟨w3.heap.size, 0, none⟩ = some (.int .i64 U0) := HMwq18.out.cell 6 rfl rfl
                have cm1 : wq18.cell? ⟨w3.heap.size, 1, none⟩ = some (.int .i64 U1) := HMwq18.out.cell 6 rfl rfl
                have r0 := Hr0.out; have hy0 := Hy0.out
                have r1 := Hr1.out; have hy1 := Hy1.out
                clear Hr0 Hy0 Hr1 Hy1
                cases x0 <;> cases x1
                all_goals
                  simp only [Bool.true_or, Bool.false_or] at r0 r1
                  subst r0 r1
                  have Hy0 := Lib.hid hy0; clear hy0
                  have Hy1 := Lib.hid hy1; clear hy1
                  go_wp2_with fail
                  go_roundg (2 - (j + 1))
                  case measure => omega
                  case rel =>
                    refine ⟨j + 1, by omega, rfl, by go_num, ?_⟩
                    rw [HN1.out, Hy0.out, Hy1.out]
                    exact Lib.hid ((HMwq18.out.set 3 0 _ rfl).set 3 1 _ rfl)
        · obtain rfl : j = 2 := by omega
          have d2 : decide (((2 : Nat) : Int) < 2) = false := by decide
          go_wp2_with fail
          go_roundg (2 - (k + 1))
          case measure => omega
          case rel => exact ⟨k + 1, by omega, rfl, by go_num, Lib.hid (HMwr.out.drop.to rfl)⟩
    · obtain rfl : k = 2 := by omega
      have d1 : decide (((2 : Nat) : Int) < 2) = false := by decide
      go_wp2_with fail
      refine (alive5 _).mono ?_
      rintro e wz ⟨rfl, hb⟩
      have HMwz := Lib.hid (HMwr.out.call hb)
      clear hb HMwr
      have lov : (w3.heap.size + 1 + 1 + 1 + 1) < wz.heap.size := HMwz.out.lt 1 rfl
      have cov0 : wz.cell? ⟨(w3.heap.size + 1 + 1 + 1 + 1), 0, none⟩ = some (.bool (ovT zA (2 * 2))) := HMwz.out.cell 1 rfl rfl
      have lk1 : (w3.heap.size + 1) < wz.heap.size := HMwz.out.lt 4 rfl
      have ck10 : wz.cell? ⟨(w3.heap.size + 1), 0, none⟩ = some (.bool (eqT zA S0 (2 * 2))) := HMwz.out.cell 4 rfl rfl
      have ck11 : wz.cell? ⟨(w3.heap.size + 1), 1, none⟩ = some (.bool (eqT zA S1 (2 * 2))) := HMwz.out.cell 4 rfl rfl
      go_wp2_with fail
      refine (OzA.out _).mono ?_
      rintro e wzzA ⟨rfl, hb⟩
      have HMwzzA := Lib.hid (HMwz.out.call hb)
      clear hb lov cov0 lk1 ck10 ck11 HMwz
      have lov : (w3.heap.size + 1 + 1 + 1 + 1) < wzzA.heap.size := HMwzzA.out.lt 1 rfl
      have cov1 : wzzA.cell? ⟨(w3.heap.size + 1 + 1 + 1 + 1), 1, none⟩ = some (.bool (ovT zS (2 * 2))) := HMwzzA.out.cell 1 rfl rfl
      have lk2 : (w3.heap.size + 1 + 1) < wzzA.heap.size := HMwzzA.out.lt 3 rfl
      have ck20 : wzzA.cell? ⟨(w3.heap.size + 1 + 1), 0, none⟩ = some (.bool (eqT zS T0 (2 * 2))) := HMwzzA.out.cell 3 rfl rfl
      have ck21 : wzzA.cell? ⟨(w3.heap.size + 1 + 1), 1, none⟩ = some (.bool (eqT zS T1 (2 * 2))) := HMwzzA.out.cell 3 rfl rfl
      go_wp2_with fail
      refine (OzS.out _).mono ?_
      rintro e wzzS ⟨rfl, hb⟩
      have HMwzzS := Lib.hid (HMwzzA.out.call hb)
      clear hb lov cov1 lk2 ck20 ck21 HMwzzA
      have lov : (w3.heap.size + 1 + 1 + 1 + 1) < wzzS.heap.size := HMwzzS.out.lt 1 rfl
      have cov2 : wzzS.cell? ⟨(w3.heap.size + 1 + 1 + 1 + 1), 2, none⟩ = some (.bool (ovT zU (2 * 2))) := HMwzzS.out.cell 1 rfl rfl
      have lk3 : (w3.heap.size + 1 + 1 + 1) < wzzS.heap.size := HMwzzS.out.lt 2 rfl
      have ck30 : wzzS.cell? ⟨(w3.heap.size + 1 + 1 + 1), 0, none⟩ = some (.bool (eqT zU U0 (2 * 2))) := HMwzzS.out.cell 2 rfl rfl
      have ck31 : wzzS.cell? ⟨(w3.heap.size + 1 + 1 + 1), 1, none⟩ = some (.bool (eqT zU U1 (2 * 2))) := HMwzzS.out.cell 2 rfl rfl
      go_wp2_with fail
      refine (OzU.out _).mono ?_
      rintro e wzzU ⟨rfl, hb⟩
      have HMwzzU := Lib.hid (HMwzzS.out.call hb)
      clear hb lov cov2 lk3 ck30 ck31 HMwzzS
      go_wp2_with fail
      go_ret
      exact ⟨rfl, HMwzzU.out.low⟩
end Go.Proofs.Ytacnaencmbnjpaa
