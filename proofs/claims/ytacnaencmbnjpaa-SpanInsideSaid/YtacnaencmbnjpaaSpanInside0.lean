/- The law SpanInside, walked: where each of five spans lies within another one, or that one is refused, it answers true; nothing that was in memory before is changed. -/
import Derived.Test.YtacnaencmbnjpaaAlive5
import Derived.Test.YtacnaencmbnjpaaAb
namespace Go.Proofs.Ytacnaencmbnjpaa
open Go.RowKit

theorem within_no (s0 s1 g t0 t1 h : Int) (w : World) (hh : (h != 0) = true) :
    Calls Try.prog 31 #[.agg #[.int .i64 s0, .int .i64 s1], .int .i64 g, .agg #[.int .i64 t0, .int .i64 t1], .int .i64 h] w fun en w' => en = .returned (.bool true) ∧ Below w.heap.size w w' := by
  go_enter Try.func31, Try.ntmps31
  go_wp2_with fail
  go_ret
  exact ⟨rfl, ((Below.refl _ _).alloc (Nat.le_refl _) _).alloc (by simp) _⟩
theorem within_yes (s0 s1 t0 t1 : Int) (w : World) (h1 : t0 ≤ s0) (h2 : decide (s1 ≤ t1) = true) :
    Calls Try.prog 31 #[.agg #[.int .i64 s0, .int .i64 s1], .int .i64 0, .agg #[.int .i64 t0, .int .i64 t1], .int .i64 0] w fun en w' => en = .returned (.bool true) ∧ Below w.heap.size w w' := by
  go_enter Try.func31, Try.ntmps31
  go_wp2_with fail
  go_ret
  exact ⟨rfl, ((Below.refl _ _).alloc (Nat.le_refl _) _).alloc (by simp) _⟩
/-- What the closure asks. -/
def Inn (s0 s1 g t0 t1 h : Int) : Prop := h ≠ 0 ∨ (g = 0 ∧ t0 ≤ s0 ∧ s1 ≤ t1)
theorem within_any (s0 s1 g t0 t1 h : Int) (H : Inn s0 s1 g t0 t1 h) (w : World) :
    Calls Try.prog 31 #[.agg #[.int .i64 s0, .int .i64 s1], .int .i64 g, .agg #[.int .i64 t0, .int .i64 t1], .int .i64 h] w fun en w' => en = .returned (.bool true) ∧ Below w.heap.size w w' := by
  by_cases c : h = 0
  · rcases H with k | ⟨rfl, k2, k3⟩
    · exact absurd c k
    · subst c
      exact within_yes s0 s1 t0 t1 w k2 (decide_eq_true k3)
  · exact within_no s0 s1 g t0 t1 h w (by simp [c])
set_option maxRecDepth 100000 in
set_option maxHeartbeats 2000000 in
theorem sinside_core (a b c d e f p x q r y s A0 A1 Ae A2 A3 Af S0 S1 Se S2 S3 Sf U0 U1 Ue U2 U3 Uf D0 D1 De D2 D3 Df R0 R1 Re R2 R3 Rf : Int) (w : World)
    (m1 : ∀ w, Calls Try.prog 25 #[.int .i64 a, .int .i64 b, .int .i64 c] w fun en w' => en = .returned (.tuple #[.agg #[.int .i64 p, .int .i64 q], .int .i64 x]) ∧ Below w.heap.size w w')
    (m2 : ∀ w, Calls Try.prog 25 #[.int .i64 d, .int .i64 e, .int .i64 f] w fun en w' => en = .returned (.tuple #[.agg #[.int .i64 r, .int .i64 s], .int .i64 y]) ∧ Below w.heap.size w w')
    (iA : ∀ w, Calls Try.prog 9 #[.agg #[.int .i64 x, .int .i64 q], .agg #[.int .i64 r, .int .i64 y]] w fun en w' => en = .returned (.tuple #[.agg #[.int .i64 A0, .int .i64 A1], .int .i64 Ae]) ∧ Below w.heap.size w w')
    (oA : ∀ w, Calls Try.prog 9 #[.agg #[.int .i64 p, .int .i64 q], .agg #[.int .i64 r, .int .i64 s]] w fun en w' => en = .returned (.tuple #[.agg #[.int .i64 A2, .int .i64 A3], .int .i64 Af]) ∧ Below w.heap.size w w')
    (iS : ∀ w, Calls Try.prog 10 #[.agg #[.int .i64 x, .int .i64 q], .agg #[.int .i64 r, .int .i64 y]] w fun en w' => en = .returned (.tuple #[.agg #[.int .i64 S0, .int .i64 S1], .int .i64 Se]) ∧ Below w.heap.size w w')
    (oS : ∀ w, Calls Try.prog 10 #[.agg #[.int .i64 p, .int .i64 q], .agg #[.int .i64 r, .int .i64 s]] w fun en w' => en = .returned (.tuple #[.agg #[.int .i64 S2, .int .i64 S3], .int .i64 Sf]) ∧ Below w.heap.size w w')
    (iU : ∀ w, Calls Try.prog 19 #[.agg #[.int .i64 x, .int .i64 q], .agg #[.int .i64 r, .int .i64 y]] w fun en w' => en = .returned (.tuple #[.agg #[.int .i64 U0, .int .i64 U1], .int .i64 Ue]) ∧ Below w.heap.size w w')
    (oU : ∀ w, Calls Try.prog 19 #[.agg #[.int .i64 p, .int .i64 q], .agg #[.int .i64 r, .int .i64 s]] w fun en w' => en = .returned (.tuple #[.agg #[.int .i64 U2, .int .i64 U3], .int .i64 Uf]) ∧ Below w.heap.size w w')
    (iD : ∀ w, Calls Try.prog 20 #[.agg #[.int .i64 x, .int .i64 q], .agg #[.int .i64 r, .int .i64 y]] w fun en w' => en = .returned (.tuple #[.agg #[.int .i64 D0, .int .i64 D1], .int .i64 De]) ∧ Below w.heap.size w w')
    (oD : ∀ w, Calls Try.prog 20 #[.agg #[.int .i64 p, .int .i64 q], .agg #[.int .i64 r, .int .i64 s]] w fun en w' => en = .returned (.tuple #[.agg #[.int .i64 D2, .int .i64 D3], .int .i64 Df]) ∧ Below w.heap.size w w')
    (iR : ∀ w, Calls Try.prog 21 #[.agg #[.int .i64 x, .int .i64 q]] w fun en w' => en = .returned (.tuple #[.agg #[.int .i64 R0, .int .i64 R1], .int .i64 Re]) ∧ Below w.heap.size w w')
    (oR : ∀ w, Calls Try.prog 21 #[.agg #[.int .i64 p, .int .i64 q]] w fun en w' => en = .returned (.tuple #[.agg #[.int .i64 R2, .int .i64 R3], .int .i64 Rf]) ∧ Below w.heap.size w w')
    (nA : ∀ w, Calls Try.prog 31 #[.agg #[.int .i64 A0, .int .i64 A1], .int .i64 Ae, .agg #[.int .i64 A2, .int .i64 A3], .int .i64 Af] w fun en w' => en = .returned (.bool true) ∧ Below w.heap.size w w')
    (nS : ∀ w, Calls Try.prog 31 #[.agg #[.int .i64 S0, .int .i64 S1], .int .i64 Se, .agg #[.int .i64 S2, .int .i64 S3], .int .i64 Sf] w fun en w' => en = .returned (.bool true) ∧ Below w.heap.size w w')
    (nU : ∀ w, Calls Try.prog 31 #[.agg #[.int .i64 U0, .int .i64 U1], .int .i64 Ue, .agg #[.int .i64 U2, .int .i64 U3], .int .i64 Uf] w fun en w' => en = .returned (.bool true) ∧ Below w.heap.size w w')
    (nD : ∀ w, Calls Try.prog 31 #[.agg #[.int .i64 D0, .int .i64 D1], .int .i64 De, .agg #[.int .i64 D2, .int .i64 D3], .int .i64 Df] w fun en w' => en = .returned (.bool true) ∧ Below w.heap.size w w')
    (nR : ∀ w, Calls Try.prog 31 #[.agg #[.int .i64 R0, .int .i64 R1], .int .i64 Re, .agg #[.int .i64 R2, .int .i64 R3], .int .i64 Rf] w fun en w' => en = .returned (.bool true) ∧ Below w.heap.size w w') :
    Calls Try.prog 7 #[.int .i64 a, .int .i64 b, .int .i64 c, .int .i64 d, .int .i64 e, .int .i64 f] w fun en w' => en = .returned (.bool true) ∧ Below w.heap.size w w' := by
  have M1 := Lib.hid m1; have M2 := Lib.hid m2; have IA := Lib.hid iA; have OA := Lib.hid oA; have NA := Lib.hid nA; have IS := Lib.hid iS; have OS := Lib.hid oS; have NS := Lib.hid nS; have IU := Lib.hid iU; have OU := Lib.hid oU; have NU := Lib.hid nU; have ID := Lib.hid iD; have OD := Lib.hid oD; have ND := Lib.hid nD; have IR := Lib.hid iR; have OR := Lib.hid oR; have NR := Lib.hid nR
  clear m1 m2 iA oA nA iS oS nS iU oU nU iD oD nD iR oR nR
  go_enter Try.func7, Try.ntmps7
  go_wp2_with fail
  refine (M1.out _).mono ?_
  rintro e w1 ⟨rfl, hb⟩
  have kw : Below w.heap.size w w1 := (Below.refl w.heap.size w).trans (hb.mono (Nat.le_refl _))
  have HW1 := Lib.hid kw
  clear hb kw
  go_wp2_with fail
  refine (M2.out _).mono ?_
  rintro e w2 ⟨rfl, hb⟩
  have kp : Blk w2 w1.heap.size #[.int .i64 p, .int .i64 q] := (Blk.new _ _ _).call hb
  have kw : Below w.heap.size w w2 := (HW1.out.alloc HW1.out.size _).trans (hb.mono (by have := HW1.out.size; simp; omega))
  clear HW1
  have Bp := Lib.hid kp
  have HW2 := Lib.hid kw
  clear hb kw kp
  have lp := Bp.out.lt
  have cp0 : w2.cell? ⟨w1.heap.size, 0, none⟩ = some (.int .i64 p) := Bp.out.cell rfl
  have cp1 : w2.cell? ⟨w1.heap.size, 1, none⟩ = some (.int .i64 q) := Bp.out.cell rfl
  go_upto_region 3 with fail
  obtain ⟨W0, hW0⟩ : ∃ W0, w2.alloc (.cells #[.int .i64 r, .int .i64 s] 23) = W0 := ⟨_, rfl⟩
  have bp : Blk W0 w1.heap.size #[.int .i64 p, .int .i64 q] := by rw [← hW0]; exact (Bp.out.alloc _)
  have br : Blk W0 w2.heap.size #[.int .i64 r, .int .i64 s] := by rw [← hW0]; exact (Blk.new _ _ _)
  have hw : Below w.heap.size w W0 := by rw [← hW0]; exact (HW2.out.alloc HW2.out.size _)
  rw [hW0]
  clear hW0 lp cp0 cp1 Bp HW2
  have hok : OwnOk (fun w' => w'.cell? ⟨w1.heap.size, 0, none⟩ = some (.int .i64 p) ∧ w'.cell? ⟨w1.heap.size, 1, none⟩ = some (.int .i64 q) ∧ w'.cell? ⟨w2.heap.size, 0, none⟩ = some (.int .i64 r) ∧ w'.cell? ⟨w2.heap.size, 1, none⟩ = some (.int .i64 s) ∧ Hid (Blk w' w1.heap.size #[.int .i64 p, .int .i64 q] ∧ Blk w' w2.heap.size #[.int .i64 r, .int .i64 s] ∧ Below w.heap.size w w')) W0.heap.size [⟨8, 10, fun w b => Blk w b #[.int .i64 0, .int .i64 0], fun w b => Blk w b #[.int .i64 x, .int .i64 q]⟩, ⟨9, 11, fun w b => Blk w b #[.int .i64 0, .int .i64 0], fun w b => Blk w b #[.int .i64 r, .int .i64 y]⟩] := own2_ok (fun v1 v2 h hb => ⟨(h.2.2.2.2.out.1.below hb bp.lt).cell rfl, (h.2.2.2.2.out.1.below hb bp.lt).cell rfl, (h.2.2.2.2.out.2.1.below hb br.lt).cell rfl, (h.2.2.2.2.out.2.1.below hb br.lt).cell rfl, Lib.hid ⟨(h.2.2.2.2.out.1.below hb bp.lt), (h.2.2.2.2.out.2.1.below hb br.lt), (h.2.2.2.2.out.2.2.trans (hb.mono hw.size))⟩⟩) ⟨Blk.local _, Blk.local _⟩ ⟨Blk.local _, Blk.local _⟩ (by simp) (by simp) (by simp)
  have hfit : ∀ i, (∀ e ∈ ([⟨8, 10, fun w b => Blk w b #[.int .i64 0, .int .i64 0], fun w b => Blk w b #[.int .i64 x, .int .i64 q]⟩, ⟨9, 11, fun w b => Blk w b #[.int .i64 0, .int .i64 0], fun w b => Blk w b #[.int .i64 r, .int .i64 y]⟩] : List Ent), e.x ≠ i ∧ e.s ≠ i) → Fit (fun w' => w'.cell? ⟨w1.heap.size, 0, none⟩ = some (.int .i64 p) ∧ w'.cell? ⟨w1.heap.size, 1, none⟩ = some (.int .i64 q) ∧ w'.cell? ⟨w2.heap.size, 0, none⟩ = some (.int .i64 r) ∧ w'.cell? ⟨w2.heap.size, 1, none⟩ = some (.int .i64 s) ∧ Hid (Blk w' w1.heap.size #[.int .i64 p, .int .i64 q] ∧ Blk w' w2.heap.size #[.int .i64 r, .int .i64 s] ∧ Below w.heap.size w w')) (Sof (fun w' => w'.cell? ⟨w1.heap.size, 0, none⟩ = some (.int .i64 p) ∧ w'.cell? ⟨w1.heap.size, 1, none⟩ = some (.int .i64 q) ∧ w'.cell? ⟨w2.heap.size, 0, none⟩ = some (.int .i64 r) ∧ w'.cell? ⟨w2.heap.size, 1, none⟩ = some (.int .i64 s) ∧ Hid (Blk w' w1.heap.size #[.int .i64 p, .int .i64 q] ∧ Blk w' w2.heap.size #[.int .i64 r, .int .i64 s] ∧ Below w.heap.size w w')) W0.heap.size [⟨8, 10, fun w b => Blk w b #[.int .i64 0, .int .i64 0], fun w b => Blk w b #[.int .i64 x, .int .i64 q]⟩, ⟨9, 11, fun w b => Blk w b #[.int .i64 0, .int .i64 0], fun w b => Blk w b #[.int .i64 r, .int .i64 y]⟩]) i := fun i hi => sof_fit hok.st hok.loc hi
  have HOK := Lib.hid hok; have HF := Lib.hid hfit; clear hok hfit
  refine wp_region_ab (S0 := (fun w' => w'.cell? ⟨w1.heap.size, 0, none⟩ = some (.int .i64 p) ∧ w'.cell? ⟨w1.heap.size, 1, none⟩ = some (.int .i64 q) ∧ w'.cell? ⟨w2.heap.size, 0, none⟩ = some (.int .i64 r) ∧ w'.cell? ⟨w2.heap.size, 1, none⟩ = some (.int .i64 s) ∧ Hid (Blk w' w1.heap.size #[.int .i64 p, .int .i64 q] ∧ Blk w' w2.heap.size #[.int .i64 r, .int .i64 s] ∧ Below w.heap.size w w'))) W0.heap.size [⟨8, 10, fun w b => Blk w b #[.int .i64 0, .int .i64 0], fun w b => Blk w b #[.int .i64 x, .int .i64 q]⟩, ⟨9, 11, fun w b => Blk w b #[.int .i64 0, .int .i64 0], fun w b => Blk w b #[.int .i64 r, .int .i64 y]⟩] (by kernel_rfl) ⟨bp.drew.cell rfl, bp.drew.cell rfl, br.drew.cell rfl, br.drew.cell rfl, Lib.hid ⟨bp.drew, br.drew, hw.drew⟩⟩ (Nat.le_refl _) (by simp) ?_
  clear bp br
  refine abTake 0 (some 54) (v := ?_) rfl rfl (by kernel_rfl) (by kernel_rfl) (by kernel_rfl) (fun _ _ _ h => h) (HF.out _ (by simp)) (by rfl) ?_ ?_
  rotate_left 1
  · (intro w hSw; (try dsimp only at hSw); go_simp; try with_reducible rfl)
  simp only [Act.put, List.setIfInBounds_toArray, List.set_cons_zero, List.set_cons_succ]
  refine abTake 1 (some 55) (v := ?_) rfl rfl (by kernel_rfl) (by kernel_rfl) (by kernel_rfl) (fun _ _ _ h => h) (HF.out _ (by simp)) (by rfl) ?_ ?_
  rotate_left 1
  · (intro w hSw; (try dsimp only at hSw); go_simp; try with_reducible rfl)
  simp only [Act.put, List.setIfInBounds_toArray, List.set_cons_zero, List.set_cons_succ]
  refine abTake 2 (some 56) (v := ?_) rfl rfl (by kernel_rfl) (by kernel_rfl) (by kernel_rfl) (fun _ _ _ h => h) (HF.out _ (by simp)) (by rfl) ?_ ?_
  rotate_left 1
  · (intro w hSw; (try dsimp only at hSw); go_simp; try with_reducible rfl)
  simp only [Act.put, List.setIfInBounds_toArray, List.set_cons_zero, List.set_cons_succ]
  refine abTake 3 (some 57) (v := ?_) rfl rfl (by kernel_rfl) (by kernel_rfl) (by kernel_rfl) (fun _ _ _ h => h) (HF.out _ (by simp)) (by rfl) ?_ ?_
  rotate_left 1
  · (intro w hSw; (try dsimp only at hSw); go_simp; try with_reducible rfl)
  simp only [Act.put, List.setIfInBounds_toArray, List.set_cons_zero, List.set_cons_succ]
  refine abTake 4 (some 58) (v := ?_) rfl rfl (by kernel_rfl) (by kernel_rfl) (by kernel_rfl) (fun _ _ _ h => h) (HF.out _ (by simp)) (by rfl) ?_ ?_
  rotate_left 1
  · (intro w hSw; (try dsimp only at hSw); go_simp; try with_reducible rfl)
  simp only [Act.put, List.setIfInBounds_toArray, List.set_cons_zero, List.set_cons_succ]
  refine abTake 5 (some 59) (v := ?_) rfl rfl (by kernel_rfl) (by kernel_rfl) (by kernel_rfl) (fun _ _ _ h => h) (HF.out _ (by simp)) (by rfl) ?_ ?_
  rotate_left 1
  · (intro w hSw; (try dsimp only at hSw); go_simp; try with_reducible rfl)
  simp only [Act.put, List.setIfInBounds_toArray, List.set_cons_zero, List.set_cons_succ]
  refine abTake 6 (some 60) (v := ?_) rfl rfl (by kernel_rfl) (by kernel_rfl) (by kernel_rfl) (fun _ _ _ h => h) (HF.out _ (by simp)) (by rfl) ?_ ?_
  rotate_left 1
  · (intro w hSw; (try dsimp only at hSw); go_simp; try with_reducible rfl)
  simp only [Act.put, List.setIfInBounds_toArray, List.set_cons_zero, List.set_cons_succ]
  refine abTake 7 (some 61) (v := ?_) rfl rfl (by kernel_rfl) (by kernel_rfl) (by kernel_rfl) (fun _ _ _ h => h) (HF.out _ (by simp)) (by rfl) ?_ ?_
  rotate_left 1
  · (intro w hSw; (try dsimp only at hSw); go_simp; try with_reducible rfl)
  simp only [Act.put, List.setIfInBounds_toArray, List.set_cons_zero, List.set_cons_succ]
  refine abMake2 8 9 17 18 HOK.out _ _ (List.mem_cons_self) (List.mem_cons_of_mem _ (List.mem_cons_self)) rfl rfl rfl rfl rfl rfl (by kernel_rfl) (by kernel_rfl) (by kernel_rfl) (by kernel_rfl) (by decide) (by simp) (by kernel_rfl) (by kernel_rfl) (by kernel_rfl) (by kernel_rfl) (by kernel_rfl) (by kernel_rfl) ⟨by rfl, .cells #[.int .i64 0, .int .i64 0] 23, fun w hSw => ⟨(by (try dsimp only at hSw); go_simp; try with_reducible rfl), Blk.newAt rfl⟩⟩ ⟨by rfl, .cells #[.int .i64 0, .int .i64 0] 23, fun w hSw => ⟨(by (try dsimp only at hSw); go_simp; try with_reducible rfl), Blk.newAt rfl⟩⟩ (fun pi po hpi hpo npi => ?_)
  simp only [Act.put, List.setIfInBounds_toArray, List.set_cons_zero, List.set_cons_succ]
  refine abStore 10 HOK.out _ (List.mem_cons_self) rfl rfl rfl (by kernel_rfl) (by kernel_rfl) (by kernel_rfl) (by kernel_rfl) (by rfl) ?_ ?_
  · rintro w b hSw hg hB hp
    obtain rfl : b = pi := hg
    replace hp : Blk w b #[.int .i64 0, .int .i64 0] := hp
    have x0 : w.cell? ⟨b, 0, none⟩ = some (.int .i64 0) := hp.cell rfl
    have x1 : w.cell? ⟨b, 1, none⟩ = some (.int .i64 0) := hp.cell rfl
    have y0 := hp.free 0
    have y1 := hp.free 1
    refine ⟨((w.setCell ⟨b, 0, none⟩ (.int .i64 x)).setCell ⟨b, 1, none⟩ (.int .i64 q)), ?_, ((hp.set 0 (.int .i64 x)).set 1 (.int .i64 q)), (((Below.refl _ _).setCell (p := ⟨b, 0, none⟩) hB _).setCell (p := ⟨b, 1, none⟩) hB _), fun k hk => ?_⟩
    · (try dsimp only at hSw); go_simp; try with_reducible rfl
    · exact (Below.heap_setCell _ _ _ _ hk).trans ((Below.heap_setCell _ _ _ _ hk))
  refine abStore 11 HOK.out _ (List.mem_cons_of_mem _ (List.mem_cons_self)) rfl rfl rfl (by kernel_rfl) (by kernel_rfl) (by kernel_rfl) (by kernel_rfl) (by rfl) ?_ ?_
  · rintro w b hSw hg hB hp
    obtain rfl : b = po := hg
    replace hp : Blk w b #[.int .i64 0, .int .i64 0] := hp
    have x0 : w.cell? ⟨b, 0, none⟩ = some (.int .i64 0) := hp.cell rfl
    have x1 : w.cell? ⟨b, 1, none⟩ = some (.int .i64 0) := hp.cell rfl
    have y0 := hp.free 0
    have y1 := hp.free 1
    refine ⟨((w.setCell ⟨b, 0, none⟩ (.int .i64 r)).setCell ⟨b, 1, none⟩ (.int .i64 y)), ?_, ((hp.set 0 (.int .i64 r)).set 1 (.int .i64 y)), (((Below.refl _ _).setCell (p := ⟨b, 0, none⟩) hB _).setCell (p := ⟨b, 1, none⟩) hB _), fun k hk => ?_⟩
    · (try dsimp only at hSw); go_simp; try with_reducible rfl
    · exact (Below.heap_setCell _ _ _ _ hk).trans ((Below.heap_setCell _ _ _ _ hk))
  refine abDone (by kernel_rfl) ?_ _
  rintro w3 hS
  have ki := sof_post hS _ (List.mem_cons_self) (by kernel_rfl) (by kernel_rfl) (b := pi) rfl
  have ko := sof_post hS _ (List.mem_cons_of_mem _ (List.mem_cons_self)) (by kernel_rfl) (by kernel_rfl) (b := po) rfl
  have Bp := Lib.hid hS.1.2.2.2.2.out.1
  have Br := Lib.hid hS.1.2.2.2.2.out.2.1
  have HW3 := Lib.hid hS.1.2.2.2.2.out.2.2
  have Bi : Hid (Blk w3 pi #[.int .i64 x, .int .i64 q]) := Lib.hid ki.2.2
  have Bo : Hid (Blk w3 po #[.int .i64 r, .int .i64 y]) := Lib.hid ko.2.2
  clear hS HOK HF ki ko hpi hpo npi hw
  have eIN := enters_of Try.func31 (by kernel_rfl) rfl
  have li := Bi.out.lt
  have ci0 : w3.cell? ⟨pi, 0, none⟩ = some (.int .i64 x) := Bi.out.cell rfl
  have ci1 : w3.cell? ⟨pi, 1, none⟩ = some (.int .i64 q) := Bi.out.cell rfl
  have lo := Bo.out.lt
  have co0 : w3.cell? ⟨po, 0, none⟩ = some (.int .i64 r) := Bo.out.cell rfl
  have co1 : w3.cell? ⟨po, 1, none⟩ = some (.int .i64 y) := Bo.out.cell rfl
  go_wp2_with fail
  refine (IA.out _).mono ?_
  rintro e w4 ⟨rfl, hb⟩
  have kp : Blk w4 w1.heap.size #[.int .i64 p, .int .i64 q] := Bp.out.call hb
  have kr : Blk w4 w2.heap.size #[.int .i64 r, .int .i64 s] := Br.out.call hb
  have ki : Blk w4 pi #[.int .i64 x, .int .i64 q] := Bi.out.call hb
  have ko : Blk w4 po #[.int .i64 r, .int .i64 y] := Bo.out.call hb
  have kw : Below w.heap.size w w4 := HW3.out.trans (hb.mono HW3.out.size)
  clear li ci0 ci1 lo co0 co1 Bp Br Bi Bo HW3
  have Bp := Lib.hid kp
  have Br := Lib.hid kr
  have Bi := Lib.hid ki
  have Bo := Lib.hid ko
  have HW4 := Lib.hid kw
  clear hb kw kp kr ki ko
  have lp := Bp.out.lt
  have cp0 : w4.cell? ⟨w1.heap.size, 0, none⟩ = some (.int .i64 p) := Bp.out.cell rfl
  have cp1 : w4.cell? ⟨w1.heap.size, 1, none⟩ = some (.int .i64 q) := Bp.out.cell rfl
  have lr := Br.out.lt
  have cr0 : w4.cell? ⟨w2.heap.size, 0, none⟩ = some (.int .i64 r) := Br.out.cell rfl
  have cr1 : w4.cell? ⟨w2.heap.size, 1, none⟩ = some (.int .i64 s) := Br.out.cell rfl
  go_wp2_with fail
  refine (OA.out _).mono ?_
  rintro e w5 ⟨rfl, hb⟩
  have kp : Blk w5 w1.heap.size #[.int .i64 p, .int .i64 q] := (Bp.out.alloc _).call hb
  have kr : Blk w5 w2.heap.size #[.int .i64 r, .int .i64 s] := (Br.out.alloc _).call hb
  have ki : Blk w5 pi #[.int .i64 x, .int .i64 q] := (Bi.out.alloc _).call hb
  have ko : Blk w5 po #[.int .i64 r, .int .i64 y] := (Bo.out.alloc _).call hb
  have kaA : Blk w5 w4.heap.size #[.int .i64 A0, .int .i64 A1] := (Blk.new _ _ _).call hb
  have kw : Below w.heap.size w w5 := (HW4.out.alloc HW4.out.size _).trans (hb.mono (by have := HW4.out.size; simp; omega))
  clear lp cp0 cp1 lr cr0 cr1 Bp Br Bi Bo HW4
  have Bp := Lib.hid kp
  have Br := Lib.hid kr
  have Bi := Lib.hid ki
  have Bo := Lib.hid ko
  have BaA := Lib.hid kaA
  have HW5 := Lib.hid kw
  clear hb kw kp kr ki ko kaA
  have li := Bi.out.lt
  have ci0 : w5.cell? ⟨pi, 0, none⟩ = some (.int .i64 x) := Bi.out.cell rfl
  have ci1 : w5.cell? ⟨pi, 1, none⟩ = some (.int .i64 q) := Bi.out.cell rfl
  have lo := Bo.out.lt
  have co0 : w5.cell? ⟨po, 0, none⟩ = some (.int .i64 r) := Bo.out.cell rfl
  have co1 : w5.cell? ⟨po, 1, none⟩ = some (.int .i64 y) := Bo.out.cell rfl
  go_wp2_with fail
  refine (IS.out _).mono ?_
  rintro e w6 ⟨rfl, hb⟩
  have kp : Blk w6 w1.heap.size #[.int .i64 p, .int .i64 q] := (Bp.out.alloc _).call hb
  have kr : Blk w6 w2.heap.size #[.int .i64 r, .int .i64 s] := (Br.out.alloc _).call hb
  have ki : Blk w6 pi #[.int .i64 x, .int .i64 q] := (Bi.out.alloc _).call hb
  have ko : Blk w6 po #[.int .i64 r, .int .i64 y] := (Bo.out.alloc _).call hb
  have kaA : Blk w6 w4.heap.size #[.int .i64 A0, .int .i64 A1] := (BaA.out.alloc _).call hb
  have kbA : Blk w6 w5.heap.size #[.int .i64 A2, .int .i64 A3] := (Blk.new _ _ _).call hb
  have kw : Below w.heap.size w w6 := (HW5.out.alloc HW5.out.size _).trans (hb.mono (by have := HW5.out.size; simp; omega))
  clear li ci0 ci1 lo co0 co1 Bp Br Bi Bo BaA HW5
  have Bp := Lib.hid kp
  have Br := Lib.hid kr
  have Bi := Lib.hid ki
  have Bo := Lib.hid ko
  have BaA := Lib.hid kaA
  have BbA := Lib.hid kbA
  have HW6 := Lib.hid kw
  clear hb kw kp kr ki ko kaA kbA
  have lp := Bp.out.lt
  have cp0 : w6.cell? ⟨w1.heap.size, 0, none⟩ = some (.int .i64 p) := Bp.out.cell rfl
  have cp1 : w6.cell? ⟨w1.heap.size, 1, none⟩ = some (.int .i64 q) := Bp.out.cell rfl
  have lr := Br.out.lt
  have cr0 : w6.cell? ⟨w2.heap.size, 0, none⟩ = some (.int .i64 r) := Br.out.cell rfl
  have cr1 : w6.cell? ⟨w2.heap.size, 1, none⟩ = some (.int .i64 s) := Br.out.cell rfl
  go_wp2_with fail
  refine (OS.out _).mono ?_
  rintro e w7 ⟨rfl, hb⟩
  have kp : Blk w7 w1.heap.size #[.int .i64 p, .int .i64 q] := (Bp.out.alloc _).call hb
  have kr : Blk w7 w2.heap.size #[.int .i64 r, .int .i64 s] := (Br.out.alloc _).call hb
  have ki : Blk w7 pi #[.int .i64 x, .int .i64 q] := (Bi.out.alloc _).call hb
  have ko : Blk w7 po #[.int .i64 r, .int .i64 y] := (Bo.out.alloc _).call hb
  have kaA : Blk w7 w4.heap.size #[.int .i64 A0, .int .i64 A1] := (BaA.out.alloc _).call hb
  have kbA : Blk w7 w5.heap.size #[.int .i64 A2, .int .i64 A3] := (BbA.out.alloc _).call hb
  have kaS : Blk w7 w6.heap.size #[.int .i64 S0, .int .i64 S1] := (Blk.new _ _ _).call hb
  have kw : Below w.heap.size w w7 := (HW6.out.alloc HW6.out.size _).trans (hb.mono (by have := HW6.out.size; simp; omega))
  clear lp cp0 cp1 lr cr0 cr1 Bp Br Bi Bo BaA BbA HW6
  have Bp := Lib.hid kp
  have Br := Lib.hid kr
  have Bi := Lib.hid ki
  have Bo := Lib.hid ko
  have BaA := Lib.hid kaA
  have BbA := Lib.hid kbA
  have BaS := Lib.hid kaS
  have HW7 := Lib.hid kw
  clear hb kw kp kr ki ko kaA kbA kaS
  have li := Bi.out.lt
  have ci0 : w7.cell? ⟨pi, 0, none⟩ = some (.int .i64 x) := Bi.out.cell rfl
  have ci1 : w7.cell? ⟨pi, 1, none⟩ = some (.int .i64 q) := Bi.out.cell rfl
  have lo := Bo.out.lt
  have co0 : w7.cell? ⟨po, 0, none⟩ = some (.int .i64 r) := Bo.out.cell rfl
  have co1 : w7.cell? ⟨po, 1, none⟩ = some (.int .i64 y) := Bo.out.cell rfl
  go_wp2_with fail
  refine (IU.out _).mono ?_
  rintro e w8 ⟨rfl, hb⟩
  have kp : Blk w8 w1.heap.size #[.int .i64 p, .int .i64 q] := (Bp.out.alloc _).call hb
  have kr : Blk w8 w2.heap.size #[.int .i64 r, .int .i64 s] := (Br.out.alloc _).call hb
  have ki : Blk w8 pi #[.int .i64 x, .int .i64 q] := (Bi.out.alloc _).call hb
  have ko : Blk w8 po #[.int .i64 r, .int .i64 y] := (Bo.out.alloc _).call hb
  have kaA : Blk w8 w4.heap.size #[.int .i64 A0, .int .i64 A1] := (BaA.out.alloc _).call hb
  have kbA : Blk w8 w5.heap.size #[.int .i64 A2, .int .i64 A3] := (BbA.out.alloc _).call hb
  have kaS : Blk w8 w6.heap.size #[.int .i64 S0, .int .i64 S1] := (BaS.out.alloc _).call hb
  have kbS : Blk w8 w7.heap.size #[.int .i64 S2, .int .i64 S3] := (Blk.new _ _ _).call hb
  have kw : Below w.heap.size w w8 := (HW7.out.alloc HW7.out.size _).trans (hb.mono (by have := HW7.out.size; simp; omega))
  clear li ci0 ci1 lo co0 co1 Bp Br Bi Bo BaA BbA BaS HW7
  have Bp := Lib.hid kp
  have Br := Lib.hid kr
  have Bi := Lib.hid ki
  have Bo := Lib.hid ko
  have BaA := Lib.hid kaA
  have BbA := Lib.hid kbA
  have BaS := Lib.hid kaS
  have BbS := Lib.hid kbS
  have HW8 := Lib.hid kw
  clear hb kw kp kr ki ko kaA kbA kaS kbS
  have lp := Bp.out.lt
  have cp0 : w8.cell? ⟨w1.heap.size, 0, none⟩ = some (.int .i64 p) := Bp.out.cell rfl
  have cp1 : w8.cell? ⟨w1.heap.size, 1, none⟩ = some (.int .i64 q) := Bp.out.cell rfl
  have lr := Br.out.lt
  have cr0 : w8.cell? ⟨w2.heap.size, 0, none⟩ = some (.int .i64 r) := Br.out.cell rfl
  have cr1 : w8.cell? ⟨w2.heap.size, 1, none⟩ = some (.int .i64 s) := Br.out.cell rfl
  go_wp2_with fail
  refine (OU.out _).mono ?_
  rintro e w9 ⟨rfl, hb⟩
  have kp : Blk w9 w1.heap.size #[.int .i64 p, .int .i64 q] := (Bp.out.alloc _).call hb
  have kr : Blk w9 w2.heap.size #[.int .i64 r, .int .i64 s] := (Br.out.alloc _).call hb
  have ki : Blk w9 pi #[.int .i64 x, .int .i64 q] := (Bi.out.alloc _).call hb
  have ko : Blk w9 po #[.int .i64 r, .int .i64 y] := (Bo.out.alloc _).call hb
  have kaA : Blk w9 w4.heap.size #[.int .i64 A0, .int .i64 A1] := (BaA.out.alloc _).call hb
  have kbA : Blk w9 w5.heap.size #[.int .i64 A2, .int .i64 A3] := (BbA.out.alloc _).call hb
  have kaS : Blk w9 w6.heap.size #[.int .i64 S0, .int .i64 S1] := (BaS.out.alloc _).call hb
  have kbS : Blk w9 w7.heap.size #[.int .i64 S2, .int .i64 S3] := (BbS.out.alloc _).call hb
  have kaU : Blk w9 w8.heap.size #[.int .i64 U0, .int .i64 U1] := (Blk.new _ _ _).call hb
  have kw : Below w.heap.size w w9 := (HW8.out.alloc HW8.out.size _).trans (hb.mono (by have := HW8.out.size; simp; omega))
  clear lp cp0 cp1 lr cr0 cr1 Bp Br Bi Bo BaA BbA BaS BbS HW8
  have Bp := Lib.hid kp
  have Br := Lib.hid kr
  have Bi := Lib.hid ki
  have Bo := Lib.hid ko
  have BaA := Lib.hid kaA
  have BbA := Lib.hid kbA
  have BaS := Lib.hid kaS
  have BbS := Lib.hid kbS
  have BaU := Lib.hid kaU
  have HW9 := Lib.hid kw
  clear hb kw kp kr ki ko kaA kbA kaS kbS kaU
  have li := Bi.out.lt
  have ci0 : w9.cell? ⟨pi, 0, none⟩ = some (.int .i64 x) := Bi.out.cell rfl
  have ci1 : w9.cell? ⟨pi, 1, none⟩ = some (.int .i64 q) := Bi.out.cell rfl
  have lo := Bo.out.lt
  have co0 : w9.cell? ⟨po, 0, none⟩ = some (.int .i64 r) := Bo.out.cell rfl
  have co1 : w9.cell? ⟨po, 1, none⟩ = some (.int .i64 y) := Bo.out.cell rfl
  go_wp2_with fail
  refine (ID.out _).mono ?_
  rintro e w10 ⟨rfl, hb⟩
  have kp : Blk w10 w1.heap.size #[.int .i64 p, .int .i64 q] := (Bp.out.alloc _).call hb
  have kr : Blk w10 w2.heap.size #[.int .i64 r, .int .i64 s] := (Br.out.alloc _).call hb
  have ki : Blk w10 pi #[.int .i64 x, .int .i64 q] := (Bi.out.alloc _).call hb
  have ko : Blk w10 po #[.int .i64 r, .int .i64 y] := (Bo.out.alloc _).call hb
  have kaA : Blk w10 w4.heap.size #[.int .i64 A0, .int .i64 A1] := (BaA.out.alloc _).call hb
  have kbA : Blk w10 w5.heap.size #[.int .i64 A2, .int .i64 A3] := (BbA.out.alloc _).call hb
  have kaS : Blk w10 w6.heap.size #[.int .i64 S0, .int .i64 S1] := (BaS.out.alloc _).call hb
  have kbS : Blk w10 w7.heap.size #[.int .i64 S2, .int .i64 S3] := (BbS.out.alloc _).call hb
  have kaU : Blk w10 w8.heap.size #[.int .i64 U0, .int .i64 U1] := (BaU.out.alloc _).call hb
  have kbU : Blk w10 w9.heap.size #[.int .i64 U2, .int .i64 U3] := (Blk.new _ _ _).call hb
  have kw : Below w.heap.size w w10 := (HW9.out.alloc HW9.out.size _).trans (hb.mono (by have := HW9.out.size; simp; omega))
  clear li ci0 ci1 lo co0 co1 Bp Br Bi Bo BaA BbA BaS BbS BaU HW9
  have Bp := Lib.hid kp
  have Br := Lib.hid kr
  have Bi := Lib.hid ki
  have Bo := Lib.hid ko
  have BaA := Lib.hid kaA
  have BbA := Lib.hid kbA
  have BaS := Lib.hid kaS
  have BbS := Lib.hid kbS
  have BaU := Lib.hid kaU
  have BbU := Lib.hid kbU
  have HW10 := Lib.hid kw
  clear hb kw kp kr ki ko kaA kbA kaS kbS kaU kbU
  have lp := Bp.out.lt
  have cp0 : w10.cell? ⟨w1.heap.size, 0, none⟩ = some (.int .i64 p) := Bp.out.cell rfl
  have cp1 : w10.cell? ⟨w1.heap.size, 1, none⟩ = some (.int .i64 q) := Bp.out.cell rfl
  have lr := Br.out.lt
  have cr0 : w10.cell? ⟨w2.heap.size, 0, none⟩ = some (.int .i64 r) := Br.out.cell rfl
  have cr1 : w10.cell? ⟨w2.heap.size, 1, none⟩ = some (.int .i64 s) := Br.out.cell rfl
  go_wp2_with fail
  refine (OD.out _).mono ?_
  rintro e w11 ⟨rfl, hb⟩
  have kp : Blk w11 w1.heap.size #[.int .i64 p, .int .i64 q] := (Bp.out.alloc _).call hb
  have kr : Blk w11 w2.heap.size #[.int .i64 r, .int .i64 s] := (Br.out.alloc _).call hb
  have ki : Blk w11 pi #[.int .i64 x, .int .i64 q] := (Bi.out.alloc _).call hb
  have ko : Blk w11 po #[.int .i64 r, .int .i64 y] := (Bo.out.alloc _).call hb
  have kaA : Blk w11 w4.heap.size #[.int .i64 A0, .int .i64 A1] := (BaA.out.alloc _).call hb
  have kbA : Blk w11 w5.heap.size #[.int .i64 A2, .int .i64 A3] := (BbA.out.alloc _).call hb
  have kaS : Blk w11 w6.heap.size #[.int .i64 S0, .int .i64 S1] := (BaS.out.alloc _).call hb
  have kbS : Blk w11 w7.heap.size #[.int .i64 S2, .int .i64 S3] := (BbS.out.alloc _).call hb
  have kaU : Blk w11 w8.heap.size #[.int .i64 U0, .int .i64 U1] := (BaU.out.alloc _).call hb
  have kbU : Blk w11 w9.heap.size #[.int .i64 U2, .int .i64 U3] := (BbU.out.alloc _).call hb
  have kaD : Blk w11 w10.heap.size #[.int .i64 D0, .int .i64 D1] := (Blk.new _ _ _).call hb
  have kw : Below w.heap.size w w11 := (HW10.out.alloc HW10.out.size _).trans (hb.mono (by have := HW10.out.size; simp; omega))
  clear lp cp0 cp1 lr cr0 cr1 Bp Br Bi Bo BaA BbA BaS BbS BaU BbU HW10
  have Bp := Lib.hid kp
  have Br := Lib.hid kr
  have Bi := Lib.hid ki
  have Bo := Lib.hid ko
  have BaA := Lib.hid kaA
  have BbA := Lib.hid kbA
  have BaS := Lib.hid kaS
  have BbS := Lib.hid kbS
  have BaU := Lib.hid kaU
  have BbU := Lib.hid kbU
  have BaD := Lib.hid kaD
  have HW11 := Lib.hid kw
  clear hb kw kp kr ki ko kaA kbA kaS kbS kaU kbU kaD
  have li := Bi.out.lt
  have ci0 : w11.cell? ⟨pi, 0, none⟩ = some (.int .i64 x) := Bi.out.cell rfl
  have ci1 : w11.cell? ⟨pi, 1, none⟩ = some (.int .i64 q) := Bi.out.cell rfl
  go_wp2_with fail
  refine (IR.out _).mono ?_
  rintro e w12 ⟨rfl, hb⟩
  have kp : Blk w12 w1.heap.size #[.int .i64 p, .int .i64 q] := (Bp.out.alloc _).call hb
  have kr : Blk w12 w2.heap.size #[.int .i64 r, .int .i64 s] := (Br.out.alloc _).call hb
  have ki : Blk w12 pi #[.int .i64 x, .int .i64 q] := (Bi.out.alloc _).call hb
  have ko : Blk w12 po #[.int .i64 r, .int .i64 y] := (Bo.out.alloc _).call hb
  have kaA : Blk w12 w4.heap.size #[.int .i64 A0, .int .i64 A1] := (BaA.out.alloc _).call hb
  have kbA : Blk w12 w5.heap.size #[.int .i64 A2, .int .i64 A3] := (BbA.out.alloc _).call hb
  have kaS : Blk w12 w6.heap.size #[.int .i64 S0, .int .i64 S1] := (BaS.out.alloc _).call hb
  have kbS : Blk w12 w7.heap.size #[.int .i64 S2, .int .i64 S3] := (BbS.out.alloc _).call hb
  have kaU : Blk w12 w8.heap.size #[.int .i64 U0, .int .i64 U1] := (BaU.out.alloc _).call hb
  have kbU : Blk w12 w9.heap.size #[.int .i64 U2, .int .i64 U3] := (BbU.out.alloc _).call hb
  have kaD : Blk w12 w10.heap.size #[.int .i64 D0, .int .i64 D1] := (BaD.out.alloc _).call hb
  have kbD : Blk w12 w11.heap.size #[.int .i64 D2, .int .i64 D3] := (Blk.new _ _ _).call hb
  have kw : Below w.heap.size w w12 := (HW11.out.alloc HW11.out.size _).trans (hb.mono (by have := HW11.out.size; simp; omega))
  clear li ci0 ci1 Bp Br Bi Bo BaA BbA BaS BbS BaU BbU BaD HW11
  have Bp := Lib.hid kp
  have Br := Lib.hid kr
  have Bi := Lib.hid ki
  have Bo := Lib.hid ko
  have BaA := Lib.hid kaA
  have BbA := Lib.hid kbA
  have BaS := Lib.hid kaS
  have BbS := Lib.hid kbS
  have BaU := Lib.hid kaU
  have BbU := Lib.hid kbU
  have BaD := Lib.hid kaD
  have BbD := Lib.hid kbD
  have HW12 := Lib.hid kw
  clear hb kw kp kr ki ko kaA kbA kaS kbS kaU kbU kaD kbD
  have lp := Bp.out.lt
  have cp0 : w12.cell? ⟨w1.heap.size, 0, none⟩ = some (.int .i64 p) := Bp.out.cell rfl
  have cp1 : w12.cell? ⟨w1.heap.size, 1, none⟩ = some (.int .i64 q) := Bp.out.cell rfl
  go_wp2_with fail
  refine (OR.out _).mono ?_
  rintro e w13 ⟨rfl, hb⟩
  have kp : Blk w13 w1.heap.size #[.int .i64 p, .int .i64 q] := (Bp.out.alloc _).call hb
  have kr : Blk w13 w2.heap.size #[.int .i64 r, .int .i64 s] := (Br.out.alloc _).call hb
  have ki : Blk w13 pi #[.int .i64 x, .int .i64 q] := (Bi.out.alloc _).call hb
  have ko : Blk w13 po #[.int .i64 r, .int .i64 y] := (Bo.out.alloc _).call hb
  have kaA : Blk w13 w4.heap.size #[.int .i64 A0, .int .i64 A1] := (BaA.out.alloc _).call hb
  have kbA : Blk w13 w5.heap.size #[.int .i64 A2, .int .i64 A3] := (BbA.out.alloc _).call hb
  have kaS : Blk w13 w6.heap.size #[.int .i64 S0, .int .i64 S1] := (BaS.out.alloc _).call hb
  have kbS : Blk w13 w7.heap.size #[.int .i64 S2, .int .i64 S3] := (BbS.out.alloc _).call hb
  have kaU : Blk w13 w8.heap.size #[.int .i64 U0, .int .i64 U1] := (BaU.out.alloc _).call hb
  have kbU : Blk w13 w9.heap.size #[.int .i64 U2, .int .i64 U3] := (BbU.out.alloc _).call hb
  have kaD : Blk w13 w10.heap.size #[.int .i64 D0, .int .i64 D1] := (BaD.out.alloc _).call hb
  have kbD : Blk w13 w11.heap.size #[.int .i64 D2, .int .i64 D3] := (BbD.out.alloc _).call hb
  have kaR : Blk w13 w12.heap.size #[.int .i64 R0, .int .i64 R1] := (Blk.new _ _ _).call hb
  have kw : Below w.heap.size w w13 := (HW12.out.alloc HW12.out.size _).trans (hb.mono (by have := HW12.out.size; simp; omega))
  clear lp cp0 cp1 Bp Br Bi Bo BaA BbA BaS BbS BaU BbU BaD BbD HW12
  have Bp := Lib.hid kp
  have Br := Lib.hid kr
  have Bi := Lib.hid ki
  have Bo := Lib.hid ko
  have BaA := Lib.hid kaA
  have BbA := Lib.hid kbA
  have BaS := Lib.hid kaS
  have BbS := Lib.hid kbS
  have BaU := Lib.hid kaU
  have BbU := Lib.hid kbU
  have BaD := Lib.hid kaD
  have BbD := Lib.hid kbD
  have BaR := Lib.hid kaR
  have HW13 := Lib.hid kw
  clear hb kw kp kr ki ko kaA kbA kaS kbS kaU kbU kaD kbD kaR
  go_wp2_with fail
  refine (alive5 _).mono ?_
  rintro e w14 ⟨rfl, hb⟩
  have kaA : Blk w14 w4.heap.size #[.int .i64 A0, .int .i64 A1] := (BaA.out.alloc _).call hb
  have kbA : Blk w14 w5.heap.size #[.int .i64 A2, .int .i64 A3] := (BbA.out.alloc _).call hb
  have kaS : Blk w14 w6.heap.size #[.int .i64 S0, .int .i64 S1] := (BaS.out.alloc _).call hb
  have kbS : Blk w14 w7.heap.size #[.int .i64 S2, .int .i64 S3] := (BbS.out.alloc _).call hb
  have kaU : Blk w14 w8.heap.size #[.int .i64 U0, .int .i64 U1] := (BaU.out.alloc _).call hb
  have kbU : Blk w14 w9.heap.size #[.int .i64 U2, .int .i64 U3] := (BbU.out.alloc _).call hb
  have kaD : Blk w14 w10.heap.size #[.int .i64 D0, .int .i64 D1] := (BaD.out.alloc _).call hb
  have kbD : Blk w14 w11.heap.size #[.int .i64 D2, .int .i64 D3] := (BbD.out.alloc _).call hb
  have kaR : Blk w14 w12.heap.size #[.int .i64 R0, .int .i64 R1] := (BaR.out.alloc _).call hb
  have kbR : Blk w14 w13.heap.size #[.int .i64 R2, .int .i64 R3] := (Blk.new _ _ _).call hb
  have kw : Below w.heap.size w w14 := (HW13.out.alloc HW13.out.size _).trans (hb.mono (by have := HW13.out.size; simp; omega))
  clear Bp Br Bi Bo BaA BbA BaS BbS BaU BbU BaD BbD BaR HW13
  have BaA := Lib.hid kaA
  have BbA := Lib.hid kbA
  have BaS := Lib.hid kaS
  have BbS := Lib.hid kbS
  have BaU := Lib.hid kaU
  have BbU := Lib.hid kbU
  have BaD := Lib.hid kaD
  have BbD := Lib.hid kbD
  have BaR := Lib.hid kaR
  have BbR := Lib.hid kbR
  have HW14 := Lib.hid kw
  clear hb kw kaA kbA kaS kbS kaU kbU kaD kbD kaR kbR
  have laA := BaA.out.lt
  have caA0 : w14.cell? ⟨w4.heap.size, 0, none⟩ = some (.int .i64 A0) := BaA.out.cell rfl
  have caA1 : w14.cell? ⟨w4.heap.size, 1, none⟩ = some (.int .i64 A1) := BaA.out.cell rfl
  have lbA := BbA.out.lt
  have cbA0 : w14.cell? ⟨w5.heap.size, 0, none⟩ = some (.int .i64 A2) := BbA.out.cell rfl
  have cbA1 : w14.cell? ⟨w5.heap.size, 1, none⟩ = some (.int .i64 A3) := BbA.out.cell rfl
  go_wp2_with fail
  refine (NA.out _).mono ?_
  rintro e w15 ⟨rfl, hb⟩
  have kaA : Blk w15 w4.heap.size #[.int .i64 A0, .int .i64 A1] := BaA.out.call hb
  have kbA : Blk w15 w5.heap.size #[.int .i64 A2, .int .i64 A3] := BbA.out.call hb
  have kaS : Blk w15 w6.heap.size #[.int .i64 S0, .int .i64 S1] := BaS.out.call hb
  have kbS : Blk w15 w7.heap.size #[.int .i64 S2, .int .i64 S3] := BbS.out.call hb
  have kaU : Blk w15 w8.heap.size #[.int .i64 U0, .int .i64 U1] := BaU.out.call hb
  have kbU : Blk w15 w9.heap.size #[.int .i64 U2, .int .i64 U3] := BbU.out.call hb
  have kaD : Blk w15 w10.heap.size #[.int .i64 D0, .int .i64 D1] := BaD.out.call hb
  have kbD : Blk w15 w11.heap.size #[.int .i64 D2, .int .i64 D3] := BbD.out.call hb
  have kaR : Blk w15 w12.heap.size #[.int .i64 R0, .int .i64 R1] := BaR.out.call hb
  have kbR : Blk w15 w13.heap.size #[.int .i64 R2, .int .i64 R3] := BbR.out.call hb
  have kw : Below w.heap.size w w15 := HW14.out.trans (hb.mono HW14.out.size)
  clear laA caA0 caA1 lbA cbA0 cbA1 BaA BbA BaS BbS BaU BbU BaD BbD BaR BbR HW14
  have BaA := Lib.hid kaA
  have BbA := Lib.hid kbA
  have BaS := Lib.hid kaS
  have BbS := Lib.hid kbS
  have BaU := Lib.hid kaU
  have BbU := Lib.hid kbU
  have BaD := Lib.hid kaD
  have BbD := Lib.hid kbD
  have BaR := Lib.hid kaR
  have BbR := Lib.hid kbR
  have HW15 := Lib.hid kw
  clear hb kw kaA kbA kaS kbS kaU kbU kaD kbD kaR kbR
  have laS := BaS.out.lt
  have caS0 : w15.cell? ⟨w6.heap.size, 0, none⟩ = some (.int .i64 S0) := BaS.out.cell rfl
  have caS1 : w15.cell? ⟨w6.heap.size, 1, none⟩ = some (.int .i64 S1) := BaS.out.cell rfl
  have lbS := BbS.out.lt
  have cbS0 : w15.cell? ⟨w7.heap.size, 0, none⟩ = some (.int .i64 S2) := BbS.out.cell rfl
  have cbS1 : w15.cell? ⟨w7.heap.size, 1, none⟩ = some (.int .i64 S3) := BbS.out.cell rfl
  go_wp2_with fail
  refine (NS.out _).mono ?_
  rintro e w16 ⟨rfl, hb⟩
  have kaA : Blk w16 w4.heap.size #[.int .i64 A0, .int .i64 A1] := BaA.out.call hb
  have kbA : Blk w16 w5.heap.size #[.int .i64 A2, .int .i64 A3] := BbA.out.call hb
  have kaS : Blk w16 w6.heap.size #[.int .i64 S0, .int .i64 S1] := BaS.out.call hb
  have kbS : Blk w16 w7.heap.size #[.int .i64 S2, .int .i64 S3] := BbS.out.call hb
  have kaU : Blk w16 w8.heap.size #[.int .i64 U0, .int .i64 U1] := BaU.out.call hb
  have kbU : Blk w16 w9.heap.size #[.int .i64 U2, .int .i64 U3] := BbU.out.call hb
  have kaD : Blk w16 w10.heap.size #[.int .i64 D0, .int .i64 D1] := BaD.out.call hb
  have kbD : Blk w16 w11.heap.size #[.int .i64 D2, .int .i64 D3] := BbD.out.call hb
  have kaR : Blk w16 w12.heap.size #[.int .i64 R0, .int .i64 R1] := BaR.out.call hb
  have kbR : Blk w16 w13.heap.size #[.int .i64 R2, .int .i64 R3] := BbR.out.call hb
  have kw : Below w.heap.size w w16 := HW15.out.trans (hb.mono HW15.out.size)
  clear laS caS0 caS1 lbS cbS0 cbS1 BaA BbA BaS BbS BaU BbU BaD BbD BaR BbR HW15
  have BaA := Lib.hid kaA
  have BbA := Lib.hid kbA
  have BaS := Lib.hid kaS
  have BbS := Lib.hid kbS
  have BaU := Lib.hid kaU
  have BbU := Lib.hid kbU
  have BaD := Lib.hid kaD
  have BbD := Lib.hid kbD
  have BaR := Lib.hid kaR
  have BbR := Lib.hid kbR
  have HW16 := Lib.hid kw
  clear hb kw kaA kbA kaS kbS kaU kbU kaD kbD kaR kbR
  have laU := BaU.out.lt
  have caU0 : w16.cell? ⟨w8.heap.size, 0, none⟩ = some (.int .i64 U0) := BaU.out.cell rfl
  have caU1 : w16.cell? ⟨w8.heap.size, 1, none⟩ = some (.int .i64 U1) := BaU.out.cell rfl
  have lbU := BbU.out.lt
  have cbU0 : w16.cell? ⟨w9.heap.size, 0, none⟩ = some (.int .i64 U2) := BbU.out.cell rfl
  have cbU1 : w16.cell? ⟨w9.heap.size, 1, none⟩ = some (.int .i64 U3) := BbU.out.cell rfl
  go_wp2_with fail
  refine (NU.out _).mono ?_
  rintro e w17 ⟨rfl, hb⟩
  have kaA : Blk w17 w4.heap.size #[.int .i64 A0, .int .i64 A1] := BaA.out.call hb
  have kbA : Blk w17 w5.heap.size #[.int .i64 A2, .int .i64 A3] := BbA.out.call hb
  have kaS : Blk w17 w6.heap.size #[.int .i64 S0, .int .i64 S1] := BaS.out.call hb
  have kbS : Blk w17 w7.heap.size #[.int .i64 S2, .int .i64 S3] := BbS.out.call hb
  have kaU : Blk w17 w8.heap.size #[.int .i64 U0, .int .i64 U1] := BaU.out.call hb
  have kbU : Blk w17 w9.heap.size #[.int .i64 U2, .int .i64 U3] := BbU.out.call hb
  have kaD : Blk w17 w10.heap.size #[.int .i64 D0, .int .i64 D1] := BaD.out.call hb
  have kbD : Blk w17 w11.heap.size #[.int .i64 D2, .int .i64 D3] := BbD.out.call hb
  have kaR : Blk w17 w12.heap.size #[.int .i64 R0, .int .i64 R1] := BaR.out.call hb
  have kbR : Blk w17 w13.heap.size #[.int .i64 R2, .int .i64 R3] := BbR.out.call hb
  have kw : Below w.heap.size w w17 := HW16.out.trans (hb.mono HW16.out.size)
  clear laU caU0 caU1 lbU cbU0 cbU1 BaA BbA BaS BbS BaU BbU BaD BbD BaR BbR HW16
  have BaA := Lib.hid kaA
  have BbA := Lib.hid kbA
  have BaS := Lib.hid kaS
  have BbS := Lib.hid kbS
  have BaU := Lib.hid kaU
  have BbU := Lib.hid kbU
  have BaD := Lib.hid kaD
  have BbD := Lib.hid kbD
  have BaR := Lib.hid kaR
  have BbR := Lib.hid kbR
  have HW17 := Lib.hid kw
  clear hb kw kaA kbA kaS kbS kaU kbU kaD kbD kaR kbR
  have laD := BaD.out.lt
  have caD0 : w17.cell? ⟨w10.heap.size, 0, none⟩ = some (.int .i64 D0) := BaD.out.cell rfl
  have caD1 : w17.cell? ⟨w10.heap.size, 1, none⟩ = some (.int .i64 D1) := BaD.out.cell rfl
  have lbD := BbD.out.lt
  have cbD0 : w17.cell? ⟨w11.heap.size, 0, none⟩ = some (.int .i64 D2) := BbD.out.cell rfl
  have cbD1 : w17.cell? ⟨w11.heap.size, 1, none⟩ = some (.int .i64 D3) := BbD.out.cell rfl
  go_wp2_with fail
  refine (ND.out _).mono ?_
  rintro e w18 ⟨rfl, hb⟩
  have kaA : Blk w18 w4.heap.size #[.int .i64 A0, .int .i64 A1] := BaA.out.call hb
  have kbA : Blk w18 w5.heap.size #[.int .i64 A2, .int .i64 A3] := BbA.out.call hb
  have kaS : Blk w18 w6.heap.size #[.int .i64 S0, .int .i64 S1] := BaS.out.call hb
  have kbS : Blk w18 w7.heap.size #[.int .i64 S2, .int .i64 S3] := BbS.out.call hb
  have kaU : Blk w18 w8.heap.size #[.int .i64 U0, .int .i64 U1] := BaU.out.call hb
  have kbU : Blk w18 w9.heap.size #[.int .i64 U2, .int .i64 U3] := BbU.out.call hb
  have kaD : Blk w18 w10.heap.size #[.int .i64 D0, .int .i64 D1] := BaD.out.call hb
  have kbD : Blk w18 w11.heap.size #[.int .i64 D2, .int .i64 D3] := BbD.out.call hb
  have kaR : Blk w18 w12.heap.size #[.int .i64 R0, .int .i64 R1] := BaR.out.call hb
  have kbR : Blk w18 w13.heap.size #[.int .i64 R2, .int .i64 R3] := BbR.out.call hb
  have kw : Below w.heap.size w w18 := HW17.out.trans (hb.mono HW17.out.size)
  clear laD caD0 caD1 lbD cbD0 cbD1 BaA BbA BaS BbS BaU BbU BaD BbD BaR BbR HW17
  have BaA := Lib.hid kaA
  have BbA := Lib.hid kbA
  have BaS := Lib.hid kaS
  have BbS := Lib.hid kbS
  have BaU := Lib.hid kaU
  have BbU := Lib.hid kbU
  have BaD := Lib.hid kaD
  have BbD := Lib.hid kbD
  have BaR := Lib.hid kaR
  have BbR := Lib.hid kbR
  have HW18 := Lib.hid kw
  clear hb kw kaA kbA kaS kbS kaU kbU kaD kbD kaR kbR
  have laR := BaR.out.lt
  have caR0 : w18.cell? ⟨w12.heap.size, 0, none⟩ = some (.int .i64 R0) := BaR.out.cell rfl
  have caR1 : w18.cell? ⟨w12.heap.size, 1, none⟩ = some (.int .i64 R1) := BaR.out.cell rfl
  have lbR := BbR.out.lt
  have cbR0 : w18.cell? ⟨w13.heap.size, 0, none⟩ = some (.int .i64 R2) := BbR.out.cell rfl
  have cbR1 : w18.cell? ⟨w13.heap.size, 1, none⟩ = some (.int .i64 R3) := BbR.out.cell rfl
  go_wp2_with fail
  refine (NR.out _).mono ?_
  rintro e w19 ⟨rfl, hb⟩
  have kaA : Blk w19 w4.heap.size #[.int .i64 A0, .int .i64 A1] := BaA.out.call hb
  have kbA : Blk w19 w5.heap.size #[.int .i64 A2, .int .i64 A3] := BbA.out.call hb
  have kaS : Blk w19 w6.heap.size #[.int .i64 S0, .int .i64 S1] := BaS.out.call hb
  have kbS : Blk w19 w7.heap.size #[.int .i64 S2, .int .i64 S3] := BbS.out.call hb
  have kaU : Blk w19 w8.heap.size #[.int .i64 U0, .int .i64 U1] := BaU.out.call hb
  have kbU : Blk w19 w9.heap.size #[.int .i64 U2, .int .i64 U3] := BbU.out.call hb
  have kaD : Blk w19 w10.heap.size #[.int .i64 D0, .int .i64 D1] := BaD.out.call hb
  have kbD : Blk w19 w11.heap.size #[.int .i64 D2, .int .i64 D3] := BbD.out.call hb
  have kaR : Blk w19 w12.heap.size #[.int .i64 R0, .int .i64 R1] := BaR.out.call hb
  have kbR : Blk w19 w13.heap.size #[.int .i64 R2, .int .i64 R3] := BbR.out.call hb
  have kw : Below w.heap.size w w19 := HW18.out.trans (hb.mono HW18.out.size)
  clear laR caR0 caR1 lbR cbR0 cbR1 BaA BbA BaS BbS BaU BbU BaD BbD BaR BbR HW18
  have BaA := Lib.hid kaA
  have BbA := Lib.hid kbA
  have BaS := Lib.hid kaS
  have BbS := Lib.hid kbS
  have BaU := Lib.hid kaU
  have BbU := Lib.hid kbU
  have BaD := Lib.hid kaD
  have BbD := Lib.hid kbD
  have BaR := Lib.hid kaR
  have BbR := Lib.hid kbR
  have HW19 := Lib.hid kw
  clear hb kw kaA kbA kaS kbS kaU kbU kaD kbD kaR kbR
  go_wp2_with fail
  go_ret
  exact ⟨rfl, HW19.out⟩
end Go.Proofs.Ytacnaencmbnjpaa
