/- The reference of stage 4: Divided, MulDiv. -/
import Derived.Test.YtjnebbjjabnipaaFixRef
import Derived.Test.YtjnebbjjabnipaaRDiv
/- The reference of stage 4: Divided, by mode 0. -/
namespace Go.Proofs.Ytjnebbjjabnipaa
open Go.RowKit

set_option maxRecDepth 100000 in
set_option maxHeartbeats 2000000 in
theorem rdivd_0_no (c x y : Int) (n z Q R N : Nat) (Bz Cn D0 V DR : Bool) (w : World)
    (hC : decide (c < 0) = Cn) (hV : (!(Bz == Cn) && !D0) = V) (hA : (V && !DR) = false)
    (hE0 : ∀ w, (Op.equalIn 10000 48 (.agg #[.int .u64 (hi n : Nat), .int .u64 (lo n : Nat)]) (.agg #[.int .u64 0, .int .u64 0])).run Try.prog w = .ok D0 w)
    (hE1 : ∀ w, (Op.equalIn 10000 48 (.agg #[.int .u64 (hi R : Nat), .int .u64 (lo R : Nat)]) (.agg #[.int .u64 0, .int .u64 0])).run Try.prog w = .ok DR w)
    (m1 : ∀ w, Calls Try.prog 27 #[.int .i64 c] w fun en w' => en = .returned (.agg #[.int .u64 (hi z : Nat), .int .u64 (lo z : Nat)]) ∧ Below w.heap.size w w')
    (m2 : ∀ w, Calls Try.prog 49 #[.agg #[.int .u64 (hi n : Nat), .int .u64 (lo n : Nat)], .agg #[.int .u64 (hi z : Nat), .int .u64 (lo z : Nat)]] w fun en w' => en = .returned (.tuple #[.agg #[.int .u64 (hi Q : Nat), .int .u64 (lo Q : Nat)], .agg #[.int .u64 (hi R : Nat), .int .u64 (lo R : Nat)]]) ∧ Below w.heap.size w w')
    (m3 : ∀ w, Calls Try.prog 50 #[.agg #[.int .u64 (hi R : Nat), .int .u64 (lo R : Nat)], .agg #[.int .u64 (hi R : Nat), .int .u64 (lo R : Nat)]] w fun en w' => en = .returned (.tuple #[.agg #[.int .u64 (hi N : Nat), .int .u64 (lo N : Nat)], .bool false]) ∧ Below w.heap.size w w')
    (m7 : ∀ w, Calls Try.prog 81 #[.agg #[.bool V, .int .u64 (hi Q : Nat), .int .u64 (lo Q : Nat)]] w fun en w' => en = .returned (.tuple #[.int .i64 x, .int .i64 y]) ∧ Below w.heap.size w w') :
    Calls Try.prog 60 #[.agg #[.bool Bz, .int .u64 (hi n : Nat), .int .u64 (lo n : Nat)], .int .i64 c, .int .i64 0] w fun en w' => en = .returned (.tuple #[.int .i64 x, .int .i64 y]) ∧ Below w.heap.size w w' := by
  have M1 := Lib.hid m1; have M2 := Lib.hid m2; have M3 := Lib.hid m3; have M7 := Lib.hid m7
  clear m1 m2 m3 m7
  have HA := Lib.hid hA; have E1 := Lib.hid hE1
  clear hA hE1
  go_enter Try.func60, Try.ntmps60
  go_upto_region 1 with fail
  go_cut [8] (fun s8 wx => s8 = .bool V ∧ w.alloc (.cells #[.bool Bz, .int .u64 (hi n : Nat), .int .u64 (lo n : Nat)] 59) = wx)
  case first =>
    cases Bz <;> cases Cn
    all_goals
      simp at hV
      subst hV
      go_wp2_with fail
      go_meet
      exact ⟨rfl, rfl⟩
  case rest =>
  obtain ⟨rfl, rfl⟩ := hcut
  clear hE0 hV hC
  go_upto_region 2 with fail
  obtain ⟨W0, hW0⟩ : ∃ W0, w.alloc (.cells #[.bool Bz, .int .u64 (hi n : Nat), .int .u64 (lo n : Nat)] 59) = W0 := ⟨_, rfl⟩
  have bs : Blk W0 w.heap.size #[.bool Bz, .int .u64 (hi n : Nat), .int .u64 (lo n : Nat)] := by rw [← hW0]; exact Blk.new _ _ _
  have hw0 : Below w.heap.size w W0 := by rw [← hW0]; exact (Below.refl _ _).alloc (Nat.le_refl _) _
  rw [hW0]
  clear hW0
  have ls := bs.lt
  have hok : OwnOk (fun w' => w'.cell? ⟨w.heap.size, 0, none⟩ = some (.bool Bz) ∧ w'.cell? ⟨w.heap.size, 1, none⟩ = some (.int .u64 (hi n : Nat)) ∧ w'.cell? ⟨w.heap.size, 2, none⟩ = some (.int .u64 (lo n : Nat)) ∧ Hid (Blk w' w.heap.size #[.bool Bz, .int .u64 (hi n : Nat), .int .u64 (lo n : Nat)] ∧ Below w.heap.size w w')) W0.heap.size [⟨8, 10, fun w b => Blk w b #[.int .u64 0, .int .u64 0], fun w b => Blk w b #[.int .u64 (hi Q : Nat), .int .u64 (lo Q : Nat)]⟩, ⟨9, 11, fun w b => Blk w b #[.int .u64 0, .int .u64 0], fun w b => Blk w b #[.int .u64 (hi R : Nat), .int .u64 (lo R : Nat)]⟩] := own2_ok (fun v1 v2 h hb => ⟨(h.2.2.2.out.1.below hb bs.lt).cell rfl, (h.2.2.2.out.1.below hb bs.lt).cell rfl, (h.2.2.2.out.1.below hb bs.lt).cell rfl, Lib.hid ⟨(h.2.2.2.out.1.below hb bs.lt), (h.2.2.2.out.2.trans (hb.mono hw0.size))⟩⟩) ⟨Blk.local _, Blk.local _⟩ ⟨Blk.local _, Blk.local _⟩ (by simp) (by simp) (by simp)
  have hfit : ∀ i, (∀ e ∈ ([⟨8, 10, fun w b => Blk w b #[.int .u64 0, .int .u64 0], fun w b => Blk w b #[.int .u64 (hi Q : Nat), .int .u64 (lo Q : Nat)]⟩, ⟨9, 11, fun w b => Blk w b #[.int .u64 0, .int .u64 0], fun w b => Blk w b #[.int .u64 (hi R : Nat), .int .u64 (lo R : Nat)]⟩] : List Ent), e.x ≠ i ∧ e.s ≠ i) → Fit (fun w' => w'.cell? ⟨w.heap.size, 0, none⟩ = some (.bool Bz) ∧ w'.cell? ⟨w.heap.size, 1, none⟩ = some (.int .u64 (hi n : Nat)) ∧ w'.cell? ⟨w.heap.size, 2, none⟩ = some (.int .u64 (lo n : Nat)) ∧ Hid (Blk w' w.heap.size #[.bool Bz, .int .u64 (hi n : Nat), .int .u64 (lo n : Nat)] ∧ Below w.heap.size w w')) (Sof (fun w' => w'.cell? ⟨w.heap.size, 0, none⟩ = some (.bool Bz) ∧ w'.cell? ⟨w.heap.size, 1, none⟩ = some (.int .u64 (hi n : Nat)) ∧ w'.cell? ⟨w.heap.size, 2, none⟩ = some (.int .u64 (lo n : Nat)) ∧ Hid (Blk w' w.heap.size #[.bool Bz, .int .u64 (hi n : Nat), .int .u64 (lo n : Nat)] ∧ Below w.heap.size w w')) W0.heap.size [⟨8, 10, fun w b => Blk w b #[.int .u64 0, .int .u64 0], fun w b => Blk w b #[.int .u64 (hi Q : Nat), .int .u64 (lo Q : Nat)]⟩, ⟨9, 11, fun w b => Blk w b #[.int .u64 0, .int .u64 0], fun w b => Blk w b #[.int .u64 (hi R : Nat), .int .u64 (lo R : Nat)]⟩]) i := fun i hi => sof_fit hok.st hok.loc hi
  have HOK := Lib.hid hok; have HF := Lib.hid hfit; clear hok hfit
  refine wp_region_ab (S0 := (fun w' => w'.cell? ⟨w.heap.size, 0, none⟩ = some (.bool Bz) ∧ w'.cell? ⟨w.heap.size, 1, none⟩ = some (.int .u64 (hi n : Nat)) ∧ w'.cell? ⟨w.heap.size, 2, none⟩ = some (.int .u64 (lo n : Nat)) ∧ Hid (Blk w' w.heap.size #[.bool Bz, .int .u64 (hi n : Nat), .int .u64 (lo n : Nat)] ∧ Below w.heap.size w w'))) W0.heap.size [⟨8, 10, fun w b => Blk w b #[.int .u64 0, .int .u64 0], fun w b => Blk w b #[.int .u64 (hi Q : Nat), .int .u64 (lo Q : Nat)]⟩, ⟨9, 11, fun w b => Blk w b #[.int .u64 0, .int .u64 0], fun w b => Blk w b #[.int .u64 (hi R : Nat), .int .u64 (lo R : Nat)]⟩] (by kernel_rfl) ⟨bs.drew.cell rfl, bs.drew.cell rfl, bs.drew.cell rfl, Lib.hid ⟨bs.drew, hw0.drew⟩⟩ (Nat.le_refl _) (by simp) ?_
  clear bs
  refine abTake 0 (some 26) (v := ?_) rfl rfl (by kernel_rfl) (by kernel_rfl) (by kernel_rfl) (fun _ _ _ h => h) (HF.out _ (by simp)) (by rfl) ?_ ?_
  rotate_left 1
  · (intro w hSw; (try dsimp only at hSw); go_simp; try with_reducible rfl)
  simp only [Act.put, List.setIfInBounds_toArray, List.set_cons_zero, List.set_cons_succ]
  refine abTake 1 (some 27) (v := ?_) rfl rfl (by kernel_rfl) (by kernel_rfl) (by kernel_rfl) (fun _ _ _ h => h) (HF.out _ (by simp)) (by rfl) ?_ ?_
  rotate_left 1
  · (intro w hSw; (try dsimp only at hSw); go_simp; try with_reducible rfl)
  simp only [Act.put, List.setIfInBounds_toArray, List.set_cons_zero, List.set_cons_succ]
  refine abTake 2 (some 28) (v := ?_) rfl rfl (by kernel_rfl) (by kernel_rfl) (by kernel_rfl) (fun _ _ _ h => h) (HF.out _ (by simp)) (by rfl) ?_ ?_
  rotate_left 1
  · (intro w hSw; (try dsimp only at hSw); go_simp; try with_reducible rfl)
  simp only [Act.put, List.setIfInBounds_toArray, List.set_cons_zero, List.set_cons_succ]
  refine abCall 3 (some 29) rfl rfl (by kernel_rfl) (by kernel_rfl) (by kernel_rfl) (fun _ _ _ h => h) (HF.out _ (by simp)) (by rfl) ?_ (fun w hSw => M1.out w) ?_
  · (intro w hSw; (try dsimp only at hSw); go_simp; try with_reducible rfl)
  simp only [Act.put, List.setIfInBounds_toArray, List.set_cons_zero, List.set_cons_succ]
  refine abCall 4 (some 30) rfl rfl (by kernel_rfl) (by kernel_rfl) (by kernel_rfl) (fun _ _ _ h => h) (HF.out _ (by simp)) (by rfl) ?_ (fun w hSw => M2.out w) ?_
  · (intro w hSw; (try dsimp only at hSw); go_simp; try with_reducible rfl)
  simp only [Act.put, List.setIfInBounds_toArray, List.set_cons_zero, List.set_cons_succ]
  refine abTake 5 (some 25) (v := ?_) rfl rfl (by kernel_rfl) (by kernel_rfl) (by kernel_rfl) (fun _ _ _ h => h) (HF.out _ (by simp)) (by rfl) ?_ ?_
  rotate_left 1
  · (intro w hSw; (try dsimp only at hSw); go_simp; try with_reducible rfl)
  simp only [Act.put, List.setIfInBounds_toArray, List.set_cons_zero, List.set_cons_succ]
  refine abTake 6 (some 31) (v := ?_) rfl rfl (by kernel_rfl) (by kernel_rfl) (by kernel_rfl) (fun _ _ _ h => h) (HF.out _ (by simp)) (by rfl) ?_ ?_
  rotate_left 1
  · (intro w hSw; (try dsimp only at hSw); go_simp; try with_reducible rfl)
  simp only [Act.put, List.setIfInBounds_toArray, List.set_cons_zero, List.set_cons_succ]
  refine abTake 7 (some 32) (v := ?_) rfl rfl (by kernel_rfl) (by kernel_rfl) (by kernel_rfl) (fun _ _ _ h => h) (HF.out _ (by simp)) (by rfl) ?_ ?_
  rotate_left 1
  · (intro w hSw; (try dsimp only at hSw); go_simp; try with_reducible rfl)
  simp only [Act.put, List.setIfInBounds_toArray, List.set_cons_zero, List.set_cons_succ]
  refine abMake2 8 9 9 10 HOK.out _ _ (List.mem_cons_self) (List.mem_cons_of_mem _ (List.mem_cons_self)) rfl rfl rfl rfl rfl rfl (by kernel_rfl) (by kernel_rfl) (by kernel_rfl) (by kernel_rfl) (by decide) (by simp) (by kernel_rfl) (by kernel_rfl) (by kernel_rfl) (by kernel_rfl) (by kernel_rfl) (by kernel_rfl) ⟨by rfl, .cells #[.int .u64 0, .int .u64 0] 48, fun w hSw => ⟨(by (try dsimp only at hSw); go_simp; try with_reducible rfl), Blk.newAt rfl⟩⟩ ⟨by rfl, .cells #[.int .u64 0, .int .u64 0] 48, fun w hSw => ⟨(by (try dsimp only at hSw); go_simp; try with_reducible rfl), Blk.newAt rfl⟩⟩ (fun p9 p10 hp9 hp10 np9 => ?_)
  simp only [Act.put, List.setIfInBounds_toArray, List.set_cons_zero, List.set_cons_succ]
  refine abStore 10 HOK.out _ (List.mem_cons_self) rfl rfl rfl (by kernel_rfl) (by kernel_rfl) (by kernel_rfl) (by kernel_rfl) (by rfl) ?_ ?_
  · rintro w b hSw hg hB hp
    obtain rfl : b = p9 := hg
    replace hp : Blk w b #[.int .u64 0, .int .u64 0] := hp
    have x0 : w.cell? ⟨b, 0, none⟩ = some (.int .u64 0) := hp.cell rfl
    have x1 : w.cell? ⟨b, 1, none⟩ = some (.int .u64 0) := hp.cell rfl
    have y0 := hp.free 0
    have y1 := hp.free 1
    refine ⟨((w.setCell ⟨b, 0, none⟩ (.int .u64 (hi Q : Nat))).setCell ⟨b, 1, none⟩ (.int .u64 (lo Q : Nat))), ?_, ((hp.set 0 (.int .u64 (hi Q : Nat))).set 1 (.int .u64 (lo Q : Nat))), (((Below.refl _ _).setCell (p := ⟨b, 0, none⟩) hB _).setCell (p := ⟨b, 1, none⟩) hB _), fun k hk => ?_⟩
    · (try dsimp only at hSw); go_simp; try with_reducible rfl
    · exact (Below.heap_setCell _ _ _ _ hk).trans ((Below.heap_setCell _ _ _ _ hk))
  refine abStore 11 HOK.out _ (List.mem_cons_of_mem _ (List.mem_cons_self)) rfl rfl rfl (by kernel_rfl) (by kernel_rfl) (by kernel_rfl) (by kernel_rfl) (by rfl) ?_ ?_
  · rintro w b hSw hg hB hp
    obtain rfl : b = p10 := hg
    replace hp : Blk w b #[.int .u64 0, .int .u64 0] := hp
    have x0 : w.cell? ⟨b, 0, none⟩ = some (.int .u64 0) := hp.cell rfl
    have x1 : w.cell? ⟨b, 1, none⟩ = some (.int .u64 0) := hp.cell rfl
    have y0 := hp.free 0
    have y1 := hp.free 1
    refine ⟨((w.setCell ⟨b, 0, none⟩ (.int .u64 (hi R : Nat))).setCell ⟨b, 1, none⟩ (.int .u64 (lo R : Nat))), ?_, ((hp.set 0 (.int .u64 (hi R : Nat))).set 1 (.int .u64 (lo R : Nat))), (((Below.refl _ _).setCell (p := ⟨b, 0, none⟩) hB _).setCell (p := ⟨b, 1, none⟩) hB _), fun k hk => ?_⟩
    · (try dsimp only at hSw); go_simp; try with_reducible rfl
    · exact (Below.heap_setCell _ _ _ _ hk).trans ((Below.heap_setCell _ _ _ _ hk))
  refine abDone (by kernel_rfl) ?_ _
  rintro w1 hS
  have k9 := sof_post hS _ (List.mem_cons_self) (by kernel_rfl) (by kernel_rfl) (b := p9) rfl
  have k10 := sof_post hS _ (List.mem_cons_of_mem _ (List.mem_cons_self)) (by kernel_rfl) (by kernel_rfl) (b := p10) rfl
  have Bs := Lib.hid hS.1.2.2.2.out.1
  have HW1 := Lib.hid hS.1.2.2.2.out.2
  have Bq : Hid (Blk w1 p9 #[.int .u64 (hi Q : Nat), .int .u64 (lo Q : Nat)]) := Lib.hid k9.2.2
  have Br : Hid (Blk w1 p10 #[.int .u64 (hi R : Nat), .int .u64 (lo R : Nat)]) := Lib.hid k10.2.2
  have z9 : w.heap.size < p9 := by have := k9.1; omega
  have z10 : w.heap.size < p10 := by have := k10.1; omega
  have Z9 := Lib.hid z9; have Z10 := Lib.hid z10; have NP := Lib.hid np9
  clear hS HOK HF k9 k10 z9 z10 ls hw0 hp9 hp10 np9
  have lr := Br.out.lt
  have cr0 : w1.cell? ⟨p10, 0, none⟩ = some (.int .u64 (hi R : Nat)) := Br.out.cell rfl
  have cr1 : w1.cell? ⟨p10, 1, none⟩ = some (.int .u64 (lo R : Nat)) := Br.out.cell rfl
  go_wp2_with fail
  refine (M3.out _).mono ?_
  rintro e w2 ⟨rfl, hb⟩
  have ks : Blk w2 w.heap.size #[.bool Bz, .int .u64 (hi n : Nat), .int .u64 (lo n : Nat)] := Bs.out.call hb
  have kq : Blk w2 p9 #[.int .u64 (hi Q : Nat), .int .u64 (lo Q : Nat)] := Bq.out.call hb
  have kr : Blk w2 p10 #[.int .u64 (hi R : Nat), .int .u64 (lo R : Nat)] := Br.out.call hb
  have kw : Below w.heap.size w w2 := HW1.out.trans (hb.mono HW1.out.size)
  clear lr cr0 cr1 Bs Bq Br HW1
  have Bs := Lib.hid ks
  have Bq := Lib.hid kq
  have Br := Lib.hid kr
  have HW2 := Lib.hid kw
  clear hb kw ks kq kr
  have lr := Br.out.lt
  have cr0 : w2.cell? ⟨p10, 0, none⟩ = some (.int .u64 (hi R : Nat)) := Br.out.cell rfl
  have cr1 : w2.cell? ⟨p10, 1, none⟩ = some (.int .u64 (lo R : Nat)) := Br.out.cell rfl
  have hA := HA.out
  have hE1 := E1.out
  clear HA E1
  cases V <;> cases DR <;> simp at hA
  all_goals
    clear hA
    have lq := Bq.out.lt
    have cq0 : w2.cell? ⟨p9, 0, none⟩ = some (.int .u64 (hi Q : Nat)) := Bq.out.cell rfl
    have cq1 : w2.cell? ⟨p9, 1, none⟩ = some (.int .u64 (lo Q : Nat)) := Bq.out.cell rfl
    go_wp2_with fail
    refine (M7.out _).mono ?_
    rintro e w3 ⟨rfl, hb⟩
    have ks : Blk w3 w.heap.size #[.bool Bz, .int .u64 (hi n : Nat), .int .u64 (lo n : Nat)] := (Bs.out.alloc _).call hb
    have kq : Blk w3 p9 #[.int .u64 (hi Q : Nat), .int .u64 (lo Q : Nat)] := (Bq.out.alloc _).call hb
    have kr : Blk w3 p10 #[.int .u64 (hi R : Nat), .int .u64 (lo R : Nat)] := (Br.out.alloc _).call hb
    have kt : Blk w3 w2.heap.size #[.int .u64 (hi N : Nat), .int .u64 (lo N : Nat)] := (Blk.new _ _ _).call hb
    have kw : Below w.heap.size w w3 := (HW2.out.alloc HW2.out.size _).trans (hb.mono (by have := HW2.out.size; simp; omega))
    clear lr cr0 cr1 lq cq0 cq1 Bs Bq Br HW2
    have Bs := Lib.hid ks
    have Bq := Lib.hid kq
    have Br := Lib.hid kr
    have Bt := Lib.hid kt
    have HW3 := Lib.hid kw
    clear hb kw ks kq kr kt
    go_wp2_with fail
    go_ret2
    exact ⟨rfl, HW3.out⟩
set_option maxRecDepth 100000 in
set_option maxHeartbeats 2000000 in
theorem rdivd_0_yes (c x y : Int) (n z Q R N G : Nat) (Bz Cn D0 V DR : Bool) (w : World)
    (hC : decide (c < 0) = Cn) (hV : (!(Bz == Cn) && !D0) = V) (hA : (V && !DR) = true)
    (hE0 : ∀ w, (Op.equalIn 10000 48 (.agg #[.int .u64 (hi n : Nat), .int .u64 (lo n : Nat)]) (.agg #[.int .u64 0, .int .u64 0])).run Try.prog w = .ok D0 w)
    (hE1 : ∀ w, (Op.equalIn 10000 48 (.agg #[.int .u64 (hi R : Nat), .int .u64 (lo R : Nat)]) (.agg #[.int .u64 0, .int .u64 0])).run Try.prog w = .ok DR w)
    (m1 : ∀ w, Calls Try.prog 27 #[.int .i64 c] w fun en w' => en = .returned (.agg #[.int .u64 (hi z : Nat), .int .u64 (lo z : Nat)]) ∧ Below w.heap.size w w')
    (m2 : ∀ w, Calls Try.prog 49 #[.agg #[.int .u64 (hi n : Nat), .int .u64 (lo n : Nat)], .agg #[.int .u64 (hi z : Nat), .int .u64 (lo z : Nat)]] w fun en w' => en = .returned (.tuple #[.agg #[.int .u64 (hi Q : Nat), .int .u64 (lo Q : Nat)], .agg #[.int .u64 (hi R : Nat), .int .u64 (lo R : Nat)]]) ∧ Below w.heap.size w w')
    (m3 : ∀ w, Calls Try.prog 50 #[.agg #[.int .u64 (hi R : Nat), .int .u64 (lo R : Nat)], .agg #[.int .u64 (hi R : Nat), .int .u64 (lo R : Nat)]] w fun en w' => en = .returned (.tuple #[.agg #[.int .u64 (hi N : Nat), .int .u64 (lo N : Nat)], .bool false]) ∧ Below w.heap.size w w')
    (m5 : ∀ w, Calls Try.prog 28 #[.int .u64 1] w fun en w' => en = .returned (.agg #[.int .u64 0, .int .u64 1]) ∧ Below w.heap.size w w')
    (m6 : ∀ w, Calls Try.prog 50 #[.agg #[.int .u64 (hi Q : Nat), .int .u64 (lo Q : Nat)], .agg #[.int .u64 0, .int .u64 1]] w fun en w' => en = .returned (.tuple #[.agg #[.int .u64 (hi G : Nat), .int .u64 (lo G : Nat)], .bool false]) ∧ Below w.heap.size w w')
    (m7 : ∀ w, Calls Try.prog 81 #[.agg #[.bool V, .int .u64 (hi G : Nat), .int .u64 (lo G : Nat)]] w fun en w' => en = .returned (.tuple #[.int .i64 x, .int .i64 y]) ∧ Below w.heap.size w w') :
    Calls Try.prog 60 #[.agg #[.bool Bz, .int .u64 (hi n : Nat), .int .u64 (lo n : Nat)], .int .i64 c, .int .i64 0] w fun en w' => en = .returned (.tuple #[.int .i64 x, .int .i64 y]) ∧ Below w.heap.size w w' := by
  have M1 := Lib.hid m1; have M2 := Lib.hid m2; have M3 := Lib.hid m3; have M5 := Lib.hid m5; have M6 := Lib.hid m6; have M7 := Lib.hid m7
  clear m1 m2 m3 m5 m6 m7
  have HA := Lib.hid hA; have E1 := Lib.hid hE1
  clear hA hE1
  go_enter Try.func60, Try.ntmps60
  go_upto_region 1 with fail
  go_cut [8] (fun s8 wx => s8 = .bool V ∧ w.alloc (.cells #[.bool Bz, .int .u64 (hi n : Nat), .int .u64 (lo n : Nat)] 59) = wx)
  case first =>
    cases Bz <;> cases Cn
    all_goals
      simp at hV
      subst hV
      go_wp2_with fail
      go_meet
      exact ⟨rfl, rfl⟩
  case rest =>
  obtain ⟨rfl, rfl⟩ := hcut
  clear hE0 hV hC
  go_upto_region 2 with fail
  obtain ⟨W0, hW0⟩ : ∃ W0, w.alloc (.cells #[.bool Bz, .int .u64 (hi n : Nat), .int .u64 (lo n : Nat)] 59) = W0 := ⟨_, rfl⟩
  have bs : Blk W0 w.heap.size #[.bool Bz, .int .u64 (hi n : Nat), .int .u64 (lo n : Nat)] := by rw [← hW0]; exact Blk.new _ _ _
  have hw0 : Below w.heap.size w W0 := by rw [← hW0]; exact (Below.refl _ _).alloc (Nat.le_refl _) _
  rw [hW0]
  clear hW0
  have ls := bs.lt
  have hok : OwnOk (fun w' => w'.cell? ⟨w.heap.size, 0, none⟩ = some (.bool Bz) ∧ w'.cell? ⟨w.heap.size, 1, none⟩ = some (.int .u64 (hi n : Nat)) ∧ w'.cell? ⟨w.heap.size, 2, none⟩ = some (.int .u64 (lo n : Nat)) ∧ Hid (Blk w' w.heap.size #[.bool Bz, .int .u64 (hi n : Nat), .int .u64 (lo n : Nat)] ∧ Below w.heap.size w w')) W0.heap.size [⟨8, 10, fun w b => Blk w b #[.int .u64 0, .int .u64 0], fun w b => Blk w b #[.int .u64 (hi Q : Nat), .int .u64 (lo Q : Nat)]⟩, ⟨9, 11, fun w b => Blk w b #[.int .u64 0, .int .u64 0], fun w b => Blk w b #[.int .u64 (hi R : Nat), .int .u64 (lo R : Nat)]⟩] := own2_ok (fun v1 v2 h hb => ⟨(h.2.2.2.out.1.below hb bs.lt).cell rfl, (h.2.2.2.out.1.below hb bs.lt).cell rfl, (h.2.2.2.out.1.below hb bs.lt).cell rfl, Lib.hid ⟨(h.2.2.2.out.1.below hb bs.lt), (h.2.2.2.out.2.trans (hb.mono hw0.size))⟩⟩) ⟨Blk.local _, Blk.local _⟩ ⟨Blk.local _, Blk.local _⟩ (by simp) (by simp) (by simp)
  have hfit : ∀ i, (∀ e ∈ ([⟨8, 10, fun w b => Blk w b #[.int .u64 0, .int .u64 0], fun w b => Blk w b #[.int .u64 (hi Q : Nat), .int .u64 (lo Q : Nat)]⟩, ⟨9, 11, fun w b => Blk w b #[.int .u64 0, .int .u64 0], fun w b => Blk w b #[.int .u64 (hi R : Nat), .int .u64 (lo R : Nat)]⟩] : List Ent), e.x ≠ i ∧ e.s ≠ i) → Fit (fun w' => w'.cell? ⟨w.heap.size, 0, none⟩ = some (.bool Bz) ∧ w'.cell? ⟨w.heap.size, 1, none⟩ = some (.int .u64 (hi n : Nat)) ∧ w'.cell? ⟨w.heap.size, 2, none⟩ = some (.int .u64 (lo n : Nat)) ∧ Hid (Blk w' w.heap.size #[.bool Bz, .int .u64 (hi n : Nat), .int .u64 (lo n : Nat)] ∧ Below w.heap.size w w')) (Sof (fun w' => w'.cell? ⟨w.heap.size, 0, none⟩ = some (.bool Bz) ∧ w'.cell? ⟨w.heap.size, 1, none⟩ = some (.int .u64 (hi n : Nat)) ∧ w'.cell? ⟨w.heap.size, 2, none⟩ = some (.int .u64 (lo n : Nat)) ∧ Hid (Blk w' w.heap.size #[.bool Bz, .int .u64 (hi n : Nat), .int .u64 (lo n : Nat)] ∧ Below w.heap.size w w')) W0.heap.size [⟨8, 10, fun w b => Blk w b #[.int .u64 0, .int .u64 0], fun w b => Blk w b #[.int .u64 (hi Q : Nat), .int .u64 (lo Q : Nat)]⟩, ⟨9, 11, fun w b => Blk w b #[.int .u64 0, .int .u64 0], fun w b => Blk w b #[.int .u64 (hi R : Nat), .int .u64 (lo R : Nat)]⟩]) i := fun i hi => sof_fit hok.st hok.loc hi
  have HOK := Lib.hid hok; have HF := Lib.hid hfit; clear hok hfit
  refine wp_region_ab (S0 := (fun w' => w'.cell? ⟨w.heap.size, 0, none⟩ = some (.bool Bz) ∧ w'.cell? ⟨w.heap.size, 1, none⟩ = some (.int .u64 (hi n : Nat)) ∧ w'.cell? ⟨w.heap.size, 2, none⟩ = some (.int .u64 (lo n : Nat)) ∧ Hid (Blk w' w.heap.size #[.bool Bz, .int .u64 (hi n : Nat), .int .u64 (lo n : Nat)] ∧ Below w.heap.size w w'))) W0.heap.size [⟨8, 10, fun w b => Blk w b #[.int .u64 0, .int .u64 0], fun w b => Blk w b #[.int .u64 (hi Q : Nat), .int .u64 (lo Q : Nat)]⟩, ⟨9, 11, fun w b => Blk w b #[.int .u64 0, .int .u64 0], fun w b => Blk w b #[.int .u64 (hi R : Nat), .int .u64 (lo R : Nat)]⟩] (by kernel_rfl) ⟨bs.drew.cell rfl, bs.drew.cell rfl, bs.drew.cell rfl, Lib.hid ⟨bs.drew, hw0.drew⟩⟩ (Nat.le_refl _) (by simp) ?_
  clear bs
  refine abTake 0 (some 26) (v := ?_) rfl rfl (by kernel_rfl) (by kernel_rfl) (by kernel_rfl) (fun _ _ _ h => h) (HF.out _ (by simp)) (by rfl) ?_ ?_
  rotate_left 1
  · (intro w hSw; (try dsimp only at hSw); go_simp; try with_reducible rfl)
  simp only [Act.put, List.setIfInBounds_toArray, List.set_cons_zero, List.set_cons_succ]
  refine abTake 1 (some 27) (v := ?_) rfl rfl (by kernel_rfl) (by kernel_rfl) (by kernel_rfl) (fun _ _ _ h => h) (HF.out _ (by simp)) (by rfl) ?_ ?_
  rotate_left 1
  · (intro w hSw; (try dsimp only at hSw); go_simp; try with_reducible rfl)
  simp only [Act.put, List.setIfInBounds_toArray, List.set_cons_zero, List.set_cons_succ]
  refine abTake 2 (some 28) (v := ?_) rfl rfl (by kernel_rfl) (by kernel_rfl) (by kernel_rfl) (fun _ _ _ h => h) (HF.out _ (by simp)) (by rfl) ?_ ?_
  rotate_left 1
  · (intro w hSw; (try dsimp only at hSw); go_simp; try with_reducible rfl)
  simp only [Act.put, List.setIfInBounds_toArray, List.set_cons_zero, List.set_cons_succ]
  refine abCall 3 (some 29) rfl rfl (by kernel_rfl) (by kernel_rfl) (by kernel_rfl) (fun _ _ _ h => h) (HF.out _ (by simp)) (by rfl) ?_ (fun w hSw => M1.out w) ?_
  · (intro w hSw; (try dsimp only at hSw); go_simp; try with_reducible rfl)
  simp only [Act.put, List.setIfInBounds_toArray, List.set_cons_zero, List.set_cons_succ]
  refine abCall 4 (some 30) rfl rfl (by kernel_rfl) (by kernel_rfl) (by kernel_rfl) (fun _ _ _ h => h) (HF.out _ (by simp)) (by rfl) ?_ (fun w hSw => M2.out w) ?_
  · (intro w hSw; (try dsimp only at hSw); go_simp; try with_reducible rfl)
  simp only [Act.put, List.setIfInBounds_toArray, List.set_cons_zero, List.set_cons_succ]
  refine abTake 5 (some 25) (v := ?_) rfl rfl (by kernel_rfl) (by kernel_rfl) (by kernel_rfl) (fun _ _ _ h => h) (HF.out _ (by simp)) (by rfl) ?_ ?_
  rotate_left 1
  · (intro w hSw; (try dsimp only at hSw); go_simp; try with_reducible rfl)
  simp only [Act.put, List.setIfInBounds_toArray, List.set_cons_zero, List.set_cons_succ]
  refine abTake 6 (some 31) (v := ?_) rfl rfl (by kernel_rfl) (by kernel_rfl) (by kernel_rfl) (fun _ _ _ h => h) (HF.out _ (by simp)) (by rfl) ?_ ?_
  rotate_left 1
  · (intro w hSw; (try dsimp only at hSw); go_simp; try with_reducible rfl)
  simp only [Act.put, List.setIfInBounds_toArray, List.set_cons_zero, List.set_cons_succ]
  refine abTake 7 (some 32) (v := ?_) rfl rfl (by kernel_rfl) (by kernel_rfl) (by kernel_rfl) (fun _ _ _ h => h) (HF.out _ (by simp)) (by rfl) ?_ ?_
  rotate_left 1
  · (intro w hSw; (try dsimp only at hSw); go_simp; try with_reducible rfl)
  simp only [Act.put, List.setIfInBounds_toArray, List.set_cons_zero, List.set_cons_succ]
  refine abMake2 8 9 9 10 HOK.out _ _ (List.mem_cons_self) (List.mem_cons_of_mem _ (List.mem_cons_self)) rfl rfl rfl rfl rfl rfl (by kernel_rfl) (by kernel_rfl) (by kernel_rfl) (by kernel_rfl) (by decide) (by simp) (by kernel_rfl) (by kernel_rfl) (by kernel_rfl) (by kernel_rfl) (by kernel_rfl) (by kernel_rfl) ⟨by rfl, .cells #[.int .u64 0, .int .u64 0] 48, fun w hSw => ⟨(by (try dsimp only at hSw); go_simp; try with_reducible rfl), Blk.newAt rfl⟩⟩ ⟨by rfl, .cells #[.int .u64 0, .int .u64 0] 48, fun w hSw => ⟨(by (try dsimp only at hSw); go_simp; try with_reducible rfl), Blk.newAt rfl⟩⟩ (fun p9 p10 hp9 hp10 np9 => ?_)
  simp only [Act.put, List.setIfInBounds_toArray, List.set_cons_zero, List.set_cons_succ]
  refine abStore 10 HOK.out _ (List.mem_cons_self) rfl rfl rfl (by kernel_rfl) (by kernel_rfl) (by kernel_rfl) (by kernel_rfl) (by rfl) ?_ ?_
  · rintro w b hSw hg hB hp
    obtain rfl : b = p9 := hg
    replace hp : Blk w b #[.int .u64 0, .int .u64 0] := hp
    have x0 : w.cell? ⟨b, 0, none⟩ = some (.int .u64 0) := hp.cell rfl
    have x1 : w.cell? ⟨b, 1, none⟩ = some (.int .u64 0) := hp.cell rfl
    have y0 := hp.free 0
    have y1 := hp.free 1
    refine ⟨((w.setCell ⟨b, 0, none⟩ (.int .u64 (hi Q : Nat))).setCell ⟨b, 1, none⟩ (.int .u64 (lo Q : Nat))), ?_, ((hp.set 0 (.int .u64 (hi Q : Nat))).set 1 (.int .u64 (lo Q : Nat))), (((Below.refl _ _).setCell (p := ⟨b, 0, none⟩) hB _).setCell (p := ⟨b, 1, none⟩) hB _), fun k hk => ?_⟩
    · (try dsimp only at hSw); go_simp; try with_reducible rfl
    · exact (Below.heap_setCell _ _ _ _ hk).trans ((Below.heap_setCell _ _ _ _ hk))
  refine abStore 11 HOK.out _ (List.mem_cons_of_mem _ (List.mem_cons_self)) rfl rfl rfl (by kernel_rfl) (by kernel_rfl) (by kernel_rfl) (by kernel_rfl) (by rfl) ?_ ?_
  · rintro w b hSw hg hB hp
    obtain rfl : b = p10 := hg
    replace hp : Blk w b #[.int .u64 0, .int .u64 0] := hp
    have x0 : w.cell? ⟨b, 0, none⟩ = some (.int .u64 0) := hp.cell rfl
    have x1 : w.cell? ⟨b, 1, none⟩ = some (.int .u64 0) := hp.cell rfl
    have y0 := hp.free 0
    have y1 := hp.free 1
    refine ⟨((w.setCell ⟨b, 0, none⟩ (.int .u64 (hi R : Nat))).setCell ⟨b, 1, none⟩ (.int .u64 (lo R : Nat))), ?_, ((hp.set 0 (.int .u64 (hi R : Nat))).set 1 (.int .u64 (lo R : Nat))), (((Below.refl _ _).setCell (p := ⟨b, 0, none⟩) hB _).setCell (p := ⟨b, 1, none⟩) hB _), fun k hk => ?_⟩
    · (try dsimp only at hSw); go_simp; try with_reducible rfl
    · exact (Below.heap_setCell _ _ _ _ hk).trans ((Below.heap_setCell _ _ _ _ hk))
  refine abDone (by kernel_rfl) ?_ _
  rintro w1 hS
  have k9 := sof_post hS _ (List.mem_cons_self) (by kernel_rfl) (by kernel_rfl) (b := p9) rfl
  have k10 := sof_post hS _ (List.mem_cons_of_mem _ (List.mem_cons_self)) (by kernel_rfl) (by kernel_rfl) (b := p10) rfl
  have Bs := Lib.hid hS.1.2.2.2.out.1
  have HW1 := Lib.hid hS.1.2.2.2.out.2
  have Bq : Hid (Blk w1 p9 #[.int .u64 (hi Q : Nat), .int .u64 (lo Q : Nat)]) := Lib.hid k9.2.2
  have Br : Hid (Blk w1 p10 #[.int .u64 (hi R : Nat), .int .u64 (lo R : Nat)]) := Lib.hid k10.2.2
  have z9 : w.heap.size < p9 := by have := k9.1; omega
  have z10 : w.heap.size < p10 := by have := k10.1; omega
  have Z9 := Lib.hid z9; have Z10 := Lib.hid z10; have NP := Lib.hid np9
  clear hS HOK HF k9 k10 z9 z10 ls hw0 hp9 hp10 np9
  have lr := Br.out.lt
  have cr0 : w1.cell? ⟨p10, 0, none⟩ = some (.int .u64 (hi R : Nat)) := Br.out.cell rfl
  have cr1 : w1.cell? ⟨p10, 1, none⟩ = some (.int .u64 (lo R : Nat)) := Br.out.cell rfl
  go_wp2_with fail
  refine (M3.out _).mono ?_
  rintro e w2 ⟨rfl, hb⟩
  have ks : Blk w2 w.heap.size #[.bool Bz, .int .u64 (hi n : Nat), .int .u64 (lo n : Nat)] := Bs.out.call hb
  have kq : Blk w2 p9 #[.int .u64 (hi Q : Nat), .int .u64 (lo Q : Nat)] := Bq.out.call hb
  have kr : Blk w2 p10 #[.int .u64 (hi R : Nat), .int .u64 (lo R : Nat)] := Br.out.call hb
  have kw : Below w.heap.size w w2 := HW1.out.trans (hb.mono HW1.out.size)
  clear lr cr0 cr1 Bs Bq Br HW1
  have Bs := Lib.hid ks
  have Bq := Lib.hid kq
  have Br := Lib.hid kr
  have HW2 := Lib.hid kw
  clear hb kw ks kq kr
  have lr := Br.out.lt
  have cr0 : w2.cell? ⟨p10, 0, none⟩ = some (.int .u64 (hi R : Nat)) := Br.out.cell rfl
  have cr1 : w2.cell? ⟨p10, 1, none⟩ = some (.int .u64 (lo R : Nat)) := Br.out.cell rfl
  have hA := HA.out
  have hE1 := E1.out
  clear HA E1
  cases V <;> cases DR <;> simp at hA
  all_goals
    clear hA
    go_upto_region 8 with fail
    have bq : Blk (w2.alloc (.cells #[.int .u64 (hi N : Nat), .int .u64 (lo N : Nat)] 48)) p9 #[.int .u64 (hi Q : Nat), .int .u64 (lo Q : Nat)] := (Bq.out.alloc _)
    have hw : Below w.heap.size w (w2.alloc (.cells #[.int .u64 (hi N : Nat), .int .u64 (lo N : Nat)] 48)) := (HW2.out.alloc HW2.out.size _)
    obtain ⟨W2, hW2⟩ : ∃ W2, (w2.alloc (.cells #[.int .u64 (hi N : Nat), .int .u64 (lo N : Nat)] 48)) = W2 := ⟨_, rfl⟩
    rw [hW2] at bq hw ⊢
    clear hW2 lr cr0 cr1
    have mkS : ∀ w', Below w.heap.size w w' → (fun w' => Hid (Below w.heap.size w w')) w' := fun w' h => Lib.hid h
    refine wp_region_held_drew (S := fun w' => Hid (Below w.heap.size w w')) (by kernel_rfl) (mkS _ hw.drew) (fun hHeld => ?_)
    replace bq := bq.drew
    clear hw
    refine regTwo 0 1 (by kernel_rfl) ?_ ?_
    · have x0 : W2.drew.cell? ⟨p9, 0, none⟩ = some (.int .u64 (hi Q : Nat)) := bq.cell rfl
      have x1 : W2.drew.cell? ⟨p9, 1, none⟩ = some (.int .u64 (lo Q : Nat)) := bq.cell rfl
      refine stepDo 0 (some 82) (v := ?_) (w' := ?_) rfl rfl (by rfl) ?_ ?_ (fun hHeld => ?_)
      rotate_left 2
      · (go_simp; refine ⟨?_, ?_⟩ <;> with_reducible rfl)
      · exact hHeld
      simp only [Act.put, List.setIfInBounds_toArray, List.set_cons_zero, List.set_cons_succ]
      clear x0 x1
      refine regCall 1 (some 83) (f := 28) (args := ?_) rfl rfl (by kernel_rfl) (by rfl) ?_ ?_
      rotate_left 1
      · (go_simp; try with_reducible rfl)
      refine (M5.out _).mono ?_
      rintro e wx1 ⟨rfl, hbx⟩
      refine ⟨_, rfl, mkS _ (hHeld.out.trans (hbx.mono hHeld.out.size)), fun hHeld => ?_⟩
      simp only [Act.put, List.setIfInBounds_toArray, List.set_cons_zero, List.set_cons_succ]
      replace bq := bq.call hbx
      clear hbx
      refine regCall 2 (some 84) (f := 50) (args := ?_) rfl rfl (by kernel_rfl) (by rfl) ?_ ?_
      rotate_left 1
      · (go_simp; try with_reducible rfl)
      refine (M6.out _).mono ?_
      rintro e wx2 ⟨rfl, hbx⟩
      refine ⟨_, rfl, mkS _ (hHeld.out.trans (hbx.mono hHeld.out.size)), fun hHeld => ?_⟩
      simp only [Act.put, List.setIfInBounds_toArray, List.set_cons_zero, List.set_cons_succ]
      replace bq := bq.call hbx
      clear hbx
      refine regTake 3 (some 81) (v := ?_) rfl rfl (by kernel_rfl) (by kernel_rfl) (by kernel_rfl) (fun _ _ _ h => h) (by rfl) hHeld ?_ ?_
      rotate_left 1
      · (intro w hSw; (try dsimp only at hSw); go_simp; try with_reducible rfl)
      simp only [Act.put, List.setIfInBounds_toArray, List.set_cons_zero, List.set_cons_succ]
      refine regTake 4 (some 85) (v := ?_) rfl rfl (by kernel_rfl) (by kernel_rfl) (by kernel_rfl) (fun _ _ _ h => h) (by rfl) hHeld ?_ ?_
      rotate_left 1
      · (intro w hSw; (try dsimp only at hSw); go_simp; try with_reducible rfl)
      simp only [Act.put, List.setIfInBounds_toArray, List.set_cons_zero, List.set_cons_succ]
      refine regTake 5 (some 86) (v := ?_) rfl rfl (by kernel_rfl) (by kernel_rfl) (by kernel_rfl) (fun _ _ _ h => h) (by rfl) hHeld ?_ ?_
      rotate_left 1
      · (intro w hSw; (try dsimp only at hSw); go_simp; try with_reducible rfl)
      simp only [Act.put, List.setIfInBounds_toArray, List.set_cons_zero, List.set_cons_succ]
      have x0 : wx2.cell? ⟨p9, 0, none⟩ = some (.int .u64 (hi Q : Nat)) := bq.cell rfl
      have x1 : wx2.cell? ⟨p9, 1, none⟩ = some (.int .u64 (lo Q : Nat)) := bq.cell rfl
      have y0 := bq.free 0
      have y1 := bq.free 1
      refine regStore 6 (w' := ?_) rfl rfl (by kernel_rfl) (by rfl) ?_ ?_ (fun hHeld => ?_)
      rotate_left 1
      · (go_simp; try with_reducible rfl)
      · exact mkS _ ((hHeld.out.setCell (p := ⟨p9, 0, none⟩) (Nat.le_of_lt Z9.out) _).setCell (p := ⟨p9, 1, none⟩) (Nat.le_of_lt Z9.out) _)
      clear x0 x1 y0 y1
      have bq2 : Blk ((wx2.setCell ⟨p9, 0, none⟩ (.int .u64 (hi G : Nat))).setCell ⟨p9, 1, none⟩ (.int .u64 (lo G : Nat))) p9 #[.int .u64 (hi G : Nat), .int .u64 (lo G : Nat)] := (bq.set 0 _).set 1 _
      obtain ⟨W3, hW3⟩ : ∃ W3, (wx2.setCell ⟨p9, 0, none⟩ (.int .u64 (hi G : Nat))).setCell ⟨p9, 1, none⟩ (.int .u64 (lo G : Nat)) = W3 := ⟨_, rfl⟩
      rw [hW3] at bq2 hHeld ⊢
      clear hW3 bq
      have HW3 := hHeld
      clear hHeld
      refine wpAnyH_done (by kernel_rfl) ?_ _
      have x0 : W3.cell? ⟨p9, 0, none⟩ = some (.int .u64 (hi G : Nat)) := bq2.cell rfl
      have x1 : W3.cell? ⟨p9, 1, none⟩ = some (.int .u64 (lo G : Nat)) := bq2.cell rfl
      clear bq2
      go_wp2_with fail
      refine (M7.out _).mono ?_
      rintro e w9 ⟨rfl, hb⟩
      have HW9 := Lib.hid (HW3.out.trans (hb.mono HW3.out.size))
      clear hb x0 x1
      go_wp2_with fail
      go_ret2
      exact ⟨rfl, HW9.out⟩
    · refine stepCall 1 (some 83) (f := 28) (args := ?_) rfl rfl (by rfl) ?_ ?_
      rotate_left 1
      · (go_simp; try with_reducible rfl)
      refine (M5.out _).mono ?_
      rintro e wx1 ⟨rfl, hbx⟩
      refine ⟨_, rfl, mkS _ (hHeld.out.trans (hbx.mono hHeld.out.size)), fun hHeld => ?_⟩
      simp only [Act.put, List.setIfInBounds_toArray, List.set_cons_zero, List.set_cons_succ]
      replace bq := bq.call hbx
      clear hbx
      have x0 : wx1.cell? ⟨p9, 0, none⟩ = some (.int .u64 (hi Q : Nat)) := bq.cell rfl
      have x1 : wx1.cell? ⟨p9, 1, none⟩ = some (.int .u64 (lo Q : Nat)) := bq.cell rfl
      refine regDo 0 (some 82) (v := ?_) (w' := ?_) rfl rfl (by kernel_rfl) (by rfl) ?_ ?_ (fun hHeld => ?_)
      rotate_left 2
      · (go_simp; refine ⟨?_, ?_⟩ <;> with_reducible rfl)
      · exact hHeld
      simp only [Act.put, List.setIfInBounds_toArray, List.set_cons_zero, List.set_cons_succ]
      clear x0 x1
      refine regCall 2 (some 84) (f := 50) (args := ?_) rfl rfl (by kernel_rfl) (by rfl) ?_ ?_
      rotate_left 1
      · (go_simp; try with_reducible rfl)
      refine (M6.out _).mono ?_
      rintro e wx2 ⟨rfl, hbx⟩
      refine ⟨_, rfl, mkS _ (hHeld.out.trans (hbx.mono hHeld.out.size)), fun hHeld => ?_⟩
      simp only [Act.put, List.setIfInBounds_toArray, List.set_cons_zero, List.set_cons_succ]
      replace bq := bq.call hbx
      clear hbx
      refine regTake 3 (some 81) (v := ?_) rfl rfl (by kernel_rfl) (by kernel_rfl) (by kernel_rfl) (fun _ _ _ h => h) (by rfl) hHeld ?_ ?_
      rotate_left 1
      · (intro w hSw; (try dsimp only at hSw); go_simp; try with_reducible rfl)
      simp only [Act.put, List.setIfInBounds_toArray, List.set_cons_zero, List.set_cons_succ]
      refine regTake 4 (some 85) (v := ?_) rfl rfl (by kernel_rfl) (by kernel_rfl) (by kernel_rfl) (fun _ _ _ h => h) (by rfl) hHeld ?_ ?_
      rotate_left 1
      · (intro w hSw; (try dsimp only at hSw); go_simp; try with_reducible rfl)
      simp only [Act.put, List.setIfInBounds_toArray, List.set_cons_zero, List.set_cons_succ]
      refine regTake 5 (some 86) (v := ?_) rfl rfl (by kernel_rfl) (by kernel_rfl) (by kernel_rfl) (fun _ _ _ h => h) (by rfl) hHeld ?_ ?_
      rotate_left 1
      · (intro w hSw; (try dsimp only at hSw); go_simp; try with_reducible rfl)
      simp only [Act.put, List.setIfInBounds_toArray, List.set_cons_zero, List.set_cons_succ]
      have x0 : wx2.cell? ⟨p9, 0, none⟩ = some (.int .u64 (hi Q : Nat)) := bq.cell rfl
      have x1 : wx2.cell? ⟨p9, 1, none⟩ = some (.int .u64 (lo Q : Nat)) := bq.cell rfl
      have y0 := bq.free 0
      have y1 := bq.free 1
      refine regStore 6 (w' := ?_) rfl rfl (by kernel_rfl) (by rfl) ?_ ?_ (fun hHeld => ?_)
      rotate_left 1
      · (go_simp; try with_reducible rfl)
      · exact mkS _ ((hHeld.out.setCell (p := ⟨p9, 0, none⟩) (Nat.le_of_lt Z9.out) _).setCell (p := ⟨p9, 1, none⟩) (Nat.le_of_lt Z9.out) _)
      clear x0 x1 y0 y1
      have bq2 : Blk ((wx2.setCell ⟨p9, 0, none⟩ (.int .u64 (hi G : Nat))).setCell ⟨p9, 1, none⟩ (.int .u64 (lo G : Nat))) p9 #[.int .u64 (hi G : Nat), .int .u64 (lo G : Nat)] := (bq.set 0 _).set 1 _
      obtain ⟨W3, hW3⟩ : ∃ W3, (wx2.setCell ⟨p9, 0, none⟩ (.int .u64 (hi G : Nat))).setCell ⟨p9, 1, none⟩ (.int .u64 (lo G : Nat)) = W3 := ⟨_, rfl⟩
      rw [hW3] at bq2 hHeld ⊢
      clear hW3 bq
      have HW3 := hHeld
      clear hHeld
      refine wpAnyH_done (by kernel_rfl) ?_ _
      have x0 : W3.cell? ⟨p9, 0, none⟩ = some (.int .u64 (hi G : Nat)) := bq2.cell rfl
      have x1 : W3.cell? ⟨p9, 1, none⟩ = some (.int .u64 (lo G : Nat)) := bq2.cell rfl
      clear bq2
      go_wp2_with fail
      refine (M7.out _).mono ?_
      rintro e w9 ⟨rfl, hb⟩
      have HW9 := Lib.hid (HW3.out.trans (hb.mono HW3.out.size))
      clear hb x0 x1
      go_wp2_with fail
      go_ret2
      exact ⟨rfl, HW9.out⟩
end Go.Proofs.Ytjnebbjjabnipaa

/- The reference of stage 4: Divided, by mode 1. -/
namespace Go.Proofs.Ytjnebbjjabnipaa
open Go.RowKit

set_option maxRecDepth 100000 in
set_option maxHeartbeats 2000000 in
theorem rdivd_1_no (c x y : Int) (n z Q R N : Nat) (Bz Cn D0 V DR : Bool) (w : World)
    (hC : decide (c < 0) = Cn) (hV : (!(Bz == Cn) && !D0) = V) (hA : (!V && !DR) = false)
    (hE0 : ∀ w, (Op.equalIn 10000 48 (.agg #[.int .u64 (hi n : Nat), .int .u64 (lo n : Nat)]) (.agg #[.int .u64 0, .int .u64 0])).run Try.prog w = .ok D0 w)
    (hE1 : ∀ w, (Op.equalIn 10000 48 (.agg #[.int .u64 (hi R : Nat), .int .u64 (lo R : Nat)]) (.agg #[.int .u64 0, .int .u64 0])).run Try.prog w = .ok DR w)
    (m1 : ∀ w, Calls Try.prog 27 #[.int .i64 c] w fun en w' => en = .returned (.agg #[.int .u64 (hi z : Nat), .int .u64 (lo z : Nat)]) ∧ Below w.heap.size w w')
    (m2 : ∀ w, Calls Try.prog 49 #[.agg #[.int .u64 (hi n : Nat), .int .u64 (lo n : Nat)], .agg #[.int .u64 (hi z : Nat), .int .u64 (lo z : Nat)]] w fun en w' => en = .returned (.tuple #[.agg #[.int .u64 (hi Q : Nat), .int .u64 (lo Q : Nat)], .agg #[.int .u64 (hi R : Nat), .int .u64 (lo R : Nat)]]) ∧ Below w.heap.size w w')
    (m3 : ∀ w, Calls Try.prog 50 #[.agg #[.int .u64 (hi R : Nat), .int .u64 (lo R : Nat)], .agg #[.int .u64 (hi R : Nat), .int .u64 (lo R : Nat)]] w fun en w' => en = .returned (.tuple #[.agg #[.int .u64 (hi N : Nat), .int .u64 (lo N : Nat)], .bool false]) ∧ Below w.heap.size w w')
    (m7 : ∀ w, Calls Try.prog 81 #[.agg #[.bool V, .int .u64 (hi Q : Nat), .int .u64 (lo Q : Nat)]] w fun en w' => en = .returned (.tuple #[.int .i64 x, .int .i64 y]) ∧ Below w.heap.size w w') :
    Calls Try.prog 60 #[.agg #[.bool Bz, .int .u64 (hi n : Nat), .int .u64 (lo n : Nat)], .int .i64 c, .int .i64 1] w fun en w' => en = .returned (.tuple #[.int .i64 x, .int .i64 y]) ∧ Below w.heap.size w w' := by
  have M1 := Lib.hid m1; have M2 := Lib.hid m2; have M3 := Lib.hid m3; have M7 := Lib.hid m7
  clear m1 m2 m3 m7
  have HA := Lib.hid hA; have E1 := Lib.hid hE1
  clear hA hE1
  go_enter Try.func60, Try.ntmps60
  go_upto_region 1 with fail
  go_cut [8] (fun s8 wx => s8 = .bool V ∧ w.alloc (.cells #[.bool Bz, .int .u64 (hi n : Nat), .int .u64 (lo n : Nat)] 59) = wx)
  case first =>
    cases Bz <;> cases Cn
    all_goals
      simp at hV
      subst hV
      go_wp2_with fail
      go_meet
      exact ⟨rfl, rfl⟩
  case rest =>
  obtain ⟨rfl, rfl⟩ := hcut
  clear hE0 hV hC
  go_upto_region 2 with fail
  obtain ⟨W0, hW0⟩ : ∃ W0, w.alloc (.cells #[.bool Bz, .int .u64 (hi n : Nat), .int .u64 (lo n : Nat)] 59) = W0 := ⟨_, rfl⟩
  have bs : Blk W0 w.heap.size #[.bool Bz, .int .u64 (hi n : Nat), .int .u64 (lo n : Nat)] := by rw [← hW0]; exact Blk.new _ _ _
  have hw0 : Below w.heap.size w W0 := by rw [← hW0]; exact (Below.refl _ _).alloc (Nat.le_refl _) _
  rw [hW0]
  clear hW0
  have ls := bs.lt
  have hok : OwnOk (fun w' => w'.cell? ⟨w.heap.size, 0, none⟩ = some (.bool Bz) ∧ w'.cell? ⟨w.heap.size, 1, none⟩ = some (.int .u64 (hi n : Nat)) ∧ w'.cell? ⟨w.heap.size, 2, none⟩ = some (.int .u64 (lo n : Nat)) ∧ Hid (Blk w' w.heap.size #[.bool Bz, .int .u64 (hi n : Nat), .int .u64 (lo n : Nat)] ∧ Below w.heap.size w w')) W0.heap.size [⟨8, 10, fun w b => Blk w b #[.int .u64 0, .int .u64 0], fun w b => Blk w b #[.int .u64 (hi Q : Nat), .int .u64 (lo Q : Nat)]⟩, ⟨9, 11, fun w b => Blk w b #[.int .u64 0, .int .u64 0], fun w b => Blk w b #[.int .u64 (hi R : Nat), .int .u64 (lo R : Nat)]⟩] := own2_ok (fun v1 v2 h hb => ⟨(h.2.2.2.out.1.below hb bs.lt).cell rfl, (h.2.2.2.out.1.below hb bs.lt).cell rfl, (h.2.2.2.out.1.below hb bs.lt).cell rfl, Lib.hid ⟨(h.2.2.2.out.1.below hb bs.lt), (h.2.2.2.out.2.trans (hb.mono hw0.size))⟩⟩) ⟨Blk.local _, Blk.local _⟩ ⟨Blk.local _, Blk.local _⟩ (by simp) (by simp) (by simp)
  have hfit : ∀ i, (∀ e ∈ ([⟨8, 10, fun w b => Blk w b #[.int .u64 0, .int .u64 0], fun w b => Blk w b #[.int .u64 (hi Q : Nat), .int .u64 (lo Q : Nat)]⟩, ⟨9, 11, fun w b => Blk w b #[.int .u64 0, .int .u64 0], fun w b => Blk w b #[.int .u64 (hi R : Nat), .int .u64 (lo R : Nat)]⟩] : List Ent), e.x ≠ i ∧ e.s ≠ i) → Fit (fun w' => w'.cell? ⟨w.heap.size, 0, none⟩ = some (.bool Bz) ∧ w'.cell? ⟨w.heap.size, 1, none⟩ = some (.int .u64 (hi n : Nat)) ∧ w'.cell? ⟨w.heap.size, 2, none⟩ = some (.int .u64 (lo n : Nat)) ∧ Hid (Blk w' w.heap.size #[.bool Bz, .int .u64 (hi n : Nat), .int .u64 (lo n : Nat)] ∧ Below w.heap.size w w')) (Sof (fun w' => w'.cell? ⟨w.heap.size, 0, none⟩ = some (.bool Bz) ∧ w'.cell? ⟨w.heap.size, 1, none⟩ = some (.int .u64 (hi n : Nat)) ∧ w'.cell? ⟨w.heap.size, 2, none⟩ = some (.int .u64 (lo n : Nat)) ∧ Hid (Blk w' w.heap.size #[.bool Bz, .int .u64 (hi n : Nat), .int .u64 (lo n : Nat)] ∧ Below w.heap.size w w')) W0.heap.size [⟨8, 10, fun w b => Blk w b #[.int .u64 0, .int .u64 0], fun w b => Blk w b #[.int .u64 (hi Q : Nat), .int .u64 (lo Q : Nat)]⟩, ⟨9, 11, fun w b => Blk w b #[.int .u64 0, .int .u64 0], fun w b => Blk w b #[.int .u64 (hi R : Nat), .int .u64 (lo R : Nat)]⟩]) i := fun i hi => sof_fit hok.st hok.loc hi
  have HOK := Lib.hid hok; have HF := Lib.hid hfit; clear hok hfit
  refine wp_region_ab (S0 := (fun w' => w'.cell? ⟨w.heap.size, 0, none⟩ = some (.bool Bz) ∧ w'.cell? ⟨w.heap.size, 1, none⟩ = some (.int .u64 (hi n : Nat)) ∧ w'.cell? ⟨w.heap.size, 2, none⟩ = some (.int .u64 (lo n : Nat)) ∧ Hid (Blk w' w.heap.size #[.bool Bz, .int .u64 (hi n : Nat), .int .u64 (lo n : Nat)] ∧ Below w.heap.size w w'))) W0.heap.size [⟨8, 10, fun w b => Blk w b #[.int .u64 0, .int .u64 0], fun w b => Blk w b #[.int .u64 (hi Q : Nat), .int .u64 (lo Q : Nat)]⟩, ⟨9, 11, fun w b => Blk w b #[.int .u64 0, .int .u64 0], fun w b => Blk w b #[.int .u64 (hi R : Nat), .int .u64 (lo R : Nat)]⟩] (by kernel_rfl) ⟨bs.drew.cell rfl, bs.drew.cell rfl, bs.drew.cell rfl, Lib.hid ⟨bs.drew, hw0.drew⟩⟩ (Nat.le_refl _) (by simp) ?_
  clear bs
  refine abTake 0 (some 26) (v := ?_) rfl rfl (by kernel_rfl) (by kernel_rfl) (by kernel_rfl) (fun _ _ _ h => h) (HF.out _ (by simp)) (by rfl) ?_ ?_
  rotate_left 1
  · (intro w hSw; (try dsimp only at hSw); go_simp; try with_reducible rfl)
  simp only [Act.put, List.setIfInBounds_toArray, List.set_cons_zero, List.set_cons_succ]
  refine abTake 1 (some 27) (v := ?_) rfl rfl (by kernel_rfl) (by kernel_rfl) (by kernel_rfl) (fun _ _ _ h => h) (HF.out _ (by simp)) (by rfl) ?_ ?_
  rotate_left 1
  · (intro w hSw; (try dsimp only at hSw); go_simp; try with_reducible rfl)
  simp only [Act.put, List.setIfInBounds_toArray, List.set_cons_zero, List.set_cons_succ]
  refine abTake 2 (some 28) (v := ?_) rfl rfl (by kernel_rfl) (by kernel_rfl) (by kernel_rfl) (fun _ _ _ h => h) (HF.out _ (by simp)) (by rfl) ?_ ?_
  rotate_left 1
  · (intro w hSw; (try dsimp only at hSw); go_simp; try with_reducible rfl)
  simp only [Act.put, List.setIfInBounds_toArray, List.set_cons_zero, List.set_cons_succ]
  refine abCall 3 (some 29) rfl rfl (by kernel_rfl) (by kernel_rfl) (by kernel_rfl) (fun _ _ _ h => h) (HF.out _ (by simp)) (by rfl) ?_ (fun w hSw => M1.out w) ?_
  · (intro w hSw; (try dsimp only at hSw); go_simp; try with_reducible rfl)
  simp only [Act.put, List.setIfInBounds_toArray, List.set_cons_zero, List.set_cons_succ]
  refine abCall 4 (some 30) rfl rfl (by kernel_rfl) (by kernel_rfl) (by kernel_rfl) (fun _ _ _ h => h) (HF.out _ (by simp)) (by rfl) ?_ (fun w hSw => M2.out w) ?_
  · (intro w hSw; (try dsimp only at hSw); go_simp; try with_reducible rfl)
  simp only [Act.put, List.setIfInBounds_toArray, List.set_cons_zero, List.set_cons_succ]
  refine abTake 5 (some 25) (v := ?_) rfl rfl (by kernel_rfl) (by kernel_rfl) (by kernel_rfl) (fun _ _ _ h => h) (HF.out _ (by simp)) (by rfl) ?_ ?_
  rotate_left 1
  · (intro w hSw; (try dsimp only at hSw); go_simp; try with_reducible rfl)
  simp only [Act.put, List.setIfInBounds_toArray, List.set_cons_zero, List.set_cons_succ]
  refine abTake 6 (some 31) (v := ?_) rfl rfl (by kernel_rfl) (by kernel_rfl) (by kernel_rfl) (fun _ _ _ h => h) (HF.out _ (by simp)) (by rfl) ?_ ?_
  rotate_left 1
  · (intro w hSw; (try dsimp only at hSw); go_simp; try with_reducible rfl)
  simp only [Act.put, List.setIfInBounds_toArray, List.set_cons_zero, List.set_cons_succ]
  refine abTake 7 (some 32) (v := ?_) rfl rfl (by kernel_rfl) (by kernel_rfl) (by kernel_rfl) (fun _ _ _ h => h) (HF.out _ (by simp)) (by rfl) ?_ ?_
  rotate_left 1
  · (intro w hSw; (try dsimp only at hSw); go_simp; try with_reducible rfl)
  simp only [Act.put, List.setIfInBounds_toArray, List.set_cons_zero, List.set_cons_succ]
  refine abMake2 8 9 9 10 HOK.out _ _ (List.mem_cons_self) (List.mem_cons_of_mem _ (List.mem_cons_self)) rfl rfl rfl rfl rfl rfl (by kernel_rfl) (by kernel_rfl) (by kernel_rfl) (by kernel_rfl) (by decide) (by simp) (by kernel_rfl) (by kernel_rfl) (by kernel_rfl) (by kernel_rfl) (by kernel_rfl) (by kernel_rfl) ⟨by rfl, .cells #[.int .u64 0, .int .u64 0] 48, fun w hSw => ⟨(by (try dsimp only at hSw); go_simp; try with_reducible rfl), Blk.newAt rfl⟩⟩ ⟨by rfl, .cells #[.int .u64 0, .int .u64 0] 48, fun w hSw => ⟨(by (try dsimp only at hSw); go_simp; try with_reducible rfl), Blk.newAt rfl⟩⟩ (fun p9 p10 hp9 hp10 np9 => ?_)
  simp only [Act.put, List.setIfInBounds_toArray, List.set_cons_zero, List.set_cons_succ]
  refine abStore 10 HOK.out _ (List.mem_cons_self) rfl rfl rfl (by kernel_rfl) (by kernel_rfl) (by kernel_rfl) (by kernel_rfl) (by rfl) ?_ ?_
  · rintro w b hSw hg hB hp
    obtain rfl : b = p9 := hg
    replace hp : Blk w b #[.int .u64 0, .int .u64 0] := hp
    have x0 : w.cell? ⟨b, 0, none⟩ = some (.int .u64 0) := hp.cell rfl
    have x1 : w.cell? ⟨b, 1, none⟩ = some (.int .u64 0) := hp.cell rfl
    have y0 := hp.free 0
    have y1 := hp.free 1
    refine ⟨((w.setCell ⟨b, 0, none⟩ (.int .u64 (hi Q : Nat))).setCell ⟨b, 1, none⟩ (.int .u64 (lo Q : Nat))), ?_, ((hp.set 0 (.int .u64 (hi Q : Nat))).set 1 (.int .u64 (lo Q : Nat))), (((Below.refl _ _).setCell (p := ⟨b, 0, none⟩) hB _).setCell (p := ⟨b, 1, none⟩) hB _), fun k hk => ?_⟩
    · (try dsimp only at hSw); go_simp; try with_reducible rfl
    · exact (Below.heap_setCell _ _ _ _ hk).trans ((Below.heap_setCell _ _ _ _ hk))
  refine abStore 11 HOK.out _ (List.mem_cons_of_mem _ (List.mem_cons_self)) rfl rfl rfl (by kernel_rfl) (by kernel_rfl) (by kernel_rfl) (by kernel_rfl) (by rfl) ?_ ?_
  · rintro w b hSw hg hB hp
    obtain rfl : b = p10 := hg
    replace hp : Blk w b #[.int .u64 0, .int .u64 0] := hp
    have x0 : w.cell? ⟨b, 0, none⟩ = some (.int .u64 0) := hp.cell rfl
    have x1 : w.cell? ⟨b, 1, none⟩ = some (.int .u64 0) := hp.cell rfl
    have y0 := hp.free 0
    have y1 := hp.free 1
    refine ⟨((w.setCell ⟨b, 0, none⟩ (.int .u64 (hi R : Nat))).setCell ⟨b, 1, none⟩ (.int .u64 (lo R : Nat))), ?_, ((hp.set 0 (.int .u64 (hi R : Nat))).set 1 (.int .u64 (lo R : Nat))), (((Below.refl _ _).setCell (p := ⟨b, 0, none⟩) hB _).setCell (p := ⟨b, 1, none⟩) hB _), fun k hk => ?_⟩
    · (try dsimp only at hSw); go_simp; try with_reducible rfl
    · exact (Below.heap_setCell _ _ _ _ hk).trans ((Below.heap_setCell _ _ _ _ hk))
  refine abDone (by kernel_rfl) ?_ _
  rintro w1 hS
  have k9 := sof_post hS _ (List.mem_cons_self) (by kernel_rfl) (by kernel_rfl) (b := p9) rfl
  have k10 := sof_post hS _ (List.mem_cons_of_mem _ (List.mem_cons_self)) (by kernel_rfl) (by kernel_rfl) (b := p10) rfl
  have Bs := Lib.hid hS.1.2.2.2.out.1
  have HW1 := Lib.hid hS.1.2.2.2.out.2
  have Bq : Hid (Blk w1 p9 #[.int .u64 (hi Q : Nat), .int .u64 (lo Q : Nat)]) := Lib.hid k9.2.2
  have Br : Hid (Blk w1 p10 #[.int .u64 (hi R : Nat), .int .u64 (lo R : Nat)]) := Lib.hid k10.2.2
  have z9 : w.heap.size < p9 := by have := k9.1; omega
  have z10 : w.heap.size < p10 := by have := k10.1; omega
  have Z9 := Lib.hid z9; have Z10 := Lib.hid z10; have NP := Lib.hid np9
  clear hS HOK HF k9 k10 z9 z10 ls hw0 hp9 hp10 np9
  have lr := Br.out.lt
  have cr0 : w1.cell? ⟨p10, 0, none⟩ = some (.int .u64 (hi R : Nat)) := Br.out.cell rfl
  have cr1 : w1.cell? ⟨p10, 1, none⟩ = some (.int .u64 (lo R : Nat)) := Br.out.cell rfl
  go_wp2_with fail
  refine (M3.out _).mono ?_
  rintro e w2 ⟨rfl, hb⟩
  have ks : Blk w2 w.heap.size #[.bool Bz, .int .u64 (hi n : Nat), .int .u64 (lo n : Nat)] := Bs.out.call hb
  have kq : Blk w2 p9 #[.int .u64 (hi Q : Nat), .int .u64 (lo Q : Nat)] := Bq.out.call hb
  have kr : Blk w2 p10 #[.int .u64 (hi R : Nat), .int .u64 (lo R : Nat)] := Br.out.call hb
  have kw : Below w.heap.size w w2 := HW1.out.trans (hb.mono HW1.out.size)
  clear lr cr0 cr1 Bs Bq Br HW1
  have Bs := Lib.hid ks
  have Bq := Lib.hid kq
  have Br := Lib.hid kr
  have HW2 := Lib.hid kw
  clear hb kw ks kq kr
  have lr := Br.out.lt
  have cr0 : w2.cell? ⟨p10, 0, none⟩ = some (.int .u64 (hi R : Nat)) := Br.out.cell rfl
  have cr1 : w2.cell? ⟨p10, 1, none⟩ = some (.int .u64 (lo R : Nat)) := Br.out.cell rfl
  have hA := HA.out
  have hE1 := E1.out
  clear HA E1
  cases V <;> cases DR <;> simp at hA
  all_goals
    clear hA
    have lq := Bq.out.lt
    have cq0 : w2.cell? ⟨p9, 0, none⟩ = some (.int .u64 (hi Q : Nat)) := Bq.out.cell rfl
    have cq1 : w2.cell? ⟨p9, 1, none⟩ = some (.int .u64 (lo Q : Nat)) := Bq.out.cell rfl
    go_wp2_with fail
    refine (M7.out _).mono ?_
    rintro e w3 ⟨rfl, hb⟩
    have ks : Blk w3 w.heap.size #[.bool Bz, .int .u64 (hi n : Nat), .int .u64 (lo n : Nat)] := (Bs.out.alloc _).call hb
    have kq : Blk w3 p9 #[.int .u64 (hi Q : Nat), .int .u64 (lo Q : Nat)] := (Bq.out.alloc _).call hb
    have kr : Blk w3 p10 #[.int .u64 (hi R : Nat), .int .u64 (lo R : Nat)] := (Br.out.alloc _).call hb
    have kt : Blk w3 w2.heap.size #[.int .u64 (hi N : Nat), .int .u64 (lo N : Nat)] := (Blk.new _ _ _).call hb
    have kw : Below w.heap.size w w3 := (HW2.out.alloc HW2.out.size _).trans (hb.mono (by have := HW2.out.size; simp; omega))
    clear lr cr0 cr1 lq cq0 cq1 Bs Bq Br HW2
    have Bs := Lib.hid ks
    have Bq := Lib.hid kq
    have Br := Lib.hid kr
    have Bt := Lib.hid kt
    have HW3 := Lib.hid kw
    clear hb kw ks kq kr kt
    go_wp2_with fail
    go_ret2
    exact ⟨rfl, HW3.out⟩
set_option maxRecDepth 100000 in
set_option maxHeartbeats 2000000 in
theorem rdivd_1_yes (c x y : Int) (n z Q R N G : Nat) (Bz Cn D0 V DR : Bool) (w : World)
    (hC : decide (c < 0) = Cn) (hV : (!(Bz == Cn) && !D0) = V) (hA : (!V && !DR) = true)
    (hE0 : ∀ w, (Op.equalIn 10000 48 (.agg #[.int .u64 (hi n : Nat), .int .u64 (lo n : Nat)]) (.agg #[.int .u64 0, .int .u64 0])).run Try.prog w = .ok D0 w)
    (hE1 : ∀ w, (Op.equalIn 10000 48 (.agg #[.int .u64 (hi R : Nat), .int .u64 (lo R : Nat)]) (.agg #[.int .u64 0, .int .u64 0])).run Try.prog w = .ok DR w)
    (m1 : ∀ w, Calls Try.prog 27 #[.int .i64 c] w fun en w' => en = .returned (.agg #[.int .u64 (hi z : Nat), .int .u64 (lo z : Nat)]) ∧ Below w.heap.size w w')
    (m2 : ∀ w, Calls Try.prog 49 #[.agg #[.int .u64 (hi n : Nat), .int .u64 (lo n : Nat)], .agg #[.int .u64 (hi z : Nat), .int .u64 (lo z : Nat)]] w fun en w' => en = .returned (.tuple #[.agg #[.int .u64 (hi Q : Nat), .int .u64 (lo Q : Nat)], .agg #[.int .u64 (hi R : Nat), .int .u64 (lo R : Nat)]]) ∧ Below w.heap.size w w')
    (m3 : ∀ w, Calls Try.prog 50 #[.agg #[.int .u64 (hi R : Nat), .int .u64 (lo R : Nat)], .agg #[.int .u64 (hi R : Nat), .int .u64 (lo R : Nat)]] w fun en w' => en = .returned (.tuple #[.agg #[.int .u64 (hi N : Nat), .int .u64 (lo N : Nat)], .bool false]) ∧ Below w.heap.size w w')
    (m5 : ∀ w, Calls Try.prog 28 #[.int .u64 1] w fun en w' => en = .returned (.agg #[.int .u64 0, .int .u64 1]) ∧ Below w.heap.size w w')
    (m6 : ∀ w, Calls Try.prog 50 #[.agg #[.int .u64 (hi Q : Nat), .int .u64 (lo Q : Nat)], .agg #[.int .u64 0, .int .u64 1]] w fun en w' => en = .returned (.tuple #[.agg #[.int .u64 (hi G : Nat), .int .u64 (lo G : Nat)], .bool false]) ∧ Below w.heap.size w w')
    (m7 : ∀ w, Calls Try.prog 81 #[.agg #[.bool V, .int .u64 (hi G : Nat), .int .u64 (lo G : Nat)]] w fun en w' => en = .returned (.tuple #[.int .i64 x, .int .i64 y]) ∧ Below w.heap.size w w') :
    Calls Try.prog 60 #[.agg #[.bool Bz, .int .u64 (hi n : Nat), .int .u64 (lo n : Nat)], .int .i64 c, .int .i64 1] w fun en w' => en = .returned (.tuple #[.int .i64 x, .int .i64 y]) ∧ Below w.heap.size w w' := by
  have M1 := Lib.hid m1; have M2 := Lib.hid m2; have M3 := Lib.hid m3; have M5 := Lib.hid m5; have M6 := Lib.hid m6; have M7 := Lib.hid m7
  clear m1 m2 m3 m5 m6 m7
  have HA := Lib.hid hA; have E1 := Lib.hid hE1
  clear hA hE1
  go_enter Try.func60, Try.ntmps60
  go_upto_region 1 with fail
  go_cut [8] (fun s8 wx => s8 = .bool V ∧ w.alloc (.cells #[.bool Bz, .int .u64 (hi n : Nat), .int .u64 (lo n : Nat)] 59) = wx)
  case first =>
    cases Bz <;> cases Cn
    all_goals
      simp at hV
      subst hV
      go_wp2_with fail
      go_meet
      exact ⟨rfl, rfl⟩
  case rest =>
  obtain ⟨rfl, rfl⟩ := hcut
  clear hE0 hV hC
  go_upto_region 2 with fail
  obtain ⟨W0, hW0⟩ : ∃ W0, w.alloc (.cells #[.bool Bz, .int .u64 (hi n : Nat), .int .u64 (lo n : Nat)] 59) = W0 := ⟨_, rfl⟩
  have bs : Blk W0 w.heap.size #[.bool Bz, .int .u64 (hi n : Nat), .int .u64 (lo n : Nat)] := by rw [← hW0]; exact Blk.new _ _ _
  have hw0 : Below w.heap.size w W0 := by rw [← hW0]; exact (Below.refl _ _).alloc (Nat.le_refl _) _
  rw [hW0]
  clear hW0
  have ls := bs.lt
  have hok : OwnOk (fun w' => w'.cell? ⟨w.heap.size, 0, none⟩ = some (.bool Bz) ∧ w'.cell? ⟨w.heap.size, 1, none⟩ = some (.int .u64 (hi n : Nat)) ∧ w'.cell? ⟨w.heap.size, 2, none⟩ = some (.int .u64 (lo n : Nat)) ∧ Hid (Blk w' w.heap.size #[.bool Bz, .int .u64 (hi n : Nat), .int .u64 (lo n : Nat)] ∧ Below w.heap.size w w')) W0.heap.size [⟨8, 10, fun w b => Blk w b #[.int .u64 0, .int .u64 0], fun w b => Blk w b #[.int .u64 (hi Q : Nat), .int .u64 (lo Q : Nat)]⟩, ⟨9, 11, fun w b => Blk w b #[.int .u64 0, .int .u64 0], fun w b => Blk w b #[.int .u64 (hi R : Nat), .int .u64 (lo R : Nat)]⟩] := own2_ok (fun v1 v2 h hb => ⟨(h.2.2.2.out.1.below hb bs.lt).cell rfl, (h.2.2.2.out.1.below hb bs.lt).cell rfl, (h.2.2.2.out.1.below hb bs.lt).cell rfl, Lib.hid ⟨(h.2.2.2.out.1.below hb bs.lt), (h.2.2.2.out.2.trans (hb.mono hw0.size))⟩⟩) ⟨Blk.local _, Blk.local _⟩ ⟨Blk.local _, Blk.local _⟩ (by simp) (by simp) (by simp)
  have hfit : ∀ i, (∀ e ∈ ([⟨8, 10, fun w b => Blk w b #[.int .u64 0, .int .u64 0], fun w b => Blk w b #[.int .u64 (hi Q : Nat), .int .u64 (lo Q : Nat)]⟩, ⟨9, 11, fun w b => Blk w b #[.int .u64 0, .int .u64 0], fun w b => Blk w b #[.int .u64 (hi R : Nat), .int .u64 (lo R : Nat)]⟩] : List Ent), e.x ≠ i ∧ e.s ≠ i) → Fit (fun w' => w'.cell? ⟨w.heap.size, 0, none⟩ = some (.bool Bz) ∧ w'.cell? ⟨w.heap.size, 1, none⟩ = some (.int .u64 (hi n : Nat)) ∧ w'.cell? ⟨w.heap.size, 2, none⟩ = some (.int .u64 (lo n : Nat)) ∧ Hid (Blk w' w.heap.size #[.bool Bz, .int .u64 (hi n : Nat), .int .u64 (lo n : Nat)] ∧ Below w.heap.size w w')) (Sof (fun w' => w'.cell? ⟨w.heap.size, 0, none⟩ = some (.bool Bz) ∧ w'.cell? ⟨w.heap.size, 1, none⟩ = some (.int .u64 (hi n : Nat)) ∧ w'.cell? ⟨w.heap.size, 2, none⟩ = some (.int .u64 (lo n : Nat)) ∧ Hid (Blk w' w.heap.size #[.bool Bz, .int .u64 (hi n : Nat), .int .u64 (lo n : Nat)] ∧ Below w.heap.size w w')) W0.heap.size [⟨8, 10, fun w b => Blk w b #[.int .u64 0, .int .u64 0], fun w b => Blk w b #[.int .u64 (hi Q : Nat), .int .u64 (lo Q : Nat)]⟩, ⟨9, 11, fun w b => Blk w b #[.int .u64 0, .int .u64 0], fun w b => Blk w b #[.int .u64 (hi R : Nat), .int .u64 (lo R : Nat)]⟩]) i := fun i hi => sof_fit hok.st hok.loc hi
  have HOK := Lib.hid hok; have HF := Lib.hid hfit; clear hok hfit
  refine wp_region_ab (S0 := (fun w' => w'.cell? ⟨w.heap.size, 0, none⟩ = some (.bool Bz) ∧ w'.cell? ⟨w.heap.size, 1, none⟩ = some (.int .u64 (hi n : Nat)) ∧ w'.cell? ⟨w.heap.size, 2, none⟩ = some (.int .u64 (lo n : Nat)) ∧ Hid (Blk w' w.heap.size #[.bool Bz, .int .u64 (hi n : Nat), .int .u64 (lo n : Nat)] ∧ Below w.heap.size w w'))) W0.heap.size [⟨8, 10, fun w b => Blk w b #[.int .u64 0, .int .u64 0], fun w b => Blk w b #[.int .u64 (hi Q : Nat), .int .u64 (lo Q : Nat)]⟩, ⟨9, 11, fun w b => Blk w b #[.int .u64 0, .int .u64 0], fun w b => Blk w b #[.int .u64 (hi R : Nat), .int .u64 (lo R : Nat)]⟩] (by kernel_rfl) ⟨bs.drew.cell rfl, bs.drew.cell rfl, bs.drew.cell rfl, Lib.hid ⟨bs.drew, hw0.drew⟩⟩ (Nat.le_refl _) (by simp) ?_
  clear bs
  refine abTake 0 (some 26) (v := ?_) rfl rfl (by kernel_rfl) (by kernel_rfl) (by kernel_rfl) (fun _ _ _ h => h) (HF.out _ (by simp)) (by rfl) ?_ ?_
  rotate_left 1
  · (intro w hSw; (try dsimp only at hSw); go_simp; try with_reducible rfl)
  simp only [Act.put, List.setIfInBounds_toArray, List.set_cons_zero, List.set_cons_succ]
  refine abTake 1 (some 27) (v := ?_) rfl rfl (by kernel_rfl) (by kernel_rfl) (by kernel_rfl) (fun _ _ _ h => h) (HF.out _ (by simp)) (by rfl) ?_ ?_
  rotate_left 1
  · (intro w hSw; (try dsimp only at hSw); go_simp; try with_reducible rfl)
  simp only [Act.put, List.setIfInBounds_toArray, List.set_cons_zero, List.set_cons_succ]
  refine abTake 2 (some 28) (v := ?_) rfl rfl (by kernel_rfl) (by kernel_rfl) (by kernel_rfl) (fun _ _ _ h => h) (HF.out _ (by simp)) (by rfl) ?_ ?_
  rotate_left 1
  · (intro w hSw; (try dsimp only at hSw); go_simp; try with_reducible rfl)
  simp only [Act.put, List.setIfInBounds_toArray, List.set_cons_zero, List.set_cons_succ]
  refine abCall 3 (some 29) rfl rfl (by kernel_rfl) (by kernel_rfl) (by kernel_rfl) (fun _ _ _ h => h) (HF.out _ (by simp)) (by rfl) ?_ (fun w hSw => M1.out w) ?_
  · (intro w hSw; (try dsimp only at hSw); go_simp; try with_reducible rfl)
  simp only [Act.put, List.setIfInBounds_toArray, List.set_cons_zero, List.set_cons_succ]
  refine abCall 4 (some 30) rfl rfl (by kernel_rfl) (by kernel_rfl) (by kernel_rfl) (fun _ _ _ h => h) (HF.out _ (by simp)) (by rfl) ?_ (fun w hSw => M2.out w) ?_
  · (intro w hSw; (try dsimp only at hSw); go_simp; try with_reducible rfl)
  simp only [Act.put, List.setIfInBounds_toArray, List.set_cons_zero, List.set_cons_succ]
  refine abTake 5 (some 25) (v := ?_) rfl rfl (by kernel_rfl) (by kernel_rfl) (by kernel_rfl) (fun _ _ _ h => h) (HF.out _ (by simp)) (by rfl) ?_ ?_
  rotate_left 1
  · (intro w hSw; (try dsimp only at hSw); go_simp; try with_reducible rfl)
  simp only [Act.put, List.setIfInBounds_toArray, List.set_cons_zero, List.set_cons_succ]
  refine abTake 6 (some 31) (v := ?_) rfl rfl (by kernel_rfl) (by kernel_rfl) (by kernel_rfl) (fun _ _ _ h => h) (HF.out _ (by simp)) (by rfl) ?_ ?_
  rotate_left 1
  · (intro w hSw; (try dsimp only at hSw); go_simp; try with_reducible rfl)
  simp only [Act.put, List.setIfInBounds_toArray, List.set_cons_zero, List.set_cons_succ]
  refine abTake 7 (some 32) (v := ?_) rfl rfl (by kernel_rfl) (by kernel_rfl) (by kernel_rfl) (fun _ _ _ h => h) (HF.out _ (by simp)) (by rfl) ?_ ?_
  rotate_left 1
  · (intro w hSw; (try dsimp only at hSw); go_simp; try with_reducible rfl)
  simp only [Act.put, List.setIfInBounds_toArray, List.set_cons_zero, List.set_cons_succ]
  refine abMake2 8 9 9 10 HOK.out _ _ (List.mem_cons_self) (List.mem_cons_of_mem _ (List.mem_cons_self)) rfl rfl rfl rfl rfl rfl (by kernel_rfl) (by kernel_rfl) (by kernel_rfl) (by kernel_rfl) (by decide) (by simp) (by kernel_rfl) (by kernel_rfl) (by kernel_rfl) (by kernel_rfl) (by kernel_rfl) (by kernel_rfl) ⟨by rfl, .cells #[.int .u64 0, .int .u64 0] 48, fun w hSw => ⟨(by (try dsimp only at hSw); go_simp; try with_reducible rfl), Blk.newAt rfl⟩⟩ ⟨by rfl, .cells #[.int .u64 0, .int .u64 0] 48, fun w hSw => ⟨(by (try dsimp only at hSw); go_simp; try with_reducible rfl), Blk.newAt rfl⟩⟩ (fun p9 p10 hp9 hp10 np9 => ?_)
  simp only [Act.put, List.setIfInBounds_toArray, List.set_cons_zero, List.set_cons_succ]
  refine abStore 10 HOK.out _ (List.mem_cons_self) rfl rfl rfl (by kernel_rfl) (by kernel_rfl) (by kernel_rfl) (by kernel_rfl) (by rfl) ?_ ?_
  · rintro w b hSw hg hB hp
    obtain rfl : b = p9 := hg
    replace hp : Blk w b #[.int .u64 0, .int .u64 0] := hp
    have x0 : w.cell? ⟨b, 0, none⟩ = some (.int .u64 0) := hp.cell rfl
    have x1 : w.cell? ⟨b, 1, none⟩ = some (.int .u64 0) := hp.cell rfl
    have y0 := hp.free 0
    have y1 := hp.free 1
    refine ⟨((w.setCell ⟨b, 0, none⟩ (.int .u64 (hi Q : Nat))).setCell ⟨b, 1, none⟩ (.int .u64 (lo Q : Nat))), ?_, ((hp.set 0 (.int .u64 (hi Q : Nat))).set 1 (.int .u64 (lo Q : Nat))), (((Below.refl _ _).setCell (p := ⟨b, 0, none⟩) hB _).setCell (p := ⟨b, 1, none⟩) hB _), fun k hk => ?_⟩
    · (try dsimp only at hSw); go_simp; try with_reducible rfl
    · exact (Below.heap_setCell _ _ _ _ hk).trans ((Below.heap_setCell _ _ _ _ hk))
  refine abStore 11 HOK.out _ (List.mem_cons_of_mem _ (List.mem_cons_self)) rfl rfl rfl (by kernel_rfl) (by kernel_rfl) (by kernel_rfl) (by kernel_rfl) (by rfl) ?_ ?_
  · rintro w b hSw hg hB hp
    obtain rfl : b = p10 := hg
    replace hp : Blk w b #[.int .u64 0, .int .u64 0] := hp
    have x0 : w.cell? ⟨b, 0, none⟩ = some (.int .u64 0) := hp.cell rfl
    have x1 : w.cell? ⟨b, 1, none⟩ = some (.int .u64 0) := hp.cell rfl
    have y0 := hp.free 0
    have y1 := hp.free 1
    refine ⟨((w.setCell ⟨b, 0, none⟩ (.int .u64 (hi R : Nat))).setCell ⟨b, 1, none⟩ (.int .u64 (lo R : Nat))), ?_, ((hp.set 0 (.int .u64 (hi R : Nat))).set 1 (.int .u64 (lo R : Nat))), (((Below.refl _ _).setCell (p := ⟨b, 0, none⟩) hB _).setCell (p := ⟨b, 1, none⟩) hB _), fun k hk => ?_⟩
    · (try dsimp only at hSw); go_simp; try with_reducible rfl
    · exact (Below.heap_setCell _ _ _ _ hk).trans ((Below.heap_setCell _ _ _ _ hk))
  refine abDone (by kernel_rfl) ?_ _
  rintro w1 hS
  have k9 := sof_post hS _ (List.mem_cons_self) (by kernel_rfl) (by kernel_rfl) (b := p9) rfl
  have k10 := sof_post hS _ (List.mem_cons_of_mem _ (List.mem_cons_self)) (by kernel_rfl) (by kernel_rfl) (b := p10) rfl
  have Bs := Lib.hid hS.1.2.2.2.out.1
  have HW1 := Lib.hid hS.1.2.2.2.out.2
  have Bq : Hid (Blk w1 p9 #[.int .u64 (hi Q : Nat), .int .u64 (lo Q : Nat)]) := Lib.hid k9.2.2
  have Br : Hid (Blk w1 p10 #[.int .u64 (hi R : Nat), .int .u64 (lo R : Nat)]) := Lib.hid k10.2.2
  have z9 : w.heap.size < p9 := by have := k9.1; omega
  have z10 : w.heap.size < p10 := by have := k10.1; omega
  have Z9 := Lib.hid z9; have Z10 := Lib.hid z10; have NP := Lib.hid np9
  clear hS HOK HF k9 k10 z9 z10 ls hw0 hp9 hp10 np9
  have lr := Br.out.lt
  have cr0 : w1.cell? ⟨p10, 0, none⟩ = some (.int .u64 (hi R : Nat)) := Br.out.cell rfl
  have cr1 : w1.cell? ⟨p10, 1, none⟩ = some (.int .u64 (lo R : Nat)) := Br.out.cell rfl
  go_wp2_with fail
  refine (M3.out _).mono ?_
  rintro e w2 ⟨rfl, hb⟩
  have ks : Blk w2 w.heap.size #[.bool Bz, .int .u64 (hi n : Nat), .int .u64 (lo n : Nat)] := Bs.out.call hb
  have kq : Blk w2 p9 #[.int .u64 (hi Q : Nat), .int .u64 (lo Q : Nat)] := Bq.out.call hb
  have kr : Blk w2 p10 #[.int .u64 (hi R : Nat), .int .u64 (lo R : Nat)] := Br.out.call hb
  have kw : Below w.heap.size w w2 := HW1.out.trans (hb.mono HW1.out.size)
  clear lr cr0 cr1 Bs Bq Br HW1
  have Bs := Lib.hid ks
  have Bq := Lib.hid kq
  have Br := Lib.hid kr
  have HW2 := Lib.hid kw
  clear hb kw ks kq kr
  have lr := Br.out.lt
  have cr0 : w2.cell? ⟨p10, 0, none⟩ = some (.int .u64 (hi R : Nat)) := Br.out.cell rfl
  have cr1 : w2.cell? ⟨p10, 1, none⟩ = some (.int .u64 (lo R : Nat)) := Br.out.cell rfl
  have hA := HA.out
  have hE1 := E1.out
  clear HA E1
  cases V <;> cases DR <;> simp at hA
  all_goals
    clear hA
    go_upto_region 8 with fail
    have bq : Blk (w2.alloc (.cells #[.int .u64 (hi N : Nat), .int .u64 (lo N : Nat)] 48)) p9 #[.int .u64 (hi Q : Nat), .int .u64 (lo Q : Nat)] := (Bq.out.alloc _)
    have hw : Below w.heap.size w (w2.alloc (.cells #[.int .u64 (hi N : Nat), .int .u64 (lo N : Nat)] 48)) := (HW2.out.alloc HW2.out.size _)
    obtain ⟨W2, hW2⟩ : ∃ W2, (w2.alloc (.cells #[.int .u64 (hi N : Nat), .int .u64 (lo N : Nat)] 48)) = W2 := ⟨_, rfl⟩
    rw [hW2] at bq hw ⊢
    clear hW2 lr cr0 cr1
    have mkS : ∀ w', Below w.heap.size w w' → (fun w' => Hid (Below w.heap.size w w')) w' := fun w' h => Lib.hid h
    refine wp_region_held_drew (S := fun w' => Hid (Below w.heap.size w w')) (by kernel_rfl) (mkS _ hw.drew) (fun hHeld => ?_)
    replace bq := bq.drew
    clear hw
    refine regTwo 0 1 (by kernel_rfl) ?_ ?_
    · have x0 : W2.drew.cell? ⟨p9, 0, none⟩ = some (.int .u64 (hi Q : Nat)) := bq.cell rfl
      have x1 : W2.drew.cell? ⟨p9, 1, none⟩ = some (.int .u64 (lo Q : Nat)) := bq.cell rfl
      refine stepDo 0 (some 82) (v := ?_) (w' := ?_) rfl rfl (by rfl) ?_ ?_ (fun hHeld => ?_)
      rotate_left 2
      · (go_simp; refine ⟨?_, ?_⟩ <;> with_reducible rfl)
      · exact hHeld
      simp only [Act.put, List.setIfInBounds_toArray, List.set_cons_zero, List.set_cons_succ]
      clear x0 x1
      refine regCall 1 (some 83) (f := 28) (args := ?_) rfl rfl (by kernel_rfl) (by rfl) ?_ ?_
      rotate_left 1
      · (go_simp; try with_reducible rfl)
      refine (M5.out _).mono ?_
      rintro e wx1 ⟨rfl, hbx⟩
      refine ⟨_, rfl, mkS _ (hHeld.out.trans (hbx.mono hHeld.out.size)), fun hHeld => ?_⟩
      simp only [Act.put, List.setIfInBounds_toArray, List.set_cons_zero, List.set_cons_succ]
      replace bq := bq.call hbx
      clear hbx
      refine regCall 2 (some 84) (f := 50) (args := ?_) rfl rfl (by kernel_rfl) (by rfl) ?_ ?_
      rotate_left 1
      · (go_simp; try with_reducible rfl)
      refine (M6.out _).mono ?_
      rintro e wx2 ⟨rfl, hbx⟩
      refine ⟨_, rfl, mkS _ (hHeld.out.trans (hbx.mono hHeld.out.size)), fun hHeld => ?_⟩
      simp only [Act.put, List.setIfInBounds_toArray, List.set_cons_zero, List.set_cons_succ]
      replace bq := bq.call hbx
      clear hbx
      refine regTake 3 (some 81) (v := ?_) rfl rfl (by kernel_rfl) (by kernel_rfl) (by kernel_rfl) (fun _ _ _ h => h) (by rfl) hHeld ?_ ?_
      rotate_left 1
      · (intro w hSw; (try dsimp only at hSw); go_simp; try with_reducible rfl)
      simp only [Act.put, List.setIfInBounds_toArray, List.set_cons_zero, List.set_cons_succ]
      refine regTake 4 (some 85) (v := ?_) rfl rfl (by kernel_rfl) (by kernel_rfl) (by kernel_rfl) (fun _ _ _ h => h) (by rfl) hHeld ?_ ?_
      rotate_left 1
      · (intro w hSw; (try dsimp only at hSw); go_simp; try with_reducible rfl)
      simp only [Act.put, List.setIfInBounds_toArray, List.set_cons_zero, List.set_cons_succ]
      refine regTake 5 (some 86) (v := ?_) rfl rfl (by kernel_rfl) (by kernel_rfl) (by kernel_rfl) (fun _ _ _ h => h) (by rfl) hHeld ?_ ?_
      rotate_left 1
      · (intro w hSw; (try dsimp only at hSw); go_simp; try with_reducible rfl)
      simp only [Act.put, List.setIfInBounds_toArray, List.set_cons_zero, List.set_cons_succ]
      have x0 : wx2.cell? ⟨p9, 0, none⟩ = some (.int .u64 (hi Q : Nat)) := bq.cell rfl
      have x1 : wx2.cell? ⟨p9, 1, none⟩ = some (.int .u64 (lo Q : Nat)) := bq.cell rfl
      have y0 := bq.free 0
      have y1 := bq.free 1
      refine regStore 6 (w' := ?_) rfl rfl (by kernel_rfl) (by rfl) ?_ ?_ (fun hHeld => ?_)
      rotate_left 1
      · (go_simp; try with_reducible rfl)
      · exact mkS _ ((hHeld.out.setCell (p := ⟨p9, 0, none⟩) (Nat.le_of_lt Z9.out) _).setCell (p := ⟨p9, 1, none⟩) (Nat.le_of_lt Z9.out) _)
      clear x0 x1 y0 y1
      have bq2 : Blk ((wx2.setCell ⟨p9, 0, none⟩ (.int .u64 (hi G : Nat))).setCell ⟨p9, 1, none⟩ (.int .u64 (lo G : Nat))) p9 #[.int .u64 (hi G : Nat), .int .u64 (lo G : Nat)] := (bq.set 0 _).set 1 _
      obtain ⟨W3, hW3⟩ : ∃ W3, (wx2.setCell ⟨p9, 0, none⟩ (.int .u64 (hi G : Nat))).setCell ⟨p9, 1, none⟩ (.int .u64 (lo G : Nat)) = W3 := ⟨_, rfl⟩
      rw [hW3] at bq2 hHeld ⊢
      clear hW3 bq
      have HW3 := hHeld
      clear hHeld
      refine wpAnyH_done (by kernel_rfl) ?_ _
      have x0 : W3.cell? ⟨p9, 0, none⟩ = some (.int .u64 (hi G : Nat)) := bq2.cell rfl
      have x1 : W3.cell? ⟨p9, 1, none⟩ = some (.int .u64 (lo G : Nat)) := bq2.cell rfl
      clear bq2
      go_wp2_with fail
      refine (M7.out _).mono ?_
      rintro e w9 ⟨rfl, hb⟩
      have HW9 := Lib.hid (HW3.out.trans (hb.mono HW3.out.size))
      clear hb x0 x1
      go_wp2_with fail
      go_ret2
      exact ⟨rfl, HW9.out⟩
    · refine stepCall 1 (some 83) (f := 28) (args := ?_) rfl rfl (by rfl) ?_ ?_
      rotate_left 1
      · (go_simp; try with_reducible rfl)
      refine (M5.out _).mono ?_
      rintro e wx1 ⟨rfl, hbx⟩
      refine ⟨_, rfl, mkS _ (hHeld.out.trans (hbx.mono hHeld.out.size)), fun hHeld => ?_⟩
      simp only [Act.put, List.setIfInBounds_toArray, List.set_cons_zero, List.set_cons_succ]
      replace bq := bq.call hbx
      clear hbx
      have x0 : wx1.cell? ⟨p9, 0, none⟩ = some (.int .u64 (hi Q : Nat)) := bq.cell rfl
      have x1 : wx1.cell? ⟨p9, 1, none⟩ = some (.int .u64 (lo Q : Nat)) := bq.cell rfl
      refine regDo 0 (some 82) (v := ?_) (w' := ?_) rfl rfl (by kernel_rfl) (by rfl) ?_ ?_ (fun hHeld => ?_)
      rotate_left 2
      · (go_simp; refine ⟨?_, ?_⟩ <;> with_reducible rfl)
      · exact hHeld
      simp only [Act.put, List.setIfInBounds_toArray, List.set_cons_zero, List.set_cons_succ]
      clear x0 x1
      refine regCall 2 (some 84) (f := 50) (args := ?_) rfl rfl (by kernel_rfl) (by rfl) ?_ ?_
      rotate_left 1
      · (go_simp; try with_reducible rfl)
      refine (M6.out _).mono ?_
      rintro e wx2 ⟨rfl, hbx⟩
      refine ⟨_, rfl, mkS _ (hHeld.out.trans (hbx.mono hHeld.out.size)), fun hHeld => ?_⟩
      simp only [Act.put, List.setIfInBounds_toArray, List.set_cons_zero, List.set_cons_succ]
      replace bq := bq.call hbx
      clear hbx
      refine regTake 3 (some 81) (v := ?_) rfl rfl (by kernel_rfl) (by kernel_rfl) (by kernel_rfl) (fun _ _ _ h => h) (by rfl) hHeld ?_ ?_
      rotate_left 1
      · (intro w hSw; (try dsimp only at hSw); go_simp; try with_reducible rfl)
      simp only [Act.put, List.setIfInBounds_toArray, List.set_cons_zero, List.set_cons_succ]
      refine regTake 4 (some 85) (v := ?_) rfl rfl (by kernel_rfl) (by kernel_rfl) (by kernel_rfl) (fun _ _ _ h => h) (by rfl) hHeld ?_ ?_
      rotate_left 1
      · (intro w hSw; (try dsimp only at hSw); go_simp; try with_reducible rfl)
      simp only [Act.put, List.setIfInBounds_toArray, List.set_cons_zero, List.set_cons_succ]
      refine regTake 5 (some 86) (v := ?_) rfl rfl (by kernel_rfl) (by kernel_rfl) (by kernel_rfl) (fun _ _ _ h => h) (by rfl) hHeld ?_ ?_
      rotate_left 1
      · (intro w hSw; (try dsimp only at hSw); go_simp; try with_reducible rfl)
      simp only [Act.put, List.setIfInBounds_toArray, List.set_cons_zero, List.set_cons_succ]
      have x0 : wx2.cell? ⟨p9, 0, none⟩ = some (.int .u64 (hi Q : Nat)) := bq.cell rfl
      have x1 : wx2.cell? ⟨p9, 1, none⟩ = some (.int .u64 (lo Q : Nat)) := bq.cell rfl
      have y0 := bq.free 0
      have y1 := bq.free 1
      refine regStore 6 (w' := ?_) rfl rfl (by kernel_rfl) (by rfl) ?_ ?_ (fun hHeld => ?_)
      rotate_left 1
      · (go_simp; try with_reducible rfl)
      · exact mkS _ ((hHeld.out.setCell (p := ⟨p9, 0, none⟩) (Nat.le_of_lt Z9.out) _).setCell (p := ⟨p9, 1, none⟩) (Nat.le_of_lt Z9.out) _)
      clear x0 x1 y0 y1
      have bq2 : Blk ((wx2.setCell ⟨p9, 0, none⟩ (.int .u64 (hi G : Nat))).setCell ⟨p9, 1, none⟩ (.int .u64 (lo G : Nat))) p9 #[.int .u64 (hi G : Nat), .int .u64 (lo G : Nat)] := (bq.set 0 _).set 1 _
      obtain ⟨W3, hW3⟩ : ∃ W3, (wx2.setCell ⟨p9, 0, none⟩ (.int .u64 (hi G : Nat))).setCell ⟨p9, 1, none⟩ (.int .u64 (lo G : Nat)) = W3 := ⟨_, rfl⟩
      rw [hW3] at bq2 hHeld ⊢
      clear hW3 bq
      have HW3 := hHeld
      clear hHeld
      refine wpAnyH_done (by kernel_rfl) ?_ _
      have x0 : W3.cell? ⟨p9, 0, none⟩ = some (.int .u64 (hi G : Nat)) := bq2.cell rfl
      have x1 : W3.cell? ⟨p9, 1, none⟩ = some (.int .u64 (lo G : Nat)) := bq2.cell rfl
      clear bq2
      go_wp2_with fail
      refine (M7.out _).mono ?_
      rintro e w9 ⟨rfl, hb⟩
      have HW9 := Lib.hid (HW3.out.trans (hb.mono HW3.out.size))
      clear hb x0 x1
      go_wp2_with fail
      go_ret2
      exact ⟨rfl, HW9.out⟩
end Go.Proofs.Ytjnebbjjabnipaa

/- The reference of stage 4: Divided, by mode 2. -/
namespace Go.Proofs.Ytjnebbjjabnipaa
open Go.RowKit

set_option maxRecDepth 100000 in
set_option maxHeartbeats 2000000 in
theorem rdivd_2_no (c x y : Int) (n z Q R N : Nat) (Bz Cn D0 V D2 L P : Bool) (w : World)
    (hC : decide (c < 0) = Cn) (hV : (!(Bz == Cn) && !D0) = V) (hA : (L || (D2 && P)) = false)
    (hE0 : ∀ w, (Op.equalIn 10000 48 (.agg #[.int .u64 (hi n : Nat), .int .u64 (lo n : Nat)]) (.agg #[.int .u64 0, .int .u64 0])).run Try.prog w = .ok D0 w)
    (hE2 : ∀ w, (Op.equalIn 10000 48 (.agg #[.int .u64 (hi N : Nat), .int .u64 (lo N : Nat)]) (.agg #[.int .u64 (hi z : Nat), .int .u64 (lo z : Nat)])).run Try.prog w = .ok D2 w)
    (hP : ((lo Q : Int) % 2 == 1) = P) (hP2 : ((lo Q : Int).tmod 2 == 1) = P)
    (m1 : ∀ w, Calls Try.prog 27 #[.int .i64 c] w fun en w' => en = .returned (.agg #[.int .u64 (hi z : Nat), .int .u64 (lo z : Nat)]) ∧ Below w.heap.size w w')
    (m2 : ∀ w, Calls Try.prog 49 #[.agg #[.int .u64 (hi n : Nat), .int .u64 (lo n : Nat)], .agg #[.int .u64 (hi z : Nat), .int .u64 (lo z : Nat)]] w fun en w' => en = .returned (.tuple #[.agg #[.int .u64 (hi Q : Nat), .int .u64 (lo Q : Nat)], .agg #[.int .u64 (hi R : Nat), .int .u64 (lo R : Nat)]]) ∧ Below w.heap.size w w')
    (m3 : ∀ w, Calls Try.prog 50 #[.agg #[.int .u64 (hi R : Nat), .int .u64 (lo R : Nat)], .agg #[.int .u64 (hi R : Nat), .int .u64 (lo R : Nat)]] w fun en w' => en = .returned (.tuple #[.agg #[.int .u64 (hi N : Nat), .int .u64 (lo N : Nat)], .bool false]) ∧ Below w.heap.size w w')
    (m4 : ∀ w, Calls Try.prog 61 #[.agg #[.int .u64 (hi z : Nat), .int .u64 (lo z : Nat)], .agg #[.int .u64 (hi N : Nat), .int .u64 (lo N : Nat)]] w fun en w' => en = .returned (.bool L) ∧ Below w.heap.size w w')
    (m7 : ∀ w, Calls Try.prog 81 #[.agg #[.bool V, .int .u64 (hi Q : Nat), .int .u64 (lo Q : Nat)]] w fun en w' => en = .returned (.tuple #[.int .i64 x, .int .i64 y]) ∧ Below w.heap.size w w') :
    Calls Try.prog 60 #[.agg #[.bool Bz, .int .u64 (hi n : Nat), .int .u64 (lo n : Nat)], .int .i64 c, .int .i64 2] w fun en w' => en = .returned (.tuple #[.int .i64 x, .int .i64 y]) ∧ Below w.heap.size w w' := by
  have M1 := Lib.hid m1; have M2 := Lib.hid m2; have M3 := Lib.hid m3; have M4 := Lib.hid m4; have M7 := Lib.hid m7
  clear m1 m2 m3 m4 m7
  have HA := Lib.hid hA; have E1 := Lib.hid hE2; have HP := Lib.hid hP; have HP2 := Lib.hid hP2
  clear hA hE2 hP hP2
  go_enter Try.func60, Try.ntmps60
  go_upto_region 1 with fail
  go_cut [8] (fun s8 wx => s8 = .bool V ∧ w.alloc (.cells #[.bool Bz, .int .u64 (hi n : Nat), .int .u64 (lo n : Nat)] 59) = wx)
  case first =>
    cases Bz <;> cases Cn
    all_goals
      simp at hV
      subst hV
      go_wp2_with fail
      go_meet
      exact ⟨rfl, rfl⟩
  case rest =>
  obtain ⟨rfl, rfl⟩ := hcut
  clear hE0 hV hC
  go_upto_region 2 with fail
  obtain ⟨W0, hW0⟩ : ∃ W0, w.alloc (.cells #[.bool Bz, .int .u64 (hi n : Nat), .int .u64 (lo n : Nat)] 59) = W0 := ⟨_, rfl⟩
  have bs : Blk W0 w.heap.size #[.bool Bz, .int .u64 (hi n : Nat), .int .u64 (lo n : Nat)] := by rw [← hW0]; exact Blk.new _ _ _
  have hw0 : Below w.heap.size w W0 := by rw [← hW0]; exact (Below.refl _ _).alloc (Nat.le_refl _) _
  rw [hW0]
  clear hW0
  have ls := bs.lt
  have hok : OwnOk (fun w' => w'.cell? ⟨w.heap.size, 0, none⟩ = some (.bool Bz) ∧ w'.cell? ⟨w.heap.size, 1, none⟩ = some (.int .u64 (hi n : Nat)) ∧ w'.cell? ⟨w.heap.size, 2, none⟩ = some (.int .u64 (lo n : Nat)) ∧ Hid (Blk w' w.heap.size #[.bool Bz, .int .u64 (hi n : Nat), .int .u64 (lo n : Nat)] ∧ Below w.heap.size w w')) W0.heap.size [⟨8, 10, fun w b => Blk w b #[.int .u64 0, .int .u64 0], fun w b => Blk w b #[.int .u64 (hi Q : Nat), .int .u64 (lo Q : Nat)]⟩, ⟨9, 11, fun w b => Blk w b #[.int .u64 0, .int .u64 0], fun w b => Blk w b #[.int .u64 (hi R : Nat), .int .u64 (lo R : Nat)]⟩] := own2_ok (fun v1 v2 h hb => ⟨(h.2.2.2.out.1.below hb bs.lt).cell rfl, (h.2.2.2.out.1.below hb bs.lt).cell rfl, (h.2.2.2.out.1.below hb bs.lt).cell rfl, Lib.hid ⟨(h.2.2.2.out.1.below hb bs.lt), (h.2.2.2.out.2.trans (hb.mono hw0.size))⟩⟩) ⟨Blk.local _, Blk.local _⟩ ⟨Blk.local _, Blk.local _⟩ (by simp) (by simp) (by simp)
  have hfit : ∀ i, (∀ e ∈ ([⟨8, 10, fun w b => Blk w b #[.int .u64 0, .int .u64 0], fun w b => Blk w b #[.int .u64 (hi Q : Nat), .int .u64 (lo Q : Nat)]⟩, ⟨9, 11, fun w b => Blk w b #[.int .u64 0, .int .u64 0], fun w b => Blk w b #[.int .u64 (hi R : Nat), .int .u64 (lo R : Nat)]⟩] : List Ent), e.x ≠ i ∧ e.s ≠ i) → Fit (fun w' => w'.cell? ⟨w.heap.size, 0, none⟩ = some (.bool Bz) ∧ w'.cell? ⟨w.heap.size, 1, none⟩ = some (.int .u64 (hi n : Nat)) ∧ w'.cell? ⟨w.heap.size, 2, none⟩ = some (.int .u64 (lo n : Nat)) ∧ Hid (Blk w' w.heap.size #[.bool Bz, .int .u64 (hi n : Nat), .int .u64 (lo n : Nat)] ∧ Below w.heap.size w w')) (Sof (fun w' => w'.cell? ⟨w.heap.size, 0, none⟩ = some (.bool Bz) ∧ w'.cell? ⟨w.heap.size, 1, none⟩ = some (.int .u64 (hi n : Nat)) ∧ w'.cell? ⟨w.heap.size, 2, none⟩ = some (.int .u64 (lo n : Nat)) ∧ Hid (Blk w' w.heap.size #[.bool Bz, .int .u64 (hi n : Nat), .int .u64 (lo n : Nat)] ∧ Below w.heap.size w w')) W0.heap.size [⟨8, 10, fun w b => Blk w b #[.int .u64 0, .int .u64 0], fun w b => Blk w b #[.int .u64 (hi Q : Nat), .int .u64 (lo Q : Nat)]⟩, ⟨9, 11, fun w b => Blk w b #[.int .u64 0, .int .u64 0], fun w b => Blk w b #[.int .u64 (hi R : Nat), .int .u64 (lo R : Nat)]⟩]) i := fun i hi => sof_fit hok.st hok.loc hi
  have HOK := Lib.hid hok; have HF := Lib.hid hfit; clear hok hfit
  refine wp_region_ab (S0 := (fun w' => w'.cell? ⟨w.heap.size, 0, none⟩ = some (.bool Bz) ∧ w'.cell? ⟨w.heap.size, 1, none⟩ = some (.int .u64 (hi n : Nat)) ∧ w'.cell? ⟨w.heap.size, 2, none⟩ = some (.int .u64 (lo n : Nat)) ∧ Hid (Blk w' w.heap.size #[.bool Bz, .int .u64 (hi n : Nat), .int .u64 (lo n : Nat)] ∧ Below w.heap.size w w'))) W0.heap.size [⟨8, 10, fun w b => Blk w b #[.int .u64 0, .int .u64 0], fun w b => Blk w b #[.int .u64 (hi Q : Nat), .int .u64 (lo Q : Nat)]⟩, ⟨9, 11, fun w b => Blk w b #[.int .u64 0, .int .u64 0], fun w b => Blk w b #[.int .u64 (hi R : Nat), .int .u64 (lo R : Nat)]⟩] (by kernel_rfl) ⟨bs.drew.cell rfl, bs.drew.cell rfl, bs.drew.cell rfl, Lib.hid ⟨bs.drew, hw0.drew⟩⟩ (Nat.le_refl _) (by simp) ?_
  clear bs
  refine abTake 0 (some 26) (v := ?_) rfl rfl (by kernel_rfl) (by kernel_rfl) (by kernel_rfl) (fun _ _ _ h => h) (HF.out _ (by simp)) (by rfl) ?_ ?_
  rotate_left 1
  · (intro w hSw; (try dsimp only at hSw); go_simp; try with_reducible rfl)
  simp only [Act.put, List.setIfInBounds_toArray, List.set_cons_zero, List.set_cons_succ]
  refine abTake 1 (some 27) (v := ?_) rfl rfl (by kernel_rfl) (by kernel_rfl) (by kernel_rfl) (fun _ _ _ h => h) (HF.out _ (by simp)) (by rfl) ?_ ?_
  rotate_left 1
  · (intro w hSw; (try dsimp only at hSw); go_simp; try with_reducible rfl)
  simp only [Act.put, List.setIfInBounds_toArray, List.set_cons_zero, List.set_cons_succ]
  refine abTake 2 (some 28) (v := ?_) rfl rfl (by kernel_rfl) (by kernel_rfl) (by kernel_rfl) (fun _ _ _ h => h) (HF.out _ (by simp)) (by rfl) ?_ ?_
  rotate_left 1
  · (intro w hSw; (try dsimp only at hSw); go_simp; try with_reducible rfl)
  simp only [Act.put, List.setIfInBounds_toArray, List.set_cons_zero, List.set_cons_succ]
  refine abCall 3 (some 29) rfl rfl (by kernel_rfl) (by kernel_rfl) (by kernel_rfl) (fun _ _ _ h => h) (HF.out _ (by simp)) (by rfl) ?_ (fun w hSw => M1.out w) ?_
  · (intro w hSw; (try dsimp only at hSw); go_simp; try with_reducible rfl)
  simp only [Act.put, List.setIfInBounds_toArray, List.set_cons_zero, List.set_cons_succ]
  refine abCall 4 (some 30) rfl rfl (by kernel_rfl) (by kernel_rfl) (by kernel_rfl) (fun _ _ _ h => h) (HF.out _ (by simp)) (by rfl) ?_ (fun w hSw => M2.out w) ?_
  · (intro w hSw; (try dsimp only at hSw); go_simp; try with_reducible rfl)
  simp only [Act.put, List.setIfInBounds_toArray, List.set_cons_zero, List.set_cons_succ]
  refine abTake 5 (some 25) (v := ?_) rfl rfl (by kernel_rfl) (by kernel_rfl) (by kernel_rfl) (fun _ _ _ h => h) (HF.out _ (by simp)) (by rfl) ?_ ?_
  rotate_left 1
  · (intro w hSw; (try dsimp only at hSw); go_simp; try with_reducible rfl)
  simp only [Act.put, List.setIfInBounds_toArray, List.set_cons_zero, List.set_cons_succ]
  refine abTake 6 (some 31) (v := ?_) rfl rfl (by kernel_rfl) (by kernel_rfl) (by kernel_rfl) (fun _ _ _ h => h) (HF.out _ (by simp)) (by rfl) ?_ ?_
  rotate_left 1
  · (intro w hSw; (try dsimp only at hSw); go_simp; try with_reducible rfl)
  simp only [Act.put, List.setIfInBounds_toArray, List.set_cons_zero, List.set_cons_succ]
  refine abTake 7 (some 32) (v := ?_) rfl rfl (by kernel_rfl) (by kernel_rfl) (by kernel_rfl) (fun _ _ _ h => h) (HF.out _ (by simp)) (by rfl) ?_ ?_
  rotate_left 1
  · (intro w hSw; (try dsimp only at hSw); go_simp; try with_reducible rfl)
  simp only [Act.put, List.setIfInBounds_toArray, List.set_cons_zero, List.set_cons_succ]
  refine abMake2 8 9 9 10 HOK.out _ _ (List.mem_cons_self) (List.mem_cons_of_mem _ (List.mem_cons_self)) rfl rfl rfl rfl rfl rfl (by kernel_rfl) (by kernel_rfl) (by kernel_rfl) (by kernel_rfl) (by decide) (by simp) (by kernel_rfl) (by kernel_rfl) (by kernel_rfl) (by kernel_rfl) (by kernel_rfl) (by kernel_rfl) ⟨by rfl, .cells #[.int .u64 0, .int .u64 0] 48, fun w hSw => ⟨(by (try dsimp only at hSw); go_simp; try with_reducible rfl), Blk.newAt rfl⟩⟩ ⟨by rfl, .cells #[.int .u64 0, .int .u64 0] 48, fun w hSw => ⟨(by (try dsimp only at hSw); go_simp; try with_reducible rfl), Blk.newAt rfl⟩⟩ (fun p9 p10 hp9 hp10 np9 => ?_)
  simp only [Act.put, List.setIfInBounds_toArray, List.set_cons_zero, List.set_cons_succ]
  refine abStore 10 HOK.out _ (List.mem_cons_self) rfl rfl rfl (by kernel_rfl) (by kernel_rfl) (by kernel_rfl) (by kernel_rfl) (by rfl) ?_ ?_
  · rintro w b hSw hg hB hp
    obtain rfl : b = p9 := hg
    replace hp : Blk w b #[.int .u64 0, .int .u64 0] := hp
    have x0 : w.cell? ⟨b, 0, none⟩ = some (.int .u64 0) := hp.cell rfl
    have x1 : w.cell? ⟨b, 1, none⟩ = some (.int .u64 0) := hp.cell rfl
    have y0 := hp.free 0
    have y1 := hp.free 1
    refine ⟨((w.setCell ⟨b, 0, none⟩ (.int .u64 (hi Q : Nat))).setCell ⟨b, 1, none⟩ (.int .u64 (lo Q : Nat))), ?_, ((hp.set 0 (.int .u64 (hi Q : Nat))).set 1 (.int .u64 (lo Q : Nat))), (((Below.refl _ _).setCell (p := ⟨b, 0, none⟩) hB _).setCell (p := ⟨b, 1, none⟩) hB _), fun k hk => ?_⟩
    · (try dsimp only at hSw); go_simp; try with_reducible rfl
    · exact (Below.heap_setCell _ _ _ _ hk).trans ((Below.heap_setCell _ _ _ _ hk))
  refine abStore 11 HOK.out _ (List.mem_cons_of_mem _ (List.mem_cons_self)) rfl rfl rfl (by kernel_rfl) (by kernel_rfl) (by kernel_rfl) (by kernel_rfl) (by rfl) ?_ ?_
  · rintro w b hSw hg hB hp
    obtain rfl : b = p10 := hg
    replace hp : Blk w b #[.int .u64 0, .int .u64 0] := hp
    have x0 : w.cell? ⟨b, 0, none⟩ = some (.int .u64 0) := hp.cell rfl
    have x1 : w.cell? ⟨b, 1, none⟩ = some (.int .u64 0) := hp.cell rfl
    have y0 := hp.free 0
    have y1 := hp.free 1
    refine ⟨((w.setCell ⟨b, 0, none⟩ (.int .u64 (hi R : Nat))).setCell ⟨b, 1, none⟩ (.int .u64 (lo R : Nat))), ?_, ((hp.set 0 (.int .u64 (hi R : Nat))).set 1 (.int .u64 (lo R : Nat))), (((Below.refl _ _).setCell (p := ⟨b, 0, none⟩) hB _).setCell (p := ⟨b, 1, none⟩) hB _), fun k hk => ?_⟩
    · (try dsimp only at hSw); go_simp; try with_reducible rfl
    · exact (Below.heap_setCell _ _ _ _ hk).trans ((Below.heap_setCell _ _ _ _ hk))
  refine abDone (by kernel_rfl) ?_ _
  rintro w1 hS
  have k9 := sof_post hS _ (List.mem_cons_self) (by kernel_rfl) (by kernel_rfl) (b := p9) rfl
  have k10 := sof_post hS _ (List.mem_cons_of_mem _ (List.mem_cons_self)) (by kernel_rfl) (by kernel_rfl) (b := p10) rfl
  have Bs := Lib.hid hS.1.2.2.2.out.1
  have HW1 := Lib.hid hS.1.2.2.2.out.2
  have Bq : Hid (Blk w1 p9 #[.int .u64 (hi Q : Nat), .int .u64 (lo Q : Nat)]) := Lib.hid k9.2.2
  have Br : Hid (Blk w1 p10 #[.int .u64 (hi R : Nat), .int .u64 (lo R : Nat)]) := Lib.hid k10.2.2
  have z9 : w.heap.size < p9 := by have := k9.1; omega
  have z10 : w.heap.size < p10 := by have := k10.1; omega
  have Z9 := Lib.hid z9; have Z10 := Lib.hid z10; have NP := Lib.hid np9
  clear hS HOK HF k9 k10 z9 z10 ls hw0 hp9 hp10 np9
  have lr := Br.out.lt
  have cr0 : w1.cell? ⟨p10, 0, none⟩ = some (.int .u64 (hi R : Nat)) := Br.out.cell rfl
  have cr1 : w1.cell? ⟨p10, 1, none⟩ = some (.int .u64 (lo R : Nat)) := Br.out.cell rfl
  go_wp2_with fail
  refine (M3.out _).mono ?_
  rintro e w2 ⟨rfl, hb⟩
  have ks : Blk w2 w.heap.size #[.bool Bz, .int .u64 (hi n : Nat), .int .u64 (lo n : Nat)] := Bs.out.call hb
  have kq : Blk w2 p9 #[.int .u64 (hi Q : Nat), .int .u64 (lo Q : Nat)] := Bq.out.call hb
  have kr : Blk w2 p10 #[.int .u64 (hi R : Nat), .int .u64 (lo R : Nat)] := Br.out.call hb
  have kw : Below w.heap.size w w2 := HW1.out.trans (hb.mono HW1.out.size)
  clear lr cr0 cr1 Bs Bq Br HW1
  have Bs := Lib.hid ks
  have Bq := Lib.hid kq
  have Br := Lib.hid kr
  have HW2 := Lib.hid kw
  clear hb kw ks kq kr
  have lr := Br.out.lt
  have cr0 : w2.cell? ⟨p10, 0, none⟩ = some (.int .u64 (hi R : Nat)) := Br.out.cell rfl
  have cr1 : w2.cell? ⟨p10, 1, none⟩ = some (.int .u64 (lo R : Nat)) := Br.out.cell rfl
  have hA := HA.out
  have hE2 := E1.out; have hP := HP.out; have hP2 := HP2.out
  clear HA E1 HP HP2
  go_upto_region 6 with fail
  have bq : Blk (w2.alloc (.cells #[.int .u64 (hi N : Nat), .int .u64 (lo N : Nat)] 48)) p9 #[.int .u64 (hi Q : Nat), .int .u64 (lo Q : Nat)] := (Bq.out.alloc _)
  have bt : Blk (w2.alloc (.cells #[.int .u64 (hi N : Nat), .int .u64 (lo N : Nat)] 48)) w2.heap.size #[.int .u64 (hi N : Nat), .int .u64 (lo N : Nat)] := (Blk.new _ _ _)
  have hw : Below w.heap.size w (w2.alloc (.cells #[.int .u64 (hi N : Nat), .int .u64 (lo N : Nat)] 48)) := (HW2.out.alloc HW2.out.size _)
  obtain ⟨W1, hW1⟩ : ∃ W1, (w2.alloc (.cells #[.int .u64 (hi N : Nat), .int .u64 (lo N : Nat)] 48)) = W1 := ⟨_, rfl⟩
  rw [hW1] at bq bt hw ⊢
  clear hW1 lr cr0 cr1
  have hok : OwnOk (fun w' => w'.cell? ⟨w2.heap.size, 0, none⟩ = some (.int .u64 (hi N : Nat)) ∧ w'.cell? ⟨w2.heap.size, 1, none⟩ = some (.int .u64 (lo N : Nat)) ∧ w'.cell? ⟨p9, 1, none⟩ = some (.int .u64 (lo Q : Nat)) ∧ Hid (Blk w' p9 #[.int .u64 (hi Q : Nat), .int .u64 (lo Q : Nat)] ∧ Blk w' w2.heap.size #[.int .u64 (hi N : Nat), .int .u64 (lo N : Nat)] ∧ Below w.heap.size w w')) W1.heap.size [] := own0_ok (fun v1 v2 h hb => ⟨(h.2.2.2.out.2.1.below hb bt.lt).cell rfl, (h.2.2.2.out.2.1.below hb bt.lt).cell rfl, (h.2.2.2.out.1.below hb bq.lt).cell rfl, Lib.hid ⟨(h.2.2.2.out.1.below hb bq.lt), (h.2.2.2.out.2.1.below hb bt.lt), (h.2.2.2.out.2.2.trans (hb.mono hw.size))⟩⟩)
  have hfit : ∀ i, (∀ e ∈ ([] : List Ent), e.x ≠ i ∧ e.s ≠ i) → Fit (fun w' => w'.cell? ⟨w2.heap.size, 0, none⟩ = some (.int .u64 (hi N : Nat)) ∧ w'.cell? ⟨w2.heap.size, 1, none⟩ = some (.int .u64 (lo N : Nat)) ∧ w'.cell? ⟨p9, 1, none⟩ = some (.int .u64 (lo Q : Nat)) ∧ Hid (Blk w' p9 #[.int .u64 (hi Q : Nat), .int .u64 (lo Q : Nat)] ∧ Blk w' w2.heap.size #[.int .u64 (hi N : Nat), .int .u64 (lo N : Nat)] ∧ Below w.heap.size w w')) (Sof (fun w' => w'.cell? ⟨w2.heap.size, 0, none⟩ = some (.int .u64 (hi N : Nat)) ∧ w'.cell? ⟨w2.heap.size, 1, none⟩ = some (.int .u64 (lo N : Nat)) ∧ w'.cell? ⟨p9, 1, none⟩ = some (.int .u64 (lo Q : Nat)) ∧ Hid (Blk w' p9 #[.int .u64 (hi Q : Nat), .int .u64 (lo Q : Nat)] ∧ Blk w' w2.heap.size #[.int .u64 (hi N : Nat), .int .u64 (lo N : Nat)] ∧ Below w.heap.size w w')) W1.heap.size []) i := fun i hi => sof_fit hok.st hok.loc hi
  have HOK := Lib.hid hok; have HF := Lib.hid hfit; clear hok hfit
  refine wp_region_ab (S0 := (fun w' => w'.cell? ⟨w2.heap.size, 0, none⟩ = some (.int .u64 (hi N : Nat)) ∧ w'.cell? ⟨w2.heap.size, 1, none⟩ = some (.int .u64 (lo N : Nat)) ∧ w'.cell? ⟨p9, 1, none⟩ = some (.int .u64 (lo Q : Nat)) ∧ Hid (Blk w' p9 #[.int .u64 (hi Q : Nat), .int .u64 (lo Q : Nat)] ∧ Blk w' w2.heap.size #[.int .u64 (hi N : Nat), .int .u64 (lo N : Nat)] ∧ Below w.heap.size w w'))) W1.heap.size [] (by kernel_rfl) ⟨bt.drew.cell rfl, bt.drew.cell rfl, bq.drew.cell rfl, Lib.hid ⟨bq.drew, bt.drew, hw.drew⟩⟩ (Nat.le_refl _) (by simp) ?_
  clear bq bt hw
  refine abTake 0 (some 64) (v := ?_) rfl rfl (by kernel_rfl) (by kernel_rfl) (by kernel_rfl) (fun _ _ _ h => h) (HF.out _ (by simp)) (by rfl) ?_ ?_
  rotate_left 1
  · (intro w hSw; (try dsimp only at hSw); go_simp; try with_reducible rfl)
  simp only [Act.put, List.setIfInBounds_toArray, List.set_cons_zero, List.set_cons_succ]
  refine abCall 1 (some 65) rfl rfl (by kernel_rfl) (by kernel_rfl) (by kernel_rfl) (fun _ _ _ h => h) (HF.out _ (by simp)) (by rfl) ?_ (fun w hSw => M1.out w) ?_
  · (intro w hSw; (try dsimp only at hSw); go_simp; try with_reducible rfl)
  simp only [Act.put, List.setIfInBounds_toArray, List.set_cons_zero, List.set_cons_succ]
  refine abTake 2 (some 66) (v := ?_) rfl rfl (by kernel_rfl) (by kernel_rfl) (by kernel_rfl) (fun _ _ _ h => h) (HF.out _ (by simp)) (by rfl) ?_ ?_
  rotate_left 1
  · (intro w hSw; (try dsimp only at hSw); go_simp; try with_reducible rfl)
  simp only [Act.put, List.setIfInBounds_toArray, List.set_cons_zero, List.set_cons_succ]
  refine abCall 3 (some 67) rfl rfl (by kernel_rfl) (by kernel_rfl) (by kernel_rfl) (fun _ _ _ h => h) (HF.out _ (by simp)) (by rfl) ?_ (fun w hSw => M4.out w) ?_
  · (intro w hSw; (try dsimp only at hSw); go_simp; try with_reducible rfl)
  simp only [Act.put, List.setIfInBounds_toArray, List.set_cons_zero, List.set_cons_succ]
  refine abTake 4 (some 68) (v := ?_) rfl rfl (by kernel_rfl) (by kernel_rfl) (by kernel_rfl) (fun _ _ _ h => h) (HF.out _ (by simp)) (by rfl) ?_ ?_
  rotate_left 1
  · (intro w hSw; (try dsimp only at hSw); go_simp; try with_reducible rfl)
  simp only [Act.put, List.setIfInBounds_toArray, List.set_cons_zero, List.set_cons_succ]
  cases L with
  | true => simp at hA
  | false =>
    refine abTake 5 (some 69) (v := ?_) rfl rfl (by kernel_rfl) (by kernel_rfl) (by kernel_rfl) (fun _ _ _ h => h) (HF.out _ (by simp)) (by rfl) ?_ ?_
    rotate_left 1
    · (intro w hSw; (try dsimp only at hSw); go_simp; try with_reducible rfl)
    simp only [Act.put, List.setIfInBounds_toArray, List.set_cons_zero, List.set_cons_succ]
    refine abTake 6 (some 70) (v := ?_) rfl rfl (by kernel_rfl) (by kernel_rfl) (by kernel_rfl) (fun _ _ _ h => h) (HF.out _ (by simp)) (by rfl) ?_ ?_
    rotate_left 1
    · (intro w hSw; (try dsimp only at hSw); go_simp; try with_reducible rfl)
    simp only [Act.put, List.setIfInBounds_toArray, List.set_cons_zero, List.set_cons_succ]
    refine abCall 7 (some 71) rfl rfl (by kernel_rfl) (by kernel_rfl) (by kernel_rfl) (fun _ _ _ h => h) (HF.out _ (by simp)) (by rfl) ?_ (fun w hSw => M1.out w) ?_
    · (intro w hSw; (try dsimp only at hSw); go_simp; try with_reducible rfl)
    simp only [Act.put, List.setIfInBounds_toArray, List.set_cons_zero, List.set_cons_succ]
    refine abTake 8 (some 72) (v := ?_) rfl rfl (by kernel_rfl) (by kernel_rfl) (by kernel_rfl) (fun _ _ _ h => h) (HF.out _ (by simp)) (by rfl) ?_ ?_
    rotate_left 1
    · (intro w hSw; (try dsimp only at hSw); go_simp; try with_reducible rfl)
    simp only [Act.put, List.setIfInBounds_toArray, List.set_cons_zero, List.set_cons_succ]
    refine abTake 9 (some 73) (v := ?_) rfl rfl (by kernel_rfl) (by kernel_rfl) (by kernel_rfl) (fun _ _ _ h => h) (HF.out _ (by simp)) (by rfl) ?_ ?_
    rotate_left 1
    · (intro w hSw; (try dsimp only at hSw); go_simp; try with_reducible rfl)
    simp only [Act.put, List.setIfInBounds_toArray, List.set_cons_zero, List.set_cons_succ]
    cases D2 with
    | true =>
      obtain rfl : P = false := by simpa using hA
      clear hA
      refine abTake 10 (some 74) (v := ?_) rfl rfl (by kernel_rfl) (by kernel_rfl) (by kernel_rfl) (fun _ _ _ h => h) (HF.out _ (by simp)) (by rfl) ?_ ?_
      rotate_left 1
      · (intro w hSw; (try dsimp only at hSw); go_simp; try with_reducible rfl)
      simp only [Act.put, List.setIfInBounds_toArray, List.set_cons_zero, List.set_cons_succ]
      refine abTake 11 (some 75) (v := ?_) rfl rfl (by kernel_rfl) (by kernel_rfl) (by kernel_rfl) (fun _ _ _ h => h) (HF.out _ (by simp)) (by rfl) ?_ ?_
      rotate_left 1
      · (intro w hSw; (try dsimp only at hSw); go_simp; try with_reducible rfl)
      simp only [Act.put, List.setIfInBounds_toArray, List.set_cons_zero, List.set_cons_succ]
      refine abTake 12 (some 76) (v := ?_) rfl rfl (by kernel_rfl) (by kernel_rfl) (by kernel_rfl) (fun _ _ _ h => h) (HF.out _ (by simp)) (by rfl) ?_ ?_
      rotate_left 1
      · (intro w hSw; (try dsimp only at hSw); go_simp; try with_reducible rfl)
      simp only [Act.put, List.setIfInBounds_toArray, List.set_cons_zero, List.set_cons_succ]
      refine abTake 13 (some 77) (v := ?_) rfl rfl (by kernel_rfl) (by kernel_rfl) (by kernel_rfl) (fun _ _ _ h => h) (HF.out _ (by simp)) (by rfl) ?_ ?_
      rotate_left 1
      · (intro w hSw; (try dsimp only at hSw); go_simp; try with_reducible rfl)
      simp only [Act.put, List.setIfInBounds_toArray, List.set_cons_zero, List.set_cons_succ]
      refine abTake 14 (some 78) (v := ?_) rfl rfl (by kernel_rfl) (by kernel_rfl) (by kernel_rfl) (fun _ _ _ h => h) (HF.out _ (by simp)) (by rfl) ?_ ?_
      rotate_left 1
      · (intro w hSw; (try dsimp only at hSw); go_simp; try with_reducible rfl)
      simp only [Act.put, List.setIfInBounds_toArray, List.set_cons_zero, List.set_cons_succ]
      refine abTake 15 (some 79) (v := ?_) rfl rfl (by kernel_rfl) (by kernel_rfl) (by kernel_rfl) (fun _ _ _ h => h) (HF.out _ (by simp)) (by rfl) ?_ ?_
      rotate_left 1
      · (intro w hSw; (try dsimp only at hSw); go_simp; try with_reducible rfl)
      simp only [Act.put, List.setIfInBounds_toArray, List.set_cons_zero, List.set_cons_succ]
      refine abTake 16 (some 13) (v := ?_) rfl rfl (by kernel_rfl) (by kernel_rfl) (by kernel_rfl) (fun _ _ _ h => h) (HF.out _ (by simp)) (by rfl) ?_ ?_
      rotate_left 1
      · (intro w hSw; (try dsimp only at hSw); go_simp; try with_reducible rfl)
      simp only [Act.put, List.setIfInBounds_toArray, List.set_cons_zero, List.set_cons_succ]
      refine abDone (by kernel_rfl) ?_ _
      rintro w4 hS
      have Bq4 := Lib.hid hS.1.2.2.2.out.1
      have HW4 := Lib.hid hS.1.2.2.2.out.2.2
      clear hS HOK HF Bs Bq Br HW2
      have Bq := Bq4
      clear Bq4
      have lq := Bq.out.lt
      have cq0 : w4.cell? ⟨p9, 0, none⟩ = some (.int .u64 (hi Q : Nat)) := Bq.out.cell rfl
      have cq1 : w4.cell? ⟨p9, 1, none⟩ = some (.int .u64 (lo Q : Nat)) := Bq.out.cell rfl
      go_wp2_with fail
      refine (M7.out _).mono ?_
      rintro e w5 ⟨rfl, hb⟩
      have kq : Blk w5 p9 #[.int .u64 (hi Q : Nat), .int .u64 (lo Q : Nat)] := Bq.out.call hb
      have kw : Below w.heap.size w w5 := HW4.out.trans (hb.mono HW4.out.size)
      clear lq cq0 cq1 Bq HW4
      have Bq := Lib.hid kq
      have HW5 := Lib.hid kw
      clear hb kw kq
      go_wp2_with fail
      go_ret2
      exact ⟨rfl, HW5.out⟩
    | false =>
      clear hA
      refine abSkip 10 (some 74) rfl rfl (by kernel_rfl) (by kernel_rfl) (by kernel_rfl) (fun _ _ _ h => h) (HF.out _ (by simp)) (by rfl) ?_
      simp only [Act.put, List.setIfInBounds_toArray, List.set_cons_zero, List.set_cons_succ]
      refine abSkip 11 (some 75) rfl rfl (by kernel_rfl) (by kernel_rfl) (by kernel_rfl) (fun _ _ _ h => h) (HF.out _ (by simp)) (by rfl) ?_
      simp only [Act.put, List.setIfInBounds_toArray, List.set_cons_zero, List.set_cons_succ]
      refine abSkip 12 (some 76) rfl rfl (by kernel_rfl) (by kernel_rfl) (by kernel_rfl) (fun _ _ _ h => h) (HF.out _ (by simp)) (by rfl) ?_
      simp only [Act.put, List.setIfInBounds_toArray, List.set_cons_zero, List.set_cons_succ]
      refine abSkip 13 (some 77) rfl rfl (by kernel_rfl) (by kernel_rfl) (by kernel_rfl) (fun _ _ _ h => h) (HF.out _ (by simp)) (by rfl) ?_
      simp only [Act.put, List.setIfInBounds_toArray, List.set_cons_zero, List.set_cons_succ]
      refine abTake 14 (some 78) (v := ?_) rfl rfl (by kernel_rfl) (by kernel_rfl) (by kernel_rfl) (fun _ _ _ h => h) (HF.out _ (by simp)) (by rfl) ?_ ?_
      rotate_left 1
      · (intro w hSw; (try dsimp only at hSw); go_simp; try with_reducible rfl)
      simp only [Act.put, List.setIfInBounds_toArray, List.set_cons_zero, List.set_cons_succ]
      refine abTake 15 (some 79) (v := ?_) rfl rfl (by kernel_rfl) (by kernel_rfl) (by kernel_rfl) (fun _ _ _ h => h) (HF.out _ (by simp)) (by rfl) ?_ ?_
      rotate_left 1
      · (intro w hSw; (try dsimp only at hSw); go_simp; try with_reducible rfl)
      simp only [Act.put, List.setIfInBounds_toArray, List.set_cons_zero, List.set_cons_succ]
      refine abTake 16 (some 13) (v := ?_) rfl rfl (by kernel_rfl) (by kernel_rfl) (by kernel_rfl) (fun _ _ _ h => h) (HF.out _ (by simp)) (by rfl) ?_ ?_
      rotate_left 1
      · (intro w hSw; (try dsimp only at hSw); go_simp; try with_reducible rfl)
      simp only [Act.put, List.setIfInBounds_toArray, List.set_cons_zero, List.set_cons_succ]
      refine abDone (by kernel_rfl) ?_ _
      rintro w4 hS
      have Bq4 := Lib.hid hS.1.2.2.2.out.1
      have HW4 := Lib.hid hS.1.2.2.2.out.2.2
      clear hS HOK HF Bs Bq Br HW2
      have Bq := Bq4
      clear Bq4
      have lq := Bq.out.lt
      have cq0 : w4.cell? ⟨p9, 0, none⟩ = some (.int .u64 (hi Q : Nat)) := Bq.out.cell rfl
      have cq1 : w4.cell? ⟨p9, 1, none⟩ = some (.int .u64 (lo Q : Nat)) := Bq.out.cell rfl
      go_wp2_with fail
      refine (M7.out _).mono ?_
      rintro e w5 ⟨rfl, hb⟩
      have kq : Blk w5 p9 #[.int .u64 (hi Q : Nat), .int .u64 (lo Q : Nat)] := Bq.out.call hb
      have kw : Below w.heap.size w w5 := HW4.out.trans (hb.mono HW4.out.size)
      clear lq cq0 cq1 Bq HW4
      have Bq := Lib.hid kq
      have HW5 := Lib.hid kw
      clear hb kw kq
      go_wp2_with fail
      go_ret2
      exact ⟨rfl, HW5.out⟩
set_option maxRecDepth 100000 in
set_option maxHeartbeats 2000000 in
theorem rdivd_2_yes (c x y : Int) (n z Q R N G : Nat) (Bz Cn D0 V D2 L P : Bool) (w : World)
    (hC : decide (c < 0) = Cn) (hV : (!(Bz == Cn) && !D0) = V) (hA : (L || (D2 && P)) = true)
    (hE0 : ∀ w, (Op.equalIn 10000 48 (.agg #[.int .u64 (hi n : Nat), .int .u64 (lo n : Nat)]) (.agg #[.int .u64 0, .int .u64 0])).run Try.prog w = .ok D0 w)
    (hE2 : ∀ w, (Op.equalIn 10000 48 (.agg #[.int .u64 (hi N : Nat), .int .u64 (lo N : Nat)]) (.agg #[.int .u64 (hi z : Nat), .int .u64 (lo z : Nat)])).run Try.prog w = .ok D2 w)
    (hP : ((lo Q : Int) % 2 == 1) = P) (hP2 : ((lo Q : Int).tmod 2 == 1) = P)
    (m1 : ∀ w, Calls Try.prog 27 #[.int .i64 c] w fun en w' => en = .returned (.agg #[.int .u64 (hi z : Nat), .int .u64 (lo z : Nat)]) ∧ Below w.heap.size w w')
    (m2 : ∀ w, Calls Try.prog 49 #[.agg #[.int .u64 (hi n : Nat), .int .u64 (lo n : Nat)], .agg #[.int .u64 (hi z : Nat), .int .u64 (lo z : Nat)]] w fun en w' => en = .returned (.tuple #[.agg #[.int .u64 (hi Q : Nat), .int .u64 (lo Q : Nat)], .agg #[.int .u64 (hi R : Nat), .int .u64 (lo R : Nat)]]) ∧ Below w.heap.size w w')
    (m3 : ∀ w, Calls Try.prog 50 #[.agg #[.int .u64 (hi R : Nat), .int .u64 (lo R : Nat)], .agg #[.int .u64 (hi R : Nat), .int .u64 (lo R : Nat)]] w fun en w' => en = .returned (.tuple #[.agg #[.int .u64 (hi N : Nat), .int .u64 (lo N : Nat)], .bool false]) ∧ Below w.heap.size w w')
    (m4 : ∀ w, Calls Try.prog 61 #[.agg #[.int .u64 (hi z : Nat), .int .u64 (lo z : Nat)], .agg #[.int .u64 (hi N : Nat), .int .u64 (lo N : Nat)]] w fun en w' => en = .returned (.bool L) ∧ Below w.heap.size w w')
    (m5 : ∀ w, Calls Try.prog 28 #[.int .u64 1] w fun en w' => en = .returned (.agg #[.int .u64 0, .int .u64 1]) ∧ Below w.heap.size w w')
    (m6 : ∀ w, Calls Try.prog 50 #[.agg #[.int .u64 (hi Q : Nat), .int .u64 (lo Q : Nat)], .agg #[.int .u64 0, .int .u64 1]] w fun en w' => en = .returned (.tuple #[.agg #[.int .u64 (hi G : Nat), .int .u64 (lo G : Nat)], .bool false]) ∧ Below w.heap.size w w')
    (m7 : ∀ w, Calls Try.prog 81 #[.agg #[.bool V, .int .u64 (hi G : Nat), .int .u64 (lo G : Nat)]] w fun en w' => en = .returned (.tuple #[.int .i64 x, .int .i64 y]) ∧ Below w.heap.size w w') :
    Calls Try.prog 60 #[.agg #[.bool Bz, .int .u64 (hi n : Nat), .int .u64 (lo n : Nat)], .int .i64 c, .int .i64 2] w fun en w' => en = .returned (.tuple #[.int .i64 x, .int .i64 y]) ∧ Below w.heap.size w w' := by
  have M1 := Lib.hid m1; have M2 := Lib.hid m2; have M3 := Lib.hid m3; have M4 := Lib.hid m4; have M5 := Lib.hid m5; have M6 := Lib.hid m6; have M7 := Lib.hid m7
  clear m1 m2 m3 m4 m5 m6 m7
  have HA := Lib.hid hA; have E1 := Lib.hid hE2; have HP := Lib.hid hP; have HP2 := Lib.hid hP2
  clear hA hE2 hP hP2
  go_enter Try.func60, Try.ntmps60
  go_upto_region 1 with fail
  go_cut [8] (fun s8 wx => s8 = .bool V ∧ w.alloc (.cells #[.bool Bz, .int .u64 (hi n : Nat), .int .u64 (lo n : Nat)] 59) = wx)
  case first =>
    cases Bz <;> cases Cn
    all_goals
      simp at hV
      subst hV
      go_wp2_with fail
      go_meet
      exact ⟨rfl, rfl⟩
  case rest =>
  obtain ⟨rfl, rfl⟩ := hcut
  clear hE0 hV hC
  go_upto_region 2 with fail
  obtain ⟨W0, hW0⟩ : ∃ W0, w.alloc (.cells #[.bool Bz, .int .u64 (hi n : Nat), .int .u64 (lo n : Nat)] 59) = W0 := ⟨_, rfl⟩
  have bs : Blk W0 w.heap.size #[.bool Bz, .int .u64 (hi n : Nat), .int .u64 (lo n : Nat)] := by rw [← hW0]; exact Blk.new _ _ _
  have hw0 : Below w.heap.size w W0 := by rw [← hW0]; exact (Below.refl _ _).alloc (Nat.le_refl _) _
  rw [hW0]
  clear hW0
  have ls := bs.lt
  have hok : OwnOk (fun w' => w'.cell? ⟨w.heap.size, 0, none⟩ = some (.bool Bz) ∧ w'.cell? ⟨w.heap.size, 1, none⟩ = some (.int .u64 (hi n : Nat)) ∧ w'.cell? ⟨w.heap.size, 2, none⟩ = some (.int .u64 (lo n : Nat)) ∧ Hid (Blk w' w.heap.size #[.bool Bz, .int .u64 (hi n : Nat), .int .u64 (lo n : Nat)] ∧ Below w.heap.size w w')) W0.heap.size [⟨8, 10, fun w b => Blk w b #[.int .u64 0, .int .u64 0], fun w b => Blk w b #[.int .u64 (hi Q : Nat), .int .u64 (lo Q : Nat)]⟩, ⟨9, 11, fun w b => Blk w b #[.int .u64 0, .int .u64 0], fun w b => Blk w b #[.int .u64 (hi R : Nat), .int .u64 (lo R : Nat)]⟩] := own2_ok (fun v1 v2 h hb => ⟨(h.2.2.2.out.1.below hb bs.lt).cell rfl, (h.2.2.2.out.1.below hb bs.lt).cell rfl, (h.2.2.2.out.1.below hb bs.lt).cell rfl, Lib.hid ⟨(h.2.2.2.out.1.below hb bs.lt), (h.2.2.2.out.2.trans (hb.mono hw0.size))⟩⟩) ⟨Blk.local _, Blk.local _⟩ ⟨Blk.local _, Blk.local _⟩ (by simp) (by simp) (by simp)
  have hfit : ∀ i, (∀ e ∈ ([⟨8, 10, fun w b => Blk w b #[.int .u64 0, .int .u64 0], fun w b => Blk w b #[.int .u64 (hi Q : Nat), .int .u64 (lo Q : Nat)]⟩, ⟨9, 11, fun w b => Blk w b #[.int .u64 0, .int .u64 0], fun w b => Blk w b #[.int .u64 (hi R : Nat), .int .u64 (lo R : Nat)]⟩] : List Ent), e.x ≠ i ∧ e.s ≠ i) → Fit (fun w' => w'.cell? ⟨w.heap.size, 0, none⟩ = some (.bool Bz) ∧ w'.cell? ⟨w.heap.size, 1, none⟩ = some (.int .u64 (hi n : Nat)) ∧ w'.cell? ⟨w.heap.size, 2, none⟩ = some (.int .u64 (lo n : Nat)) ∧ Hid (Blk w' w.heap.size #[.bool Bz, .int .u64 (hi n : Nat), .int .u64 (lo n : Nat)] ∧ Below w.heap.size w w')) (Sof (fun w' => w'.cell? ⟨w.heap.size, 0, none⟩ = some (.bool Bz) ∧ w'.cell? ⟨w.heap.size, 1, none⟩ = some (.int .u64 (hi n : Nat)) ∧ w'.cell? ⟨w.heap.size, 2, none⟩ = some (.int .u64 (lo n : Nat)) ∧ Hid (Blk w' w.heap.size #[.bool Bz, .int .u64 (hi n : Nat), .int .u64 (lo n : Nat)] ∧ Below w.heap.size w w')) W0.heap.size [⟨8, 10, fun w b => Blk w b #[.int .u64 0, .int .u64 0], fun w b => Blk w b #[.int .u64 (hi Q : Nat), .int .u64 (lo Q : Nat)]⟩, ⟨9, 11, fun w b => Blk w b #[.int .u64 0, .int .u64 0], fun w b => Blk w b #[.int .u64 (hi R : Nat), .int .u64 (lo R : Nat)]⟩]) i := fun i hi => sof_fit hok.st hok.loc hi
  have HOK := Lib.hid hok; have HF := Lib.hid hfit; clear hok hfit
  refine wp_region_ab (S0 := (fun w' => w'.cell? ⟨w.heap.size, 0, none⟩ = some (.bool Bz) ∧ w'.cell? ⟨w.heap.size, 1, none⟩ = some (.int .u64 (hi n : Nat)) ∧ w'.cell? ⟨w.heap.size, 2, none⟩ = some (.int .u64 (lo n : Nat)) ∧ Hid (Blk w' w.heap.size #[.bool Bz, .int .u64 (hi n : Nat), .int .u64 (lo n : Nat)] ∧ Below w.heap.size w w'))) W0.heap.size [⟨8, 10, fun w b => Blk w b #[.int .u64 0, .int .u64 0], fun w b => Blk w b #[.int .u64 (hi Q : Nat), .int .u64 (lo Q : Nat)]⟩, ⟨9, 11, fun w b => Blk w b #[.int .u64 0, .int .u64 0], fun w b => Blk w b #[.int .u64 (hi R : Nat), .int .u64 (lo R : Nat)]⟩] (by kernel_rfl) ⟨bs.drew.cell rfl, bs.drew.cell rfl, bs.drew.cell rfl, Lib.hid ⟨bs.drew, hw0.drew⟩⟩ (Nat.le_refl _) (by simp) ?_
  clear bs
  refine abTake 0 (some 26) (v := ?_) rfl rfl (by kernel_rfl) (by kernel_rfl) (by kernel_rfl) (fun _ _ _ h => h) (HF.out _ (by simp)) (by rfl) ?_ ?_
  rotate_left 1
  · (intro w hSw; (try dsimp only at hSw); go_simp; try with_reducible rfl)
  simp only [Act.put, List.setIfInBounds_toArray, List.set_cons_zero, List.set_cons_succ]
  refine abTake 1 (some 27) (v := ?_) rfl rfl (by kernel_rfl) (by kernel_rfl) (by kernel_rfl) (fun _ _ _ h => h) (HF.out _ (by simp)) (by rfl) ?_ ?_
  rotate_left 1
  · (intro w hSw; (try dsimp only at hSw); go_simp; try with_reducible rfl)
  simp only [Act.put, List.setIfInBounds_toArray, List.set_cons_zero, List.set_cons_succ]
  refine abTake 2 (some 28) (v := ?_) rfl rfl (by kernel_rfl) (by kernel_rfl) (by kernel_rfl) (fun _ _ _ h => h) (HF.out _ (by simp)) (by rfl) ?_ ?_
  rotate_left 1
  · (intro w hSw; (try dsimp only at hSw); go_simp; try with_reducible rfl)
  simp only [Act.put, List.setIfInBounds_toArray, List.set_cons_zero, List.set_cons_succ]
  refine abCall 3 (some 29) rfl rfl (by kernel_rfl) (by kernel_rfl) (by kernel_rfl) (fun _ _ _ h => h) (HF.out _ (by simp)) (by rfl) ?_ (fun w hSw => M1.out w) ?_
  · (intro w hSw; (try dsimp only at hSw); go_simp; try with_reducible rfl)
  simp only [Act.put, List.setIfInBounds_toArray, List.set_cons_zero, List.set_cons_succ]
  refine abCall 4 (some 30) rfl rfl (by kernel_rfl) (by kernel_rfl) (by kernel_rfl) (fun _ _ _ h => h) (HF.out _ (by simp)) (by rfl) ?_ (fun w hSw => M2.out w) ?_
  · (intro w hSw; (try dsimp only at hSw); go_simp; try with_reducible rfl)
  simp only [Act.put, List.setIfInBounds_toArray, List.set_cons_zero, List.set_cons_succ]
  refine abTake 5 (some 25) (v := ?_) rfl rfl (by kernel_rfl) (by kernel_rfl) (by kernel_rfl) (fun _ _ _ h => h) (HF.out _ (by simp)) (by rfl) ?_ ?_
  rotate_left 1
  · (intro w hSw; (try dsimp only at hSw); go_simp; try with_reducible rfl)
  simp only [Act.put, List.setIfInBounds_toArray, List.set_cons_zero, List.set_cons_succ]
  refine abTake 6 (some 31) (v := ?_) rfl rfl (by kernel_rfl) (by kernel_rfl) (by kernel_rfl) (fun _ _ _ h => h) (HF.out _ (by simp)) (by rfl) ?_ ?_
  rotate_left 1
  · (intro w hSw; (try dsimp only at hSw); go_simp; try with_reducible rfl)
  simp only [Act.put, List.setIfInBounds_toArray, List.set_cons_zero, List.set_cons_succ]
  refine abTake 7 (some 32) (v := ?_) rfl rfl (by kernel_rfl) (by kernel_rfl) (by kernel_rfl) (fun _ _ _ h => h) (HF.out _ (by simp)) (by rfl) ?_ ?_
  rotate_left 1
  · (intro w hSw; (try dsimp only at hSw); go_simp; try with_reducible rfl)
  simp only [Act.put, List.setIfInBounds_toArray, List.set_cons_zero, List.set_cons_succ]
  refine abMake2 8 9 9 10 HOK.out _ _ (List.mem_cons_self) (List.mem_cons_of_mem _ (List.mem_cons_self)) rfl rfl rfl rfl rfl rfl (by kernel_rfl) (by kernel_rfl) (by kernel_rfl) (by kernel_rfl) (by decide) (by simp) (by kernel_rfl) (by kernel_rfl) (by kernel_rfl) (by kernel_rfl) (by kernel_rfl) (by kernel_rfl) ⟨by rfl, .cells #[.int .u64 0, .int .u64 0] 48, fun w hSw => ⟨(by (try dsimp only at hSw); go_simp; try with_reducible rfl), Blk.newAt rfl⟩⟩ ⟨by rfl, .cells #[.int .u64 0, .int .u64 0] 48, fun w hSw => ⟨(by (try dsimp only at hSw); go_simp; try with_reducible rfl), Blk.newAt rfl⟩⟩ (fun p9 p10 hp9 hp10 np9 => ?_)
  simp only [Act.put, List.setIfInBounds_toArray, List.set_cons_zero, List.set_cons_succ]
  refine abStore 10 HOK.out _ (List.mem_cons_self) rfl rfl rfl (by kernel_rfl) (by kernel_rfl) (by kernel_rfl) (by kernel_rfl) (by rfl) ?_ ?_
  · rintro w b hSw hg hB hp
    obtain rfl : b = p9 := hg
    replace hp : Blk w b #[.int .u64 0, .int .u64 0] := hp
    have x0 : w.cell? ⟨b, 0, none⟩ = some (.int .u64 0) := hp.cell rfl
    have x1 : w.cell? ⟨b, 1, none⟩ = some (.int .u64 0) := hp.cell rfl
    have y0 := hp.free 0
    have y1 := hp.free 1
    refine ⟨((w.setCell ⟨b, 0, none⟩ (.int .u64 (hi Q : Nat))).setCell ⟨b, 1, none⟩ (.int .u64 (lo Q : Nat))), ?_, ((hp.set 0 (.int .u64 (hi Q : Nat))).set 1 (.int .u64 (lo Q : Nat))), (((Below.refl _ _).setCell (p := ⟨b, 0, none⟩) hB _).setCell (p := ⟨b, 1, none⟩) hB _), fun k hk => ?_⟩
    · (try dsimp only at hSw); go_simp; try with_reducible rfl
    · exact (Below.heap_setCell _ _ _ _ hk).trans ((Below.heap_setCell _ _ _ _ hk))
  refine abStore 11 HOK.out _ (List.mem_cons_of_mem _ (List.mem_cons_self)) rfl rfl rfl (by kernel_rfl) (by kernel_rfl) (by kernel_rfl) (by kernel_rfl) (by rfl) ?_ ?_
  · rintro w b hSw hg hB hp
    obtain rfl : b = p10 := hg
    replace hp : Blk w b #[.int .u64 0, .int .u64 0] := hp
    have x0 : w.cell? ⟨b, 0, none⟩ = some (.int .u64 0) := hp.cell rfl
    have x1 : w.cell? ⟨b, 1, none⟩ = some (.int .u64 0) := hp.cell rfl
    have y0 := hp.free 0
    have y1 := hp.free 1
    refine ⟨((w.setCell ⟨b, 0, none⟩ (.int .u64 (hi R : Nat))).setCell ⟨b, 1, none⟩ (.int .u64 (lo R : Nat))), ?_, ((hp.set 0 (.int .u64 (hi R : Nat))).set 1 (.int .u64 (lo R : Nat))), (((Below.refl _ _).setCell (p := ⟨b, 0, none⟩) hB _).setCell (p := ⟨b, 1, none⟩) hB _), fun k hk => ?_⟩
    · (try dsimp only at hSw); go_simp; try with_reducible rfl
    · exact (Below.heap_setCell _ _ _ _ hk).trans ((Below.heap_setCell _ _ _ _ hk))
  refine abDone (by kernel_rfl) ?_ _
  rintro w1 hS
  have k9 := sof_post hS _ (List.mem_cons_self) (by kernel_rfl) (by kernel_rfl) (b := p9) rfl
  have k10 := sof_post hS _ (List.mem_cons_of_mem _ (List.mem_cons_self)) (by kernel_rfl) (by kernel_rfl) (b := p10) rfl
  have Bs := Lib.hid hS.1.2.2.2.out.1
  have HW1 := Lib.hid hS.1.2.2.2.out.2
  have Bq : Hid (Blk w1 p9 #[.int .u64 (hi Q : Nat), .int .u64 (lo Q : Nat)]) := Lib.hid k9.2.2
  have Br : Hid (Blk w1 p10 #[.int .u64 (hi R : Nat), .int .u64 (lo R : Nat)]) := Lib.hid k10.2.2
  have z9 : w.heap.size < p9 := by have := k9.1; omega
  have z10 : w.heap.size < p10 := by have := k10.1; omega
  have Z9 := Lib.hid z9; have Z10 := Lib.hid z10; have NP := Lib.hid np9
  clear hS HOK HF k9 k10 z9 z10 ls hw0 hp9 hp10 np9
  have lr := Br.out.lt
  have cr0 : w1.cell? ⟨p10, 0, none⟩ = some (.int .u64 (hi R : Nat)) := Br.out.cell rfl
  have cr1 : w1.cell? ⟨p10, 1, none⟩ = some (.int .u64 (lo R : Nat)) := Br.out.cell rfl
  go_wp2_with fail
  refine (M3.out _).mono ?_
  rintro e w2 ⟨rfl, hb⟩
  have ks : Blk w2 w.heap.size #[.bool Bz, .int .u64 (hi n : Nat), .int .u64 (lo n : Nat)] := Bs.out.call hb
  have kq : Blk w2 p9 #[.int .u64 (hi Q : Nat), .int .u64 (lo Q : Nat)] := Bq.out.call hb
  have kr : Blk w2 p10 #[.int .u64 (hi R : Nat), .int .u64 (lo R : Nat)] := Br.out.call hb
  have kw : Below w.heap.size w w2 := HW1.out.trans (hb.mono HW1.out.size)
  clear lr cr0 cr1 Bs Bq Br HW1
  have Bs := Lib.hid ks
  have Bq := Lib.hid kq
  have Br := Lib.hid kr
  have HW2 := Lib.hid kw
  clear hb kw ks kq kr
  have lr := Br.out.lt
  have cr0 : w2.cell? ⟨p10, 0, none⟩ = some (.int .u64 (hi R : Nat)) := Br.out.cell rfl
  have cr1 : w2.cell? ⟨p10, 1, none⟩ = some (.int .u64 (lo R : Nat)) := Br.out.cell rfl
  have hA := HA.out
  have hE2 := E1.out; have hP := HP.out; have hP2 := HP2.out
  clear HA E1 HP HP2
  go_upto_region 6 with fail
  have bq : Blk (w2.alloc (.cells #[.int .u64 (hi N : Nat), .int .u64 (lo N : Nat)] 48)) p9 #[.int .u64 (hi Q : Nat), .int .u64 (lo Q : Nat)] := (Bq.out.alloc _)
  have bt : Blk (w2.alloc (.cells #[.int .u64 (hi N : Nat), .int .u64 (lo N : Nat)] 48)) w2.heap.size #[.int .u64 (hi N : Nat), .int .u64 (lo N : Nat)] := (Blk.new _ _ _)
  have hw : Below w.heap.size w (w2.alloc (.cells #[.int .u64 (hi N : Nat), .int .u64 (lo N : Nat)] 48)) := (HW2.out.alloc HW2.out.size _)
  obtain ⟨W1, hW1⟩ : ∃ W1, (w2.alloc (.cells #[.int .u64 (hi N : Nat), .int .u64 (lo N : Nat)] 48)) = W1 := ⟨_, rfl⟩
  rw [hW1] at bq bt hw ⊢
  clear hW1 lr cr0 cr1
  have hok : OwnOk (fun w' => w'.cell? ⟨w2.heap.size, 0, none⟩ = some (.int .u64 (hi N : Nat)) ∧ w'.cell? ⟨w2.heap.size, 1, none⟩ = some (.int .u64 (lo N : Nat)) ∧ w'.cell? ⟨p9, 1, none⟩ = some (.int .u64 (lo Q : Nat)) ∧ Hid (Blk w' p9 #[.int .u64 (hi Q : Nat), .int .u64 (lo Q : Nat)] ∧ Blk w' w2.heap.size #[.int .u64 (hi N : Nat), .int .u64 (lo N : Nat)] ∧ Below w.heap.size w w')) W1.heap.size [] := own0_ok (fun v1 v2 h hb => ⟨(h.2.2.2.out.2.1.below hb bt.lt).cell rfl, (h.2.2.2.out.2.1.below hb bt.lt).cell rfl, (h.2.2.2.out.1.below hb bq.lt).cell rfl, Lib.hid ⟨(h.2.2.2.out.1.below hb bq.lt), (h.2.2.2.out.2.1.below hb bt.lt), (h.2.2.2.out.2.2.trans (hb.mono hw.size))⟩⟩)
  have hfit : ∀ i, (∀ e ∈ ([] : List Ent), e.x ≠ i ∧ e.s ≠ i) → Fit (fun w' => w'.cell? ⟨w2.heap.size, 0, none⟩ = some (.int .u64 (hi N : Nat)) ∧ w'.cell? ⟨w2.heap.size, 1, none⟩ = some (.int .u64 (lo N : Nat)) ∧ w'.cell? ⟨p9, 1, none⟩ = some (.int .u64 (lo Q : Nat)) ∧ Hid (Blk w' p9 #[.int .u64 (hi Q : Nat), .int .u64 (lo Q : Nat)] ∧ Blk w' w2.heap.size #[.int .u64 (hi N : Nat), .int .u64 (lo N : Nat)] ∧ Below w.heap.size w w')) (Sof (fun w' => w'.cell? ⟨w2.heap.size, 0, none⟩ = some (.int .u64 (hi N : Nat)) ∧ w'.cell? ⟨w2.heap.size, 1, none⟩ = some (.int .u64 (lo N : Nat)) ∧ w'.cell? ⟨p9, 1, none⟩ = some (.int .u64 (lo Q : Nat)) ∧ Hid (Blk w' p9 #[.int .u64 (hi Q : Nat), .int .u64 (lo Q : Nat)] ∧ Blk w' w2.heap.size #[.int .u64 (hi N : Nat), .int .u64 (lo N : Nat)] ∧ Below w.heap.size w w')) W1.heap.size []) i := fun i hi => sof_fit hok.st hok.loc hi
  have HOK := Lib.hid hok; have HF := Lib.hid hfit; clear hok hfit
  refine wp_region_ab (S0 := (fun w' => w'.cell? ⟨w2.heap.size, 0, none⟩ = some (.int .u64 (hi N : Nat)) ∧ w'.cell? ⟨w2.heap.size, 1, none⟩ = some (.int .u64 (lo N : Nat)) ∧ w'.cell? ⟨p9, 1, none⟩ = some (.int .u64 (lo Q : Nat)) ∧ Hid (Blk w' p9 #[.int .u64 (hi Q : Nat), .int .u64 (lo Q : Nat)] ∧ Blk w' w2.heap.size #[.int .u64 (hi N : Nat), .int .u64 (lo N : Nat)] ∧ Below w.heap.size w w'))) W1.heap.size [] (by kernel_rfl) ⟨bt.drew.cell rfl, bt.drew.cell rfl, bq.drew.cell rfl, Lib.hid ⟨bq.drew, bt.drew, hw.drew⟩⟩ (Nat.le_refl _) (by simp) ?_
  clear bq bt hw
  refine abTake 0 (some 64) (v := ?_) rfl rfl (by kernel_rfl) (by kernel_rfl) (by kernel_rfl) (fun _ _ _ h => h) (HF.out _ (by simp)) (by rfl) ?_ ?_
  rotate_left 1
  · (intro w hSw; (try dsimp only at hSw); go_simp; try with_reducible rfl)
  simp only [Act.put, List.setIfInBounds_toArray, List.set_cons_zero, List.set_cons_succ]
  refine abCall 1 (some 65) rfl rfl (by kernel_rfl) (by kernel_rfl) (by kernel_rfl) (fun _ _ _ h => h) (HF.out _ (by simp)) (by rfl) ?_ (fun w hSw => M1.out w) ?_
  · (intro w hSw; (try dsimp only at hSw); go_simp; try with_reducible rfl)
  simp only [Act.put, List.setIfInBounds_toArray, List.set_cons_zero, List.set_cons_succ]
  refine abTake 2 (some 66) (v := ?_) rfl rfl (by kernel_rfl) (by kernel_rfl) (by kernel_rfl) (fun _ _ _ h => h) (HF.out _ (by simp)) (by rfl) ?_ ?_
  rotate_left 1
  · (intro w hSw; (try dsimp only at hSw); go_simp; try with_reducible rfl)
  simp only [Act.put, List.setIfInBounds_toArray, List.set_cons_zero, List.set_cons_succ]
  refine abCall 3 (some 67) rfl rfl (by kernel_rfl) (by kernel_rfl) (by kernel_rfl) (fun _ _ _ h => h) (HF.out _ (by simp)) (by rfl) ?_ (fun w hSw => M4.out w) ?_
  · (intro w hSw; (try dsimp only at hSw); go_simp; try with_reducible rfl)
  simp only [Act.put, List.setIfInBounds_toArray, List.set_cons_zero, List.set_cons_succ]
  refine abTake 4 (some 68) (v := ?_) rfl rfl (by kernel_rfl) (by kernel_rfl) (by kernel_rfl) (fun _ _ _ h => h) (HF.out _ (by simp)) (by rfl) ?_ ?_
  rotate_left 1
  · (intro w hSw; (try dsimp only at hSw); go_simp; try with_reducible rfl)
  simp only [Act.put, List.setIfInBounds_toArray, List.set_cons_zero, List.set_cons_succ]
  cases L with
  | true =>
    clear hA
    refine abSkip 5 (some 69) rfl rfl (by kernel_rfl) (by kernel_rfl) (by kernel_rfl) (fun _ _ _ h => h) (HF.out _ (by simp)) (by rfl) ?_
    simp only [Act.put, List.setIfInBounds_toArray, List.set_cons_zero, List.set_cons_succ]
    refine abSkip 6 (some 70) rfl rfl (by kernel_rfl) (by kernel_rfl) (by kernel_rfl) (fun _ _ _ h => h) (HF.out _ (by simp)) (by rfl) ?_
    simp only [Act.put, List.setIfInBounds_toArray, List.set_cons_zero, List.set_cons_succ]
    refine abSkip 7 (some 71) rfl rfl (by kernel_rfl) (by kernel_rfl) (by kernel_rfl) (fun _ _ _ h => h) (HF.out _ (by simp)) (by rfl) ?_
    simp only [Act.put, List.setIfInBounds_toArray, List.set_cons_zero, List.set_cons_succ]
    refine abSkip 8 (some 72) rfl rfl (by kernel_rfl) (by kernel_rfl) (by kernel_rfl) (fun _ _ _ h => h) (HF.out _ (by simp)) (by rfl) ?_
    simp only [Act.put, List.setIfInBounds_toArray, List.set_cons_zero, List.set_cons_succ]
    refine abSkip 9 (some 73) rfl rfl (by kernel_rfl) (by kernel_rfl) (by kernel_rfl) (fun _ _ _ h => h) (HF.out _ (by simp)) (by rfl) ?_
    simp only [Act.put, List.setIfInBounds_toArray, List.set_cons_zero, List.set_cons_succ]
    refine abSkip 10 (some 74) rfl rfl (by kernel_rfl) (by kernel_rfl) (by kernel_rfl) (fun _ _ _ h => h) (HF.out _ (by simp)) (by rfl) ?_
    simp only [Act.put, List.setIfInBounds_toArray, List.set_cons_zero, List.set_cons_succ]
    refine abSkip 11 (some 75) rfl rfl (by kernel_rfl) (by kernel_rfl) (by kernel_rfl) (fun _ _ _ h => h) (HF.out _ (by simp)) (by rfl) ?_
    simp only [Act.put, List.setIfInBounds_toArray, List.set_cons_zero, List.set_cons_succ]
    refine abSkip 12 (some 76) rfl rfl (by kernel_rfl) (by kernel_rfl) (by kernel_rfl) (fun _ _ _ h => h) (HF.out _ (by simp)) (by rfl) ?_
    simp only [Act.put, List.setIfInBounds_toArray, List.set_cons_zero, List.set_cons_succ]
    refine abSkip 13 (some 77) rfl rfl (by kernel_rfl) (by kernel_rfl) (by kernel_rfl) (fun _ _ _ h => h) (HF.out _ (by simp)) (by rfl) ?_
    simp only [Act.put, List.setIfInBounds_toArray, List.set_cons_zero, List.set_cons_succ]
    refine abSkip 14 (some 78) rfl rfl (by kernel_rfl) (by kernel_rfl) (by kernel_rfl) (fun _ _ _ h => h) (HF.out _ (by simp)) (by rfl) ?_
    simp only [Act.put, List.setIfInBounds_toArray, List.set_cons_zero, List.set_cons_succ]
    refine abTake 15 (some 79) (v := ?_) rfl rfl (by kernel_rfl) (by kernel_rfl) (by kernel_rfl) (fun _ _ _ h => h) (HF.out _ (by simp)) (by rfl) ?_ ?_
    rotate_left 1
    · (intro w hSw; (try dsimp only at hSw); go_simp; try with_reducible rfl)
    simp only [Act.put, List.setIfInBounds_toArray, List.set_cons_zero, List.set_cons_succ]
    refine abTake 16 (some 13) (v := ?_) rfl rfl (by kernel_rfl) (by kernel_rfl) (by kernel_rfl) (fun _ _ _ h => h) (HF.out _ (by simp)) (by rfl) ?_ ?_
    rotate_left 1
    · (intro w hSw; (try dsimp only at hSw); go_simp; try with_reducible rfl)
    simp only [Act.put, List.setIfInBounds_toArray, List.set_cons_zero, List.set_cons_succ]
    refine abDone (by kernel_rfl) ?_ _
    rintro w4 hS
    have Bq4 := Lib.hid hS.1.2.2.2.out.1
    have HW4 := Lib.hid hS.1.2.2.2.out.2.2
    clear hS HOK HF Bs Bq Br HW2
    have Bq := Bq4
    clear Bq4
    go_upto_region 8 with fail
    have bq : Blk w4 p9 #[.int .u64 (hi Q : Nat), .int .u64 (lo Q : Nat)] := Bq.out
    have hw : Below w.heap.size w w4 := HW4.out
    obtain ⟨W2, hW2⟩ : ∃ W2, w4 = W2 := ⟨_, rfl⟩
    rw [hW2] at bq hw ⊢
    clear hW2 
    have mkS : ∀ w', Below w.heap.size w w' → (fun w' => Hid (Below w.heap.size w w')) w' := fun w' h => Lib.hid h
    refine wp_region_held_drew (S := fun w' => Hid (Below w.heap.size w w')) (by kernel_rfl) (mkS _ hw.drew) (fun hHeld => ?_)
    replace bq := bq.drew
    clear hw
    refine regTwo 0 1 (by kernel_rfl) ?_ ?_
    · have x0 : W2.drew.cell? ⟨p9, 0, none⟩ = some (.int .u64 (hi Q : Nat)) := bq.cell rfl
      have x1 : W2.drew.cell? ⟨p9, 1, none⟩ = some (.int .u64 (lo Q : Nat)) := bq.cell rfl
      refine stepDo 0 (some 82) (v := ?_) (w' := ?_) rfl rfl (by rfl) ?_ ?_ (fun hHeld => ?_)
      rotate_left 2
      · (go_simp; refine ⟨?_, ?_⟩ <;> with_reducible rfl)
      · exact hHeld
      simp only [Act.put, List.setIfInBounds_toArray, List.set_cons_zero, List.set_cons_succ]
      clear x0 x1
      refine regCall 1 (some 83) (f := 28) (args := ?_) rfl rfl (by kernel_rfl) (by rfl) ?_ ?_
      rotate_left 1
      · (go_simp; try with_reducible rfl)
      refine (M5.out _).mono ?_
      rintro e wx1 ⟨rfl, hbx⟩
      refine ⟨_, rfl, mkS _ (hHeld.out.trans (hbx.mono hHeld.out.size)), fun hHeld => ?_⟩
      simp only [Act.put, List.setIfInBounds_toArray, List.set_cons_zero, List.set_cons_succ]
      replace bq := bq.call hbx
      clear hbx
      refine regCall 2 (some 84) (f := 50) (args := ?_) rfl rfl (by kernel_rfl) (by rfl) ?_ ?_
      rotate_left 1
      · (go_simp; try with_reducible rfl)
      refine (M6.out _).mono ?_
      rintro e wx2 ⟨rfl, hbx⟩
      refine ⟨_, rfl, mkS _ (hHeld.out.trans (hbx.mono hHeld.out.size)), fun hHeld => ?_⟩
      simp only [Act.put, List.setIfInBounds_toArray, List.set_cons_zero, List.set_cons_succ]
      replace bq := bq.call hbx
      clear hbx
      refine regTake 3 (some 81) (v := ?_) rfl rfl (by kernel_rfl) (by kernel_rfl) (by kernel_rfl) (fun _ _ _ h => h) (by rfl) hHeld ?_ ?_
      rotate_left 1
      · (intro w hSw; (try dsimp only at hSw); go_simp; try with_reducible rfl)
      simp only [Act.put, List.setIfInBounds_toArray, List.set_cons_zero, List.set_cons_succ]
      refine regTake 4 (some 85) (v := ?_) rfl rfl (by kernel_rfl) (by kernel_rfl) (by kernel_rfl) (fun _ _ _ h => h) (by rfl) hHeld ?_ ?_
      rotate_left 1
      · (intro w hSw; (try dsimp only at hSw); go_simp; try with_reducible rfl)
      simp only [Act.put, List.setIfInBounds_toArray, List.set_cons_zero, List.set_cons_succ]
      refine regTake 5 (some 86) (v := ?_) rfl rfl (by kernel_rfl) (by kernel_rfl) (by kernel_rfl) (fun _ _ _ h => h) (by rfl) hHeld ?_ ?_
      rotate_left 1
      · (intro w hSw; (try dsimp only at hSw); go_simp; try with_reducible rfl)
      simp only [Act.put, List.setIfInBounds_toArray, List.set_cons_zero, List.set_cons_succ]
      have x0 : wx2.cell? ⟨p9, 0, none⟩ = some (.int .u64 (hi Q : Nat)) := bq.cell rfl
      have x1 : wx2.cell? ⟨p9, 1, none⟩ = some (.int .u64 (lo Q : Nat)) := bq.cell rfl
      have y0 := bq.free 0
      have y1 := bq.free 1
      refine regStore 6 (w' := ?_) rfl rfl (by kernel_rfl) (by rfl) ?_ ?_ (fun hHeld => ?_)
      rotate_left 1
      · (go_simp; try with_reducible rfl)
      · exact mkS _ ((hHeld.out.setCell (p := ⟨p9, 0, none⟩) (Nat.le_of_lt Z9.out) _).setCell (p := ⟨p9, 1, none⟩) (Nat.le_of_lt Z9.out) _)
      clear x0 x1 y0 y1
      have bq2 : Blk ((wx2.setCell ⟨p9, 0, none⟩ (.int .u64 (hi G : Nat))).setCell ⟨p9, 1, none⟩ (.int .u64 (lo G : Nat))) p9 #[.int .u64 (hi G : Nat), .int .u64 (lo G : Nat)] := (bq.set 0 _).set 1 _
      obtain ⟨W3, hW3⟩ : ∃ W3, (wx2.setCell ⟨p9, 0, none⟩ (.int .u64 (hi G : Nat))).setCell ⟨p9, 1, none⟩ (.int .u64 (lo G : Nat)) = W3 := ⟨_, rfl⟩
      rw [hW3] at bq2 hHeld ⊢
      clear hW3 bq
      have HW3 := hHeld
      clear hHeld
      refine wpAnyH_done (by kernel_rfl) ?_ _
      have x0 : W3.cell? ⟨p9, 0, none⟩ = some (.int .u64 (hi G : Nat)) := bq2.cell rfl
      have x1 : W3.cell? ⟨p9, 1, none⟩ = some (.int .u64 (lo G : Nat)) := bq2.cell rfl
      clear bq2
      go_wp2_with fail
      refine (M7.out _).mono ?_
      rintro e w9 ⟨rfl, hb⟩
      have HW9 := Lib.hid (HW3.out.trans (hb.mono HW3.out.size))
      clear hb x0 x1
      go_wp2_with fail
      go_ret2
      exact ⟨rfl, HW9.out⟩
    · refine stepCall 1 (some 83) (f := 28) (args := ?_) rfl rfl (by rfl) ?_ ?_
      rotate_left 1
      · (go_simp; try with_reducible rfl)
      refine (M5.out _).mono ?_
      rintro e wx1 ⟨rfl, hbx⟩
      refine ⟨_, rfl, mkS _ (hHeld.out.trans (hbx.mono hHeld.out.size)), fun hHeld => ?_⟩
      simp only [Act.put, List.setIfInBounds_toArray, List.set_cons_zero, List.set_cons_succ]
      replace bq := bq.call hbx
      clear hbx
      have x0 : wx1.cell? ⟨p9, 0, none⟩ = some (.int .u64 (hi Q : Nat)) := bq.cell rfl
      have x1 : wx1.cell? ⟨p9, 1, none⟩ = some (.int .u64 (lo Q : Nat)) := bq.cell rfl
      refine regDo 0 (some 82) (v := ?_) (w' := ?_) rfl rfl (by kernel_rfl) (by rfl) ?_ ?_ (fun hHeld => ?_)
      rotate_left 2
      · (go_simp; refine ⟨?_, ?_⟩ <;> with_reducible rfl)
      · exact hHeld
      simp only [Act.put, List.setIfInBounds_toArray, List.set_cons_zero, List.set_cons_succ]
      clear x0 x1
      refine regCall 2 (some 84) (f := 50) (args := ?_) rfl rfl (by kernel_rfl) (by rfl) ?_ ?_
      rotate_left 1
      · (go_simp; try with_reducible rfl)
      refine (M6.out _).mono ?_
      rintro e wx2 ⟨rfl, hbx⟩
      refine ⟨_, rfl, mkS _ (hHeld.out.trans (hbx.mono hHeld.out.size)), fun hHeld => ?_⟩
      simp only [Act.put, List.setIfInBounds_toArray, List.set_cons_zero, List.set_cons_succ]
      replace bq := bq.call hbx
      clear hbx
      refine regTake 3 (some 81) (v := ?_) rfl rfl (by kernel_rfl) (by kernel_rfl) (by kernel_rfl) (fun _ _ _ h => h) (by rfl) hHeld ?_ ?_
      rotate_left 1
      · (intro w hSw; (try dsimp only at hSw); go_simp; try with_reducible rfl)
      simp only [Act.put, List.setIfInBounds_toArray, List.set_cons_zero, List.set_cons_succ]
      refine regTake 4 (some 85) (v := ?_) rfl rfl (by kernel_rfl) (by kernel_rfl) (by kernel_rfl) (fun _ _ _ h => h) (by rfl) hHeld ?_ ?_
      rotate_left 1
      · (intro w hSw; (try dsimp only at hSw); go_simp; try with_reducible rfl)
      simp only [Act.put, List.setIfInBounds_toArray, List.set_cons_zero, List.set_cons_succ]
      refine regTake 5 (some 86) (v := ?_) rfl rfl (by kernel_rfl) (by kernel_rfl) (by kernel_rfl) (fun _ _ _ h => h) (by rfl) hHeld ?_ ?_
      rotate_left 1
      · (intro w hSw; (try dsimp only at hSw); go_simp; try with_reducible rfl)
      simp only [Act.put, List.setIfInBounds_toArray, List.set_cons_zero, List.set_cons_succ]
      have x0 : wx2.cell? ⟨p9, 0, none⟩ = some (.int .u64 (hi Q : Nat)) := bq.cell rfl
      have x1 : wx2.cell? ⟨p9, 1, none⟩ = some (.int .u64 (lo Q : Nat)) := bq.cell rfl
      have y0 := bq.free 0
      have y1 := bq.free 1
      refine regStore 6 (w' := ?_) rfl rfl (by kernel_rfl) (by rfl) ?_ ?_ (fun hHeld => ?_)
      rotate_left 1
      · (go_simp; try with_reducible rfl)
      · exact mkS _ ((hHeld.out.setCell (p := ⟨p9, 0, none⟩) (Nat.le_of_lt Z9.out) _).setCell (p := ⟨p9, 1, none⟩) (Nat.le_of_lt Z9.out) _)
      clear x0 x1 y0 y1
      have bq2 : Blk ((wx2.setCell ⟨p9, 0, none⟩ (.int .u64 (hi G : Nat))).setCell ⟨p9, 1, none⟩ (.int .u64 (lo G : Nat))) p9 #[.int .u64 (hi G : Nat), .int .u64 (lo G : Nat)] := (bq.set 0 _).set 1 _
      obtain ⟨W3, hW3⟩ : ∃ W3, (wx2.setCell ⟨p9, 0, none⟩ (.int .u64 (hi G : Nat))).setCell ⟨p9, 1, none⟩ (.int .u64 (lo G : Nat)) = W3 := ⟨_, rfl⟩
      rw [hW3] at bq2 hHeld ⊢
      clear hW3 bq
      have HW3 := hHeld
      clear hHeld
      refine wpAnyH_done (by kernel_rfl) ?_ _
      have x0 : W3.cell? ⟨p9, 0, none⟩ = some (.int .u64 (hi G : Nat)) := bq2.cell rfl
      have x1 : W3.cell? ⟨p9, 1, none⟩ = some (.int .u64 (lo G : Nat)) := bq2.cell rfl
      clear bq2
      go_wp2_with fail
      refine (M7.out _).mono ?_
      rintro e w9 ⟨rfl, hb⟩
      have HW9 := Lib.hid (HW3.out.trans (hb.mono HW3.out.size))
      clear hb x0 x1
      go_wp2_with fail
      go_ret2
      exact ⟨rfl, HW9.out⟩
  | false =>
    refine abTake 5 (some 69) (v := ?_) rfl rfl (by kernel_rfl) (by kernel_rfl) (by kernel_rfl) (fun _ _ _ h => h) (HF.out _ (by simp)) (by rfl) ?_ ?_
    rotate_left 1
    · (intro w hSw; (try dsimp only at hSw); go_simp; try with_reducible rfl)
    simp only [Act.put, List.setIfInBounds_toArray, List.set_cons_zero, List.set_cons_succ]
    refine abTake 6 (some 70) (v := ?_) rfl rfl (by kernel_rfl) (by kernel_rfl) (by kernel_rfl) (fun _ _ _ h => h) (HF.out _ (by simp)) (by rfl) ?_ ?_
    rotate_left 1
    · (intro w hSw; (try dsimp only at hSw); go_simp; try with_reducible rfl)
    simp only [Act.put, List.setIfInBounds_toArray, List.set_cons_zero, List.set_cons_succ]
    refine abCall 7 (some 71) rfl rfl (by kernel_rfl) (by kernel_rfl) (by kernel_rfl) (fun _ _ _ h => h) (HF.out _ (by simp)) (by rfl) ?_ (fun w hSw => M1.out w) ?_
    · (intro w hSw; (try dsimp only at hSw); go_simp; try with_reducible rfl)
    simp only [Act.put, List.setIfInBounds_toArray, List.set_cons_zero, List.set_cons_succ]
    refine abTake 8 (some 72) (v := ?_) rfl rfl (by kernel_rfl) (by kernel_rfl) (by kernel_rfl) (fun _ _ _ h => h) (HF.out _ (by simp)) (by rfl) ?_ ?_
    rotate_left 1
    · (intro w hSw; (try dsimp only at hSw); go_simp; try with_reducible rfl)
    simp only [Act.put, List.setIfInBounds_toArray, List.set_cons_zero, List.set_cons_succ]
    refine abTake 9 (some 73) (v := ?_) rfl rfl (by kernel_rfl) (by kernel_rfl) (by kernel_rfl) (fun _ _ _ h => h) (HF.out _ (by simp)) (by rfl) ?_ ?_
    rotate_left 1
    · (intro w hSw; (try dsimp only at hSw); go_simp; try with_reducible rfl)
    simp only [Act.put, List.setIfInBounds_toArray, List.set_cons_zero, List.set_cons_succ]
    cases D2 with
    | true =>
      obtain rfl : P = true := by simpa using hA
      clear hA
      refine abTake 10 (some 74) (v := ?_) rfl rfl (by kernel_rfl) (by kernel_rfl) (by kernel_rfl) (fun _ _ _ h => h) (HF.out _ (by simp)) (by rfl) ?_ ?_
      rotate_left 1
      · (intro w hSw; (try dsimp only at hSw); go_simp; try with_reducible rfl)
      simp only [Act.put, List.setIfInBounds_toArray, List.set_cons_zero, List.set_cons_succ]
      refine abTake 11 (some 75) (v := ?_) rfl rfl (by kernel_rfl) (by kernel_rfl) (by kernel_rfl) (fun _ _ _ h => h) (HF.out _ (by simp)) (by rfl) ?_ ?_
      rotate_left 1
      · (intro w hSw; (try dsimp only at hSw); go_simp; try with_reducible rfl)
      simp only [Act.put, List.setIfInBounds_toArray, List.set_cons_zero, List.set_cons_succ]
      refine abTake 12 (some 76) (v := ?_) rfl rfl (by kernel_rfl) (by kernel_rfl) (by kernel_rfl) (fun _ _ _ h => h) (HF.out _ (by simp)) (by rfl) ?_ ?_
      rotate_left 1
      · (intro w hSw; (try dsimp only at hSw); go_simp; try with_reducible rfl)
      simp only [Act.put, List.setIfInBounds_toArray, List.set_cons_zero, List.set_cons_succ]
      refine abTake 13 (some 77) (v := ?_) rfl rfl (by kernel_rfl) (by kernel_rfl) (by kernel_rfl) (fun _ _ _ h => h) (HF.out _ (by simp)) (by rfl) ?_ ?_
      rotate_left 1
      · (intro w hSw; (try dsimp only at hSw); go_simp; try with_reducible rfl)
      simp only [Act.put, List.setIfInBounds_toArray, List.set_cons_zero, List.set_cons_succ]
      refine abTake 14 (some 78) (v := ?_) rfl rfl (by kernel_rfl) (by kernel_rfl) (by kernel_rfl) (fun _ _ _ h => h) (HF.out _ (by simp)) (by rfl) ?_ ?_
      rotate_left 1
      · (intro w hSw; (try dsimp only at hSw); go_simp; try with_reducible rfl)
      simp only [Act.put, List.setIfInBounds_toArray, List.set_cons_zero, List.set_cons_succ]
      refine abTake 15 (some 79) (v := ?_) rfl rfl (by kernel_rfl) (by kernel_rfl) (by kernel_rfl) (fun _ _ _ h => h) (HF.out _ (by simp)) (by rfl) ?_ ?_
      rotate_left 1
      · (intro w hSw; (try dsimp only at hSw); go_simp; try with_reducible rfl)
      simp only [Act.put, List.setIfInBounds_toArray, List.set_cons_zero, List.set_cons_succ]
      refine abTake 16 (some 13) (v := ?_) rfl rfl (by kernel_rfl) (by kernel_rfl) (by kernel_rfl) (fun _ _ _ h => h) (HF.out _ (by simp)) (by rfl) ?_ ?_
      rotate_left 1
      · (intro w hSw; (try dsimp only at hSw); go_simp; try with_reducible rfl)
      simp only [Act.put, List.setIfInBounds_toArray, List.set_cons_zero, List.set_cons_succ]
      refine abDone (by kernel_rfl) ?_ _
      rintro w4 hS
      have Bq4 := Lib.hid hS.1.2.2.2.out.1
      have HW4 := Lib.hid hS.1.2.2.2.out.2.2
      clear hS HOK HF Bs Bq Br HW2
      have Bq := Bq4
      clear Bq4
      go_upto_region 8 with fail
      have bq : Blk w4 p9 #[.int .u64 (hi Q : Nat), .int .u64 (lo Q : Nat)] := Bq.out
      have hw : Below w.heap.size w w4 := HW4.out
      obtain ⟨W2, hW2⟩ : ∃ W2, w4 = W2 := ⟨_, rfl⟩
      rw [hW2] at bq hw ⊢
      clear hW2 
      have mkS : ∀ w', Below w.heap.size w w' → (fun w' => Hid (Below w.heap.size w w')) w' := fun w' h => Lib.hid h
      refine wp_region_held_drew (S := fun w' => Hid (Below w.heap.size w w')) (by kernel_rfl) (mkS _ hw.drew) (fun hHeld => ?_)
      replace bq := bq.drew
      clear hw
      refine regTwo 0 1 (by kernel_rfl) ?_ ?_
      · have x0 : W2.drew.cell? ⟨p9, 0, none⟩ = some (.int .u64 (hi Q : Nat)) := bq.cell rfl
        have x1 : W2.drew.cell? ⟨p9, 1, none⟩ = some (.int .u64 (lo Q : Nat)) := bq.cell rfl
        refine stepDo 0 (some 82) (v := ?_) (w' := ?_) rfl rfl (by rfl) ?_ ?_ (fun hHeld => ?_)
        rotate_left 2
        · (go_simp; refine ⟨?_, ?_⟩ <;> with_reducible rfl)
        · exact hHeld
        simp only [Act.put, List.setIfInBounds_toArray, List.set_cons_zero, List.set_cons_succ]
        clear x0 x1
        refine regCall 1 (some 83) (f := 28) (args := ?_) rfl rfl (by kernel_rfl) (by rfl) ?_ ?_
        rotate_left 1
        · (go_simp; try with_reducible rfl)
        refine (M5.out _).mono ?_
        rintro e wx1 ⟨rfl, hbx⟩
        refine ⟨_, rfl, mkS _ (hHeld.out.trans (hbx.mono hHeld.out.size)), fun hHeld => ?_⟩
        simp only [Act.put, List.setIfInBounds_toArray, List.set_cons_zero, List.set_cons_succ]
        replace bq := bq.call hbx
        clear hbx
        refine regCall 2 (some 84) (f := 50) (args := ?_) rfl rfl (by kernel_rfl) (by rfl) ?_ ?_
        rotate_left 1
        · (go_simp; try with_reducible rfl)
        refine (M6.out _).mono ?_
        rintro e wx2 ⟨rfl, hbx⟩
        refine ⟨_, rfl, mkS _ (hHeld.out.trans (hbx.mono hHeld.out.size)), fun hHeld => ?_⟩
        simp only [Act.put, List.setIfInBounds_toArray, List.set_cons_zero, List.set_cons_succ]
        replace bq := bq.call hbx
        clear hbx
        refine regTake 3 (some 81) (v := ?_) rfl rfl (by kernel_rfl) (by kernel_rfl) (by kernel_rfl) (fun _ _ _ h => h) (by rfl) hHeld ?_ ?_
        rotate_left 1
        · (intro w hSw; (try dsimp only at hSw); go_simp; try with_reducible rfl)
        simp only [Act.put, List.setIfInBounds_toArray, List.set_cons_zero, List.set_cons_succ]
        refine regTake 4 (some 85) (v := ?_) rfl rfl (by kernel_rfl) (by kernel_rfl) (by kernel_rfl) (fun _ _ _ h => h) (by rfl) hHeld ?_ ?_
        rotate_left 1
        · (intro w hSw; (try dsimp only at hSw); go_simp; try with_reducible rfl)
        simp only [Act.put, List.setIfInBounds_toArray, List.set_cons_zero, List.set_cons_succ]
        refine regTake 5 (some 86) (v := ?_) rfl rfl (by kernel_rfl) (by kernel_rfl) (by kernel_rfl) (fun _ _ _ h => h) (by rfl) hHeld ?_ ?_
        rotate_left 1
        · (intro w hSw; (try dsimp only at hSw); go_simp; try with_reducible rfl)
        simp only [Act.put, List.setIfInBounds_toArray, List.set_cons_zero, List.set_cons_succ]
        have x0 : wx2.cell? ⟨p9, 0, none⟩ = some (.int .u64 (hi Q : Nat)) := bq.cell rfl
        have x1 : wx2.cell? ⟨p9, 1, none⟩ = some (.int .u64 (lo Q : Nat)) := bq.cell rfl
        have y0 := bq.free 0
        have y1 := bq.free 1
        refine regStore 6 (w' := ?_) rfl rfl (by kernel_rfl) (by rfl) ?_ ?_ (fun hHeld => ?_)
        rotate_left 1
        · (go_simp; try with_reducible rfl)
        · exact mkS _ ((hHeld.out.setCell (p := ⟨p9, 0, none⟩) (Nat.le_of_lt Z9.out) _).setCell (p := ⟨p9, 1, none⟩) (Nat.le_of_lt Z9.out) _)
        clear x0 x1 y0 y1
        have bq2 : Blk ((wx2.setCell ⟨p9, 0, none⟩ (.int .u64 (hi G : Nat))).setCell ⟨p9, 1, none⟩ (.int .u64 (lo G : Nat))) p9 #[.int .u64 (hi G : Nat), .int .u64 (lo G : Nat)] := (bq.set 0 _).set 1 _
        obtain ⟨W3, hW3⟩ : ∃ W3, (wx2.setCell ⟨p9, 0, none⟩ (.int .u64 (hi G : Nat))).setCell ⟨p9, 1, none⟩ (.int .u64 (lo G : Nat)) = W3 := ⟨_, rfl⟩
        rw [hW3] at bq2 hHeld ⊢
        clear hW3 bq
        have HW3 := hHeld
        clear hHeld
        refine wpAnyH_done (by kernel_rfl) ?_ _
        have x0 : W3.cell? ⟨p9, 0, none⟩ = some (.int .u64 (hi G : Nat)) := bq2.cell rfl
        have x1 : W3.cell? ⟨p9, 1, none⟩ = some (.int .u64 (lo G : Nat)) := bq2.cell rfl
        clear bq2
        go_wp2_with fail
        refine (M7.out _).mono ?_
        rintro e w9 ⟨rfl, hb⟩
        have HW9 := Lib.hid (HW3.out.trans (hb.mono HW3.out.size))
        clear hb x0 x1
        go_wp2_with fail
        go_ret2
        exact ⟨rfl, HW9.out⟩
      · refine stepCall 1 (some 83) (f := 28) (args := ?_) rfl rfl (by rfl) ?_ ?_
        rotate_left 1
        · (go_simp; try with_reducible rfl)
        refine (M5.out _).mono ?_
        rintro e wx1 ⟨rfl, hbx⟩
        refine ⟨_, rfl, mkS _ (hHeld.out.trans (hbx.mono hHeld.out.size)), fun hHeld => ?_⟩
        simp only [Act.put, List.setIfInBounds_toArray, List.set_cons_zero, List.set_cons_succ]
        replace bq := bq.call hbx
        clear hbx
        have x0 : wx1.cell? ⟨p9, 0, none⟩ = some (.int .u64 (hi Q : Nat)) := bq.cell rfl
        have x1 : wx1.cell? ⟨p9, 1, none⟩ = some (.int .u64 (lo Q : Nat)) := bq.cell rfl
        refine regDo 0 (some 82) (v := ?_) (w' := ?_) rfl rfl (by kernel_rfl) (by rfl) ?_ ?_ (fun hHeld => ?_)
        rotate_left 2
        · (go_simp; refine ⟨?_, ?_⟩ <;> with_reducible rfl)
        · exact hHeld
        simp only [Act.put, List.setIfInBounds_toArray, List.set_cons_zero, List.set_cons_succ]
        clear x0 x1
        refine regCall 2 (some 84) (f := 50) (args := ?_) rfl rfl (by kernel_rfl) (by rfl) ?_ ?_
        rotate_left 1
        · (go_simp; try with_reducible rfl)
        refine (M6.out _).mono ?_
        rintro e wx2 ⟨rfl, hbx⟩
        refine ⟨_, rfl, mkS _ (hHeld.out.trans (hbx.mono hHeld.out.size)), fun hHeld => ?_⟩
        simp only [Act.put, List.setIfInBounds_toArray, List.set_cons_zero, List.set_cons_succ]
        replace bq := bq.call hbx
        clear hbx
        refine regTake 3 (some 81) (v := ?_) rfl rfl (by kernel_rfl) (by kernel_rfl) (by kernel_rfl) (fun _ _ _ h => h) (by rfl) hHeld ?_ ?_
        rotate_left 1
        · (intro w hSw; (try dsimp only at hSw); go_simp; try with_reducible rfl)
        simp only [Act.put, List.setIfInBounds_toArray, List.set_cons_zero, List.set_cons_succ]
        refine regTake 4 (some 85) (v := ?_) rfl rfl (by kernel_rfl) (by kernel_rfl) (by kernel_rfl) (fun _ _ _ h => h) (by rfl) hHeld ?_ ?_
        rotate_left 1
        · (intro w hSw; (try dsimp only at hSw); go_simp; try with_reducible rfl)
        simp only [Act.put, List.setIfInBounds_toArray, List.set_cons_zero, List.set_cons_succ]
        refine regTake 5 (some 86) (v := ?_) rfl rfl (by kernel_rfl) (by kernel_rfl) (by kernel_rfl) (fun _ _ _ h => h) (by rfl) hHeld ?_ ?_
        rotate_left 1
        · (intro w hSw; (try dsimp only at hSw); go_simp; try with_reducible rfl)
        simp only [Act.put, List.setIfInBounds_toArray, List.set_cons_zero, List.set_cons_succ]
        have x0 : wx2.cell? ⟨p9, 0, none⟩ = some (.int .u64 (hi Q : Nat)) := bq.cell rfl
        have x1 : wx2.cell? ⟨p9, 1, none⟩ = some (.int .u64 (lo Q : Nat)) := bq.cell rfl
        have y0 := bq.free 0
        have y1 := bq.free 1
        refine regStore 6 (w' := ?_) rfl rfl (by kernel_rfl) (by rfl) ?_ ?_ (fun hHeld => ?_)
        rotate_left 1
        · (go_simp; try with_reducible rfl)
        · exact mkS _ ((hHeld.out.setCell (p := ⟨p9, 0, none⟩) (Nat.le_of_lt Z9.out) _).setCell (p := ⟨p9, 1, none⟩) (Nat.le_of_lt Z9.out) _)
        clear x0 x1 y0 y1
        have bq2 : Blk ((wx2.setCell ⟨p9, 0, none⟩ (.int .u64 (hi G : Nat))).setCell ⟨p9, 1, none⟩ (.int .u64 (lo G : Nat))) p9 #[.int .u64 (hi G : Nat), .int .u64 (lo G : Nat)] := (bq.set 0 _).set 1 _
        obtain ⟨W3, hW3⟩ : ∃ W3, (wx2.setCell ⟨p9, 0, none⟩ (.int .u64 (hi G : Nat))).setCell ⟨p9, 1, none⟩ (.int .u64 (lo G : Nat)) = W3 := ⟨_, rfl⟩
        rw [hW3] at bq2 hHeld ⊢
        clear hW3 bq
        have HW3 := hHeld
        clear hHeld
        refine wpAnyH_done (by kernel_rfl) ?_ _
        have x0 : W3.cell? ⟨p9, 0, none⟩ = some (.int .u64 (hi G : Nat)) := bq2.cell rfl
        have x1 : W3.cell? ⟨p9, 1, none⟩ = some (.int .u64 (lo G : Nat)) := bq2.cell rfl
        clear bq2
        go_wp2_with fail
        refine (M7.out _).mono ?_
        rintro e w9 ⟨rfl, hb⟩
        have HW9 := Lib.hid (HW3.out.trans (hb.mono HW3.out.size))
        clear hb x0 x1
        go_wp2_with fail
        go_ret2
        exact ⟨rfl, HW9.out⟩
    | false => simp at hA
end Go.Proofs.Ytjnebbjjabnipaa

/- The reference of stage 4: Divided, MulDiv. -/
namespace Go.Proofs.Ytjnebbjjabnipaa
open Go.RowKit


def belowR (z c : Int) : Bool := !(decide (z < 0) == decide (c < 0)) && !decide (z.natAbs = 0)
def numR (z c : Int) (m : Nat) : Int := sgn (belowR z c) (if away m (belowR z c) (z.natAbs / c.natAbs) (z.natAbs % c.natAbs) c.natAbs then z.natAbs / c.natAbs + 1 else z.natAbs / c.natAbs)
theorem away_zero (m : Nat) (B : Bool) (C : Nat) : away m B 0 0 C = false := by
  unfold away
  split
  · simp
  · simp
  · simp
theorem mul_neg_iff (a b : Int) (h : a * b ≠ 0) : decide (a * b < 0) = (decide (a < 0) != decide (b < 0)) := by
  have ha : a ≠ 0 := fun k => h (by rw [k, Int.zero_mul])
  have hb : b ≠ 0 := fun k => h (by rw [k, Int.mul_zero])
  by_cases h1 : a < 0 <;> by_cases h2 : b < 0
  · rw [decide_eq_true h1, decide_eq_true h2, decide_eq_false (by have := Int.mul_pos_of_neg_of_neg h1 h2; omega)]; rfl
  · rw [decide_eq_true h1, decide_eq_false h2, decide_eq_true (by have := Int.mul_nonpos_of_nonpos_of_nonneg (Int.le_of_lt h1) (by omega : 0 ≤ b); omega)]; rfl
  · rw [decide_eq_false h1, decide_eq_true h2, decide_eq_true (by have := Int.mul_nonpos_of_nonneg_of_nonpos (by omega : 0 ≤ a) (Int.le_of_lt h2); omega)]; rfl
  · rw [decide_eq_false h1, decide_eq_false h2, decide_eq_false (by have := Int.mul_nonneg (by omega : 0 ≤ a) (by omega : 0 ≤ b); omega)]; rfl
theorem numR_md (a b c : Int) (m : Nat) : numR (a * b) c m = md a b c m := by
  unfold numR md mdQ mdR
  rw [Int.natAbs_mul]
  by_cases h : a * b = 0
  · have e : a.natAbs * b.natAbs = 0 := by rw [← Int.natAbs_mul, h]; rfl
    rw [e, Nat.zero_div, Nat.zero_mod, away_zero m _ _, away_zero m _ _]
    simp [sgn_zero]
  · have e : belowR (a * b) c = mdB a b c := by
      unfold belowR mdB
      rw [mul_neg_iff a b h, decide_eq_false (by omega : ¬ (a * b).natAbs = 0)]
      cases decide (a < 0) <;> cases decide (b < 0) <;> cases decide (c < 0) <;> rfl
    rw [e]
theorem tmod_two (q : Nat) : ((lo q : Nat) : Int).tmod 2 = ((lo q : Nat) : Int) % 2 := Int.tmod_eq_emod_of_nonneg (by omega)
theorem lo_odd (q : Nat) : (((lo q : Nat) : Int) % 2 == 1) = decide (q % 2 = 1) := by
  rw [Bool.eq_iff_iff]; unfold lo; simp; omega
theorem dvd_any (m : Nat) (hm : m ≤ 2) (z c : Int) (hz : z.natAbs ≤ 85070591730234615865843651857942052864) (hc : IsInt c) (h0 : c ≠ 0) (w : World) :
    Calls Try.prog 60 #[zS z, .int .i64 c, .int .i64 (m : Nat)] w fun en w' => en = .returned (.tuple #[.int .i64 (ans (numR z c m)), .int .i64 (err (numR z c m))]) ∧ Below w.heap.size w w' := by
  have hn : z.natAbs < M128 := by unfold M128; omega
  have hQ : z.natAbs / c.natAbs ≤ z.natAbs := Nat.div_le_self _ _
  have hR : z.natAbs % c.natAbs < c.natAbs := Nat.mod_lt _ (by omega)
  have hcB := natAbs_lt hc
  have m1 := rsize_any c hc
  have m2 := rdiv_any z.natAbs c.natAbs hn (by unfold M128; omega) (by omega)
  have m3 := ref_add (z.natAbs % c.natAbs) (z.natAbs % c.natAbs) (by unfold M128; omega)
  have m4 := fun w => rless_any c.natAbs (z.natAbs % c.natAbs + z.natAbs % c.natAbs) w
  have m5 := ref_of 1 (by decide)
  have m6 := ref_add (z.natAbs / c.natAbs) 1 (by unfold M128; omega)
  have m7 := fun w => rtold_any (belowR z c) (z.natAbs / c.natAbs) (by omega) w
  have m8 := fun w => rtold_any (belowR z c) (z.natAbs / c.natAbs + 1) (by unfold M128; omega) w
  unfold zS
  cases hA : away m (belowR z c) (z.natAbs / c.natAbs) (z.natAbs % c.natAbs) c.natAbs with
  | true =>
    have e : numR z c m = sgn (belowR z c) (z.natAbs / c.natAbs + 1) := by unfold numR; rw [hA]; rfl
    rw [e]
    rcases (by omega : m = 0 ∨ m = 1 ∨ m = 2) with rfl | rfl | rfl
    · exact rdivd_0_yes c _ _ _ _ _ _ _ _ _ _ _ _ _ w rfl rfl (by rw [ne_zero_D (z.natAbs % c.natAbs)]; exact hA) (eqZero _) (eqZero _) m1 m2 m3 m5 m6 m8
    · exact rdivd_1_yes c _ _ _ _ _ _ _ _ _ _ _ _ _ w rfl rfl (by rw [ne_zero_D (z.natAbs % c.natAbs)]; exact hA) (eqZero _) (eqZero _) m1 m2 m3 m5 m6 m8
    · exact rdivd_2_yes c _ _ _ _ _ _ _ _ _ _ _ _ _ _ _ w rfl rfl hA (eqZero _) (eqWide _ _) (lo_odd _) (by rw [tmod_two, lo_odd]) m1 m2 m3 m4 m5 m6 m8
  | false =>
    have e : numR z c m = sgn (belowR z c) (z.natAbs / c.natAbs) := by unfold numR; rw [hA]; rfl
    rw [e]
    rcases (by omega : m = 0 ∨ m = 1 ∨ m = 2) with rfl | rfl | rfl
    · exact rdivd_0_no c _ _ _ _ _ _ _ _ _ _ _ _ w rfl rfl (by rw [ne_zero_D (z.natAbs % c.natAbs)]; exact hA) (eqZero _) (eqZero _) m1 m2 m3 m7
    · exact rdivd_1_no c _ _ _ _ _ _ _ _ _ _ _ _ w rfl rfl (by rw [ne_zero_D (z.natAbs % c.natAbs)]; exact hA) (eqZero _) (eqZero _) m1 m2 m3 m7
    · exact rdivd_2_no c _ _ _ _ _ _ _ _ _ _ _ _ _ _ w rfl rfl hA (eqZero _) (eqWide _ _) (lo_odd _) (by rw [tmod_two, lo_odd]) m1 m2 m3 m4 m7
theorem rmd_core (a b c m x y k l : Int) (C : Bool) (w : World)
    (m1 : ∀ w, Calls Try.prog 37 #[.int .i64 a, .int .i64 b] w fun en w' => en = .returned (.agg #[.bool C, .int .u64 k, .int .u64 l]) ∧ Below w.heap.size w w')
    (m2 : ∀ w, Calls Try.prog 60 #[.agg #[.bool C, .int .u64 k, .int .u64 l], .int .i64 c, .int .i64 m] w fun en w' => en = .returned (.tuple #[.int .i64 x, .int .i64 y]) ∧ Below w.heap.size w w') :
    Calls Try.prog 35 #[.int .i64 a, .int .i64 b, .int .i64 c, .int .i64 m] w fun en w' => en = .returned (.tuple #[.int .i64 x, .int .i64 y]) ∧ Below w.heap.size w w' := by
  have M1 := Lib.hid m1; have M2 := Lib.hid m2
  clear m1 m2
  go_enter Try.func35, Try.ntmps35
  go_wp2_with fail
  refine (M1.out _).mono ?_
  rintro e w1 ⟨rfl, hb⟩
  have kw : Below w.heap.size w w1 := (Below.refl w.heap.size w).trans (hb.mono (Nat.le_refl _))
  have HW1 := Lib.hid kw
  clear hb kw
  go_wp2_with fail
  refine (M2.out _).mono ?_
  rintro e w2 ⟨rfl, hb⟩
  have kw : Below w.heap.size w w2 := HW1.out.trans (hb.mono HW1.out.size)
  clear HW1
  have HW2 := Lib.hid kw
  clear hb kw
  go_wp2_with fail
  go_ret2
  exact ⟨rfl, HW2.out⟩
theorem refmd_any (m : Nat) (hm : m ≤ 2) (a b c : Int) (ha : IsInt a) (hb : IsInt b) (hc : IsInt c) (h0 : c ≠ 0) (w : World) :
    Calls Try.prog 35 #[.int .i64 a, .int .i64 b, .int .i64 c, .int .i64 (m : Nat)] w fun en w' => en = .returned (.tuple #[.int .i64 (ans (md a b c m)), .int .i64 (err (md a b c m))]) ∧ Below w.heap.size w w' := by
  rw [← numR_md a b c m]
  exact rmd_core a b c _ _ _ _ _ _ w (product_any a b ha hb) (dvd_any m hm (a * b) c (by rw [Int.natAbs_mul]; exact prod_le ha hb) hc h0)
end Go.Proofs.Ytjnebbjjabnipaa
