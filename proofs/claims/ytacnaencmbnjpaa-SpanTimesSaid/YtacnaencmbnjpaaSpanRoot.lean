/- span.Root and the reference's: from the root of Lo, rounded down, to that of Hi, rounded up. -/
import Derived.Test.YtacnaencmbnjpaaSpanOps
import Derived.Test.YtacnaencmbnjpaaRootUp
import Derived.Test.YtacnaencmbnjpaaRUp
import Derived.Test.YtacnaencmbnjpaaAb
import Derived.IntWalk
namespace Go.Proofs.Ytacnaencmbnjpaa
open Go.RowKit

theorem sroot_arg (x y : Int) (w : World)
    (m1 : ∀ w, Calls Try.prog 11 #[.agg #[.int .i64 x, .int .i64 y]] w fun en w' => en = .returned (.bool false) ∧ Below w.heap.size w w') :
    Calls Try.prog 21 #[.agg #[.int .i64 x, .int .i64 y]] w fun en w' => en = .returned (.tuple #[.agg #[.int .i64 0, .int .i64 0], .int .i64 1]) ∧ Below w.heap.size w w' := by
  have M1 := Lib.hid m1
  clear m1
  go_enter Try.func21, Try.ntmps21
  go_wp2_with fail
  refine (M1.out _).mono ?_
  rintro e w1 ⟨rfl, hb⟩
  have ka : Blk w1 w.heap.size #[.int .i64 x, .int .i64 y] := ((Blk.new _ _ _).alloc _).call hb
  have kr : Blk w1 (w.heap.size + 1) #[.int .i64 0, .int .i64 0] := (Blk.newAt (by simp)).call hb
  have kw : Below w.heap.size w w1 := (((Below.refl w.heap.size w).alloc (Nat.le_refl _) _).alloc (by simp) _).trans (hb.mono (by simp; omega))
  have Ba := Lib.hid ka
  have Br := Lib.hid kr
  have HW1 := Lib.hid kw
  clear hb kw ka kr
  have lr := Br.out.lt
  have cr0 : w1.cell? ⟨(w.heap.size + 1), 0, none⟩ = some (.int .i64 0) := Br.out.cell rfl
  have fr0 := Br.out.free 0
  have cr1 : w1.cell? ⟨(w.heap.size + 1), 1, none⟩ = some (.int .i64 0) := Br.out.cell rfl
  have fr1 := Br.out.free 1
  go_wp2_with fail
  exact bodyPost_ret (v := .tuple #[.agg #[.int .i64 0, .int .i64 0], .int .i64 1]) (by simp [results, Try.results21, go_sem, cr0, cr1]) rfl ⟨rfl, ((HW1.out.setCell (p := ⟨(w.heap.size + 1), 0, none⟩) (by have := Ba.out.lt; have := Br.out.lt; have := HW1.out.size; (first | (simp; done) | (simp; omega) | omega)) _).setCell (p := ⟨(w.heap.size + 1), 1, none⟩) (by have := Ba.out.lt; have := Br.out.lt; have := HW1.out.size; (first | (simp; done) | (simp; omega) | omega)) _)⟩
theorem sroot_range (x y : Int) (w : World) (h0 : x < 0)
    (m1 : ∀ w, Calls Try.prog 11 #[.agg #[.int .i64 x, .int .i64 y]] w fun en w' => en = .returned (.bool true) ∧ Below w.heap.size w w') :
    Calls Try.prog 21 #[.agg #[.int .i64 x, .int .i64 y]] w fun en w' => en = .returned (.tuple #[.agg #[.int .i64 0, .int .i64 0], .int .i64 3]) ∧ Below w.heap.size w w' := by
  have M1 := Lib.hid m1
  clear m1
  go_enter Try.func21, Try.ntmps21
  go_wp2_with fail
  refine (M1.out _).mono ?_
  rintro e w1 ⟨rfl, hb⟩
  have ka : Blk w1 w.heap.size #[.int .i64 x, .int .i64 y] := ((Blk.new _ _ _).alloc _).call hb
  have kr : Blk w1 (w.heap.size + 1) #[.int .i64 0, .int .i64 0] := (Blk.newAt (by simp)).call hb
  have kw : Below w.heap.size w w1 := (((Below.refl w.heap.size w).alloc (Nat.le_refl _) _).alloc (by simp) _).trans (hb.mono (by simp; omega))
  have Ba := Lib.hid ka
  have Br := Lib.hid kr
  have HW1 := Lib.hid kw
  clear hb kw ka kr
  have lr := Br.out.lt
  have cr0 : w1.cell? ⟨(w.heap.size + 1), 0, none⟩ = some (.int .i64 0) := Br.out.cell rfl
  have fr0 := Br.out.free 0
  have cr1 : w1.cell? ⟨(w.heap.size + 1), 1, none⟩ = some (.int .i64 0) := Br.out.cell rfl
  have fr1 := Br.out.free 1
  have la := Ba.out.lt
  have ca0 : w1.cell? ⟨w.heap.size, 0, none⟩ = some (.int .i64 x) := Ba.out.cell rfl
  have ca1 : w1.cell? ⟨w.heap.size, 1, none⟩ = some (.int .i64 y) := Ba.out.cell rfl
  go_wp2_with fail
  exact bodyPost_ret (v := .tuple #[.agg #[.int .i64 0, .int .i64 0], .int .i64 3]) (by simp [results, Try.results21, go_sem, cr0, cr1]) rfl ⟨rfl, ((HW1.out.setCell (p := ⟨(w.heap.size + 1), 0, none⟩) (by have := Ba.out.lt; have := Br.out.lt; have := HW1.out.size; (first | (simp; done) | (simp; omega) | omega)) _).setCell (p := ⟨(w.heap.size + 1), 1, none⟩) (by have := Ba.out.lt; have := Br.out.lt; have := HW1.out.size; (first | (simp; done) | (simp; omega) | omega)) _)⟩
theorem sroot_core (x y p q : Int) (l h r u : Nat) (w : World) (h0 : ¬ x < 0) (hl : IntKind.u64.wrap x = (l : Nat)) (hh : IntKind.u64.wrap y = (h : Nat)) (hp : IntKind.i64.wrap (r : Nat) = p) (hq : IntKind.i64.wrap (u : Nat) = q)
    (m1 : ∀ w, Calls Try.prog 11 #[.agg #[.int .i64 x, .int .i64 y]] w fun en w' => en = .returned (.bool true) ∧ Below w.heap.size w w')
    (m2 : ∀ w, Calls Try.prog 41 #[.agg #[.int .u64 0, .int .u64 (l : Nat)]] w fun en w' => en = .returned (.int .u64 (r : Nat)) ∧ Below w.heap.size w w')
    (m3 : ∀ w, Calls Try.prog 42 #[.agg #[.int .u64 0, .int .u64 (h : Nat)]] w fun en w' => en = .returned (.agg #[.int .u64 0, .int .u64 (u : Nat)]) ∧ Below w.heap.size w w') :
    Calls Try.prog 21 #[.agg #[.int .i64 x, .int .i64 y]] w fun en w' => en = .returned (.tuple #[.agg #[.int .i64 p, .int .i64 q], .int .i64 0]) ∧ Below w.heap.size w w' := by
  have M1 := Lib.hid m1; have M2 := Lib.hid m2; have M3 := Lib.hid m3
  clear m1 m2 m3
  go_enter Try.func21, Try.ntmps21
  go_wp2_with fail
  refine (M1.out _).mono ?_
  rintro e w1 ⟨rfl, hb⟩
  have ka : Blk w1 w.heap.size #[.int .i64 x, .int .i64 y] := ((Blk.new _ _ _).alloc _).call hb
  have kr : Blk w1 (w.heap.size + 1) #[.int .i64 0, .int .i64 0] := (Blk.newAt (by simp)).call hb
  have kw : Below w.heap.size w w1 := (((Below.refl w.heap.size w).alloc (Nat.le_refl _) _).alloc (by simp) _).trans (hb.mono (by simp; omega))
  have Ba := Lib.hid ka
  have Br := Lib.hid kr
  have HW1 := Lib.hid kw
  clear hb kw ka kr
  have la := Ba.out.lt
  have ca0 : w1.cell? ⟨w.heap.size, 0, none⟩ = some (.int .i64 x) := Ba.out.cell rfl
  have ca1 : w1.cell? ⟨w.heap.size, 1, none⟩ = some (.int .i64 y) := Ba.out.cell rfl
  go_upto_region 5 with fail
  clear h0 ca0 ca1 la
  have la := Ba.out.lt; have lr := Br.out.lt
  have hok : OwnOk (fun w' => w'.cell? ⟨w.heap.size, 0, none⟩ = some (.int .i64 x) ∧ w'.cell? ⟨w.heap.size, 1, none⟩ = some (.int .i64 y) ∧ Hid (Blk w' w.heap.size #[.int .i64 x, .int .i64 y] ∧ Blk w' (w.heap.size + 1) #[.int .i64 0, .int .i64 0] ∧ Below w.heap.size w w')) w1.heap.size [⟨8, 10, fun w b => Blk w b #[.int .u64 0, .int .u64 0], fun w b => Blk w b #[.int .u64 0, .int .u64 (l : Nat)]⟩, ⟨9, 11, fun w b => Blk w b #[.int .u64 0, .int .u64 0], fun w b => Blk w b #[.int .u64 0, .int .u64 (h : Nat)]⟩] := own2_ok (fun v1 v2 h hb => ⟨(h.2.2.out.1.below hb Ba.out.lt).cell rfl, (h.2.2.out.1.below hb Ba.out.lt).cell rfl, Lib.hid ⟨(h.2.2.out.1.below hb Ba.out.lt), (h.2.2.out.2.1.below hb Br.out.lt), (h.2.2.out.2.2.trans (hb.mono HW1.out.size))⟩⟩) ⟨Blk.local _, Blk.local _⟩ ⟨Blk.local _, Blk.local _⟩ (by simp) (by simp) (by simp)
  have hfit : ∀ i, (∀ e ∈ ([⟨8, 10, fun w b => Blk w b #[.int .u64 0, .int .u64 0], fun w b => Blk w b #[.int .u64 0, .int .u64 (l : Nat)]⟩, ⟨9, 11, fun w b => Blk w b #[.int .u64 0, .int .u64 0], fun w b => Blk w b #[.int .u64 0, .int .u64 (h : Nat)]⟩] : List Ent), e.x ≠ i ∧ e.s ≠ i) → Fit (fun w' => w'.cell? ⟨w.heap.size, 0, none⟩ = some (.int .i64 x) ∧ w'.cell? ⟨w.heap.size, 1, none⟩ = some (.int .i64 y) ∧ Hid (Blk w' w.heap.size #[.int .i64 x, .int .i64 y] ∧ Blk w' (w.heap.size + 1) #[.int .i64 0, .int .i64 0] ∧ Below w.heap.size w w')) (Sof (fun w' => w'.cell? ⟨w.heap.size, 0, none⟩ = some (.int .i64 x) ∧ w'.cell? ⟨w.heap.size, 1, none⟩ = some (.int .i64 y) ∧ Hid (Blk w' w.heap.size #[.int .i64 x, .int .i64 y] ∧ Blk w' (w.heap.size + 1) #[.int .i64 0, .int .i64 0] ∧ Below w.heap.size w w')) w1.heap.size [⟨8, 10, fun w b => Blk w b #[.int .u64 0, .int .u64 0], fun w b => Blk w b #[.int .u64 0, .int .u64 (l : Nat)]⟩, ⟨9, 11, fun w b => Blk w b #[.int .u64 0, .int .u64 0], fun w b => Blk w b #[.int .u64 0, .int .u64 (h : Nat)]⟩]) i := fun i hi => sof_fit hok.st hok.loc hi
  have HOK := Lib.hid hok; have HF := Lib.hid hfit; clear hok hfit
  refine wp_region_ab (S0 := (fun w' => w'.cell? ⟨w.heap.size, 0, none⟩ = some (.int .i64 x) ∧ w'.cell? ⟨w.heap.size, 1, none⟩ = some (.int .i64 y) ∧ Hid (Blk w' w.heap.size #[.int .i64 x, .int .i64 y] ∧ Blk w' (w.heap.size + 1) #[.int .i64 0, .int .i64 0] ∧ Below w.heap.size w w'))) w1.heap.size [⟨8, 10, fun w b => Blk w b #[.int .u64 0, .int .u64 0], fun w b => Blk w b #[.int .u64 0, .int .u64 (l : Nat)]⟩, ⟨9, 11, fun w b => Blk w b #[.int .u64 0, .int .u64 0], fun w b => Blk w b #[.int .u64 0, .int .u64 (h : Nat)]⟩] (by kernel_rfl) ⟨Ba.out.drew.cell rfl, Ba.out.drew.cell rfl, Lib.hid ⟨Ba.out.drew, Br.out.drew, HW1.out.drew⟩⟩ (Nat.le_refl _) (by simp) ?_
  clear Ba Br
  refine abTake 0 (some 14) (v := ?_) rfl rfl (by kernel_rfl) (by kernel_rfl) (by kernel_rfl) (fun _ _ _ h => h) (HF.out _ (by simp)) (by rfl) ?_ ?_
  rotate_left 1
  · (intro w hSw; (try dsimp only at hSw); go_simp; try with_reducible rfl)
  simp only [Act.put, List.setIfInBounds_toArray, List.set_cons_zero, List.set_cons_succ]
  refine abTake 1 (some 15) (v := ?_) rfl rfl (by kernel_rfl) (by kernel_rfl) (by kernel_rfl) (fun _ _ _ h => h) (HF.out _ (by simp)) (by rfl) ?_ ?_
  rotate_left 1
  · (intro w hSw; (try dsimp only at hSw); go_simp; try with_reducible rfl)
  simp only [Act.put, List.setIfInBounds_toArray, List.set_cons_zero, List.set_cons_succ]
  refine abTake 2 (some 16) (v := ?_) rfl rfl (by kernel_rfl) (by kernel_rfl) (by kernel_rfl) (fun _ _ _ h => h) (HF.out _ (by simp)) (by rfl) ?_ ?_
  rotate_left 1
  · (intro w hSw; (try dsimp only at hSw); go_simp; try with_reducible rfl)
  simp only [Act.put, List.setIfInBounds_toArray, List.set_cons_zero, List.set_cons_succ]
  refine abTake 3 (some 17) (v := ?_) rfl rfl (by kernel_rfl) (by kernel_rfl) (by kernel_rfl) (fun _ _ _ h => h) (HF.out _ (by simp)) (by rfl) ?_ ?_
  rotate_left 1
  · (intro w hSw; (try dsimp only at hSw); go_simp; try with_reducible rfl)
  simp only [Act.put, List.setIfInBounds_toArray, List.set_cons_zero, List.set_cons_succ]
  refine abTake 4 (some 18) (v := ?_) rfl rfl (by kernel_rfl) (by kernel_rfl) (by kernel_rfl) (fun _ _ _ h => h) (HF.out _ (by simp)) (by rfl) ?_ ?_
  rotate_left 1
  · (intro w hSw; (try dsimp only at hSw); go_simp; try with_reducible rfl)
  simp only [Act.put, List.setIfInBounds_toArray, List.set_cons_zero, List.set_cons_succ]
  refine abTake 5 (some 19) (v := ?_) rfl rfl (by kernel_rfl) (by kernel_rfl) (by kernel_rfl) (fun _ _ _ h => h) (HF.out _ (by simp)) (by rfl) ?_ ?_
  rotate_left 1
  · (intro w hSw; (try dsimp only at hSw); go_simp; try with_reducible rfl)
  simp only [Act.put, List.setIfInBounds_toArray, List.set_cons_zero, List.set_cons_succ]
  refine abTake 6 (some 20) (v := ?_) rfl rfl (by kernel_rfl) (by kernel_rfl) (by kernel_rfl) (fun _ _ _ h => h) (HF.out _ (by simp)) (by rfl) ?_ ?_
  rotate_left 1
  · (intro w hSw; (try dsimp only at hSw); go_simp; try with_reducible rfl)
  simp only [Act.put, List.setIfInBounds_toArray, List.set_cons_zero, List.set_cons_succ]
  refine abTake 7 (some 21) (v := ?_) rfl rfl (by kernel_rfl) (by kernel_rfl) (by kernel_rfl) (fun _ _ _ h => h) (HF.out _ (by simp)) (by rfl) ?_ ?_
  rotate_left 1
  · (intro w hSw; (try dsimp only at hSw); go_simp; try with_reducible rfl)
  simp only [Act.put, List.setIfInBounds_toArray, List.set_cons_zero, List.set_cons_succ]
  refine abMake2 8 9 4 5 HOK.out _ _ (List.mem_cons_self) (List.mem_cons_of_mem _ (List.mem_cons_self)) rfl rfl rfl rfl rfl rfl (by kernel_rfl) (by kernel_rfl) (by kernel_rfl) (by kernel_rfl) (by decide) (by simp) (by kernel_rfl) (by kernel_rfl) (by kernel_rfl) (by kernel_rfl) (by kernel_rfl) (by kernel_rfl) ⟨by rfl, .cells #[.int .u64 0, .int .u64 0] 55, fun w hSw => ⟨(by (try dsimp only at hSw); go_simp; try with_reducible rfl), Blk.newAt rfl⟩⟩ ⟨by rfl, .cells #[.int .u64 0, .int .u64 0] 55, fun w hSw => ⟨(by (try dsimp only at hSw); go_simp; try with_reducible rfl), Blk.newAt rfl⟩⟩ (fun p8 p9 hp8 hp9 np8 => ?_)
  simp only [Act.put, List.setIfInBounds_toArray, List.set_cons_zero, List.set_cons_succ]
  refine abStore 10 HOK.out _ (List.mem_cons_self) rfl rfl rfl (by kernel_rfl) (by kernel_rfl) (by kernel_rfl) (by kernel_rfl) (by rfl) ?_ ?_
  · rintro w b hSw hg hB hp
    obtain rfl : b = p8 := hg
    replace hp : Blk w b #[.int .u64 0, .int .u64 0] := hp
    have x0 : w.cell? ⟨b, 0, none⟩ = some (.int .u64 0) := hp.cell rfl
    have x1 : w.cell? ⟨b, 1, none⟩ = some (.int .u64 0) := hp.cell rfl
    have y0 := hp.free 0
    have y1 := hp.free 1
    refine ⟨((w.setCell ⟨b, 0, none⟩ (.int .u64 0)).setCell ⟨b, 1, none⟩ (.int .u64 (l : Nat))), ?_, ((hp.set 0 (.int .u64 0)).set 1 (.int .u64 (l : Nat))), (((Below.refl _ _).setCell (p := ⟨b, 0, none⟩) hB _).setCell (p := ⟨b, 1, none⟩) hB _), fun k hk => ?_⟩
    · (try dsimp only at hSw); go_simp; try with_reducible rfl
    · exact (Below.heap_setCell _ _ _ _ hk).trans ((Below.heap_setCell _ _ _ _ hk))
  refine abStore 11 HOK.out _ (List.mem_cons_of_mem _ (List.mem_cons_self)) rfl rfl rfl (by kernel_rfl) (by kernel_rfl) (by kernel_rfl) (by kernel_rfl) (by rfl) ?_ ?_
  · rintro w b hSw hg hB hp
    obtain rfl : b = p9 := hg
    replace hp : Blk w b #[.int .u64 0, .int .u64 0] := hp
    have x0 : w.cell? ⟨b, 0, none⟩ = some (.int .u64 0) := hp.cell rfl
    have x1 : w.cell? ⟨b, 1, none⟩ = some (.int .u64 0) := hp.cell rfl
    have y0 := hp.free 0
    have y1 := hp.free 1
    refine ⟨((w.setCell ⟨b, 0, none⟩ (.int .u64 0)).setCell ⟨b, 1, none⟩ (.int .u64 (h : Nat))), ?_, ((hp.set 0 (.int .u64 0)).set 1 (.int .u64 (h : Nat))), (((Below.refl _ _).setCell (p := ⟨b, 0, none⟩) hB _).setCell (p := ⟨b, 1, none⟩) hB _), fun k hk => ?_⟩
    · (try dsimp only at hSw); go_simp; try with_reducible rfl
    · exact (Below.heap_setCell _ _ _ _ hk).trans ((Below.heap_setCell _ _ _ _ hk))
  refine abDone (by kernel_rfl) ?_ _
  rintro w2 hS
  have k8 := sof_post hS _ (List.mem_cons_self) (by kernel_rfl) (by kernel_rfl) (b := p8) rfl
  have k9 := sof_post hS _ (List.mem_cons_of_mem _ (List.mem_cons_self)) (by kernel_rfl) (by kernel_rfl) (b := p9) rfl
  have br : Blk w2 (w.heap.size + 1) #[.int .i64 0, .int .i64 0] := hS.1.2.2.out.2.1
  have hw : Below w.heap.size w w2 := hS.1.2.2.out.2.2
  have bl : Blk w2 p8 #[.int .u64 0, .int .u64 (l : Nat)] := k8.2.2
  have bh : Blk w2 p9 #[.int .u64 0, .int .u64 (h : Nat)] := k9.2.2
  have z8 : w.heap.size + 1 < p8 := by have := k8.1; omega
  have z9 : w.heap.size + 1 < p9 := by have := k9.1; omega
  clear hS HOK HF k8 k9 la lr hp8 hp9 np8 hl hh HW1
  go_upto_region 6 with fail
  have hfd : ∀ w, (Instr.field 55 (.agg #[.int .u64 0, .int .u64 (u : Nat)]) 1).run Try.prog w = .ok (.int .u64 (u : Nat)) w := fun _ => by kernel_rfl
  refine wp_region_held_drew (S := (fun w' => w'.cell? ⟨p8, 0, none⟩ = some (.int .u64 0) ∧ w'.cell? ⟨p8, 1, none⟩ = some (.int .u64 (l : Nat)) ∧ w'.cell? ⟨p9, 0, none⟩ = some (.int .u64 0) ∧ w'.cell? ⟨p9, 1, none⟩ = some (.int .u64 (h : Nat)) ∧ Hid (Below w.heap.size w w'))) (by kernel_rfl) ⟨(bl.drew).cell rfl, (bl.drew).cell rfl, (bh.drew).cell rfl, (bh.drew).cell rfl, Lib.hid (hw.drew)⟩ (fun hHeld => ?_)
  replace br := br.drew
  replace bl := bl.drew
  replace bh := bh.drew
  replace hw := hw.drew
  refine regTake 0 (some 22) (v := ?_) rfl rfl (by kernel_rfl) (by kernel_rfl) (by kernel_rfl) (fun _ _ _ h => h) (by rfl) hHeld ?_ ?_
  rotate_left 1
  · (intro w hSw; (try dsimp only at hSw); go_simp; try with_reducible rfl)
  simp only [Act.put, List.setIfInBounds_toArray, List.set_cons_zero, List.set_cons_succ]
  refine regTake 3 (some 25) (v := ?_) rfl rfl (by kernel_rfl) (by kernel_rfl) (by kernel_rfl) (fun _ _ _ h => h) (by rfl) hHeld ?_ ?_
  rotate_left 1
  · (intro w hSw; (try dsimp only at hSw); go_simp; try with_reducible rfl)
  simp only [Act.put, List.setIfInBounds_toArray, List.set_cons_zero, List.set_cons_succ]
  have hs1 := hw.size
  refine regCall 1 (some 23) (f := 41) (args := ?_) rfl rfl (by kernel_rfl) (by rfl) ?_ ?_
  rotate_left 1
  · (go_simp; try with_reducible rfl)
  refine (M2.out _).mono ?_
  rintro e wx1 ⟨rfl, hbx⟩
  refine ⟨_, rfl, ⟨(bl.call hbx).cell rfl, (bl.call hbx).cell rfl, (bh.call hbx).cell rfl, (bh.call hbx).cell rfl, Lib.hid (hw.trans (hbx.mono hs1))⟩, fun hHeld => ?_⟩
  simp only [Act.put, List.setIfInBounds_toArray, List.set_cons_zero, List.set_cons_succ]
  replace br := br.call hbx
  replace bl := bl.call hbx
  replace bh := bh.call hbx
  replace hw := hw.trans (hbx.mono hs1)
  clear hbx hs1
  refine regTake 2 (some 24) (v := ?_) rfl rfl (by kernel_rfl) (by kernel_rfl) (by kernel_rfl) (fun _ _ _ h => h) (by rfl) hHeld ?_ ?_
  rotate_left 1
  · (intro w hSw; (try dsimp only at hSw); go_simp; try with_reducible rfl)
  simp only [Act.put, List.setIfInBounds_toArray, List.set_cons_zero, List.set_cons_succ]
  have hs2 := hw.size
  refine regCall 4 (some 26) (f := 42) (args := ?_) rfl rfl (by kernel_rfl) (by rfl) ?_ ?_
  rotate_left 1
  · (go_simp; try with_reducible rfl)
  refine (M3.out _).mono ?_
  rintro e wx4 ⟨rfl, hbx⟩
  refine ⟨_, rfl, ⟨(bl.call hbx).cell rfl, (bl.call hbx).cell rfl, (bh.call hbx).cell rfl, (bh.call hbx).cell rfl, Lib.hid (hw.trans (hbx.mono hs2))⟩, fun hHeld => ?_⟩
  simp only [Act.put, List.setIfInBounds_toArray, List.set_cons_zero, List.set_cons_succ]
  replace br := br.call hbx
  replace bl := bl.call hbx
  replace bh := bh.call hbx
  replace hw := hw.trans (hbx.mono hs2)
  clear hbx hs2
  refine regTake 5 (some 27) (v := ?_) rfl rfl (by kernel_rfl) (by kernel_rfl) (by kernel_rfl) (fun _ _ _ h => h) (by rfl) hHeld ?_ ?_
  rotate_left 1
  · (intro w hSw; (try dsimp only at hSw); go_simp; try with_reducible rfl)
  simp only [Act.put, List.setIfInBounds_toArray, List.set_cons_zero, List.set_cons_succ]
  refine regTake 6 (some 28) (v := ?_) rfl rfl (by kernel_rfl) (by kernel_rfl) (by kernel_rfl) (fun _ _ _ h => h) (by rfl) hHeld ?_ ?_
  rotate_left 1
  · (intro w hSw; (try dsimp only at hSw); go_simp; try with_reducible rfl)
  simp only [Act.put, List.setIfInBounds_toArray, List.set_cons_zero, List.set_cons_succ]
  refine regTake 7 (some 29) (v := ?_) rfl rfl (by kernel_rfl) (by kernel_rfl) (by kernel_rfl) (fun _ _ _ h => h) (by rfl) hHeld ?_ ?_
  rotate_left 1
  · (intro w hSw; (try dsimp only at hSw); go_simp; try with_reducible rfl)
  simp only [Act.put, List.setIfInBounds_toArray, List.set_cons_zero, List.set_cons_succ]
  have x0 : wx4.cell? ⟨(w.heap.size + 1), 0, none⟩ = some (.int .i64 0) := br.cell rfl
  have y0 := br.free 0
  have x1 : wx4.cell? ⟨(w.heap.size + 1), 1, none⟩ = some (.int .i64 0) := br.cell rfl
  have y1 := br.free 1
  have z0 := br.lt
  have nel : p8 ≠ (w.heap.size + 1) := by omega
  have neh : p9 ≠ (w.heap.size + 1) := by omega
  have lowx : w.heap.size ≤ (w.heap.size + 1) := by omega
  refine regStore 8 (w' := ?_) rfl rfl (by kernel_rfl) (by rfl) ?_ ?_ (fun hHeld => ?_)
  rotate_left 1
  · (go_simp; try with_reducible rfl)
  · exact ⟨(((bl.other (p := ⟨(w.heap.size + 1), 0, none⟩) nel (.int .i64 p)).other (p := ⟨(w.heap.size + 1), 1, none⟩) nel (.int .i64 q))).cell rfl, (((bl.other (p := ⟨(w.heap.size + 1), 0, none⟩) nel (.int .i64 p)).other (p := ⟨(w.heap.size + 1), 1, none⟩) nel (.int .i64 q))).cell rfl, (((bh.other (p := ⟨(w.heap.size + 1), 0, none⟩) neh (.int .i64 p)).other (p := ⟨(w.heap.size + 1), 1, none⟩) neh (.int .i64 q))).cell rfl, (((bh.other (p := ⟨(w.heap.size + 1), 0, none⟩) neh (.int .i64 p)).other (p := ⟨(w.heap.size + 1), 1, none⟩) neh (.int .i64 q))).cell rfl, Lib.hid (((hw.setCell (p := ⟨(w.heap.size + 1), 0, none⟩) lowx (.int .i64 p)).setCell (p := ⟨(w.heap.size + 1), 1, none⟩) lowx (.int .i64 q)))⟩
  clear x0 y0 x1 y1
  replace bl := ((bl.other (p := ⟨(w.heap.size + 1), 0, none⟩) nel (.int .i64 p)).other (p := ⟨(w.heap.size + 1), 1, none⟩) nel (.int .i64 q))
  replace bh := ((bh.other (p := ⟨(w.heap.size + 1), 0, none⟩) neh (.int .i64 p)).other (p := ⟨(w.heap.size + 1), 1, none⟩) neh (.int .i64 q))
  replace br := ((br.set 0 (.int .i64 p)).set 1 (.int .i64 q))
  replace hw := ((hw.setCell (p := ⟨(w.heap.size + 1), 0, none⟩) lowx (.int .i64 p)).setCell (p := ⟨(w.heap.size + 1), 1, none⟩) lowx (.int .i64 q))
  clear lowx z0 nel neh
  refine regTake 9 (some 3) (v := ?_) rfl rfl (by kernel_rfl) (by kernel_rfl) (by kernel_rfl) (fun _ _ _ h => h) (by rfl) hHeld ?_ ?_
  rotate_left 1
  · (intro w hSw; (try dsimp only at hSw); go_simp; try with_reducible rfl)
  simp only [Act.put, List.setIfInBounds_toArray, List.set_cons_zero, List.set_cons_succ]
  refine wpAnyH_done (by kernel_rfl) ?_ _
  clear hHeld
  have c0 := br.cell (i := 0) rfl
  have c1 := br.cell (i := 1) rfl
  have HW := Lib.hid hw
  clear bl bh hw
  go_wp2_with fail
  exact bodyPost_ret (v := .tuple #[.agg #[.int .i64 p, .int .i64 q], .int .i64 0]) (by simp [results, Try.results21, go_sem, c0, c1]) rfl ⟨rfl, HW.out⟩
/-- The numbers of a root of a span. -/
theorem root_nums (x : Int) (hx : IsInt x) (h0 : 0 ≤ x) (r : Nat) (hr : IsRoot x.toNat r) :
    x.toNat < B64 ∧ IntKind.u64.wrap x = (x.toNat : Nat) ∧ IntKind.i64.wrap (r : Nat) = ((r : Nat) : Int) ∧ upOf x.toNat r < B64 ∧ IntKind.i64.wrap (upOf x.toNat r : Nat) = ((upOf x.toNat r : Nat) : Int) := by
  have hb : x.toNat < B64 := by unfold IsInt at hx; unfold B64; omega
  have hr2 : r < 4294967296 := hr.beyond (by unfold IsInt at hx; omega)
  have hu : upOf x.toNat r < 4294967298 := by unfold upOf; split <;> omega
  refine ⟨hb, ?_, wrap_int (by unfold IsInt; omega), by unfold B64; omega, wrap_int (by unfold IsInt; omega)⟩
  rw [IntKind.wrap_u64]
  unfold IsInt at hx
  omega
theorem sroot_any (x y : Int) (hx : IsInt x) (hy : IsInt y) (h : x ≤ y) (h0 : 0 ≤ x) (r s : Nat) (hr : IsRoot x.toNat r) (hs : IsRoot y.toNat s) (w : World) :
    Calls Try.prog 21 #[.agg #[.int .i64 x, .int .i64 y]] w fun en w' => en = .returned (.tuple #[.agg #[.int .i64 (r : Nat), .int .i64 (upOf y.toNat s : Nat)], .int .i64 0]) ∧ Below w.heap.size w w' := by
  obtain ⟨a1, a2, a3, _, _⟩ := root_nums x hx h0 r hr
  obtain ⟨b1, b2, _, b4, b5⟩ := root_nums y hy (by omega) s hs
  have m1 := fun w => right_any x y w
  rw [decide_eq_true h] at m1
  have m2 := fun w => root_num _ r (by unfold B64 at a1; unfold M128; omega) hr w
  have m3 := fun w => up_num _ s (by unfold B64 at b1; unfold M128; omega) hs w
  rw [hi_low _ a1, lo_low _ a1] at m2
  rw [hi_low _ b1, lo_low _ b1, hi_low _ b4, lo_low _ b4] at m3
  exact sroot_core x y _ _ _ _ r _ w (by omega) a2 b2 a3 b5 m1 m2 m3
theorem sroot_no (x y : Int) (h : ¬ x ≤ y) (w : World) :
    Calls Try.prog 21 #[.agg #[.int .i64 x, .int .i64 y]] w fun en w' => en = .returned (.tuple #[.agg #[.int .i64 0, .int .i64 0], .int .i64 1]) ∧ Below w.heap.size w w' := by
  exact sroot_arg x y w (fun w => by have := right_any x y w; rwa [decide_eq_false h] at this)
theorem sroot_low (x y : Int) (h : x ≤ y) (h0 : x < 0) (w : World) :
    Calls Try.prog 21 #[.agg #[.int .i64 x, .int .i64 y]] w fun en w' => en = .returned (.tuple #[.agg #[.int .i64 0, .int .i64 0], .int .i64 3]) ∧ Below w.heap.size w w' := by
  exact sroot_range x y w h0 (fun w => by have := right_any x y w; rwa [decide_eq_true h] at this)
theorem rsroot_core (x y p q : Int) (l h r u : Nat) (w : World) (hl : IntKind.u64.wrap x = (l : Nat)) (hh : IntKind.u64.wrap y = (h : Nat)) (hp : IntKind.i64.wrap (r : Nat) = p) (hq : IntKind.i64.wrap (u : Nat) = q)
    (m1 : ∀ w, Calls Try.prog 44 #[.int .u64 (l : Nat)] w fun en w' => en = .returned (.agg #[.int .u64 0, .int .u64 (l : Nat)]) ∧ Below w.heap.size w w')
    (m4 : ∀ w, Calls Try.prog 44 #[.int .u64 (h : Nat)] w fun en w' => en = .returned (.agg #[.int .u64 0, .int .u64 (h : Nat)]) ∧ Below w.heap.size w w')
    (m2 : ∀ w, Calls Try.prog 43 #[.agg #[.int .u64 0, .int .u64 (l : Nat)]] w fun en w' => en = .returned (.int .u64 (r : Nat)) ∧ Below w.heap.size w w')
    (m3 : ∀ w, Calls Try.prog 45 #[.agg #[.int .u64 0, .int .u64 (h : Nat)]] w fun en w' => en = .returned (.agg #[.int .u64 0, .int .u64 (u : Nat)]) ∧ Below w.heap.size w w') :
    Calls Try.prog 22 #[.agg #[.int .i64 x, .int .i64 y]] w fun en w' => en = .returned (.agg #[.int .i64 p, .int .i64 q]) ∧ Below w.heap.size w w' := by
  have M1 := Lib.hid m1; have M2 := Lib.hid m2; have M3 := Lib.hid m3; have M4 := Lib.hid m4
  clear m1 m2 m3 m4
  go_enter Try.func22, Try.ntmps22
  go_upto_region 1 with fail
  obtain ⟨W0, hW0⟩ : ∃ W0, (w.alloc (.cells #[.int .i64 x, .int .i64 y] 23)).alloc (.cells #[.int .i64 0, .int .i64 0] 23) = W0 := ⟨_, rfl⟩
  have ba : Blk W0 w.heap.size #[.int .i64 x, .int .i64 y] := by rw [← hW0]; exact (Blk.new _ _ _).alloc _
  have br : Blk W0 (w.heap.size + 1) #[.int .i64 0, .int .i64 0] := by rw [← hW0]; exact Blk.newAt (by simp)
  have hw : Below w.heap.size w W0 := by rw [← hW0]; exact ((Below.refl _ _).alloc (Nat.le_refl _) _).alloc (by simp) _
  rw [hW0]
  clear hW0
  have hfd : ∀ w, (Instr.field 55 (.agg #[.int .u64 0, .int .u64 (u : Nat)]) 1).run Try.prog w = .ok (.int .u64 (u : Nat)) w := fun _ => by kernel_rfl
  refine wp_region_held_drew (S := (fun w' => w'.cell? ⟨w.heap.size, 0, none⟩ = some (.int .i64 x) ∧ w'.cell? ⟨w.heap.size, 1, none⟩ = some (.int .i64 y) ∧ Hid (Below w.heap.size w w'))) (by kernel_rfl) ⟨(ba.drew).cell rfl, (ba.drew).cell rfl, Lib.hid (hw.drew)⟩ (fun hHeld => ?_)
  replace br := br.drew
  replace ba := ba.drew
  replace hw := hw.drew
  refine regTake 0 (some 3) (v := ?_) rfl rfl (by kernel_rfl) (by kernel_rfl) (by kernel_rfl) (fun _ _ _ h => h) (by rfl) hHeld ?_ ?_
  rotate_left 1
  · (intro w hSw; (try dsimp only at hSw); go_simp; try with_reducible rfl)
  simp only [Act.put, List.setIfInBounds_toArray, List.set_cons_zero, List.set_cons_succ]
  refine regTake 1 (some 4) (v := ?_) rfl rfl (by kernel_rfl) (by kernel_rfl) (by kernel_rfl) (fun _ _ _ h => h) (by rfl) hHeld ?_ ?_
  rotate_left 1
  · (intro w hSw; (try dsimp only at hSw); go_simp; try with_reducible rfl)
  simp only [Act.put, List.setIfInBounds_toArray, List.set_cons_zero, List.set_cons_succ]
  refine regTake 2 (some 5) (v := ?_) rfl rfl (by kernel_rfl) (by kernel_rfl) (by kernel_rfl) (fun _ _ _ h => h) (by rfl) hHeld ?_ ?_
  rotate_left 1
  · (intro w hSw; (try dsimp only at hSw); go_simp; try with_reducible rfl)
  simp only [Act.put, List.setIfInBounds_toArray, List.set_cons_zero, List.set_cons_succ]
  refine regTake 6 (some 9) (v := ?_) rfl rfl (by kernel_rfl) (by kernel_rfl) (by kernel_rfl) (fun _ _ _ h => h) (by rfl) hHeld ?_ ?_
  rotate_left 1
  · (intro w hSw; (try dsimp only at hSw); go_simp; try with_reducible rfl)
  simp only [Act.put, List.setIfInBounds_toArray, List.set_cons_zero, List.set_cons_succ]
  refine regTake 7 (some 10) (v := ?_) rfl rfl (by kernel_rfl) (by kernel_rfl) (by kernel_rfl) (fun _ _ _ h => h) (by rfl) hHeld ?_ ?_
  rotate_left 1
  · (intro w hSw; (try dsimp only at hSw); go_simp; try with_reducible rfl)
  simp only [Act.put, List.setIfInBounds_toArray, List.set_cons_zero, List.set_cons_succ]
  refine regTake 8 (some 11) (v := ?_) rfl rfl (by kernel_rfl) (by kernel_rfl) (by kernel_rfl) (fun _ _ _ h => h) (by rfl) hHeld ?_ ?_
  rotate_left 1
  · (intro w hSw; (try dsimp only at hSw); go_simp; try with_reducible rfl)
  simp only [Act.put, List.setIfInBounds_toArray, List.set_cons_zero, List.set_cons_succ]
  have hs1 := hw.size
  refine regCall 3 (some 6) (f := 44) (args := ?_) rfl rfl (by kernel_rfl) (by rfl) ?_ ?_
  rotate_left 1
  · (go_simp; try with_reducible rfl)
  refine (M1.out _).mono ?_
  rintro e wx3 ⟨rfl, hbx⟩
  refine ⟨_, rfl, ⟨(ba.call hbx).cell rfl, (ba.call hbx).cell rfl, Lib.hid (hw.trans (hbx.mono hs1))⟩, fun hHeld => ?_⟩
  simp only [Act.put, List.setIfInBounds_toArray, List.set_cons_zero, List.set_cons_succ]
  replace br := br.call hbx
  replace ba := ba.call hbx
  replace hw := hw.trans (hbx.mono hs1)
  clear hbx hs1
  have hs2 := hw.size
  refine regCall 4 (some 7) (f := 43) (args := ?_) rfl rfl (by kernel_rfl) (by rfl) ?_ ?_
  rotate_left 1
  · (go_simp; try with_reducible rfl)
  refine (M2.out _).mono ?_
  rintro e wx4 ⟨rfl, hbx⟩
  refine ⟨_, rfl, ⟨(ba.call hbx).cell rfl, (ba.call hbx).cell rfl, Lib.hid (hw.trans (hbx.mono hs2))⟩, fun hHeld => ?_⟩
  simp only [Act.put, List.setIfInBounds_toArray, List.set_cons_zero, List.set_cons_succ]
  replace br := br.call hbx
  replace ba := ba.call hbx
  replace hw := hw.trans (hbx.mono hs2)
  clear hbx hs2
  refine regTake 5 (some 8) (v := ?_) rfl rfl (by kernel_rfl) (by kernel_rfl) (by kernel_rfl) (fun _ _ _ h => h) (by rfl) hHeld ?_ ?_
  rotate_left 1
  · (intro w hSw; (try dsimp only at hSw); go_simp; try with_reducible rfl)
  simp only [Act.put, List.setIfInBounds_toArray, List.set_cons_zero, List.set_cons_succ]
  have hs3 := hw.size
  refine regCall 9 (some 12) (f := 44) (args := ?_) rfl rfl (by kernel_rfl) (by rfl) ?_ ?_
  rotate_left 1
  · (go_simp; try with_reducible rfl)
  refine (M4.out _).mono ?_
  rintro e wx9 ⟨rfl, hbx⟩
  refine ⟨_, rfl, ⟨(ba.call hbx).cell rfl, (ba.call hbx).cell rfl, Lib.hid (hw.trans (hbx.mono hs3))⟩, fun hHeld => ?_⟩
  simp only [Act.put, List.setIfInBounds_toArray, List.set_cons_zero, List.set_cons_succ]
  replace br := br.call hbx
  replace ba := ba.call hbx
  replace hw := hw.trans (hbx.mono hs3)
  clear hbx hs3
  have hs4 := hw.size
  refine regCall 10 (some 13) (f := 45) (args := ?_) rfl rfl (by kernel_rfl) (by rfl) ?_ ?_
  rotate_left 1
  · (go_simp; try with_reducible rfl)
  refine (M3.out _).mono ?_
  rintro e wx10 ⟨rfl, hbx⟩
  refine ⟨_, rfl, ⟨(ba.call hbx).cell rfl, (ba.call hbx).cell rfl, Lib.hid (hw.trans (hbx.mono hs4))⟩, fun hHeld => ?_⟩
  simp only [Act.put, List.setIfInBounds_toArray, List.set_cons_zero, List.set_cons_succ]
  replace br := br.call hbx
  replace ba := ba.call hbx
  replace hw := hw.trans (hbx.mono hs4)
  clear hbx hs4
  refine regTake 11 (some 14) (v := ?_) rfl rfl (by kernel_rfl) (by kernel_rfl) (by kernel_rfl) (fun _ _ _ h => h) (by rfl) hHeld ?_ ?_
  rotate_left 1
  · (intro w hSw; (try dsimp only at hSw); go_simp; try with_reducible rfl)
  simp only [Act.put, List.setIfInBounds_toArray, List.set_cons_zero, List.set_cons_succ]
  refine regTake 12 (some 15) (v := ?_) rfl rfl (by kernel_rfl) (by kernel_rfl) (by kernel_rfl) (fun _ _ _ h => h) (by rfl) hHeld ?_ ?_
  rotate_left 1
  · (intro w hSw; (try dsimp only at hSw); go_simp; try with_reducible rfl)
  simp only [Act.put, List.setIfInBounds_toArray, List.set_cons_zero, List.set_cons_succ]
  refine regTake 13 (some 16) (v := ?_) rfl rfl (by kernel_rfl) (by kernel_rfl) (by kernel_rfl) (fun _ _ _ h => h) (by rfl) hHeld ?_ ?_
  rotate_left 1
  · (intro w hSw; (try dsimp only at hSw); go_simp; try with_reducible rfl)
  simp only [Act.put, List.setIfInBounds_toArray, List.set_cons_zero, List.set_cons_succ]
  have x0 : wx10.cell? ⟨(w.heap.size + 1), 0, none⟩ = some (.int .i64 0) := br.cell rfl
  have y0 := br.free 0
  have x1 : wx10.cell? ⟨(w.heap.size + 1), 1, none⟩ = some (.int .i64 0) := br.cell rfl
  have y1 := br.free 1
  have z0 := br.lt
  have nea : w.heap.size ≠ (w.heap.size + 1) := by omega
  have lowx : w.heap.size ≤ (w.heap.size + 1) := by omega
  refine regStore 14 (w' := ?_) rfl rfl (by kernel_rfl) (by rfl) ?_ ?_ (fun hHeld => ?_)
  rotate_left 1
  · (go_simp; try with_reducible rfl)
  · exact ⟨(((ba.other (p := ⟨(w.heap.size + 1), 0, none⟩) nea (.int .i64 p)).other (p := ⟨(w.heap.size + 1), 1, none⟩) nea (.int .i64 q))).cell rfl, (((ba.other (p := ⟨(w.heap.size + 1), 0, none⟩) nea (.int .i64 p)).other (p := ⟨(w.heap.size + 1), 1, none⟩) nea (.int .i64 q))).cell rfl, Lib.hid (((hw.setCell (p := ⟨(w.heap.size + 1), 0, none⟩) lowx (.int .i64 p)).setCell (p := ⟨(w.heap.size + 1), 1, none⟩) lowx (.int .i64 q)))⟩
  clear x0 y0 x1 y1
  replace ba := ((ba.other (p := ⟨(w.heap.size + 1), 0, none⟩) nea (.int .i64 p)).other (p := ⟨(w.heap.size + 1), 1, none⟩) nea (.int .i64 q))
  replace br := ((br.set 0 (.int .i64 p)).set 1 (.int .i64 q))
  replace hw := ((hw.setCell (p := ⟨(w.heap.size + 1), 0, none⟩) lowx (.int .i64 p)).setCell (p := ⟨(w.heap.size + 1), 1, none⟩) lowx (.int .i64 q))
  clear lowx z0 nea
  refine wpAnyH_done (by kernel_rfl) ?_ _
  clear hHeld
  have c0 := br.cell (i := 0) rfl
  have c1 := br.cell (i := 1) rfl
  have HW := Lib.hid hw
  clear ba hw
  go_wp2_with fail
  exact bodyPost_ret (v := .agg #[.int .i64 p, .int .i64 q]) (by simp [results, Try.results22, go_sem, c0, c1]) rfl ⟨rfl, HW.out⟩
theorem rsroot_any (x y : Int) (hx : IsInt x) (hy : IsInt y) (h : x ≤ y) (h0 : 0 ≤ x) (r s : Nat) (hr : IsRoot x.toNat r) (hs : IsRoot y.toNat s) (w : World) :
    Calls Try.prog 22 #[.agg #[.int .i64 x, .int .i64 y]] w fun en w' => en = .returned (.agg #[.int .i64 (r : Nat), .int .i64 (upOf y.toNat s : Nat)]) ∧ Below w.heap.size w w' := by
  obtain ⟨a1, a2, a3, _, _⟩ := root_nums x hx h0 r hr
  obtain ⟨b1, b2, _, b4, b5⟩ := root_nums y hy (by omega) s hs
  have m1 := fun w => of_num x.toNat a1 w
  have m4 := fun w => of_num y.toNat b1 w
  have m2 := fun w => rroot_num _ r (by unfold B64 at a1; unfold M128; omega) hr w
  have m3 := fun w => rup_num _ s (by unfold B64 at b1; unfold M128; omega) hs w
  rw [hi_low _ a1, lo_low _ a1] at m1 m2
  rw [hi_low _ b1, lo_low _ b1] at m3 m4
  rw [hi_low _ b4, lo_low _ b4] at m3
  exact rsroot_core x y _ _ _ _ r _ w a2 b2 a3 b5 m1 m4 m2 m3
end Go.Proofs.Ytacnaencmbnjpaa
