/- datumlaw06.made: three ratios from any numbers, or none; nothing that was in memory before is changed. -/
import Derived.Test.YtjnebbjjabnipaaAlive6
import Derived.Deep.LoopGhost
import Derived.IntWalk
namespace Go.Proofs.Ytjnebbjjabnipaa
open Go.RowKit

/-- A divisor, 1 in place of 0. -/
def ddOf (d : Int) : Int := if d = 0 then 1 else d
def madeC (x0 y0 x1 y1 x2 y2 : Int) : Nat → Array Value
  | 0 => #[.int .i64 0, .int .i64 0, .int .i64 0, .int .i64 0, .int .i64 0, .int .i64 0]
  | 1 => #[.int .i64 x0, .int .i64 y0, .int .i64 0, .int .i64 0, .int .i64 0, .int .i64 0]
  | 2 => #[.int .i64 x0, .int .i64 y0, .int .i64 x1, .int .i64 y1, .int .i64 0, .int .i64 0]
  | _ => #[.int .i64 x0, .int .i64 y0, .int .i64 x1, .int .i64 y1, .int .i64 x2, .int .i64 y2]
set_option maxHeartbeats 4000000 in
theorem made_core (l0 l1 l2 l3 l4 l5 x0 y0 e0 x1 y1 e1 x2 y2 e2 : Int) (w : World)
    (m0 : ∀ w, Calls Try.prog 8 #[.int .i64 l0, .int .i64 (ddOf l1)] w fun en w' => en = .returned (.tuple #[.agg #[.int .i64 x0, .int .i64 y0], .int .i64 e0]) ∧ Below w.heap.size w w')
    (m1 : ∀ w, Calls Try.prog 8 #[.int .i64 l2, .int .i64 (ddOf l3)] w fun en w' => en = .returned (.tuple #[.agg #[.int .i64 x1, .int .i64 y1], .int .i64 e1]) ∧ Below w.heap.size w w')
    (m2 : ∀ w, Calls Try.prog 8 #[.int .i64 l4, .int .i64 (ddOf l5)] w fun en w' => en = .returned (.tuple #[.agg #[.int .i64 x2, .int .i64 y2], .int .i64 e2]) ∧ Below w.heap.size w w') :
    Calls Try.prog 21 #[.agg #[.int .i64 l0, .int .i64 l1, .int .i64 l2, .int .i64 l3, .int .i64 l4, .int .i64 l5]] w fun en w' => ((e0 = 0 ∧ e1 = 0 ∧ e2 = 0 ∧ en = .returned (.tuple #[.agg #[.int .i64 x0, .int .i64 y0, .int .i64 x1, .int .i64 y1, .int .i64 x2, .int .i64 y2], .bool true])) ∨ (¬ (e0 = 0 ∧ e1 = 0 ∧ e2 = 0) ∧ ∃ a0 a1 a2 a3 a4 a5 : Int, en = .returned (.tuple #[.agg #[.int .i64 a0, .int .i64 a1, .int .i64 a2, .int .i64 a3, .int .i64 a4, .int .i64 a5], .bool false]))) ∧ Below w.heap.size w w' := by
  have M0 := Lib.hid m0; have M1 := Lib.hid m1; have M2 := Lib.hid m2
  clear m0 m1 m2
  go_enter Try.func21, Try.ntmps21
  go_wp2_with fail
  go_loopg [9] 3 (fun g i wr => ∃ k : Nat, k ≤ 3 ∧ g = 3 - k ∧ i = .int .i64 k ∧ ((0 < k → e0 = 0) ∧ (1 < k → e1 = 0) ∧ (2 < k → e2 = 0)) ∧ Hid (Mem w wr [((w.heap.size + 1 + 1), (madeC x0 y0 x1 y1 x2 y2 k)), ((w.heap.size + 1), #[.int .i64 0, .int .i64 0, .int .i64 0, .int .i64 0, .int .i64 0, .int .i64 0]), (w.heap.size, #[.int .i64 l0, .int .i64 l1, .int .i64 l2, .int .i64 l3, .int .i64 l4, .int .i64 l5])]))
  case atStart => exact ⟨0, by omega, by omega, rfl, ⟨by omega, by omega, by omega⟩, Lib.hid (((((Mem.start w).new w.heap.size _ _ rfl).new (w.heap.size + 1) _ _ (by simp)).new (w.heap.size + 1 + 1) _ _ (by simp)).to rfl)⟩
  case round =>
    obtain ⟨k, hk, hg, rfl, hE, HMwr⟩ := hrel
    rename World => wa
    rcases (by omega : k = 0 ∨ k = 1 ∨ k = 2 ∨ k = 3) with rfl | rfl | rfl | rfl
    · have HMwr : Hid (Mem w wa [((w.heap.size + 1 + 1), #[.int .i64 0, .int .i64 0, .int .i64 0, .int .i64 0, .int .i64 0, .int .i64 0]), ((w.heap.size + 1), #[.int .i64 0, .int .i64 0, .int .i64 0, .int .i64 0, .int .i64 0, .int .i64 0]), (w.heap.size, #[.int .i64 l0, .int .i64 l1, .int .i64 l2, .int .i64 l3, .int .i64 l4, .int .i64 l5])]) := HMwr
      have D : Hid (Mem w wa [((w.heap.size + 1 + 1), #[.int .i64 0, .int .i64 0, .int .i64 0, .int .i64 0, .int .i64 0, .int .i64 0]), ((w.heap.size + 1), #[.int .i64 0, .int .i64 0, .int .i64 0, .int .i64 0, .int .i64 0, .int .i64 0]), (w.heap.size, #[.int .i64 l0, .int .i64 l1, .int .i64 l2, .int .i64 l3, .int .i64 l4, .int .i64 l5])]) := HMwr
      by_cases hz : l1 = 0
      · have hq : (l1 == 0) = true := by simpa using hz
        have C : Hid (∀ w, Calls Try.prog 8 #[.int .i64 l0, .int .i64 1] w fun en w' => en = .returned (.tuple #[.agg #[.int .i64 x0, .int .i64 y0], .int .i64 e0]) ∧ Below w.heap.size w w') := Lib.hid (fun w => by have := M0.out w; rwa [show ddOf l1 = 1 from if_pos hz] at this)
        clear D hz
        have ll : w.heap.size < wa.heap.size := HMwr.out.lt 2 rfl
        have cl0 : wa.cell? ⟨w.heap.size, 0, none⟩ = some (.int .i64 l0) := HMwr.out.cell 2 rfl rfl
        have cl1 : wa.cell? ⟨w.heap.size, 1, none⟩ = some (.int .i64 l1) := HMwr.out.cell 2 rfl rfl
        go_wp2_with fail
        refine (C.out _).mono ?_
        rintro e wb ⟨rfl, hb⟩
        have HMwb := Lib.hid (HMwr.out.call hb)
        clear hb ll cl0 cl1 HMwr
        clear C hq
        by_cases he : e0 = 0
        · have hq : (e0 == 0) = true := by simpa using he
          have hq2 : (e0 != 0) = false := by simpa using he
          have lo : (w.heap.size + 1 + 1) < wb.heap.size := HMwb.out.lt 0 rfl
          have co0 : wb.cell? ⟨(w.heap.size + 1 + 1), 0, none⟩ = some (.int .i64 0) := HMwb.out.cell 0 rfl rfl
          have fo0 : wb.frozen? ⟨(w.heap.size + 1 + 1), 0, none⟩ = false := HMwb.out.free 0 rfl 0
          have co1 : wb.cell? ⟨(w.heap.size + 1 + 1), 1, none⟩ = some (.int .i64 0) := HMwb.out.cell 0 rfl rfl
          have fo1 : wb.frozen? ⟨(w.heap.size + 1 + 1), 1, none⟩ = false := HMwb.out.free 0 rfl 1
          have co2 : wb.cell? ⟨(w.heap.size + 1 + 1), 2, none⟩ = some (.int .i64 0) := HMwb.out.cell 0 rfl rfl
          have fo2 : wb.frozen? ⟨(w.heap.size + 1 + 1), 2, none⟩ = false := HMwb.out.free 0 rfl 2
          have co3 : wb.cell? ⟨(w.heap.size + 1 + 1), 3, none⟩ = some (.int .i64 0) := HMwb.out.cell 0 rfl rfl
          have fo3 : wb.frozen? ⟨(w.heap.size + 1 + 1), 3, none⟩ = false := HMwb.out.free 0 rfl 3
          have co4 : wb.cell? ⟨(w.heap.size + 1 + 1), 4, none⟩ = some (.int .i64 0) := HMwb.out.cell 0 rfl rfl
          have fo4 : wb.frozen? ⟨(w.heap.size + 1 + 1), 4, none⟩ = false := HMwb.out.free 0 rfl 4
          have co5 : wb.cell? ⟨(w.heap.size + 1 + 1), 5, none⟩ = some (.int .i64 0) := HMwb.out.cell 0 rfl rfl
          have fo5 : wb.frozen? ⟨(w.heap.size + 1 + 1), 5, none⟩ = false := HMwb.out.free 0 rfl 5
          have lr : (w.heap.size + 1) < wb.heap.size := HMwb.out.lt 1 rfl
          have ll : w.heap.size < wb.heap.size := HMwb.out.lt 2 rfl
          go_wp2_with fail
          go_roundg 2
          case measure => omega
          case rel => exact ⟨1, by omega, rfl, by go_num, ⟨fun _ => he, fun h => absurd h (by omega), fun h => absurd h (by omega)⟩, Lib.hid ((((((HMwb.out.set 0 0 (.int .i64 x0) rfl).set 0 1 (.int .i64 y0) rfl).new wb.heap.size _ _ (by simp [World.setCell])).to (l' := [(wb.heap.size, #[.int .i64 x0, .int .i64 y0]), ((w.heap.size + 1 + 1), #[.int .i64 x0, .int .i64 y0, .int .i64 0, .int .i64 0, .int .i64 0, .int .i64 0]), ((w.heap.size + 1), #[.int .i64 0, .int .i64 0, .int .i64 0, .int .i64 0, .int .i64 0, .int .i64 0]), (w.heap.size, #[.int .i64 l0, .int .i64 l1, .int .i64 l2, .int .i64 l3, .int .i64 l4, .int .i64 l5])]) rfl).drop).to rfl)⟩
        · have hq : (e0 == 0) = false := by simpa using he
          have hq2 : (e0 != 0) = true := by simpa using he
          have lo : (w.heap.size + 1 + 1) < wb.heap.size := HMwb.out.lt 0 rfl
          have co0 : wb.cell? ⟨(w.heap.size + 1 + 1), 0, none⟩ = some (.int .i64 0) := HMwb.out.cell 0 rfl rfl
          have co1 : wb.cell? ⟨(w.heap.size + 1 + 1), 1, none⟩ = some (.int .i64 0) := HMwb.out.cell 0 rfl rfl
          have co2 : wb.cell? ⟨(w.heap.size + 1 + 1), 2, none⟩ = some (.int .i64 0) := HMwb.out.cell 0 rfl rfl
          have co3 : wb.cell? ⟨(w.heap.size + 1 + 1), 3, none⟩ = some (.int .i64 0) := HMwb.out.cell 0 rfl rfl
          have co4 : wb.cell? ⟨(w.heap.size + 1 + 1), 4, none⟩ = some (.int .i64 0) := HMwb.out.cell 0 rfl rfl
          have co5 : wb.cell? ⟨(w.heap.size + 1 + 1), 5, none⟩ = some (.int .i64 0) := HMwb.out.cell 0 rfl rfl
          have lr : (w.heap.size + 1) < wb.heap.size := HMwb.out.lt 1 rfl
          have cr0 : wb.cell? ⟨(w.heap.size + 1), 0, none⟩ = some (.int .i64 0) := HMwb.out.cell 1 rfl rfl
          have fr0 : wb.frozen? ⟨(w.heap.size + 1), 0, none⟩ = false := HMwb.out.free 1 rfl 0
          have cr1 : wb.cell? ⟨(w.heap.size + 1), 1, none⟩ = some (.int .i64 0) := HMwb.out.cell 1 rfl rfl
          have fr1 : wb.frozen? ⟨(w.heap.size + 1), 1, none⟩ = false := HMwb.out.free 1 rfl 1
          have cr2 : wb.cell? ⟨(w.heap.size + 1), 2, none⟩ = some (.int .i64 0) := HMwb.out.cell 1 rfl rfl
          have fr2 : wb.frozen? ⟨(w.heap.size + 1), 2, none⟩ = false := HMwb.out.free 1 rfl 2
          have cr3 : wb.cell? ⟨(w.heap.size + 1), 3, none⟩ = some (.int .i64 0) := HMwb.out.cell 1 rfl rfl
          have fr3 : wb.frozen? ⟨(w.heap.size + 1), 3, none⟩ = false := HMwb.out.free 1 rfl 3
          have cr4 : wb.cell? ⟨(w.heap.size + 1), 4, none⟩ = some (.int .i64 0) := HMwb.out.cell 1 rfl rfl
          have fr4 : wb.frozen? ⟨(w.heap.size + 1), 4, none⟩ = false := HMwb.out.free 1 rfl 4
          have cr5 : wb.cell? ⟨(w.heap.size + 1), 5, none⟩ = some (.int .i64 0) := HMwb.out.cell 1 rfl rfl
          have fr5 : wb.frozen? ⟨(w.heap.size + 1), 5, none⟩ = false := HMwb.out.free 1 rfl 5
          have ll : w.heap.size < wb.heap.size := HMwb.out.lt 2 rfl
          go_wp2_with fail
          exact bodyPost_ret (v := .tuple #[.agg #[.int .i64 0, .int .i64 0, .int .i64 0, .int .i64 0, .int .i64 0, .int .i64 0], .bool false]) (by simp [results, Try.results21, go_sem, cr0, cr1, cr2, cr3, cr4, cr5, lr]) rfl ⟨Or.inr ⟨fun h => he h.1, _, _, _, _, _, _, rfl⟩, ((((((((HMwb.out.set 1 0 (.int .i64 0) rfl).set 1 1 (.int .i64 0) rfl).set 1 2 (.int .i64 0) rfl).set 1 3 (.int .i64 0) rfl).set 1 4 (.int .i64 0) rfl).set 1 5 (.int .i64 0) rfl).new wb.heap.size _ _ (by simp [World.setCell])).to (l' := [(wb.heap.size, #[.int .i64 x0, .int .i64 y0]), ((w.heap.size + 1 + 1), #[.int .i64 0, .int .i64 0, .int .i64 0, .int .i64 0, .int .i64 0, .int .i64 0]), ((w.heap.size + 1), #[.int .i64 0, .int .i64 0, .int .i64 0, .int .i64 0, .int .i64 0, .int .i64 0]), (w.heap.size, #[.int .i64 l0, .int .i64 l1, .int .i64 l2, .int .i64 l3, .int .i64 l4, .int .i64 l5])]) rfl).low⟩
      · have hq : (l1 == 0) = false := by simpa using hz
        have C : Hid (∀ w, Calls Try.prog 8 #[.int .i64 l0, .int .i64 l1] w fun en w' => en = .returned (.tuple #[.agg #[.int .i64 x0, .int .i64 y0], .int .i64 e0]) ∧ Below w.heap.size w w') := Lib.hid (fun w => by have := M0.out w; rwa [show ddOf l1 = l1 from if_neg hz] at this)
        clear D hz
        have ll : w.heap.size < wa.heap.size := HMwr.out.lt 2 rfl
        have cl0 : wa.cell? ⟨w.heap.size, 0, none⟩ = some (.int .i64 l0) := HMwr.out.cell 2 rfl rfl
        have cl1 : wa.cell? ⟨w.heap.size, 1, none⟩ = some (.int .i64 l1) := HMwr.out.cell 2 rfl rfl
        go_wp2_with fail
        refine (C.out _).mono ?_
        rintro e wb ⟨rfl, hb⟩
        have HMwb := Lib.hid (HMwr.out.call hb)
        clear hb ll cl0 cl1 HMwr
        clear C hq
        by_cases he : e0 = 0
        · have hq : (e0 == 0) = true := by simpa using he
          have hq2 : (e0 != 0) = false := by simpa using he
          have lo : (w.heap.size + 1 + 1) < wb.heap.size := HMwb.out.lt 0 rfl
          have co0 : wb.cell? ⟨(w.heap.size + 1 + 1), 0, none⟩ = some (.int .i64 0) := HMwb.out.cell 0 rfl rfl
          have fo0 : wb.frozen? ⟨(w.heap.size + 1 + 1), 0, none⟩ = false := HMwb.out.free 0 rfl 0
          have co1 : wb.cell? ⟨(w.heap.size + 1 + 1), 1, none⟩ = some (.int .i64 0) := HMwb.out.cell 0 rfl rfl
          have fo1 : wb.frozen? ⟨(w.heap.size + 1 + 1), 1, none⟩ = false := HMwb.out.free 0 rfl 1
          have co2 : wb.cell? ⟨(w.heap.size + 1 + 1), 2, none⟩ = some (.int .i64 0) := HMwb.out.cell 0 rfl rfl
          have fo2 : wb.frozen? ⟨(w.heap.size + 1 + 1), 2, none⟩ = false := HMwb.out.free 0 rfl 2
          have co3 : wb.cell? ⟨(w.heap.size + 1 + 1), 3, none⟩ = some (.int .i64 0) := HMwb.out.cell 0 rfl rfl
          have fo3 : wb.frozen? ⟨(w.heap.size + 1 + 1), 3, none⟩ = false := HMwb.out.free 0 rfl 3
          have co4 : wb.cell? ⟨(w.heap.size + 1 + 1), 4, none⟩ = some (.int .i64 0) := HMwb.out.cell 0 rfl rfl
          have fo4 : wb.frozen? ⟨(w.heap.size + 1 + 1), 4, none⟩ = false := HMwb.out.free 0 rfl 4
          have co5 : wb.cell? ⟨(w.heap.size + 1 + 1), 5, none⟩ = some (.int .i64 0) := HMwb.out.cell 0 rfl rfl
          have fo5 : wb.frozen? ⟨(w.heap.size + 1 + 1), 5, none⟩ = false := HMwb.out.free 0 rfl 5
          have lr : (w.heap.size + 1) < wb.heap.size := HMwb.out.lt 1 rfl
          have ll : w.heap.size < wb.heap.size := HMwb.out.lt 2 rfl
          go_wp2_with fail
          go_roundg 2
          case measure => omega
          case rel => exact ⟨1, by omega, rfl, by go_num, ⟨fun _ => he, fun h => absurd h (by omega), fun h => absurd h (by omega)⟩, Lib.hid ((((((HMwb.out.set 0 0 (.int .i64 x0) rfl).set 0 1 (.int .i64 y0) rfl).new wb.heap.size _ _ (by simp [World.setCell])).to (l' := [(wb.heap.size, #[.int .i64 x0, .int .i64 y0]), ((w.heap.size + 1 + 1), #[.int .i64 x0, .int .i64 y0, .int .i64 0, .int .i64 0, .int .i64 0, .int .i64 0]), ((w.heap.size + 1), #[.int .i64 0, .int .i64 0, .int .i64 0, .int .i64 0, .int .i64 0, .int .i64 0]), (w.heap.size, #[.int .i64 l0, .int .i64 l1, .int .i64 l2, .int .i64 l3, .int .i64 l4, .int .i64 l5])]) rfl).drop).to rfl)⟩
        · have hq : (e0 == 0) = false := by simpa using he
          have hq2 : (e0 != 0) = true := by simpa using he
          have lo : (w.heap.size + 1 + 1) < wb.heap.size := HMwb.out.lt 0 rfl
          have co0 : wb.cell? ⟨(w.heap.size + 1 + 1), 0, none⟩ = some (.int .i64 0) := HMwb.out.cell 0 rfl rfl
          have co1 : wb.cell? ⟨(w.heap.size + 1 + 1), 1, none⟩ = some (.int .i64 0) := HMwb.out.cell 0 rfl rfl
          have co2 : wb.cell? ⟨(w.heap.size + 1 + 1), 2, none⟩ = some (.int .i64 0) := HMwb.out.cell 0 rfl rfl
          have co3 : wb.cell? ⟨(w.heap.size + 1 + 1), 3, none⟩ = some (.int .i64 0) := HMwb.out.cell 0 rfl rfl
          have co4 : wb.cell? ⟨(w.heap.size + 1 + 1), 4, none⟩ = some (.int .i64 0) := HMwb.out.cell 0 rfl rfl
          have co5 : wb.cell? ⟨(w.heap.size + 1 + 1), 5, none⟩ = some (.int .i64 0) := HMwb.out.cell 0 rfl rfl
          have lr : (w.heap.size + 1) < wb.heap.size := HMwb.out.lt 1 rfl
          have cr0 : wb.cell? ⟨(w.heap.size + 1), 0, none⟩ = some (.int .i64 0) := HMwb.out.cell 1 rfl rfl
          have fr0 : wb.frozen? ⟨(w.heap.size + 1), 0, none⟩ = false := HMwb.out.free 1 rfl 0
          have cr1 : wb.cell? ⟨(w.heap.size + 1), 1, none⟩ = some (.int .i64 0) := HMwb.out.cell 1 rfl rfl
          have fr1 : wb.frozen? ⟨(w.heap.size + 1), 1, none⟩ = false := HMwb.out.free 1 rfl 1
          have cr2 : wb.cell? ⟨(w.heap.size + 1), 2, none⟩ = some (.int .i64 0) := HMwb.out.cell 1 rfl rfl
          have fr2 : wb.frozen? ⟨(w.heap.size + 1), 2, none⟩ = false := HMwb.out.free 1 rfl 2
          have cr3 : wb.cell? ⟨(w.heap.size + 1), 3, none⟩ = some (.int .i64 0) := HMwb.out.cell 1 rfl rfl
          have fr3 : wb.frozen? ⟨(w.heap.size + 1), 3, none⟩ = false := HMwb.out.free 1 rfl 3
          have cr4 : wb.cell? ⟨(w.heap.size + 1), 4, none⟩ = some (.int .i64 0) := HMwb.out.cell 1 rfl rfl
          have fr4 : wb.frozen? ⟨(w.heap.size + 1), 4, none⟩ = false := HMwb.out.free 1 rfl 4
          have cr5 : wb.cell? ⟨(w.heap.size + 1), 5, none⟩ = some (.int .i64 0) := HMwb.out.cell 1 rfl rfl
          have fr5 : wb.frozen? ⟨(w.heap.size + 1), 5, none⟩ = false := HMwb.out.free 1 rfl 5
          have ll : w.heap.size < wb.heap.size := HMwb.out.lt 2 rfl
          go_wp2_with fail
          exact bodyPost_ret (v := .tuple #[.agg #[.int .i64 0, .int .i64 0, .int .i64 0, .int .i64 0, .int .i64 0, .int .i64 0], .bool false]) (by simp [results, Try.results21, go_sem, cr0, cr1, cr2, cr3, cr4, cr5, lr]) rfl ⟨Or.inr ⟨fun h => he h.1, _, _, _, _, _, _, rfl⟩, ((((((((HMwb.out.set 1 0 (.int .i64 0) rfl).set 1 1 (.int .i64 0) rfl).set 1 2 (.int .i64 0) rfl).set 1 3 (.int .i64 0) rfl).set 1 4 (.int .i64 0) rfl).set 1 5 (.int .i64 0) rfl).new wb.heap.size _ _ (by simp [World.setCell])).to (l' := [(wb.heap.size, #[.int .i64 x0, .int .i64 y0]), ((w.heap.size + 1 + 1), #[.int .i64 0, .int .i64 0, .int .i64 0, .int .i64 0, .int .i64 0, .int .i64 0]), ((w.heap.size + 1), #[.int .i64 0, .int .i64 0, .int .i64 0, .int .i64 0, .int .i64 0, .int .i64 0]), (w.heap.size, #[.int .i64 l0, .int .i64 l1, .int .i64 l2, .int .i64 l3, .int .i64 l4, .int .i64 l5])]) rfl).low⟩
    · have HMwr : Hid (Mem w wa [((w.heap.size + 1 + 1), #[.int .i64 x0, .int .i64 y0, .int .i64 0, .int .i64 0, .int .i64 0, .int .i64 0]), ((w.heap.size + 1), #[.int .i64 0, .int .i64 0, .int .i64 0, .int .i64 0, .int .i64 0, .int .i64 0]), (w.heap.size, #[.int .i64 l0, .int .i64 l1, .int .i64 l2, .int .i64 l3, .int .i64 l4, .int .i64 l5])]) := HMwr
      have D : Hid (Mem w wa [((w.heap.size + 1 + 1), #[.int .i64 x0, .int .i64 y0, .int .i64 0, .int .i64 0, .int .i64 0, .int .i64 0]), ((w.heap.size + 1), #[.int .i64 0, .int .i64 0, .int .i64 0, .int .i64 0, .int .i64 0, .int .i64 0]), (w.heap.size, #[.int .i64 l0, .int .i64 l1, .int .i64 l2, .int .i64 l3, .int .i64 l4, .int .i64 l5])]) := HMwr
      by_cases hz : l3 = 0
      · have hq : (l3 == 0) = true := by simpa using hz
        have C : Hid (∀ w, Calls Try.prog 8 #[.int .i64 l2, .int .i64 1] w fun en w' => en = .returned (.tuple #[.agg #[.int .i64 x1, .int .i64 y1], .int .i64 e1]) ∧ Below w.heap.size w w') := Lib.hid (fun w => by have := M1.out w; rwa [show ddOf l3 = 1 from if_pos hz] at this)
        clear D hz
        have ll : w.heap.size < wa.heap.size := HMwr.out.lt 2 rfl
        have cl2 : wa.cell? ⟨w.heap.size, 2, none⟩ = some (.int .i64 l2) := HMwr.out.cell 2 rfl rfl
        have cl3 : wa.cell? ⟨w.heap.size, 3, none⟩ = some (.int .i64 l3) := HMwr.out.cell 2 rfl rfl
        go_wp2_with fail
        refine (C.out _).mono ?_
        rintro e wb ⟨rfl, hb⟩
        have HMwb := Lib.hid (HMwr.out.call hb)
        clear hb ll cl2 cl3 HMwr
        clear C hq
        by_cases he : e1 = 0
        · have hq : (e1 == 0) = true := by simpa using he
          have hq2 : (e1 != 0) = false := by simpa using he
          have lo : (w.heap.size + 1 + 1) < wb.heap.size := HMwb.out.lt 0 rfl
          have co0 : wb.cell? ⟨(w.heap.size + 1 + 1), 0, none⟩ = some (.int .i64 x0) := HMwb.out.cell 0 rfl rfl
          have fo0 : wb.frozen? ⟨(w.heap.size + 1 + 1), 0, none⟩ = false := HMwb.out.free 0 rfl 0
          have co1 : wb.cell? ⟨(w.heap.size + 1 + 1), 1, none⟩ = some (.int .i64 y0) := HMwb.out.cell 0 rfl rfl
          have fo1 : wb.frozen? ⟨(w.heap.size + 1 + 1), 1, none⟩ = false := HMwb.out.free 0 rfl 1
          have co2 : wb.cell? ⟨(w.heap.size + 1 + 1), 2, none⟩ = some (.int .i64 0) := HMwb.out.cell 0 rfl rfl
          have fo2 : wb.frozen? ⟨(w.heap.size + 1 + 1), 2, none⟩ = false := HMwb.out.free 0 rfl 2
          have co3 : wb.cell? ⟨(w.heap.size + 1 + 1), 3, none⟩ = some (.int .i64 0) := HMwb.out.cell 0 rfl rfl
          have fo3 : wb.frozen? ⟨(w.heap.size + 1 + 1), 3, none⟩ = false := HMwb.out.free 0 rfl 3
          have co4 : wb.cell? ⟨(w.heap.size + 1 + 1), 4, none⟩ = some (.int .i64 0) := HMwb.out.cell 0 rfl rfl
          have fo4 : wb.frozen? ⟨(w.heap.size + 1 + 1), 4, none⟩ = false := HMwb.out.free 0 rfl 4
          have co5 : wb.cell? ⟨(w.heap.size + 1 + 1), 5, none⟩ = some (.int .i64 0) := HMwb.out.cell 0 rfl rfl
          have fo5 : wb.frozen? ⟨(w.heap.size + 1 + 1), 5, none⟩ = false := HMwb.out.free 0 rfl 5
          have lr : (w.heap.size + 1) < wb.heap.size := HMwb.out.lt 1 rfl
          have ll : w.heap.size < wb.heap.size := HMwb.out.lt 2 rfl
          go_wp2_with fail
          go_roundg 1
          case measure => omega
          case rel => exact ⟨2, by omega, rfl, by go_num, ⟨fun _ => hE.1 (by omega), fun h => he, fun h => absurd h (by omega)⟩, Lib.hid ((((((HMwb.out.set 0 2 (.int .i64 x1) rfl).set 0 3 (.int .i64 y1) rfl).new wb.heap.size _ _ (by simp [World.setCell])).to (l' := [(wb.heap.size, #[.int .i64 x1, .int .i64 y1]), ((w.heap.size + 1 + 1), #[.int .i64 x0, .int .i64 y0, .int .i64 x1, .int .i64 y1, .int .i64 0, .int .i64 0]), ((w.heap.size + 1), #[.int .i64 0, .int .i64 0, .int .i64 0, .int .i64 0, .int .i64 0, .int .i64 0]), (w.heap.size, #[.int .i64 l0, .int .i64 l1, .int .i64 l2, .int .i64 l3, .int .i64 l4, .int .i64 l5])]) rfl).drop).to rfl)⟩
        · have hq : (e1 == 0) = false := by simpa using he
          have hq2 : (e1 != 0) = true := by simpa using he
          have lo : (w.heap.size + 1 + 1) < wb.heap.size := HMwb.out.lt 0 rfl
          have co0 : wb.cell? ⟨(w.heap.size + 1 + 1), 0, none⟩ = some (.int .i64 x0) := HMwb.out.cell 0 rfl rfl
          have co1 : wb.cell? ⟨(w.heap.size + 1 + 1), 1, none⟩ = some (.int .i64 y0) := HMwb.out.cell 0 rfl rfl
          have co2 : wb.cell? ⟨(w.heap.size + 1 + 1), 2, none⟩ = some (.int .i64 0) := HMwb.out.cell 0 rfl rfl
          have co3 : wb.cell? ⟨(w.heap.size + 1 + 1), 3, none⟩ = some (.int .i64 0) := HMwb.out.cell 0 rfl rfl
          have co4 : wb.cell? ⟨(w.heap.size + 1 + 1), 4, none⟩ = some (.int .i64 0) := HMwb.out.cell 0 rfl rfl
          have co5 : wb.cell? ⟨(w.heap.size + 1 + 1), 5, none⟩ = some (.int .i64 0) := HMwb.out.cell 0 rfl rfl
          have lr : (w.heap.size + 1) < wb.heap.size := HMwb.out.lt 1 rfl
          have cr0 : wb.cell? ⟨(w.heap.size + 1), 0, none⟩ = some (.int .i64 0) := HMwb.out.cell 1 rfl rfl
          have fr0 : wb.frozen? ⟨(w.heap.size + 1), 0, none⟩ = false := HMwb.out.free 1 rfl 0
          have cr1 : wb.cell? ⟨(w.heap.size + 1), 1, none⟩ = some (.int .i64 0) := HMwb.out.cell 1 rfl rfl
          have fr1 : wb.frozen? ⟨(w.heap.size + 1), 1, none⟩ = false := HMwb.out.free 1 rfl 1
          have cr2 : wb.cell? ⟨(w.heap.size + 1), 2, none⟩ = some (.int .i64 0) := HMwb.out.cell 1 rfl rfl
          have fr2 : wb.frozen? ⟨(w.heap.size + 1), 2, none⟩ = false := HMwb.out.free 1 rfl 2
          have cr3 : wb.cell? ⟨(w.heap.size + 1), 3, none⟩ = some (.int .i64 0) := HMwb.out.cell 1 rfl rfl
          have fr3 : wb.frozen? ⟨(w.heap.size + 1), 3, none⟩ = false := HMwb.out.free 1 rfl 3
          have cr4 : wb.cell? ⟨(w.heap.size + 1), 4, none⟩ = some (.int .i64 0) := HMwb.out.cell 1 rfl rfl
          have fr4 : wb.frozen? ⟨(w.heap.size + 1), 4, none⟩ = false := HMwb.out.free 1 rfl 4
          have cr5 : wb.cell? ⟨(w.heap.size + 1), 5, none⟩ = some (.int .i64 0) := HMwb.out.cell 1 rfl rfl
          have fr5 : wb.frozen? ⟨(w.heap.size + 1), 5, none⟩ = false := HMwb.out.free 1 rfl 5
          have ll : w.heap.size < wb.heap.size := HMwb.out.lt 2 rfl
          go_wp2_with fail
          exact bodyPost_ret (v := .tuple #[.agg #[.int .i64 x0, .int .i64 y0, .int .i64 0, .int .i64 0, .int .i64 0, .int .i64 0], .bool false]) (by simp [results, Try.results21, go_sem, cr0, cr1, cr2, cr3, cr4, cr5, lr]) rfl ⟨Or.inr ⟨fun h => he h.2.1, _, _, _, _, _, _, rfl⟩, ((((((((HMwb.out.set 1 0 (.int .i64 x0) rfl).set 1 1 (.int .i64 y0) rfl).set 1 2 (.int .i64 0) rfl).set 1 3 (.int .i64 0) rfl).set 1 4 (.int .i64 0) rfl).set 1 5 (.int .i64 0) rfl).new wb.heap.size _ _ (by simp [World.setCell])).to (l' := [(wb.heap.size, #[.int .i64 x1, .int .i64 y1]), ((w.heap.size + 1 + 1), #[.int .i64 x0, .int .i64 y0, .int .i64 0, .int .i64 0, .int .i64 0, .int .i64 0]), ((w.heap.size + 1), #[.int .i64 x0, .int .i64 y0, .int .i64 0, .int .i64 0, .int .i64 0, .int .i64 0]), (w.heap.size, #[.int .i64 l0, .int .i64 l1, .int .i64 l2, .int .i64 l3, .int .i64 l4, .int .i64 l5])]) rfl).low⟩
      · have hq : (l3 == 0) = false := by simpa using hz
        have C : Hid (∀ w, Calls Try.prog 8 #[.int .i64 l2, .int .i64 l3] w fun en w' => en = .returned (.tuple #[.agg #[.int .i64 x1, .int .i64 y1], .int .i64 e1]) ∧ Below w.heap.size w w') := Lib.hid (fun w => by have := M1.out w; rwa [show ddOf l3 = l3 from if_neg hz] at this)
        clear D hz
        have ll : w.heap.size < wa.heap.size := HMwr.out.lt 2 rfl
        have cl2 : wa.cell? ⟨w.heap.size, 2, none⟩ = some (.int .i64 l2) := HMwr.out.cell 2 rfl rfl
        have cl3 : wa.cell? ⟨w.heap.size, 3, none⟩ = some (.int .i64 l3) := HMwr.out.cell 2 rfl rfl
        go_wp2_with fail
        refine (C.out _).mono ?_
        rintro e wb ⟨rfl, hb⟩
        have HMwb := Lib.hid (HMwr.out.call hb)
        clear hb ll cl2 cl3 HMwr
        clear C hq
        by_cases he : e1 = 0
        · have hq : (e1 == 0) = true := by simpa using he
          have hq2 : (e1 != 0) = false := by simpa using he
          have lo : (w.heap.size + 1 + 1) < wb.heap.size := HMwb.out.lt 0 rfl
          have co0 : wb.cell? ⟨(w.heap.size + 1 + 1), 0, none⟩ = some (.int .i64 x0) := HMwb.out.cell 0 rfl rfl
          have fo0 : wb.frozen? ⟨(w.heap.size + 1 + 1), 0, none⟩ = false := HMwb.out.free 0 rfl 0
          have co1 : wb.cell? ⟨(w.heap.size + 1 + 1), 1, none⟩ = some (.int .i64 y0) := HMwb.out.cell 0 rfl rfl
          have fo1 : wb.frozen? ⟨(w.heap.size + 1 + 1), 1, none⟩ = false := HMwb.out.free 0 rfl 1
          have co2 : wb.cell? ⟨(w.heap.size + 1 + 1), 2, none⟩ = some (.int .i64 0) := HMwb.out.cell 0 rfl rfl
          have fo2 : wb.frozen? ⟨(w.heap.size + 1 + 1), 2, none⟩ = false := HMwb.out.free 0 rfl 2
          have co3 : wb.cell? ⟨(w.heap.size + 1 + 1), 3, none⟩ = some (.int .i64 0) := HMwb.out.cell 0 rfl rfl
          have fo3 : wb.frozen? ⟨(w.heap.size + 1 + 1), 3, none⟩ = false := HMwb.out.free 0 rfl 3
          have co4 : wb.cell? ⟨(w.heap.size + 1 + 1), 4, none⟩ = some (.int .i64 0) := HMwb.out.cell 0 rfl rfl
          have fo4 : wb.frozen? ⟨(w.heap.size + 1 + 1), 4, none⟩ = false := HMwb.out.free 0 rfl 4
          have co5 : wb.cell? ⟨(w.heap.size + 1 + 1), 5, none⟩ = some (.int .i64 0) := HMwb.out.cell 0 rfl rfl
          have fo5 : wb.frozen? ⟨(w.heap.size + 1 + 1), 5, none⟩ = false := HMwb.out.free 0 rfl 5
          have lr : (w.heap.size + 1) < wb.heap.size := HMwb.out.lt 1 rfl
          have ll : w.heap.size < wb.heap.size := HMwb.out.lt 2 rfl
          go_wp2_with fail
          go_roundg 1
          case measure => omega
          case rel => exact ⟨2, by omega, rfl, by go_num, ⟨fun _ => hE.1 (by omega), fun h => he, fun h => absurd h (by omega)⟩, Lib.hid ((((((HMwb.out.set 0 2 (.int .i64 x1) rfl).set 0 3 (.int .i64 y1) rfl).new wb.heap.size _ _ (by simp [World.setCell])).to (l' := [(wb.heap.size, #[.int .i64 x1, .int .i64 y1]), ((w.heap.size + 1 + 1), #[.int .i64 x0, .int .i64 y0, .int .i64 x1, .int .i64 y1, .int .i64 0, .int .i64 0]), ((w.heap.size + 1), #[.int .i64 0, .int .i64 0, .int .i64 0, .int .i64 0, .int .i64 0, .int .i64 0]), (w.heap.size, #[.int .i64 l0, .int .i64 l1, .int .i64 l2, .int .i64 l3, .int .i64 l4, .int .i64 l5])]) rfl).drop).to rfl)⟩
        · have hq : (e1 == 0) = false := by simpa using he
          have hq2 : (e1 != 0) = true := by simpa using he
          have lo : (w.heap.size + 1 + 1) < wb.heap.size := HMwb.out.lt 0 rfl
          have co0 : wb.cell? ⟨(w.heap.size + 1 + 1), 0, none⟩ = some (.int .i64 x0) := HMwb.out.cell 0 rfl rfl
          have co1 : wb.cell? ⟨(w.heap.size + 1 + 1), 1, none⟩ = some (.int .i64 y0) := HMwb.out.cell 0 rfl rfl
          have co2 : wb.cell? ⟨(w.heap.size + 1 + 1), 2, none⟩ = some (.int .i64 0) := HMwb.out.cell 0 rfl rfl
          have co3 : wb.cell? ⟨(w.heap.size + 1 + 1), 3, none⟩ = some (.int .i64 0) := HMwb.out.cell 0 rfl rfl
          have co4 : wb.cell? ⟨(w.heap.size + 1 + 1), 4, none⟩ = some (.int .i64 0) := HMwb.out.cell 0 rfl rfl
          have co5 : wb.cell? ⟨(w.heap.size + 1 + 1), 5, none⟩ = some (.int .i64 0) := HMwb.out.cell 0 rfl rfl
          have lr : (w.heap.size + 1) < wb.heap.size := HMwb.out.lt 1 rfl
          have cr0 : wb.cell? ⟨(w.heap.size + 1), 0, none⟩ = some (.int .i64 0) := HMwb.out.cell 1 rfl rfl
          have fr0 : wb.frozen? ⟨(w.heap.size + 1), 0, none⟩ = false := HMwb.out.free 1 rfl 0
          have cr1 : wb.cell? ⟨(w.heap.size + 1), 1, none⟩ = some (.int .i64 0) := HMwb.out.cell 1 rfl rfl
          have fr1 : wb.frozen? ⟨(w.heap.size + 1), 1, none⟩ = false := HMwb.out.free 1 rfl 1
          have cr2 : wb.cell? ⟨(w.heap.size + 1), 2, none⟩ = some (.int .i64 0) := HMwb.out.cell 1 rfl rfl
          have fr2 : wb.frozen? ⟨(w.heap.size + 1), 2, none⟩ = false := HMwb.out.free 1 rfl 2
          have cr3 : wb.cell? ⟨(w.heap.size + 1), 3, none⟩ = some (.int .i64 0) := HMwb.out.cell 1 rfl rfl
          have fr3 : wb.frozen? ⟨(w.heap.size + 1), 3, none⟩ = false := HMwb.out.free 1 rfl 3
          have cr4 : wb.cell? ⟨(w.heap.size + 1), 4, none⟩ = some (.int .i64 0) := HMwb.out.cell 1 rfl rfl
          have fr4 : wb.frozen? ⟨(w.heap.size + 1), 4, none⟩ = false := HMwb.out.free 1 rfl 4
          have cr5 : wb.cell? ⟨(w.heap.size + 1), 5, none⟩ = some (.int .i64 0) := HMwb.out.cell 1 rfl rfl
          have fr5 : wb.frozen? ⟨(w.heap.size + 1), 5, none⟩ = false := HMwb.out.free 1 rfl 5
          have ll : w.heap.size < wb.heap.size := HMwb.out.lt 2 rfl
          go_wp2_with fail
          exact bodyPost_ret (v := .tuple #[.agg #[.int .i64 x0, .int .i64 y0, .int .i64 0, .int .i64 0, .int .i64 0, .int .i64 0], .bool false]) (by simp [results, Try.results21, go_sem, cr0, cr1, cr2, cr3, cr4, cr5, lr]) rfl ⟨Or.inr ⟨fun h => he h.2.1, _, _, _, _, _, _, rfl⟩, ((((((((HMwb.out.set 1 0 (.int .i64 x0) rfl).set 1 1 (.int .i64 y0) rfl).set 1 2 (.int .i64 0) rfl).set 1 3 (.int .i64 0) rfl).set 1 4 (.int .i64 0) rfl).set 1 5 (.int .i64 0) rfl).new wb.heap.size _ _ (by simp [World.setCell])).to (l' := [(wb.heap.size, #[.int .i64 x1, .int .i64 y1]), ((w.heap.size + 1 + 1), #[.int .i64 x0, .int .i64 y0, .int .i64 0, .int .i64 0, .int .i64 0, .int .i64 0]), ((w.heap.size + 1), #[.int .i64 x0, .int .i64 y0, .int .i64 0, .int .i64 0, .int .i64 0, .int .i64 0]), (w.heap.size, #[.int .i64 l0, .int .i64 l1, .int .i64 l2, .int .i64 l3, .int .i64 l4, .int .i64 l5])]) rfl).low⟩
    · have HMwr : Hid (Mem w wa [((w.heap.size + 1 + 1), #[.int .i64 x0, .int .i64 y0, .int .i64 x1, .int .i64 y1, .int .i64 0, .int .i64 0]), ((w.heap.size + 1), #[.int .i64 0, .int .i64 0, .int .i64 0, .int .i64 0, .int .i64 0, .int .i64 0]), (w.heap.size, #[.int .i64 l0, .int .i64 l1, .int .i64 l2, .int .i64 l3, .int .i64 l4, .int .i64 l5])]) := HMwr
      have D : Hid (Mem w wa [((w.heap.size + 1 + 1), #[.int .i64 x0, .int .i64 y0, .int .i64 x1, .int .i64 y1, .int .i64 0, .int .i64 0]), ((w.heap.size + 1), #[.int .i64 0, .int .i64 0, .int .i64 0, .int .i64 0, .int .i64 0, .int .i64 0]), (w.heap.size, #[.int .i64 l0, .int .i64 l1, .int .i64 l2, .int .i64 l3, .int .i64 l4, .int .i64 l5])]) := HMwr
      by_cases hz : l5 = 0
      · have hq : (l5 == 0) = true := by simpa using hz
        have C : Hid (∀ w, Calls Try.prog 8 #[.int .i64 l4, .int .i64 1] w fun en w' => en = .returned (.tuple #[.agg #[.int .i64 x2, .int .i64 y2], .int .i64 e2]) ∧ Below w.heap.size w w') := Lib.hid (fun w => by have := M2.out w; rwa [show ddOf l5 = 1 from if_pos hz] at this)
        clear D hz
        have ll : w.heap.size < wa.heap.size := HMwr.out.lt 2 rfl
        have cl4 : wa.cell? ⟨w.heap.size, 4, none⟩ = some (.int .i64 l4) := HMwr.out.cell 2 rfl rfl
        have cl5 : wa.cell? ⟨w.heap.size, 5, none⟩ = some (.int .i64 l5) := HMwr.out.cell 2 rfl rfl
        go_wp2_with fail
        refine (C.out _).mono ?_
        rintro e wb ⟨rfl, hb⟩
        have HMwb := Lib.hid (HMwr.out.call hb)
        clear hb ll cl4 cl5 HMwr
        clear C hq
        by_cases he : e2 = 0
        · have hq : (e2 == 0) = true := by simpa using he
          have hq2 : (e2 != 0) = false := by simpa using he
          have lo : (w.heap.size + 1 + 1) < wb.heap.size := HMwb.out.lt 0 rfl
          have co0 : wb.cell? ⟨(w.heap.size + 1 + 1), 0, none⟩ = some (.int .i64 x0) := HMwb.out.cell 0 rfl rfl
          have fo0 : wb.frozen? ⟨(w.heap.size + 1 + 1), 0, none⟩ = false := HMwb.out.free 0 rfl 0
          have co1 : wb.cell? ⟨(w.heap.size + 1 + 1), 1, none⟩ = some (.int .i64 y0) := HMwb.out.cell 0 rfl rfl
          have fo1 : wb.frozen? ⟨(w.heap.size + 1 + 1), 1, none⟩ = false := HMwb.out.free 0 rfl 1
          have co2 : wb.cell? ⟨(w.heap.size + 1 + 1), 2, none⟩ = some (.int .i64 x1) := HMwb.out.cell 0 rfl rfl
          have fo2 : wb.frozen? ⟨(w.heap.size + 1 + 1), 2, none⟩ = false := HMwb.out.free 0 rfl 2
          have co3 : wb.cell? ⟨(w.heap.size + 1 + 1), 3, none⟩ = some (.int .i64 y1) := HMwb.out.cell 0 rfl rfl
          have fo3 : wb.frozen? ⟨(w.heap.size + 1 + 1), 3, none⟩ = false := HMwb.out.free 0 rfl 3
          have co4 : wb.cell? ⟨(w.heap.size + 1 + 1), 4, none⟩ = some (.int .i64 0) := HMwb.out.cell 0 rfl rfl
          have fo4 : wb.frozen? ⟨(w.heap.size + 1 + 1), 4, none⟩ = false := HMwb.out.free 0 rfl 4
          have co5 : wb.cell? ⟨(w.heap.size + 1 + 1), 5, none⟩ = some (.int .i64 0) := HMwb.out.cell 0 rfl rfl
          have fo5 : wb.frozen? ⟨(w.heap.size + 1 + 1), 5, none⟩ = false := HMwb.out.free 0 rfl 5
          have lr : (w.heap.size + 1) < wb.heap.size := HMwb.out.lt 1 rfl
          have ll : w.heap.size < wb.heap.size := HMwb.out.lt 2 rfl
          go_wp2_with fail
          go_roundg 0
          case measure => omega
          case rel => exact ⟨3, by omega, rfl, by go_num, ⟨fun _ => hE.1 (by omega), fun h => hE.2.1 (by omega), fun h => he⟩, Lib.hid ((((((HMwb.out.set 0 4 (.int .i64 x2) rfl).set 0 5 (.int .i64 y2) rfl).new wb.heap.size _ _ (by simp [World.setCell])).to (l' := [(wb.heap.size, #[.int .i64 x2, .int .i64 y2]), ((w.heap.size + 1 + 1), #[.int .i64 x0, .int .i64 y0, .int .i64 x1, .int .i64 y1, .int .i64 x2, .int .i64 y2]), ((w.heap.size + 1), #[.int .i64 0, .int .i64 0, .int .i64 0, .int .i64 0, .int .i64 0, .int .i64 0]), (w.heap.size, #[.int .i64 l0, .int .i64 l1, .int .i64 l2, .int .i64 l3, .int .i64 l4, .int .i64 l5])]) rfl).drop).to rfl)⟩
        · have hq : (e2 == 0) = false := by simpa using he
          have hq2 : (e2 != 0) = true := by simpa using he
          have lo : (w.heap.size + 1 + 1) < wb.heap.size := HMwb.out.lt 0 rfl
          have co0 : wb.cell? ⟨(w.heap.size + 1 + 1), 0, none⟩ = some (.int .i64 x0) := HMwb.out.cell 0 rfl rfl
          have co1 : wb.cell? ⟨(w.heap.size + 1 + 1), 1, none⟩ = some (.int .i64 y0) := HMwb.out.cell 0 rfl rfl
          have co2 : wb.cell? ⟨(w.heap.size + 1 + 1), 2, none⟩ = some (.int .i64 x1) := HMwb.out.cell 0 rfl rfl
          have co3 : wb.cell? ⟨(w.heap.size + 1 + 1), 3, none⟩ = some (.int .i64 y1) := HMwb.out.cell 0 rfl rfl
          have co4 : wb.cell? ⟨(w.heap.size + 1 + 1), 4, none⟩ = some (.int .i64 0) := HMwb.out.cell 0 rfl rfl
          have co5 : wb.cell? ⟨(w.heap.size + 1 + 1), 5, none⟩ = some (.int .i64 0) := HMwb.out.cell 0 rfl rfl
          have lr : (w.heap.size + 1) < wb.heap.size := HMwb.out.lt 1 rfl
          have cr0 : wb.cell? ⟨(w.heap.size + 1), 0, none⟩ = some (.int .i64 0) := HMwb.out.cell 1 rfl rfl
          have fr0 : wb.frozen? ⟨(w.heap.size + 1), 0, none⟩ = false := HMwb.out.free 1 rfl 0
          have cr1 : wb.cell? ⟨(w.heap.size + 1), 1, none⟩ = some (.int .i64 0) := HMwb.out.cell 1 rfl rfl
          have fr1 : wb.frozen? ⟨(w.heap.size + 1), 1, none⟩ = false := HMwb.out.free 1 rfl 1
          have cr2 : wb.cell? ⟨(w.heap.size + 1), 2, none⟩ = some (.int .i64 0) := HMwb.out.cell 1 rfl rfl
          have fr2 : wb.frozen? ⟨(w.heap.size + 1), 2, none⟩ = false := HMwb.out.free 1 rfl 2
          have cr3 : wb.cell? ⟨(w.heap.size + 1), 3, none⟩ = some (.int .i64 0) := HMwb.out.cell 1 rfl rfl
          have fr3 : wb.frozen? ⟨(w.heap.size + 1), 3, none⟩ = false := HMwb.out.free 1 rfl 3
          have cr4 : wb.cell? ⟨(w.heap.size + 1), 4, none⟩ = some (.int .i64 0) := HMwb.out.cell 1 rfl rfl
          have fr4 : wb.frozen? ⟨(w.heap.size + 1), 4, none⟩ = false := HMwb.out.free 1 rfl 4
          have cr5 : wb.cell? ⟨(w.heap.size + 1), 5, none⟩ = some (.int .i64 0) := HMwb.out.cell 1 rfl rfl
          have fr5 : wb.frozen? ⟨(w.heap.size + 1), 5, none⟩ = false := HMwb.out.free 1 rfl 5
          have ll : w.heap.size < wb.heap.size := HMwb.out.lt 2 rfl
          go_wp2_with fail
          exact bodyPost_ret (v := .tuple #[.agg #[.int .i64 x0, .int .i64 y0, .int .i64 x1, .int .i64 y1, .int .i64 0, .int .i64 0], .bool false]) (by simp [results, Try.results21, go_sem, cr0, cr1, cr2, cr3, cr4, cr5, lr]) rfl ⟨Or.inr ⟨fun h => he h.2.2, _, _, _, _, _, _, rfl⟩, ((((((((HMwb.out.set 1 0 (.int .i64 x0) rfl).set 1 1 (.int .i64 y0) rfl).set 1 2 (.int .i64 x1) rfl).set 1 3 (.int .i64 y1) rfl).set 1 4 (.int .i64 0) rfl).set 1 5 (.int .i64 0) rfl).new wb.heap.size _ _ (by simp [World.setCell])).to (l' := [(wb.heap.size, #[.int .i64 x2, .int .i64 y2]), ((w.heap.size + 1 + 1), #[.int .i64 x0, .int .i64 y0, .int .i64 x1, .int .i64 y1, .int .i64 0, .int .i64 0]), ((w.heap.size + 1), #[.int .i64 x0, .int .i64 y0, .int .i64 x1, .int .i64 y1, .int .i64 0, .int .i64 0]), (w.heap.size, #[.int .i64 l0, .int .i64 l1, .int .i64 l2, .int .i64 l3, .int .i64 l4, .int .i64 l5])]) rfl).low⟩
      · have hq : (l5 == 0) = false := by simpa using hz
        have C : Hid (∀ w, Calls Try.prog 8 #[.int .i64 l4, .int .i64 l5] w fun en w' => en = .returned (.tuple #[.agg #[.int .i64 x2, .int .i64 y2], .int .i64 e2]) ∧ Below w.heap.size w w') := Lib.hid (fun w => by have := M2.out w; rwa [show ddOf l5 = l5 from if_neg hz] at this)
        clear D hz
        have ll : w.heap.size < wa.heap.size := HMwr.out.lt 2 rfl
        have cl4 : wa.cell? ⟨w.heap.size, 4, none⟩ = some (.int .i64 l4) := HMwr.out.cell 2 rfl rfl
        have cl5 : wa.cell? ⟨w.heap.size, 5, none⟩ = some (.int .i64 l5) := HMwr.out.cell 2 rfl rfl
        go_wp2_with fail
        refine (C.out _).mono ?_
        rintro e wb ⟨rfl, hb⟩
        have HMwb := Lib.hid (HMwr.out.call hb)
        clear hb ll cl4 cl5 HMwr
        clear C hq
        by_cases he : e2 = 0
        · have hq : (e2 == 0) = true := by simpa using he
          have hq2 : (e2 != 0) = false := by simpa using he
          have lo : (w.heap.size + 1 + 1) < wb.heap.size := HMwb.out.lt 0 rfl
          have co0 : wb.cell? ⟨(w.heap.size + 1 + 1), 0, none⟩ = some (.int .i64 x0) := HMwb.out.cell 0 rfl rfl
          have fo0 : wb.frozen? ⟨(w.heap.size + 1 + 1), 0, none⟩ = false := HMwb.out.free 0 rfl 0
          have co1 : wb.cell? ⟨(w.heap.size + 1 + 1), 1, none⟩ = some (.int .i64 y0) := HMwb.out.cell 0 rfl rfl
          have fo1 : wb.frozen? ⟨(w.heap.size + 1 + 1), 1, none⟩ = false := HMwb.out.free 0 rfl 1
          have co2 : wb.cell? ⟨(w.heap.size + 1 + 1), 2, none⟩ = some (.int .i64 x1) := HMwb.out.cell 0 rfl rfl
          have fo2 : wb.frozen? ⟨(w.heap.size + 1 + 1), 2, none⟩ = false := HMwb.out.free 0 rfl 2
          have co3 : wb.cell? ⟨(w.heap.size + 1 + 1), 3, none⟩ = some (.int .i64 y1) := HMwb.out.cell 0 rfl rfl
          have fo3 : wb.frozen? ⟨(w.heap.size + 1 + 1), 3, none⟩ = false := HMwb.out.free 0 rfl 3
          have co4 : wb.cell? ⟨(w.heap.size + 1 + 1), 4, none⟩ = some (.int .i64 0) := HMwb.out.cell 0 rfl rfl
          have fo4 : wb.frozen? ⟨(w.heap.size + 1 + 1), 4, none⟩ = false := HMwb.out.free 0 rfl 4
          have co5 : wb.cell? ⟨(w.heap.size + 1 + 1), 5, none⟩ = some (.int .i64 0) := HMwb.out.cell 0 rfl rfl
          have fo5 : wb.frozen? ⟨(w.heap.size + 1 + 1), 5, none⟩ = false := HMwb.out.free 0 rfl 5
          have lr : (w.heap.size + 1) < wb.heap.size := HMwb.out.lt 1 rfl
          have ll : w.heap.size < wb.heap.size := HMwb.out.lt 2 rfl
          go_wp2_with fail
          go_roundg 0
          case measure => omega
          case rel => exact ⟨3, by omega, rfl, by go_num, ⟨fun _ => hE.1 (by omega), fun h => hE.2.1 (by omega), fun h => he⟩, Lib.hid ((((((HMwb.out.set 0 4 (.int .i64 x2) rfl).set 0 5 (.int .i64 y2) rfl).new wb.heap.size _ _ (by simp [World.setCell])).to (l' := [(wb.heap.size, #[.int .i64 x2, .int .i64 y2]), ((w.heap.size + 1 + 1), #[.int .i64 x0, .int .i64 y0, .int .i64 x1, .int .i64 y1, .int .i64 x2, .int .i64 y2]), ((w.heap.size + 1), #[.int .i64 0, .int .i64 0, .int .i64 0, .int .i64 0, .int .i64 0, .int .i64 0]), (w.heap.size, #[.int .i64 l0, .int .i64 l1, .int .i64 l2, .int .i64 l3, .int .i64 l4, .int .i64 l5])]) rfl).drop).to rfl)⟩
        · have hq : (e2 == 0) = false := by simpa using he
          have hq2 : (e2 != 0) = true := by simpa using he
          have lo : (w.heap.size + 1 + 1) < wb.heap.size := HMwb.out.lt 0 rfl
          have co0 : wb.cell? ⟨(w.heap.size + 1 + 1), 0, none⟩ = some (.int .i64 x0) := HMwb.out.cell 0 rfl rfl
          have co1 : wb.cell? ⟨(w.heap.size + 1 + 1), 1, none⟩ = some (.int .i64 y0) := HMwb.out.cell 0 rfl rfl
          have co2 : wb.cell? ⟨(w.heap.size + 1 + 1), 2, none⟩ = some (.int .i64 x1) := HMwb.out.cell 0 rfl rfl
          have co3 : wb.cell? ⟨(w.heap.size + 1 + 1), 3, none⟩ = some (.int .i64 y1) := HMwb.out.cell 0 rfl rfl
          have co4 : wb.cell? ⟨(w.heap.size + 1 + 1), 4, none⟩ = some (.int .i64 0) := HMwb.out.cell 0 rfl rfl
          have co5 : wb.cell? ⟨(w.heap.size + 1 + 1), 5, none⟩ = some (.int .i64 0) := HMwb.out.cell 0 rfl rfl
          have lr : (w.heap.size + 1) < wb.heap.size := HMwb.out.lt 1 rfl
          have cr0 : wb.cell? ⟨(w.heap.size + 1), 0, none⟩ = some (.int .i64 0) := HMwb.out.cell 1 rfl rfl
          have fr0 : wb.frozen? ⟨(w.heap.size + 1), 0, none⟩ = false := HMwb.out.free 1 rfl 0
          have cr1 : wb.cell? ⟨(w.heap.size + 1), 1, none⟩ = some (.int .i64 0) := HMwb.out.cell 1 rfl rfl
          have fr1 : wb.frozen? ⟨(w.heap.size + 1), 1, none⟩ = false := HMwb.out.free 1 rfl 1
          have cr2 : wb.cell? ⟨(w.heap.size + 1), 2, none⟩ = some (.int .i64 0) := HMwb.out.cell 1 rfl rfl
          have fr2 : wb.frozen? ⟨(w.heap.size + 1), 2, none⟩ = false := HMwb.out.free 1 rfl 2
          have cr3 : wb.cell? ⟨(w.heap.size + 1), 3, none⟩ = some (.int .i64 0) := HMwb.out.cell 1 rfl rfl
          have fr3 : wb.frozen? ⟨(w.heap.size + 1), 3, none⟩ = false := HMwb.out.free 1 rfl 3
          have cr4 : wb.cell? ⟨(w.heap.size + 1), 4, none⟩ = some (.int .i64 0) := HMwb.out.cell 1 rfl rfl
          have fr4 : wb.frozen? ⟨(w.heap.size + 1), 4, none⟩ = false := HMwb.out.free 1 rfl 4
          have cr5 : wb.cell? ⟨(w.heap.size + 1), 5, none⟩ = some (.int .i64 0) := HMwb.out.cell 1 rfl rfl
          have fr5 : wb.frozen? ⟨(w.heap.size + 1), 5, none⟩ = false := HMwb.out.free 1 rfl 5
          have ll : w.heap.size < wb.heap.size := HMwb.out.lt 2 rfl
          go_wp2_with fail
          exact bodyPost_ret (v := .tuple #[.agg #[.int .i64 x0, .int .i64 y0, .int .i64 x1, .int .i64 y1, .int .i64 0, .int .i64 0], .bool false]) (by simp [results, Try.results21, go_sem, cr0, cr1, cr2, cr3, cr4, cr5, lr]) rfl ⟨Or.inr ⟨fun h => he h.2.2, _, _, _, _, _, _, rfl⟩, ((((((((HMwb.out.set 1 0 (.int .i64 x0) rfl).set 1 1 (.int .i64 y0) rfl).set 1 2 (.int .i64 x1) rfl).set 1 3 (.int .i64 y1) rfl).set 1 4 (.int .i64 0) rfl).set 1 5 (.int .i64 0) rfl).new wb.heap.size _ _ (by simp [World.setCell])).to (l' := [(wb.heap.size, #[.int .i64 x2, .int .i64 y2]), ((w.heap.size + 1 + 1), #[.int .i64 x0, .int .i64 y0, .int .i64 x1, .int .i64 y1, .int .i64 0, .int .i64 0]), ((w.heap.size + 1), #[.int .i64 x0, .int .i64 y0, .int .i64 x1, .int .i64 y1, .int .i64 0, .int .i64 0]), (w.heap.size, #[.int .i64 l0, .int .i64 l1, .int .i64 l2, .int .i64 l3, .int .i64 l4, .int .i64 l5])]) rfl).low⟩
    · have HMwr : Hid (Mem w wa [((w.heap.size + 1 + 1), #[.int .i64 x0, .int .i64 y0, .int .i64 x1, .int .i64 y1, .int .i64 x2, .int .i64 y2]), ((w.heap.size + 1), #[.int .i64 0, .int .i64 0, .int .i64 0, .int .i64 0, .int .i64 0, .int .i64 0]), (w.heap.size, #[.int .i64 l0, .int .i64 l1, .int .i64 l2, .int .i64 l3, .int .i64 l4, .int .i64 l5])]) := HMwr
      have lo : (w.heap.size + 1 + 1) < wa.heap.size := HMwr.out.lt 0 rfl
      have co0 : wa.cell? ⟨(w.heap.size + 1 + 1), 0, none⟩ = some (.int .i64 x0) := HMwr.out.cell 0 rfl rfl
      have co1 : wa.cell? ⟨(w.heap.size + 1 + 1), 1, none⟩ = some (.int .i64 y0) := HMwr.out.cell 0 rfl rfl
      have co2 : wa.cell? ⟨(w.heap.size + 1 + 1), 2, none⟩ = some (.int .i64 x1) := HMwr.out.cell 0 rfl rfl
      have co3 : wa.cell? ⟨(w.heap.size + 1 + 1), 3, none⟩ = some (.int .i64 y1) := HMwr.out.cell 0 rfl rfl
      have co4 : wa.cell? ⟨(w.heap.size + 1 + 1), 4, none⟩ = some (.int .i64 x2) := HMwr.out.cell 0 rfl rfl
      have co5 : wa.cell? ⟨(w.heap.size + 1 + 1), 5, none⟩ = some (.int .i64 y2) := HMwr.out.cell 0 rfl rfl
      have lr : (w.heap.size + 1) < wa.heap.size := HMwr.out.lt 1 rfl
      have cr0 : wa.cell? ⟨(w.heap.size + 1), 0, none⟩ = some (.int .i64 0) := HMwr.out.cell 1 rfl rfl
      have fr0 : wa.frozen? ⟨(w.heap.size + 1), 0, none⟩ = false := HMwr.out.free 1 rfl 0
      have cr1 : wa.cell? ⟨(w.heap.size + 1), 1, none⟩ = some (.int .i64 0) := HMwr.out.cell 1 rfl rfl
      have fr1 : wa.frozen? ⟨(w.heap.size + 1), 1, none⟩ = false := HMwr.out.free 1 rfl 1
      have cr2 : wa.cell? ⟨(w.heap.size + 1), 2, none⟩ = some (.int .i64 0) := HMwr.out.cell 1 rfl rfl
      have fr2 : wa.frozen? ⟨(w.heap.size + 1), 2, none⟩ = false := HMwr.out.free 1 rfl 2
      have cr3 : wa.cell? ⟨(w.heap.size + 1), 3, none⟩ = some (.int .i64 0) := HMwr.out.cell 1 rfl rfl
      have fr3 : wa.frozen? ⟨(w.heap.size + 1), 3, none⟩ = false := HMwr.out.free 1 rfl 3
      have cr4 : wa.cell? ⟨(w.heap.size + 1), 4, none⟩ = some (.int .i64 0) := HMwr.out.cell 1 rfl rfl
      have fr4 : wa.frozen? ⟨(w.heap.size + 1), 4, none⟩ = false := HMwr.out.free 1 rfl 4
      have cr5 : wa.cell? ⟨(w.heap.size + 1), 5, none⟩ = some (.int .i64 0) := HMwr.out.cell 1 rfl rfl
      have fr5 : wa.frozen? ⟨(w.heap.size + 1), 5, none⟩ = false := HMwr.out.free 1 rfl 5
      go_wp2_with fail
      exact bodyPost_ret (v := .tuple #[.agg #[.int .i64 x0, .int .i64 y0, .int .i64 x1, .int .i64 y1, .int .i64 x2, .int .i64 y2], .bool true]) (by simp [results, Try.results21, go_sem, cr0, cr1, cr2, cr3, cr4, cr5]) rfl ⟨Or.inl ⟨hE.1 (by omega), hE.2.1 (by omega), hE.2.2 (by omega), rfl⟩, (((((((HMwr.out.set 1 0 (.int .i64 x0) rfl).set 1 1 (.int .i64 y0) rfl).set 1 2 (.int .i64 x1) rfl).set 1 3 (.int .i64 y1) rfl).set 1 4 (.int .i64 x2) rfl).set 1 5 (.int .i64 y2) rfl).to (l' := [((w.heap.size + 1 + 1), #[.int .i64 x0, .int .i64 y0, .int .i64 x1, .int .i64 y1, .int .i64 x2, .int .i64 y2]), ((w.heap.size + 1), #[.int .i64 x0, .int .i64 y0, .int .i64 x1, .int .i64 y1, .int .i64 x2, .int .i64 y2]), (w.heap.size, #[.int .i64 l0, .int .i64 l1, .int .i64 l2, .int .i64 l3, .int .i64 l4, .int .i64 l5])]) rfl).low⟩
end Go.Proofs.Ytjnebbjjabnipaa
