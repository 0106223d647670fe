/- The reference of stage 13: Classes. -/
import Derived.Test.YtjonpcpcokapkaaZonAH
import Derived.Test.YtjonpcpcokapkaaApI
namespace Go.Proofs.Ytjonpcpcokapkaa
open Go.RowKit

def clsL (m : Int) (j : Nat) : List Int := (([-4, -3, -2, -1, 0, 1, 2, 3, 4] : List Int).take j).filter (bitB m)
theorem clsL_all (m : Int) : clsL m 9 = classesN m := rfl
theorem clsL_step (m : Int) (j : Nat) (hj : j < 9) : clsL m (j + 1) = clsL m j ++ (if bitB m ((j : Int) - 4) = true then [(j : Int) - 4] else []) := by
  have e : ∀ k : Fin 9, (([-4, -3, -2, -1, 0, 1, 2, 3, 4] : List Int).take (k.val + 1)) = ([-4, -3, -2, -1, 0, 1, 2, 3, 4] : List Int).take k.val ++ [(k.val : Int) - 4] := by decide
  have := e ⟨j, hj⟩
  unfold clsL
  dsimp only at this
  rw [this, List.filter_append]
  congr 1
  by_cases c : bitB m ((j : Int) - 4) = true
  · rw [if_pos c, List.filter_cons_of_pos c]; rfl
  · rw [if_neg c, List.filter_cons_of_neg c]; rfl
theorem clsL_len (m : Int) (j : Nat) : (clsL m j).length ≤ 9 := by
  unfold clsL
  exact Nat.le_trans (List.length_filter_le _ _) (by rw [List.length_take]; exact Nat.min_le_right _ _)
def ClsRel (m : Int) (w : World) (av cv : Value) (wr : World) : Prop := ∃ j : Nat, j ≤ 9 ∧ cv = .int .i64 ((j : Int) - 4) ∧ IRow w.heap.size av (clsL m j) wr ∧ Below w.heap.size w wr
set_option linter.unusedSimpArgs false in
set_option maxHeartbeats 2000000 in
set_option maxRecDepth 100000 in
theorem rclasses13_any (m : Int) (w : World) :
    Calls Try.prog 31 #[.int .i64 m] w fun e w' => ∃ v', e = .returned v' ∧ IRow w.heap.size v' (classesN m) w' ∧ Below w.heap.size w w' := by
  rw [← clsL_all]
  have HS := Lib.hid (show ClsRel m w (.slice (some ⟨w.heap.size, 0, none⟩) 0 0) (.int .i64 (-4)) (w.alloc (.cells #[] 3)) from ⟨0, by omega, rfl, IRow.made w, (Below.refl _ _).alloc (Nat.le_refl _) _⟩)
  go_enter Try.func31, Try.ntmps31
  go_wp2
  go_loopw [3, 4] (ClsRel m w) (fun _ c _ => (5 - intOf c).toNat)
  case atStart => exact HS.out
  case round =>
    obtain ⟨j, hj, rfl, hrow, hb⟩ := hrel
    have HROW := Lib.hid hrow
    have HB := Lib.hid hb
    have hsz := hb.size
    clear hrow hb
    by_cases hl : j < 9
    · have g1 : (j : Int) - 4 ≤ 4 := by omega
      have hcall := rhas13_any m ((j : Int) - 4) wr
      have hst := clsL_step m j hl
      have hln := clsL_len m j
      obtain ⟨acc, hacc⟩ : ∃ acc, clsL m j = acc := ⟨_, rfl⟩
      rw [hacc] at HROW hst hln
      have HST := Lib.hid hst
      cases hX : bitB m ((j : Int) - 4) with
      | true =>
        rw [hX] at hcall HST
        have HCALL := Lib.hid hcall
        rw [if_pos rfl] at HST
        have HO := Lib.hid (ReadsI.one wr ((j : Int) - 4))
        have HWA := Lib.hid (HROW.out.alloc (.cells #[.int .i64 ((j : Int) - 4)] 3))
        have hsa : (wr.alloc (.cells #[.int .i64 ((j : Int) - 4)] 3)).heap.size = wr.heap.size + 1 := by simp
        have HSA := Lib.hid hsa
        have HBA := Lib.hid (HB.out.alloc hsz (.cells #[.int .i64 ((j : Int) - 4)] 3))
        clear hcall hst hacc hX hsa
        go_wp2_with fail
        refine HCALL.out.mono ?_
        rintro e w2 ⟨rfl, rfl⟩
        go_wp2_with (at_builtin; refine wpList_append_ints rfl (.tmp 13) (.tmp 15) rfl w.heap.size _ acc [(j : Int) - 4] rfl HWA.out (some ⟨wr.heap.size, 0, none⟩) 1 1 rfl HO.out (by show _ + 1 ≤ _; omega) (by rw [HSA.out]; omega) ?_)
        intro v' w2 hi2 hg2
        have HQ := Lib.hid (show ClsRel m w v' (.int .i64 ((j : Int) - 4 + 1)) w2 from ⟨j + 1, by omega, by congr 1; omega, by rw [HST.out]; exact hi2, HBA.out.grown hg2 (by rw [HSA.out]; omega) (fun k hk => (HWA.out.lt' k hk).1)⟩)
        clear hi2 hg2
        go_wp2
        go_roundw
        case rel => exact HQ.out
        case measure => simp [intOf]; omega
      | false =>
        rw [hX] at hcall HST
        have HCALL := Lib.hid hcall
        rw [if_neg (by decide), List.append_nil] at HST
        have HQ := Lib.hid (show ∀ u, IRow w.heap.size u acc wr → ClsRel m w u (.int .i64 ((j : Int) - 4 + 1)) wr from fun u hu => ⟨j + 1, by omega, by congr 1; omega, by rw [HST.out]; exact hu, HB.out⟩)
        clear hcall hst hacc hX
        go_wp2_with fail
        refine HCALL.out.mono ?_
        rintro e w2 ⟨rfl, rfl⟩
        go_wp2
        go_roundw
        case rel => exact HQ.out _ HROW.out
        case measure => simp [intOf]; omega
    · obtain rfl : j = 9 := by omega
      go_wp2
      go_ret
      exact ⟨_, rfl, HROW.out, HB.out⟩
end Go.Proofs.Ytjonpcpcokapkaa
