/- zone.Ends: the least and the greatest class of a mask. -/
import Derived.Test.YtjonpcpcokapkaaZonGH
import Derived.OwnWalk
namespace Go.Proofs.Ytjonpcpcokapkaa
open Go.RowKit

def endLo (m : Int) : Nat → Int
  | 0 => 4
  | j + 1 => if bitB m ((j : Int) - 4) = true then min (endLo m j) ((j : Int) - 4) else endLo m j
def endHi (m : Int) : Nat → Int
  | 0 => -4
  | j + 1 => if bitB m ((j : Int) - 4) = true then max (endHi m j) ((j : Int) - 4) else endHi m j
theorem endLo_bounds (m : Int) : ∀ j, j ≤ 9 → -4 ≤ endLo m j ∧ endLo m j ≤ 4
  | 0, _ => by unfold endLo; omega
  | j + 1, h => by have := endLo_bounds m j (by omega); unfold endLo; split <;> omega
theorem endHi_bounds (m : Int) : ∀ j, j ≤ 9 → -4 ≤ endHi m j ∧ endHi m j ≤ 4
  | 0, _ => by unfold endHi; omega
  | j + 1, h => by have := endHi_bounds m j (by omega); unfold endHi; split <;> omega
/-- The ends are the first and the last class that the mask has. -/
theorem ends_classes {m : Int} (h1 : 1 ≤ m) (h2 : m ≤ 511) : (classesN m)[0]? = some (endLo m 9) ∧ (classesN m)[(classesN m).length - 1]? = some (endHi m 9) := by
  have tab : ∀ k : Fin 512, 1 ≤ k.val → (classesN (k.val : Int))[0]? = some (endLo (k.val : Int) 9) ∧ (classesN (k.val : Int))[(classesN (k.val : Int)).length - 1]? = some (endHi (k.val : Int) 9) := by decide +kernel
  have := tab ⟨m.toNat, by omega⟩ (by show 1 ≤ m.toNat; omega)
  have e : ((m.toNat : Nat) : Int) = m := by omega
  dsimp only at this
  rwa [e] at this
theorem ends_one {c : Int} (h1 : -4 ≤ c) (h2 : c ≤ 4) : endLo (maskN c c) 9 = c ∧ endHi (maskN c c) 9 = c := by
  have tab : ∀ k : Fin 9, endLo (maskN ((k.val : Int) - 4) ((k.val : Int) - 4)) 9 = (k.val : Int) - 4 ∧ endHi (maskN ((k.val : Int) - 4) ((k.val : Int) - 4)) 9 = (k.val : Int) - 4 := by decide +kernel
  have := tab ⟨(c + 4).toNat, by omega⟩
  have e : (((c + 4).toNat : Nat) : Int) - 4 = c := by omega
  dsimp only at this
  rwa [e] at this
def EndRel (m : Int) (w : World) (lv gv iv : Value) (wr : World) : Prop := ∃ j : Nat, j ≤ 9 ∧ lv = .int .i64 (endLo m j) ∧ gv = .int .i64 (endHi m j) ∧ iv = .int .i64 (j : Nat) ∧ wr = w
theorem ends13_no (m : Int) (h : ¬ (1 ≤ m ∧ m ≤ 511)) (w : World) :
    Calls Try.prog 43 #[.int .i64 m] w fun e w' => e = .returned (.tuple #[.int .i64 0, .int .i64 0, .int .i64 1]) ∧ w' = w := by
  have hm := mask13_any m w
  rw [show maskB m = false from decide_eq_false h] at hm
  clear h
  go_enter Try.func43, Try.ntmps43
  go_wp2_with fail
  refine hm.mono ?_
  rintro e w2 ⟨rfl, rfl⟩
  go_wp2
  exact bodyPost_ret (results_tmp3 Try.results43 _ _ _) rfl ⟨rfl, rfl⟩
set_option maxHeartbeats 4000000 in
set_option maxRecDepth 100000 in
theorem ends13_ok (m : Int) (h : 1 ≤ m ∧ m ≤ 511) (w : World) :
    Calls Try.prog 43 #[.int .i64 m] w fun e w' => e = .returned (.tuple #[.int .i64 (endLo m 9), .int .i64 (endHi m 9), .int .i64 0]) ∧ w' = w := by
  have hm := mask13_any m w
  rw [show maskB m = true from decide_eq_true h] at hm
  have HM := Lib.hid hm
  have HH := Lib.hid (fun c W => has13_any m c W)
  obtain ⟨L9, hL9⟩ : ∃ L9, endLo m 9 = L9 := ⟨_, rfl⟩
  obtain ⟨G9, hG9⟩ : ∃ G9, endHi m 9 = G9 := ⟨_, rfl⟩
  rw [hL9, hG9]
  have HL9 := Lib.hid hL9
  have HG9 := Lib.hid hG9
  clear h hm hL9 hG9
  go_enter Try.func43, Try.ntmps43
  go_wp2_with fail
  refine HM.out.mono ?_
  rintro e w2 ⟨rfl, rfl⟩
  go_wp2
  go_loopw [5, 6, 12] (EndRel m w2) (fun _ _ c _ => (9 - intOf c).toNat)
  case atStart => exact ⟨0, Nat.zero_le _, rfl, rfl, rfl, rfl⟩
  case round =>
    obtain ⟨j, hj, rfl, rfl, rfl, rfl⟩ := hrel
    by_cases hl : j < 9
    · have g0 : (j : Int) < 9 := by omega
      have hcl := HH.out ((j : Int) - 4) wr
      have hLs : endLo m (j + 1) = if bitB m ((j : Int) - 4) = true then min (endLo m j) ((j : Int) - 4) else endLo m j := rfl
      have hGs : endHi m (j + 1) = if bitB m ((j : Int) - 4) = true then max (endHi m j) ((j : Int) - 4) else endHi m j := rfl
      obtain ⟨L, hL⟩ : ∃ L, endLo m j = L := ⟨_, rfl⟩
      obtain ⟨G, hG⟩ : ∃ G, endHi m j = G := ⟨_, rfl⟩
      rw [hL] at hLs ⊢
      rw [hG] at hGs ⊢
      cases hX : bitB m ((j : Int) - 4) with
      | true =>
        rw [hX] at hcl hLs hGs
        rw [if_pos rfl] at hLs hGs
        have HC := Lib.hid hcl
        have HQ := Lib.hid (show ∀ u v, u = min L ((j : Int) - 4) → v = max G ((j : Int) - 4) → EndRel m wr (.int .i64 u) (.int .i64 v) (.int .i64 ((j : Int) + 1)) wr from fun u v hu hv => ⟨j + 1, by omega, by rw [hu, hLs], by rw [hv, hGs], by first | rfl | go_num, rfl⟩)
        clear hcl hLs hGs hL hG hX
        go_upto_region 9 with fail
        refine HC.out.mono ?_
        rintro e w3 ⟨rfl, rfl⟩
        obtain ⟨c, hc⟩ : ∃ c : Int, (j : Int) - 4 = c := ⟨_, rfl⟩
        rw [hc] at HQ ⊢
        clear hc
        rcases Int.lt_trichotomy L c with hh | hh | hh
        · skip
          have gl1 : ¬ c < L := by omega
          have gl2 : ¬ c ≤ L := by omega
          have gl3 : L ≤ c := by omega
          rcases Int.lt_trichotomy G c with kk | kk | kk
          · skip
            have gk1 : ¬ c < G := by omega
            have gk2 : ¬ c ≤ G := by omega
            have gk3 : G ≤ c := by omega
            have E1 := Lib.hid (show L = min L c by omega)
            have E2 := Lib.hid (show c = max G c by omega)
            go_wp2
            go_roundw
            case rel => exact HQ.out _ _ E1.out E2.out
            case measure => simp [intOf]; omega
          · skip
            subst kk
            have E1 := Lib.hid (show L = min L G by omega)
            have E2 := Lib.hid (show G = max G G by omega)
            go_wp2
            go_roundw
            case rel => exact HQ.out _ _ E1.out E2.out
            case measure => simp [intOf]; omega
          · skip
            have gk1 : ¬ G < c := by omega
            have gk2 : ¬ G ≤ c := by omega
            have gk3 : c ≤ G := by omega
            have E1 := Lib.hid (show L = min L c by omega)
            have E2 := Lib.hid (show G = max G c by omega)
            go_wp2
            go_roundw
            case rel => exact HQ.out _ _ E1.out E2.out
            case measure => simp [intOf]; omega
        · skip
          subst hh
          rcases Int.lt_trichotomy G L with kk | kk | kk
          · skip
            have gk1 : ¬ L < G := by omega
            have gk2 : ¬ L ≤ G := by omega
            have gk3 : G ≤ L := by omega
            have E1 := Lib.hid (show L = min L L by omega)
            have E2 := Lib.hid (show L = max G L by omega)
            go_wp2
            go_roundw
            case rel => exact HQ.out _ _ E1.out E2.out
            case measure => simp [intOf]; omega
          · skip
            subst kk
            have E1 := Lib.hid (show G = min G G by omega)
            have E2 := Lib.hid (show G = max G G by omega)
            go_wp2
            go_roundw
            case rel => exact HQ.out _ _ E1.out E2.out
            case measure => simp [intOf]; omega
          · skip
            have gk1 : ¬ G < L := by omega
            have gk2 : ¬ G ≤ L := by omega
            have gk3 : L ≤ G := by omega
            have E1 := Lib.hid (show L = min L L by omega)
            have E2 := Lib.hid (show G = max G L by omega)
            go_wp2
            go_roundw
            case rel => exact HQ.out _ _ E1.out E2.out
            case measure => simp [intOf]; omega
        · skip
          have gl1 : ¬ L < c := by omega
          have gl2 : ¬ L ≤ c := by omega
          have gl3 : c ≤ L := by omega
          rcases Int.lt_trichotomy G c with kk | kk | kk
          · skip
            have gk1 : ¬ c < G := by omega
            have gk2 : ¬ c ≤ G := by omega
            have gk3 : G ≤ c := by omega
            have E1 := Lib.hid (show c = min L c by omega)
            have E2 := Lib.hid (show c = max G c by omega)
            go_wp2
            go_roundw
            case rel => exact HQ.out _ _ E1.out E2.out
            case measure => simp [intOf]; omega
          · skip
            subst kk
            have E1 := Lib.hid (show G = min L G by omega)
            have E2 := Lib.hid (show G = max G G by omega)
            go_wp2
            go_roundw
            case rel => exact HQ.out _ _ E1.out E2.out
            case measure => simp [intOf]; omega
          · skip
            have gk1 : ¬ G < c := by omega
            have gk2 : ¬ G ≤ c := by omega
            have gk3 : c ≤ G := by omega
            have E1 := Lib.hid (show c = min L c by omega)
            have E2 := Lib.hid (show G = max G c by omega)
            go_wp2
            go_roundw
            case rel => exact HQ.out _ _ E1.out E2.out
            case measure => simp [intOf]; omega
      | false =>
        rw [hX] at hcl hLs hGs
        rw [if_neg (by decide)] at hLs hGs
        have HC := Lib.hid hcl
        have HQ := Lib.hid (show EndRel m wr (.int .i64 L) (.int .i64 G) (.int .i64 ((j : Int) + 1)) wr from ⟨j + 1, by omega, by rw [hLs], by rw [hGs], by first | rfl | go_num, rfl⟩)
        clear hcl hLs hGs hL hG hX
        go_wp2_with fail
        refine HC.out.mono ?_
        rintro e w3 ⟨rfl, rfl⟩
        go_wp2
        go_roundw
        case rel => exact HQ.out
        case measure => simp [intOf]; omega
    · obtain rfl : j = 9 := by omega
      rw [HL9.out, HG9.out]
      go_wp2
      exact bodyPost_ret (results_tmp3 Try.results43 _ _ _) rfl ⟨rfl, rfl⟩
end Go.Proofs.Ytjonpcpcokapkaa
