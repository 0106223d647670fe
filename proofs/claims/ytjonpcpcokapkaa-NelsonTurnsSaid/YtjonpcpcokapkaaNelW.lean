/- nelson's Exact, Tell and Push are what the laws ask. -/
import Derived.Test.YtjonpcpcokapkaaNelPn
import Derived.Test.YtjonpcpcokapkaaNelJ
namespace Go.Proofs.Ytjonpcpcokapkaa
open Go.RowKit

theorem tellPts (ms : List Int) (h15 : ms.length ≤ 15) (W : World) (v : Value) (hr : ReadsR W v (ms.map classesN)) :
    Calls Try.prog 25 #[v] W fun e w' => e = .returned (.agg (telC (fun r => toldC r (ms.map classesN)) 8).toArray) ∧ Below W.heap.size W w' :=
  tellC_any _ (fun cs hcs => by obtain ⟨m, _, rfl⟩ := List.mem_map.1 hcs; exact fun c hc => classes_range hc) (fun cs hcs => by obtain ⟨m, _, rfl⟩ := List.mem_map.1 hcs; exact Nat.le_trans (classes_len m) (by omega)) (by rw [List.length_map]; exact h15) v W hr
theorem exactPts (l : List Int) (hc : okC l) (h15 : l.length ≤ 15) (W : World) (v : Value) (hr : ReadsR W v (l.map fun c => [c])) :
    Calls Try.prog 25 #[v] W fun e w' => e = .returned (.agg (telC (fun r => toldC r (l.map fun c => [c])) 8).toArray) ∧ Below W.heap.size W w' :=
  tellC_any _ (fun cs hcs => by obtain ⟨c, hcl, rfl⟩ := List.mem_map.1 hcs; exact fun x hx => by rw [List.mem_singleton] at hx; subst hx; exact hc x hcl) (fun cs hcs => by obtain ⟨c, _, rfl⟩ := List.mem_map.1 hcs; simp) (by rw [List.length_map]; exact h15) v W hr
theorem nel_code : NelCode where
  exact := fun l v W hl hr => by
    have hf : ∀ k, classesB l = false → exaT l k = false := fun k h => by unfold exaT; rw [h]; rfl
    by_cases h : classesB l = true
    · obtain ⟨hc, h15⟩ := classesB_ok h
      obtain ⟨ao, cap, rfl⟩ := hr.shape
      have hall : l.all clsB = true := by
        unfold classesB at h
        rw [Bool.and_eq_true] at h
        exact h.1
      refine (exactT_core (fun r => toldC r (l.map fun c => [c])) l ao l.length cap rfl h15 W hr hall (fun W v hv => exactPts l hc h15 W v hv)).mono ?_
      rintro e w' ⟨rfl, hb⟩
      refine ⟨?_, hb⟩
      have hk : ∀ r, 1 ≤ r → r ≤ 8 → (toldC r (l.map fun c => [c]) == 2) = exaT l r := fun r h1 h8 => by
        rw [told_classes h1 h8 hc]
        unfold exaT
        rw [h]
        cases exactN r l <;> rfl
      have he : exaE l = 0 := by unfold exaE; rw [h]; rfl
      rw [he, ← hk 1 (by omega) (by omega), ← hk 2 (by omega) (by omega), ← hk 3 (by omega) (by omega), ← hk 4 (by omega) (by omega), ← hk 5 (by omega) (by omega), ← hk 6 (by omega) (by omega), ← hk 7 (by omega) (by omega), ← hk 8 (by omega) (by omega)]
      rfl
    · have h' : classesB l = false := by simpa using h
      have he : exaE l = 1 := by unfold exaE; rw [h']; rfl
      rw [hf 1 h', hf 2 h', hf 3 h', hf 4 h', hf 5 h', hf 6 h', hf 7 h', hf 8 h', he]
      by_cases h15 : l.length ≤ 15
      · refine exactT_no2 l v W hr h15 ?_
        unfold classesB at h'
        rw [decide_eq_true h15, Bool.and_true] at h'
        exact h'
      · exact exactT_no1 l v W hr (by omega)
  tell := fun l v W hl hr => by
    by_cases h : masksB l = true
    · obtain ⟨hc, h15⟩ := masksB_ok h
      obtain ⟨ao, cap, rfl⟩ := hr.shape
      refine (tellT_core (fun r => toldC r (l.map classesN)) l ao l.length cap rfl hl W hr h (fun W v hv => tellPts l h15 W v hv)).mono ?_
      rintro e w' ⟨rfl, hb⟩
      refine ⟨?_, hb⟩
      have hk : ∀ r, 1 ≤ r → r ≤ 8 → toldC r (l.map classesN) = telT l r := fun r h1 h8 => by
        rw [told_masks h1 h8 hc]
        unfold telT
        rw [if_pos h]
      have he : telE l = 0 := by unfold telE; rw [if_pos h]
      rw [he, ← hk 1 (by omega) (by omega), ← hk 2 (by omega) (by omega), ← hk 3 (by omega) (by omega), ← hk 4 (by omega) (by omega), ← hk 5 (by omega) (by omega), ← hk 6 (by omega) (by omega), ← hk 7 (by omega) (by omega), ← hk 8 (by omega) (by omega)]
      rfl
    · have h' : masksB l = false := by simpa using h
      have he : telE l = 1 := by unfold telE; rw [if_neg h]
      have hf : ∀ k, telT l k = 0 := fun k => by unfold telT; rw [if_neg h]
      rw [hf 1, hf 2, hf 3, hf 4, hf 5, hf 6, hf 7, hf 8, he]
      exact tellT_no l v W hl hr h'
  push := fun l m v W hl hr => by
    by_cases h : (masksB l && maskB m) = true
    · have e1 : pshL l m = pushN l m := by unfold pshL; rw [if_pos h]
      have e2 : pshE l m = 0 := by unfold pshE; rw [if_pos h]
      rw [e1, e2]
      rw [Bool.and_eq_true] at h
      exact push_ok l m v W hr h.1 h.2
    · have h' : (masksB l && maskB m) = false := by simpa using h
      have e1 : pshL l m = [] := by unfold pshL; rw [if_neg h]
      have e2 : pshE l m = 1 := by unfold pshE; rw [if_neg h]
      rw [e1, e2]
      refine (push_no l m v W hl hr h').mono ?_
      rintro e w' ⟨rfl, rfl⟩
      exact ⟨_, rfl, ⟨none, 0, rfl, Nat.le_refl _, by unfold maxLen; omega, fun i hi => absurd hi (Nat.not_lt_zero _)⟩, Below.refl _ _⟩
end Go.Proofs.Ytjonpcpcokapkaa
