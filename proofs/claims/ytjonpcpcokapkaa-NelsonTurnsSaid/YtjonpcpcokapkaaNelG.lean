/- The reference of stage 14: Masks, Classes, Single, Push. -/
import Derived.Test.YtjonpcpcokapkaaNelF
namespace Go.Proofs.Ytjonpcpcokapkaa
open Go.RowKit

def masksB (ms : List Int) : Bool := ms.all maskB && decide (ms.length ≤ 15)
def clsB (c : Int) : Bool := decide (-4 ≤ c ∧ c ≤ 4)
def classesB (l : List Int) : Bool := l.all clsB && decide (l.length ≤ 15)
theorem masksB_ok {ms : List Int} (h : masksB ms = true) : okM ms ∧ ms.length ≤ 15 := by
  unfold masksB at h
  rw [Bool.and_eq_true, List.all_eq_true] at h
  exact ⟨fun m hm => of_decide_eq_true (h.1 m hm), of_decide_eq_true h.2⟩
theorem classesB_ok {l : List Int} (h : classesB l = true) : okC l ∧ l.length ≤ 15 := by
  unfold classesB at h
  rw [Bool.and_eq_true, List.all_eq_true] at h
  exact ⟨fun m hm => of_decide_eq_true (h.1 m hm), of_decide_eq_true h.2⟩
theorem masksB_of {ms : List Int} (h : okM ms) (h2 : ms.length ≤ 15) : masksB ms = true := by
  unfold masksB
  rw [Bool.and_eq_true, List.all_eq_true]
  exact ⟨fun m hm => decide_eq_true (h m hm), decide_eq_true h2⟩
theorem classesB_of {l : List Int} (h : okC l) (h2 : l.length ≤ 15) : classesB l = true := by
  unfold classesB
  rw [Bool.and_eq_true, List.all_eq_true]
  exact ⟨fun m hm => decide_eq_true (h m hm), decide_eq_true h2⟩
theorem all_step {p : Int → Bool} {ms : List Int} {j : Nat} {m : Int} (h : ∀ x ∈ ms.take j, p x = true) (hm : ms[j]? = some m) (hp : p m = true) : ∀ x ∈ ms.take (j + 1), p x = true := by
  intro x hx
  rw [List.take_add_one, hm, List.mem_append] at hx
  rcases hx with hx | hx
  · exact h x hx
  · have : x = m := by simpa using hx
    rw [this]; exact hp
theorem all_not {p : Int → Bool} {ms : List Int} {j : Nat} {m : Int} (hm : ms[j]? = some m) (hp : p m = false) : ms.all p = false := by
  rw [← Bool.not_eq_true, List.all_eq_true]
  intro h
  rw [h m (List.mem_of_getElem? hm)] at hp
  cases hp
theorem all_yes {p : Int → Bool} {ms : List Int} (h : ∀ x ∈ ms.take ms.length, p x = true) : ms.all p = true := by
  rw [List.take_length] at h
  exact List.all_eq_true.2 h
def AllRel (p : Int → Bool) (ms : List Int) (w : World) (iv : Value) (wr : World) : Prop :=
  ∃ j : Nat, j ≤ ms.length ∧ iv = .int .i64 (j : Nat) ∧ (∀ x ∈ ms.take j, p x = true) ∧ w = wr
set_option linter.unusedSimpArgs false in
set_option maxHeartbeats 4000000 in
set_option maxRecDepth 100000 in
theorem rmasks14_core (ms : List Int) (ao : Option Addr) (n cap : Nat) (w : World) (hn : ms.length = n) (hn2 : n ≤ 100000) (hr : ReadsI w (.slice ao n cap) ms) :
    Calls Try.prog 15 #[.slice ao n cap] w fun e w' => e = .returned (.bool (masksB ms)) ∧ w = w' := by
  obtain ⟨V, hV⟩ : ∃ V, masksB ms = V := ⟨_, rfl⟩
  rw [hV]
  have HV := Lib.hid hV; have HR := Lib.hid hr; have HN := Lib.hid hn
  clear hV hr
  go_enter Try.func15, Try.ntmps15
  go_wp2
  go_loopw [7] (AllRel maskB ms w) (fun i _ => n - (intOf i).toNat)
  case atStart => exact ⟨0, Nat.zero_le _, rfl, by simp, rfl⟩
  case round =>
    obtain ⟨j, hj, rfl, hall, rfl⟩ := hrel
    have HALL := Lib.hid hall
    rw [hn] at hj
    by_cases hl : j < n
    · obtain ⟨m, hm⟩ : ∃ m, ms[j]? = some m := ⟨_, List.getElem?_eq_getElem (by omega)⟩
      obtain ⟨b, off, hao, hbl, hc⟩ := HR.out.spot hm
      have hmk := rmask13_any m w
      have HM := Lib.hid hm; have HMK := Lib.hid hmk
      have hjz : (j : Int) < (n : Int) := by omega
      have hjx : 0 ≤ (j : Int) ∧ (j : Int) < (n : Int) := by omega
      clear hall hm hmk hn
      subst hao
      cases hX : maskB m with
      | true =>
        rw [hX] at HMK
        have HQ := Lib.hid (show AllRel maskB ms w (.int .i64 ((j : Int) + 1)) w from ⟨j + 1, by rw [HN.out]; omega, by first | rfl | go_num, all_step HALL.out HM.out hX, rfl⟩)
        clear hX hj
        go_wp2_with fail
        refine HMK.out.mono ?_
        rintro e w2 ⟨rfl, rfl⟩
        go_wp2
        go_roundw
        case rel => exact HQ.out
        case measure => simp [intOf]; omega
      | false =>
        rw [hX] at HMK
        have HF := Lib.hid (show V = false by rw [← HV.out]; unfold masksB; rw [all_not HM.out hX]; rfl)
        clear hX hj
        go_wp2_with fail
        refine HMK.out.mono ?_
        rintro e w2 ⟨rfl, rfl⟩
        go_wp2
        go_ret
        exact ⟨by rw [HF.out]; rfl, rfl⟩
    · obtain rfl : j = n := by omega
      have hv : decide (j ≤ 15) = V := by rw [← HV.out]; unfold masksB; rw [all_yes (p := maskB) (by rw [hn]; exact hall), hn, Bool.true_and]
      have HV2 := Lib.hid hv
      clear hall hv hj hn hl
      go_wp2
      go_ret
      refine ⟨?_, rfl⟩
      rw [← HV2.out]
      have e : decide ((j : Int) ≤ 15) = decide (j ≤ 15) := decide_eq_decide.2 (by omega)
      first | rfl | (rw [← e]; rfl)
theorem rmasks14_any (ms : List Int) (v : Value) (w : World) (hn2 : ms.length ≤ 100000) (hr : ReadsI w v ms) :
    Calls Try.prog 15 #[v] w fun e w' => e = .returned (.bool (masksB ms)) ∧ w = w' := by
  obtain ⟨ao, cap, rfl⟩ := hr.shape
  exact rmasks14_core ms ao _ cap w rfl hn2 hr
set_option linter.unusedSimpArgs false in
set_option maxHeartbeats 4000000 in
set_option maxRecDepth 100000 in
theorem rcl14_core (ms : List Int) (ao : Option Addr) (n cap : Nat) (w : World) (hn : ms.length = n) (hn2 : n ≤ 100000) (hr : ReadsI w (.slice ao n cap) ms) :
    Calls Try.prog 10 #[.slice ao n cap] w fun e w' => e = .returned (.bool (classesB ms)) ∧ w = w' := by
  obtain ⟨V, hV⟩ : ∃ V, classesB ms = V := ⟨_, rfl⟩
  rw [hV]
  have HV := Lib.hid hV; have HR := Lib.hid hr; have HN := Lib.hid hn
  clear hV hr
  go_enter Try.func10, Try.ntmps10
  go_wp2
  go_loopw [7] (AllRel clsB ms w) (fun i _ => n - (intOf i).toNat)
  case atStart => exact ⟨0, Nat.zero_le _, rfl, by simp, rfl⟩
  case round =>
    obtain ⟨j, hj, rfl, hall, rfl⟩ := hrel
    have HALL := Lib.hid hall
    rw [hn] at hj
    by_cases hl : j < n
    · obtain ⟨m, hm⟩ : ∃ m, ms[j]? = some m := ⟨_, List.getElem?_eq_getElem (by omega)⟩
      obtain ⟨b, off, hao, hbl, hc⟩ := HR.out.spot hm
      have HM := Lib.hid hm
      have hjz : (j : Int) < (n : Int) := by omega
      have hjx : 0 ≤ (j : Int) ∧ (j : Int) < (n : Int) := by omega
      clear hall hm hn
      subst hao
      by_cases m1 : m < -4
      · have HF := Lib.hid (show V = false by rw [← HV.out]; unfold classesB; rw [all_not HM.out (show clsB m = false from decide_eq_false (by omega))]; rfl)
        clear hj
        go_wp2
        go_ret
        exact ⟨by rw [HF.out]; rfl, rfl⟩
      · by_cases m2 : 4 < m
        · have HF := Lib.hid (show V = false by rw [← HV.out]; unfold classesB; rw [all_not HM.out (show clsB m = false from decide_eq_false (by omega))]; rfl)
          clear hj
          go_wp2
          go_ret
          exact ⟨by rw [HF.out]; rfl, rfl⟩
        · have HQ := Lib.hid (show AllRel clsB ms w (.int .i64 ((j : Int) + 1)) w from ⟨j + 1, by rw [HN.out]; omega, by first | rfl | go_num, all_step HALL.out HM.out (show clsB m = true from decide_eq_true (by omega)), rfl⟩)
          clear hj
          go_wp2
          go_roundw
          case rel => exact HQ.out
          case measure => simp [intOf]; omega
    · obtain rfl : j = n := by omega
      have hv : decide (j ≤ 15) = V := by rw [← HV.out]; unfold classesB; rw [all_yes (p := clsB) (by rw [hn]; exact hall), hn, Bool.true_and]
      have HV2 := Lib.hid hv
      clear hall hv hj hn hl
      go_wp2
      go_ret
      refine ⟨?_, rfl⟩
      rw [← HV2.out]
      have e : decide ((j : Int) ≤ 15) = decide (j ≤ 15) := decide_eq_decide.2 (by omega)
      first | rfl | (rw [← e]; rfl)
theorem rcl14_any (ms : List Int) (v : Value) (w : World) (hn2 : ms.length ≤ 100000) (hr : ReadsI w v ms) :
    Calls Try.prog 10 #[v] w fun e w' => e = .returned (.bool (classesB ms)) ∧ w = w' := by
  obtain ⟨ao, cap, rfl⟩ := hr.shape
  exact rcl14_core ms ao _ cap w rfl hn2 hr
end Go.Proofs.Ytjonpcpcokapkaa
