/- slices.IndexFunc and ContainsFunc over ints, any predicate. -/
import Derived.Test.YtfafkdbflmennaaAllR
import Derived.Test.YtfafkdbflmennaaHas
import Derived.LoopTactic
import Derived.IntWalk
namespace Go.Proofs.Ytfafkdbflmennaa
open Go.RowKit

/-- A function that says of a number what is not p. -/
structure NotP (K : FuncId) (p : Int → Bool) : Prop where
  eg : ∀ args w, (callFunc K args).run Try.prog w = .ok (.enter K args) w
  run : ∀ (z : Int) (W : World), Calls Try.prog K #[.int .i64 z] W fun e w' => e = .returned (.bool (!p z)) ∧ W = w'
def IdxPost (V : Bool) (w : World) (e : Ending) (w' : World) : Prop := ∃ i : Int, (V = true → i = -1) ∧ (V = false → 0 ≤ i) ∧ e = .returned (.int .i64 i) ∧ w = w'
set_option linter.unusedSimpArgs false in
set_option maxHeartbeats 4000000 in
set_option maxRecDepth 100000 in
theorem idxf_core (K : FuncId) (p : Int → Bool) (hK : NotP K p) (ms : List Int) (ao : Option Addr) (n cap : Nat) (w : World) (hn : ms.length = n) (hn2 : n ≤ 100000) (hr : ReadsI w (.slice ao n cap) ms) :
    Calls Try.prog 33 #[.slice ao n cap, .func (.func K) #[] #[]] w (IdxPost (ms.all p) w) := by
  have heg := hK.eg
  have HRUN := Lib.hid hK.run
  obtain ⟨V, hV⟩ : ∃ V, ms.all p = V := ⟨_, rfl⟩
  rw [hV]
  have HV := Lib.hid hV; have HR := Lib.hid hr; have HN := Lib.hid hn
  clear hV hr hK
  go_enter Try.func33, Try.ntmps33
  go_wp2
  go_loopw [8] (AllRel p ms w) (fun i _ => n - (intOf i).toNat)
  case atStart => exact ⟨0, Nat.zero_le _, rfl, by simp, rfl⟩
  case round =>
    obtain ⟨j, hj, rfl, hall, rfl⟩ := hrel
    have HALL := Lib.hid hall
    rw [hn] at hj
    by_cases hl : j < n
    · obtain ⟨m, hm⟩ : ∃ m, ms[j]? = some m := ⟨_, List.getElem?_eq_getElem (by omega)⟩
      obtain ⟨b, off, hao, hbl, hc⟩ := HR.out.spot hm
      have HM := Lib.hid hm
      have HMK := Lib.hid (HRUN.out m w)
      have hjz : (j : Int) < (n : Int) := by omega
      have hjx : 0 ≤ (j : Int) ∧ (j : Int) < (n : Int) := by omega
      clear hall hm hn
      subst hao
      cases hX : p m with
      | true =>
        rw [hX] at HMK
        have HQ := Lib.hid (show AllRel p ms w (.int .i64 ((j : Int) + 1)) w from ⟨j + 1, by rw [HN.out]; omega, by first | rfl | go_num, all_step HALL.out HM.out hX, rfl⟩)
        clear hX hj
        go_wp2_with fail
        refine HMK.out.mono ?_
        rintro e w2 ⟨rfl, rfl⟩
        go_wp2
        go_roundw
        case rel => exact HQ.out
        case measure => simp [intOf]; omega
      | false =>
        rw [hX] at HMK
        have HF := Lib.hid (show V = false by rw [← HV.out]; rw [all_not HM.out hX])
        clear hX hj
        go_wp2_with fail
        refine HMK.out.mono ?_
        rintro e w2 ⟨rfl, rfl⟩
        go_wp2
        go_ret
        exact ⟨(j : Nat), by rw [HF.out]; intro h; (cases h), fun _ => by omega, rfl, rfl⟩
    · obtain rfl : j = n := by omega
      have HV2 := Lib.hid (show V = true by rw [← HV.out]; exact all_yes (p := p) (by rw [hn]; exact hall))
      clear hall hj hn hl
      go_wp2
      go_ret
      exact ⟨-1, fun _ => rfl, by rw [HV2.out]; intro h; (cases h), rfl, rfl⟩
set_option linter.unusedSimpArgs false in
set_option maxHeartbeats 4000000 in
set_option maxRecDepth 100000 in
theorem contf_any (K : FuncId) (p : Int → Bool) (hK : NotP K p) (ms : List Int) (v : Value) (w : World) (hn2 : ms.length ≤ 100000) (hr : ReadsI w v ms) :
    Calls Try.prog 23 #[v, .func (.func K) #[] #[]] w fun e w' => e = .returned (.bool (!ms.all p)) ∧ w = w' := by
  obtain ⟨ao, cap, rfl⟩ := hr.shape
  obtain ⟨n, hn⟩ : ∃ n, ms.length = n := ⟨_, rfl⟩
  rw [hn] at hr ⊢
  have HC := Lib.hid (idxf_core K p hK ms ao n cap w hn (by omega) hr)
  obtain ⟨V, hV⟩ : ∃ V, ms.all p = V := ⟨_, rfl⟩
  rw [hV] at HC ⊢
  clear hV hK hn hr hn2
  go_enter Try.func23, Try.ntmps23
  go_wp2_with fail
  refine HC.out.mono ?_
  rintro e w2 ⟨i, h1, h2, rfl, rfl⟩
  cases V with
  | true =>
    obtain rfl := h1 rfl
    clear h1 h2
    go_wp2
    go_ret
    exact ⟨rfl, rfl⟩
  | false =>
    have h3 := h2 rfl
    clear h1 h2
    go_wp2
    go_ret
    exact ⟨by first | rfl | simp [h3], rfl⟩
end Go.Proofs.Ytfafkdbflmennaa
