/- What the laws of stage 14 ask of nelson's functions; few; alive; arrays of eight compared. -/
import Derived.Test.YtjonpcpcokapkaaNelI
import Derived.ChangeKeysEq
import Derived.Lib.MinMax
namespace Go.Proofs.Ytjonpcpcokapkaa
open Go.RowKit

/-- Exact, Tell and Push, whatever row they are asked of. -/
def exaT (l : List Int) (k : Nat) : Bool := if classesB l then exactN k l else false
def exaE (l : List Int) : Int := if classesB l then 0 else 1
def telT (l : List Int) (k : Nat) : Int := if masksB l then tellN k l else 0
def telE (l : List Int) : Int := if masksB l then 0 else 1
def pshL (l : List Int) (m : Int) : List Int := if masksB l && maskB m then pushN l m else []
def pshE (l : List Int) (m : Int) : Int := if masksB l && maskB m then 0 else 1
structure NelCode : Prop where
  exact : ∀ (l : List Int) (v : Value) (W : World), l.length ≤ 1000 → ReadsI W v l → Calls Try.prog 9 #[v] W fun e w' => e = .returned (.tuple #[.agg #[.bool (exaT l 1), .bool (exaT l 2), .bool (exaT l 3), .bool (exaT l 4), .bool (exaT l 5), .bool (exaT l 6), .bool (exaT l 7), .bool (exaT l 8)], .int .i64 (exaE l)]) ∧ Below W.heap.size W w'
  tell : ∀ (l : List Int) (v : Value) (W : World), l.length ≤ 1000 → ReadsI W v l → Calls Try.prog 13 #[v] W fun e w' => e = .returned (.tuple #[.agg #[.int .i64 (telT l 1), .int .i64 (telT l 2), .int .i64 (telT l 3), .int .i64 (telT l 4), .int .i64 (telT l 5), .int .i64 (telT l 6), .int .i64 (telT l 7), .int .i64 (telT l 8)], .int .i64 (telE l)]) ∧ Below W.heap.size W w'
  push : ∀ (l : List Int) (m : Int) (v : Value) (W : World), l.length ≤ 1000 → ReadsI W v l → Calls Try.prog 14 #[v, .int .i64 m] W fun e w' => ∃ v', e = .returned (.tuple #[v', .int .i64 (pshE l m)]) ∧ ReadsI w' v' (pshL l m) ∧ Below W.heap.size W w'
/-! ### few -/
set_option maxRecDepth 100000 in
theorem few14_core (ao : Option Addr) (n cap k : Nat) (w : World) (hk : k = min n 17) (hlc : n ≤ cap) :
    Calls Try.prog 8 #[.slice ao n cap] w fun e w' => e = .returned (.slice ao k cap) ∧ w = w' := by
  have hsl : ∀ W, (Instr.slice 22 (.slice ao n cap) none (some (.int .i64 (min (n : Int) 17))) none).run Try.prog W = .ok (.slice ao k cap) W := fun W => by
    have := slice_hi ao n cap k (by omega) W
    rw [show (k : Int) = min (n : Int) 17 by omega] at this
    exact this
  clear hk
  go_enter Try.func8, Try.ntmps8
  go_wp2
  go_ret
  exact ⟨rfl, rfl⟩
theorem few14_any (l : List Int) (v : Value) (w : World) (hr : ReadsI w v l) : ∃ ao cap, v = .slice ao l.length cap ∧ ∀ W, Calls Try.prog 8 #[v] W fun e w' => e = .returned (.slice ao (min l.length 17) cap) ∧ W = w' := by
  obtain ⟨ao, cap, rfl, h2, _⟩ := hr
  exact ⟨ao, cap, rfl, fun W => few14_core ao _ cap _ W rfl h2⟩
theorem ReadsI.few14 {w : World} {ao : Option Addr} {n cap : Nat} {xs : List Int} (h : ReadsI w (.slice ao n cap) xs) (N : Nat) : ReadsI w (.slice ao (min n N) cap) (xs.take N) := by
  obtain ⟨ao', cap', h1, h2, h3, h4⟩ := h
  injection h1 with e1 e2 e3
  subst e1 e3
  refine ⟨ao, cap, by rw [List.length_take, e2, Nat.min_comm], by rw [List.length_take]; omega, h3, fun i hi => ?_⟩
  rw [List.length_take] at hi
  obtain ⟨b, off, h5, h6, h7⟩ := h4 i (by omega)
  refine ⟨b, off, h5, h6, ?_⟩
  rw [h7, List.getD_eq_getElem?_getD, List.getD_eq_getElem?_getD, List.getElem?_take_of_lt (by omega)]
/-! ### Arrays of eight -/
theorem eqB8 (b c d e f g h i : Bool) (w : World) : (Op.equalIn 10000 24 (.agg #[.bool b, .bool c, .bool d, .bool e, .bool f, .bool g, .bool h, .bool i]) (.agg #[.bool b, .bool c, .bool d, .bool e, .bool f, .bool g, .bool h, .bool i])).run Try.prog w = .ok true w := by
  obtain ⟨i0, hi⟩ := Option.isSome_iff_exists.1 (show (Try.prog.info? 4).isSome = true by kernel_rfl)
  have h1 : Try.prog.cellsOf 4 = 1 := by kernel_rfl
  have hr : List.range 8 = [0, 1, 2, 3, 4, 5, 6, 7] := rfl
  refine (run_equalIn_array w 9999 _ _ Try.underlying24 hi).trans ?_
  rw [h1, hr]
  clear hi h1 hr
  simp only [Op.eqItems]
  go_simp
theorem eqI8 (b c d e f g h i : Int) (w : World) : (Op.equalIn 10000 31 (.agg #[.int .i64 b, .int .i64 c, .int .i64 d, .int .i64 e, .int .i64 f, .int .i64 g, .int .i64 h, .int .i64 i]) (.agg #[.int .i64 b, .int .i64 c, .int .i64 d, .int .i64 e, .int .i64 f, .int .i64 g, .int .i64 h, .int .i64 i])).run Try.prog w = .ok true w := by
  obtain ⟨i0, hi⟩ := Option.isSome_iff_exists.1 (show (Try.prog.info? 3).isSome = true by kernel_rfl)
  have h1 : Try.prog.cellsOf 3 = 1 := by kernel_rfl
  have hr : List.range 8 = [0, 1, 2, 3, 4, 5, 6, 7] := rfl
  refine (run_equalIn_array w 9999 _ _ Try.underlying31 hi).trans ?_
  rw [h1, hr]
  clear hi h1 hr
  simp only [Op.eqItems]
  go_simp
/-! ### alive -/
theorem ReadsI.three (w : World) (x y z : Int) : ReadsI (w.alloc (.cells #[.int .i64 x, .int .i64 y, .int .i64 z] 3)) (.slice (some ⟨w.heap.size, 0, none⟩) 3 3) [x, y, z] :=
  (Has.new w [.int .i64 x, .int .i64 y, .int .i64 z] 3).readsI rfl rfl (Nat.le_refl _) (by omega) rfl
set_option linter.unusedSimpArgs false in
set_option maxHeartbeats 4000000 in
set_option maxRecDepth 100000 in
theorem alive14_any (H : NelCode) (w : World) : Calls Try.prog 11 #[] w fun e w' => e = .returned (.bool true) ∧ Below w.heap.size w w' := by
  have he := H.exact [3, 0, 3] _ _ (by decide) (ReadsI.three w 3 0 3)
  rw [show exaT [3, 0, 3] 1 = false from by decide, show exaT [3, 0, 3] 2 = false from by decide, show exaT [3, 0, 3] 3 = false from by decide, show exaT [3, 0, 3] 4 = false from by decide, show exaT [3, 0, 3] 5 = true from by decide, show exaT [3, 0, 3] 6 = false from by decide, show exaT [3, 0, 3] 7 = false from by decide, show exaT [3, 0, 3] 8 = false from by decide, show exaE [3, 0, 3] = 0 from by decide] at he
  have HE := Lib.hid he
  have k1 := Lib.hid ((Below.refl w.heap.size w).alloc (Nat.le_refl _) (.cells #[.int .i64 3, .int .i64 0, .int .i64 3] 3))
  clear he H
  go_enter Try.func11, Try.ntmps11
  go_wp2_with fail
  refine HE.out.mono ?_
  rintro e w2 ⟨rfl, k2⟩
  have HB := Lib.hid ((k1.out.trans (k2.mono k1.out.size)).alloc (Nat.le_trans k1.out.size k2.size) (.cells #[.bool false, .bool false, .bool false, .bool false, .bool true, .bool false, .bool false, .bool false] 24))
  clear k2
  go_wp2
  go_ret
  exact ⟨rfl, HB.out⟩
end Go.Proofs.Ytjonpcpcokapkaa
