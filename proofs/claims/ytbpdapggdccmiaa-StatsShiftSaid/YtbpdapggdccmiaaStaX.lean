/- The drawn region of StatsShift's loop: two rows, each with one more put behind it, whatever order comes. -/
import Derived.Test.YtbpdapggdccmiaaTwo
import Derived.Test.YtbpdapggdccmiaaTab
namespace Go.Proofs.Ytbpdapggdccmiaa
open Go.RowKit

set_option maxRecDepth 100000
def sh0 : Oper := { dst := some 43, op := Op.move (Operand.tmp 7), type := 22, pos := "law.go:120", after := #[], guard := none }
def sh1 : Oper := { dst := some 44, op := Op.move (Operand.tmp 0), type := 22, pos := "law.go:120", after := #[], guard := none }
def sh2 : Oper := { dst := some 45, op := Op.move (Operand.tmp 9), type := 3, pos := "law.go:120", after := #[], guard := none }
def sh3 : Oper := { dst := some 46, op := Op.indexAddr 22 (Operand.tmp 44) (Operand.tmp 45), type := 0, pos := "law.go:120", after := #[{ on := 1, ground := Ground.data }, { on := 2, ground := Ground.data }], guard := none }
def sh4 : Oper := { dst := some 47, op := Op.load 3 (Operand.tmp 46), type := 3, pos := "law.go:120", after := #[{ on := 3, ground := Ground.data }], guard := none }
def sh5 : Oper := { dst := some 48, op := Op.move (Operand.tmp 1), type := 3, pos := "law.go:120", after := #[], guard := none }
def sh6 : Oper := { dst := some 49, op := Op.binOp BinOp.add 3 (Operand.tmp 47) (Operand.tmp 48) 3, type := 3, pos := "law.go:120", after := #[{ on := 4, ground := Ground.data }, { on := 5, ground := Ground.data }], guard := none }
def sh7 : Oper := { dst := some 50, op := Op.buildSlice 22 1 #[(0, Operand.tmp 49)], type := 22, pos := "law.go:120", after := #[{ on := 6, ground := Ground.data }], guard := none }
def sh8 : Oper := { dst := some 51, op := Op.call { callee := Callee.builtin Builtin.append, args := #[Operand.tmp 43, Operand.tmp 50], argTypes := #[22, 22] }, type := 22, pos := "law.go:120", after := #[{ on := 0, ground := Ground.data }, { on := 7, ground := Ground.data }], guard := none }
def sh9 : Oper := { dst := some 52, op := Op.move (Operand.tmp 8), type := 22, pos := "law.go:120", after := #[], guard := none }
def sh10 : Oper := { dst := some 53, op := Op.move (Operand.tmp 0), type := 22, pos := "law.go:120", after := #[], guard := none }
def sh11 : Oper := { dst := some 54, op := Op.move (Operand.tmp 9), type := 3, pos := "law.go:120", after := #[], guard := none }
def sh12 : Oper := { dst := some 55, op := Op.indexAddr 22 (Operand.tmp 53) (Operand.tmp 54), type := 0, pos := "law.go:120", after := #[{ on := 10, ground := Ground.data }, { on := 11, ground := Ground.data }], guard := none }
def sh13 : Oper := { dst := some 56, op := Op.load 3 (Operand.tmp 55), type := 3, pos := "law.go:120", after := #[{ on := 12, ground := Ground.data }], guard := none }
def sh14 : Oper := { dst := some 57, op := Op.move (Operand.tmp 2), type := 3, pos := "law.go:120", after := #[], guard := none }
def sh15 : Oper := { dst := some 58, op := Op.binOp BinOp.mul 3 (Operand.tmp 56) (Operand.tmp 57) 3, type := 3, pos := "law.go:120", after := #[{ on := 13, ground := Ground.data }, { on := 14, ground := Ground.data }], guard := none }
def sh16 : Oper := { dst := some 59, op := Op.buildSlice 22 1 #[(0, Operand.tmp 58)], type := 22, pos := "law.go:120", after := #[{ on := 15, ground := Ground.data }], guard := none }
def sh17 : Oper := { dst := some 60, op := Op.call { callee := Callee.builtin Builtin.append, args := #[Operand.tmp 52, Operand.tmp 59], argTypes := #[22, 22] }, type := 22, pos := "law.go:120", after := #[{ on := 9, ground := Ground.data }, { on := 16, ground := Ground.data }, { on := 8, ground := Ground.chain }], guard := none }
def sh18 : Oper := { dst := some 7, op := Op.assign (Operand.tmp 51), type := 22, pos := "law.go:120", after := #[{ on := 8, ground := Ground.data }, { on := 17, ground := Ground.chain }, { on := 0, ground := Ground.phase }, { on := 1, ground := Ground.phase }, { on := 2, ground := Ground.phase }, { on := 3, ground := Ground.phase }, { on := 4, ground := Ground.phase }, { on := 5, ground := Ground.phase }, { on := 6, ground := Ground.phase }, { on := 7, ground := Ground.phase }, { on := 8, ground := Ground.phase }, { on := 9, ground := Ground.textOnly Departure.lateStores }, { on := 10, ground := Ground.textOnly Departure.lateStores }, { on := 11, ground := Ground.textOnly Departure.lateStores }, { on := 12, ground := Ground.textOnly Departure.lateStores }, { on := 13, ground := Ground.textOnly Departure.lateStores }, { on := 14, ground := Ground.textOnly Departure.lateStores }, { on := 15, ground := Ground.textOnly Departure.lateStores }, { on := 16, ground := Ground.textOnly Departure.lateStores }, { on := 17, ground := Ground.textOnly Departure.lateStoresUnsure }], guard := none }
def sh19 : Oper := { dst := some 8, op := Op.assign (Operand.tmp 60), type := 22, pos := "law.go:120", after := #[{ on := 17, ground := Ground.data }, { on := 18, ground := Ground.chain }, { on := 0, ground := Ground.phase }, { on := 1, ground := Ground.phase }, { on := 2, ground := Ground.phase }, { on := 3, ground := Ground.phase }, { on := 4, ground := Ground.phase }, { on := 5, ground := Ground.phase }, { on := 6, ground := Ground.phase }, { on := 7, ground := Ground.phase }, { on := 8, ground := Ground.phase }, { on := 9, ground := Ground.phase }, { on := 10, ground := Ground.phase }, { on := 11, ground := Ground.phase }, { on := 12, ground := Ground.phase }, { on := 13, ground := Ground.phase }, { on := 14, ground := Ground.phase }, { on := 15, ground := Ground.phase }, { on := 16, ground := Ground.phase }, { on := 17, ground := Ground.phase }, { on := 18, ground := Ground.phase }], guard := none }
def shOps : Array Oper := #[sh0, sh1, sh2, sh3, sh4, sh5, sh6, sh7, sh8, sh9, sh10, sh11, sh12, sh13, sh14, sh15, sh16, sh17, sh18, sh19]
theorem shOps_size : shOps.size = 20 := rfl
theorem shOps_apart : apartB shOps = true := by kernel_rfl
theorem shOps_order : inOrder shOps = true := by kernel_rfl
/-- What each operation that reads alone leaves. -/
def tabOk (cT : Nat → Option Value) (l : Array Bool) (vals : Nat → Value) : Prop := ∀ j v, cT j = some v → l.getD j false = true → vals j = v
theorem tabOk.set {cT : Nat → Option Value} {l : Array Bool} {vals : Nat → Value} (h : tabOk cT l vals) {i : Nat} {v : Value} (hc : ∀ v', cT i = some v' → v = v') : tabOk cT (l.setIfInBounds i true) (updV vals i v) := fun j u hj hl => by
  by_cases e : j = i
  · subst e
    rw [updV_at]
    exact hc u hj
  · rw [updV_ne _ _ e]
    rw [set_else (Ne.symm e)] at hl
    exact h j u hj hl
def shC (mv gv : Value) (g n cap k : Nat) (x c t y z : Int) : Nat → Option Value
  | 0 => some (mv)
  | 1 => some ((.slice (some ⟨g, 0, none⟩) n cap))
  | 2 => some (.int .i64 (k : Nat))
  | 3 => some (.pointer (some ⟨g, k, none⟩))
  | 4 => some (.int .i64 x)
  | 5 => some (.int .i64 c)
  | 6 => some (.int .i64 y)
  | 9 => some (gv)
  | 10 => some ((.slice (some ⟨g, 0, none⟩) n cap))
  | 11 => some (.int .i64 (k : Nat))
  | 12 => some (.pointer (some ⟨g, k, none⟩))
  | 13 => some (.int .i64 x)
  | 14 => some (.int .i64 t)
  | 15 => some (.int .i64 z)
  | _ => none
structure ShJ (B g n cap k : Nat) (W0 : World) (mv gv : Value) (LL Lm Lg : List Int) (x c t y z : Int) (l : Array Bool) (vals : Nat → Value) (w : World) : Prop where
  two : TwoJ B W0 (.slice (some ⟨g, 0, none⟩) n cap) mv gv LL Lm Lg y z (l.getD 7 false) (l.getD 8 false) (l.getD 16 false) (l.getD 17 false) w (vals 7) (vals 8) (vals 16) (vals 17)
  tab : tabOk (shC mv gv g n cap k x c t y z) l vals
  m : l.getD 18 false = true → vals 18 = vals 8
  r : l.getD 19 false = true → vals 19 = vals 17
theorem ShJ.pure {B g n cap k : Nat} {W0 : World} {mv gv : Value} {LL Lm Lg : List Int} {x c t y z : Int} {l : Array Bool} {vals : Nat → Value} {w : World} (h : ShJ B g n cap k W0 mv gv LL Lm Lg x c t y z l vals w) (i : Nat) (v : Value) (hi : i ≠ 7 ∧ i ≠ 8 ∧ i ≠ 16 ∧ i ≠ 17 ∧ i ≠ 18 ∧ i ≠ 19)
    (hc : ∀ v', shC mv gv g n cap k x c t y z i = some v' → v = v') : ShJ B g n cap k W0 mv gv LL Lm Lg x c t y z (l.setIfInBounds i true) (updV vals i v) w := by
  obtain ⟨h1, h2, h3, h4, h5, h6⟩ := hi
  refine ⟨?_, h.tab.set hc, ?_, ?_⟩
  · rw [set_else h1, set_else h2, set_else h3, set_else h4, updV_ne _ _ (Ne.symm h1), updV_ne _ _ (Ne.symm h2), updV_ne _ _ (Ne.symm h3), updV_ne _ _ (Ne.symm h4)]
    exact h.two
  · rw [set_else h5, updV_ne _ _ (Ne.symm h5), updV_ne _ _ (Ne.symm h2)]
    exact h.m
  · rw [set_else h6, updV_ne _ _ (Ne.symm h6), updV_ne _ _ (Ne.symm h4)]
    exact h.r
theorem ex_append {ρ : Operand → Value} {o : Oper} {s x : Operand} {w w' : World} {v' : Value} (ho : o.op = .call { callee := .builtin .append, args := #[s, x], argTypes := #[22, 22] }) (hr : (Builtin.append_ #[22, 22] o.type #[ρ s, ρ x]).run Try.prog w = .ok v' w') : (execOp ρ o).run Try.prog w = .ok (.value v') w' := by
  unfold execOp
  simp only [ho, resolve, invoke, builtin, Sem.run_bind, Sem.run_pure, Result.andThen_ok, List.map_toArray, List.map_cons, List.map_nil, hr]
theorem ex_sh3 (ρ : Operand → Value) (w : World) {g n cap k : Nat} (ea : ρ (.tmp 44) = (.slice (some ⟨g, 0, none⟩) n cap)) (eb : ρ (.tmp 45) = .int .i64 (k : Nat)) (hki : (k : Int) < (n : Int)) : (execOp ρ sh3).run Try.prog w = .ok (.value (.pointer (some ⟨g, k, none⟩))) w := by
  unfold sh3
  simp only [execOp, ea, eb]
  go_simp
theorem ex_sh12 (ρ : Operand → Value) (w : World) {g n cap k : Nat} (ea : ρ (.tmp 53) = (.slice (some ⟨g, 0, none⟩) n cap)) (eb : ρ (.tmp 54) = .int .i64 (k : Nat)) (hki : (k : Int) < (n : Int)) : (execOp ρ sh12).run Try.prog w = .ok (.value (.pointer (some ⟨g, k, none⟩))) w := by
  unfold sh12
  simp only [execOp, ea, eb]
  go_simp
theorem ex_sh4 (ρ : Operand → Value) (w : World) {g k : Nat} {x : Int} (ea : ρ (.tmp 46) = .pointer (some ⟨g, k, none⟩)) (hc : w.cell? ⟨g, k, none⟩ = some (.int .i64 x)) : (execOp ρ sh4).run Try.prog w = .ok (.value (.int .i64 x)) w := by
  unfold sh4
  simp only [execOp, ea]
  go_simp
theorem ex_sh13 (ρ : Operand → Value) (w : World) {g k : Nat} {x : Int} (ea : ρ (.tmp 55) = .pointer (some ⟨g, k, none⟩)) (hc : w.cell? ⟨g, k, none⟩ = some (.int .i64 x)) : (execOp ρ sh13).run Try.prog w = .ok (.value (.int .i64 x)) w := by
  unfold sh13
  simp only [execOp, ea]
  go_simp
theorem ex_sh6 (ρ : Operand → Value) (w : World) {x c y : Int} (ea : ρ (.tmp 47) = .int .i64 x) (eb : ρ (.tmp 48) = .int .i64 c) (hy : wrap64 (x + c) = y) : (execOp ρ sh6).run Try.prog w = .ok (.value (.int .i64 y)) w := by
  unfold sh6
  simp only [execOp, ea, eb]
  go_simp
  rw [IntKind.wrap_i64]
  unfold wrap64 at hy
  generalize x + c = s at *
  omega
theorem ex_sh15 (ρ : Operand → Value) (w : World) {x c y : Int} (ea : ρ (.tmp 56) = .int .i64 x) (eb : ρ (.tmp 57) = .int .i64 c) (hy : wrap64 (x * c) = y) : (execOp ρ sh15).run Try.prog w = .ok (.value (.int .i64 y)) w := by
  unfold sh15
  simp only [execOp, ea, eb]
  go_simp
  rw [IntKind.wrap_i64]
  unfold wrap64 at hy
  generalize x * c = s at *
  omega
theorem ex_sh7 (ρ : Operand → Value) (w : World) {y : Int} (ea : ρ (.tmp 49) = .int .i64 y) : (execOp ρ sh7).run Try.prog w = .ok (.value (.slice (some ⟨w.heap.size, 0, none⟩) 1 1)) (w.alloc (.cells #[.int .i64 y] 3)) := by
  unfold sh7
  simp only [execOp, List.map_toArray, List.map_cons, List.map_nil, ea]
  go_simp
theorem ex_sh16 (ρ : Operand → Value) (w : World) {y : Int} (ea : ρ (.tmp 58) = .int .i64 y) : (execOp ρ sh16).run Try.prog w = .ok (.value (.slice (some ⟨w.heap.size, 0, none⟩) 1 1)) (w.alloc (.cells #[.int .i64 y] 3)) := by
  unfold sh16
  simp only [execOp, List.map_toArray, List.map_cons, List.map_nil, ea]
  go_simp
set_option maxHeartbeats 4000000 in
theorem sh_region {B g n cap k : Nat} {W0 : World} {mv gv : Value} {LL Lm Lg : List Int} {x c t y z : Int} {id : Nat} {Q : Exit → Act → World → Prop} (a0 : Act) (w0 : World) (hsz : 60 < a0.tmps.size)
    (i7 : a0.eval (.tmp 7) = mv) (i8 : a0.eval (.tmp 8) = gv) (i0 : a0.eval (.tmp 0) = (.slice (some ⟨g, 0, none⟩) n cap)) (i1 : a0.eval (.tmp 1) = .int .i64 c) (i2 : a0.eval (.tmp 2) = .int .i64 t) (i9 : a0.eval (.tmp 9) = .int .i64 (k : Nat))
    (hJ : TwoJ B W0 (.slice (some ⟨g, 0, none⟩) n cap) mv gv LL Lm Lg 0 0 false false false false w0 undef undef undef undef) (hkl : k < LL.length) (hx : LL.getD k 0 = x) (hkn : k < n)
    (hy : wrap64 (x + c) = y) (hz : wrap64 (x * t) = z) (hlm : Lm.length + 1 ≤ 1000000) (hlg : Lg.length + 1 ≤ 1000000)
    (hQ : ∀ (vals : Nat → Value) (w' : World), TwoJ B W0 (.slice (some ⟨g, 0, none⟩) n cap) (vals 18) (vals 19) LL (Lm ++ [y]) (Lg ++ [z]) 0 0 false false false false w' undef undef undef undef → Q .normal ((((((((((((((((((((a0.put (some 43) (vals 0)).put (some 44) (vals 1)).put (some 45) (vals 2)).put (some 46) (vals 3)).put (some 47) (vals 4)).put (some 48) (vals 5)).put (some 49) (vals 6)).put (some 50) (vals 7)).put (some 51) (vals 8)).put (some 52) (vals 9)).put (some 53) (vals 10)).put (some 54) (vals 11)).put (some 55) (vals 12)).put (some 56) (vals 13)).put (some 57) (vals 14)).put (some 58) (vals 15)).put (some 59) (vals 16)).put (some 60) (vals 17)).put (some 7) (vals 18)).put (some 8) (vals 19)) w') :
    (Code.region id shOps true).wp Try.prog Q a0 w0 := by
  refine wp_region_tab (fun l vals w => ShJ B g n cap k W0 mv gv LL Lm Lg x c t y z l vals w) (by kernel_rfl) shOps_order shOps_apart ?start ?step ?fin
  case start =>
    have hno : ∀ k, (Array.replicate shOps.size false).getD k false = false := fun k => by
      rcases Nat.lt_or_ge k shOps.size with q | q
      · simp [q]
      · simp [Array.getElem?_eq_none (show (Array.replicate shOps.size false).size ≤ k by simpa using q)]
    refine ⟨?_, fun j v _ hl => ?_, fun hl => ?_, fun hl => ?_⟩
    · rw [hno, hno, hno, hno]
      exact hJ.re.drew
    · exact absurd hl (by rw [hno]; simp)
    · exact absurd hl (by rw [hno]; simp)
    · exact absurd hl (by rw [hno]; simp)
  case fin =>
    intro vals l w hall hI
    refine hQ vals w ?_
    have h18 := hI.m (hall 18 (by decide))
    have h19 := hI.r (hall 19 (by decide))
    rw [h18, h19]
    have h := hI.two
    rw [hall 7 (by decide), hall 8 (by decide), hall 16 (by decide), hall 17 (by decide)] at h
    exact h.fin
  case step =>
    rintro l vals w i hz0 hcl hi hlt hI
    have hzl : l.size = 20 := hz0
    have hn := ready_not hi
    have at' : ∀ (s j : Nat), j < 20 → dstOf shOps j = some s → s ≤ 60 → l.getD j false = true → (tabA shOps l vals a0).eval (.tmp s) = vals j := fun s j hj hd hs hl => tabA_at shOps_apart hj hd hl (by omega)
    have un' : ∀ (s : Nat), (∀ j, j < 20 → dstOf shOps j = some s → l.getD j false = false) → (tabA shOps l vals a0).eval (.tmp s) = a0.eval (.tmp s) := fun s h => tabA_un h
    generalize tabA shOps l vals a0 = A at *
    have nodst : ∀ s, (s = 0 ∨ s = 1 ∨ s = 2 ∨ s = 9) → ∀ j, j < 20 → dstOf shOps j ≠ some s := by
      have h : (List.range 20).all (fun j => [0, 1, 2, 9].all fun s => decide (dstOf shOps j ≠ some s)) = true := by kernel_rfl
      intro s hs j hj
      have h1 := List.all_eq_true.1 (List.all_eq_true.1 h j (List.mem_range.2 hj)) s (by simp; omega)
      exact of_decide_eq_true h1
    have hcase : i = 0 ∨ i = 1 ∨ i = 2 ∨ i = 3 ∨ i = 4 ∨ i = 5 ∨ i = 6 ∨ i = 7 ∨ i = 8 ∨ i = 9 ∨ i = 10 ∨ i = 11 ∨ i = 12 ∨ i = 13 ∨ i = 14 ∨ i = 15 ∨ i = 16 ∨ i = 17 ∨ i = 18 ∨ i = 19 := by
      have : i < 20 := hlt
      omega
    clear hlt
    rcases hcase with rfl | rfl | rfl | rfl | rfl | rfl | rfl | rfl | rfl | rfl | rfl | rfl | rfl | rfl | rfl | rfl | rfl | rfl | rfl | rfl
    · have hl : l.getD 18 false = false := waits_not hcl 0 (by kernel_rfl) hn
      have q : A.eval (.tmp 7) = a0.eval (.tmp 7) := un' 7 (fun j hj hd => by
        rcases Nat.lt_or_ge j 20 with _ | _
        · have h : ∀ j, j < 20 → dstOf shOps j = some 7 → j = 18 := by
            have h : (List.range 20).all (fun j => decide (dstOf shOps j = some 7 → j = 18)) = true := by kernel_rfl
            intro j hj
            exact of_decide_eq_true (List.all_eq_true.1 h j (List.mem_range.2 hj))
          rw [h j hj hd]
          exact hl
        · omega)
      refine wpOp_value (oi := sh0) rfl rfl (w' := w) rfl ?_
      exact ⟨_, rfl, hI.pure 0 _ (by decide) (fun v' h => by cases h; exact q.trans i7)⟩
    · have q0 : A.eval (.tmp 0) = a0.eval (.tmp 0) := un' 0 (fun j hj hd => absurd hd (nodst 0 (by decide) j hj))
      refine wpOp_value (oi := sh1) rfl rfl (w' := w) rfl ?_
      exact ⟨_, rfl, hI.pure 1 _ (by decide) (fun v' h => by cases h; exact q0.trans i0)⟩
    · have q9 : A.eval (.tmp 9) = a0.eval (.tmp 9) := un' 9 (fun j hj hd => absurd hd (nodst 9 (by decide) j hj))
      refine wpOp_value (oi := sh2) rfl rfl (w' := w) rfl ?_
      exact ⟨_, rfl, hI.pure 2 _ (by decide) (fun v' h => by cases h; exact q9.trans i9)⟩
    · have ra := waits_ready hi 1 (by kernel_rfl)
      have rb := waits_ready hi 2 (by kernel_rfl)
      have ea : A.eval (.tmp 44) = (.slice (some ⟨g, 0, none⟩) n cap) := (at' 44 1 (by decide) rfl (by decide) ra).trans (hI.tab 1 _ rfl ra)
      have eb : A.eval (.tmp 45) = .int .i64 (k : Nat) := (at' 45 2 (by decide) rfl (by decide) rb).trans (hI.tab 2 _ rfl rb)
      have hki : (k : Int) < (n : Int) := by omega
      refine wpOp_value (oi := sh3) (v := .pointer (some ⟨g, k, none⟩)) rfl rfl (w' := w) (ex_sh3 _ w ea eb hki) ?_
      exact ⟨_, rfl, hI.pure 3 _ (by decide) (fun v' h => by cases h; rfl)⟩
    · have ra := waits_ready hi 3 (by kernel_rfl)
      have ea : A.eval (.tmp 46) = .pointer (some ⟨g, k, none⟩) := (at' 46 3 (by decide) rfl (by decide) ra).trans (hI.tab 3 _ rfl ra)
      have hc := hI.two.lr.cellAt hkl
      rw [hx] at hc
      refine wpOp_value (oi := sh4) (v := .int .i64 x) rfl rfl (w' := w) (ex_sh4 _ w ea hc) ?_
      exact ⟨_, rfl, hI.pure 4 _ (by decide) (fun v' h => by cases h; rfl)⟩
    · have q1 : A.eval (.tmp 1) = a0.eval (.tmp 1) := un' 1 (fun j hj hd => absurd hd (nodst 1 (by decide) j hj))
      refine wpOp_value (oi := sh5) rfl rfl (w' := w) rfl ?_
      exact ⟨_, rfl, hI.pure 5 _ (by decide) (fun v' h => by cases h; exact q1.trans i1)⟩
    · have ra := waits_ready hi 4 (by kernel_rfl)
      have rb := waits_ready hi 5 (by kernel_rfl)
      have ea : A.eval (.tmp 47) = .int .i64 x := (at' 47 4 (by decide) rfl (by decide) ra).trans (hI.tab 4 _ rfl ra)
      have eb : A.eval (.tmp 48) = .int .i64 c := (at' 48 5 (by decide) rfl (by decide) rb).trans (hI.tab 5 _ rfl rb)
      refine wpOp_value (oi := sh6) (v := .int .i64 y) rfl rfl (w' := w) (ex_sh6 _ w ea eb hy) ?_
      exact ⟨_, rfl, hI.pure 6 _ (by decide) (fun v' h => by cases h; rfl)⟩
    · have ra := waits_ready hi 6 (by kernel_rfl)
      have ea : A.eval (.tmp 49) = .int .i64 y := (at' 49 6 (by decide) rfl (by decide) ra).trans (hI.tab 6 _ rfl ra)
      have hl : l.getD 8 false = false := waits_not hcl 7 (by kernel_rfl) hn
      have h2 := hI.two
      rw [hl] at h2
      refine wpOp_value (oi := sh7) (v := .slice (some ⟨w.heap.size, 0, none⟩) 1 1) rfl rfl (w' := w.alloc (.cells #[.int .i64 y] 3)) (ex_sh7 _ w ea) ?_
      refine ⟨_, rfl, ?_, hI.tab.set (fun v' h => by cases h), ?_, ?_⟩
      · rw [set_here (by omega), set_else (by decide), set_else (by decide), set_else (by decide), updV_at, updV_ne _ _ (by decide), updV_ne _ _ (by decide), updV_ne _ _ (by decide), hl]
        exact h2.t7
      · rw [set_else (by decide), updV_ne _ _ (by decide), updV_ne _ _ (by decide)]
        exact hI.m
      · rw [set_else (by decide), updV_ne _ _ (by decide), updV_ne _ _ (by decide)]
        exact hI.r
    · have ra := waits_ready hi 0 (by kernel_rfl)
      have rb := waits_ready hi 7 (by kernel_rfl)
      have ea : A.eval (.tmp 43) = mv := (at' 43 0 (by decide) rfl (by decide) ra).trans (hI.tab 0 _ rfl ra)
      have eb : A.eval (.tmp 50) = vals 7 := at' 50 7 (by decide) rfl (by decide) rb
      have hl : l.getD 18 false = false := waits_not hcl 8 (by kernel_rfl) hn
      have h2 := hI.two
      rw [hn, rb] at h2
      obtain ⟨v', w', hr, h3⟩ := h2.t8 22 hlm
      refine wpOp_value (oi := sh8) (v := v') rfl rfl (w' := w') (ex_append (o := sh8) rfl (by rw [ea, eb]; exact hr)) ?_
      refine ⟨_, rfl, ?_, hI.tab.set (fun v' h => by cases h), ?_, ?_⟩
      · rw [set_here (by omega), set_else (by decide), set_else (by decide), set_else (by decide), updV_at, updV_ne _ _ (by decide), updV_ne _ _ (by decide), updV_ne _ _ (by decide), rb]
        exact h3
      · intro q; rw [set_else (by decide), hl] at q; cases q
      · rw [set_else (by decide), updV_ne _ _ (by decide), updV_ne _ _ (by decide)]; exact hI.r
    · have hl : l.getD 19 false = false := waits_not hcl 9 (by kernel_rfl) hn
      have q : A.eval (.tmp 8) = a0.eval (.tmp 8) := un' 8 (fun j hj hd => by
        rcases Nat.lt_or_ge j 20 with _ | _
        · have h : ∀ j, j < 20 → dstOf shOps j = some 8 → j = 19 := by
            have h : (List.range 20).all (fun j => decide (dstOf shOps j = some 8 → j = 19)) = true := by kernel_rfl
            intro j hj
            exact of_decide_eq_true (List.all_eq_true.1 h j (List.mem_range.2 hj))
          rw [h j hj hd]
          exact hl
        · omega)
      refine wpOp_value (oi := sh9) rfl rfl (w' := w) rfl ?_
      exact ⟨_, rfl, hI.pure 9 _ (by decide) (fun v' h => by cases h; exact q.trans i8)⟩
    · have q0 : A.eval (.tmp 0) = a0.eval (.tmp 0) := un' 0 (fun j hj hd => absurd hd (nodst 0 (by decide) j hj))
      refine wpOp_value (oi := sh10) rfl rfl (w' := w) rfl ?_
      exact ⟨_, rfl, hI.pure 10 _ (by decide) (fun v' h => by cases h; exact q0.trans i0)⟩
    · have q9 : A.eval (.tmp 9) = a0.eval (.tmp 9) := un' 9 (fun j hj hd => absurd hd (nodst 9 (by decide) j hj))
      refine wpOp_value (oi := sh11) rfl rfl (w' := w) rfl ?_
      exact ⟨_, rfl, hI.pure 11 _ (by decide) (fun v' h => by cases h; exact q9.trans i9)⟩
    · have ra := waits_ready hi 10 (by kernel_rfl)
      have rb := waits_ready hi 11 (by kernel_rfl)
      have ea : A.eval (.tmp 53) = (.slice (some ⟨g, 0, none⟩) n cap) := (at' 53 10 (by decide) rfl (by decide) ra).trans (hI.tab 10 _ rfl ra)
      have eb : A.eval (.tmp 54) = .int .i64 (k : Nat) := (at' 54 11 (by decide) rfl (by decide) rb).trans (hI.tab 11 _ rfl rb)
      have hki : (k : Int) < (n : Int) := by omega
      refine wpOp_value (oi := sh12) (v := .pointer (some ⟨g, k, none⟩)) rfl rfl (w' := w) (ex_sh12 _ w ea eb hki) ?_
      exact ⟨_, rfl, hI.pure 12 _ (by decide) (fun v' h => by cases h; rfl)⟩
    · have ra := waits_ready hi 12 (by kernel_rfl)
      have ea : A.eval (.tmp 55) = .pointer (some ⟨g, k, none⟩) := (at' 55 12 (by decide) rfl (by decide) ra).trans (hI.tab 12 _ rfl ra)
      have hc := hI.two.lr.cellAt hkl
      rw [hx] at hc
      refine wpOp_value (oi := sh13) (v := .int .i64 x) rfl rfl (w' := w) (ex_sh13 _ w ea hc) ?_
      exact ⟨_, rfl, hI.pure 13 _ (by decide) (fun v' h => by cases h; rfl)⟩
    · have q2 : A.eval (.tmp 2) = a0.eval (.tmp 2) := un' 2 (fun j hj hd => absurd hd (nodst 2 (by decide) j hj))
      refine wpOp_value (oi := sh14) rfl rfl (w' := w) rfl ?_
      exact ⟨_, rfl, hI.pure 14 _ (by decide) (fun v' h => by cases h; exact q2.trans i2)⟩
    · have ra := waits_ready hi 13 (by kernel_rfl)
      have rb := waits_ready hi 14 (by kernel_rfl)
      have ea : A.eval (.tmp 56) = .int .i64 x := (at' 56 13 (by decide) rfl (by decide) ra).trans (hI.tab 13 _ rfl ra)
      have eb : A.eval (.tmp 57) = .int .i64 t := (at' 57 14 (by decide) rfl (by decide) rb).trans (hI.tab 14 _ rfl rb)
      refine wpOp_value (oi := sh15) (v := .int .i64 z) rfl rfl (w' := w) (ex_sh15 _ w ea eb hz) ?_
      exact ⟨_, rfl, hI.pure 15 _ (by decide) (fun v' h => by cases h; rfl)⟩
    · have ra := waits_ready hi 15 (by kernel_rfl)
      have ea : A.eval (.tmp 58) = .int .i64 z := (at' 58 15 (by decide) rfl (by decide) ra).trans (hI.tab 15 _ rfl ra)
      have hl : l.getD 17 false = false := waits_not hcl 16 (by kernel_rfl) hn
      have h2 := hI.two
      rw [hl] at h2
      refine wpOp_value (oi := sh16) (v := .slice (some ⟨w.heap.size, 0, none⟩) 1 1) rfl rfl (w' := w.alloc (.cells #[.int .i64 z] 3)) (ex_sh16 _ w ea) ?_
      refine ⟨_, rfl, ?_, hI.tab.set (fun v' h => by cases h), ?_, ?_⟩
      · rw [set_here (by omega), set_else (by decide), set_else (by decide), set_else (by decide), updV_at, updV_ne _ _ (by decide), updV_ne _ _ (by decide), updV_ne _ _ (by decide), hl]
        exact h2.t16
      · rw [set_else (by decide), updV_ne _ _ (by decide), updV_ne _ _ (by decide)]
        exact hI.m
      · rw [set_else (by decide), updV_ne _ _ (by decide), updV_ne _ _ (by decide)]
        exact hI.r
    · have ra := waits_ready hi 9 (by kernel_rfl)
      have rb := waits_ready hi 16 (by kernel_rfl)
      have ea : A.eval (.tmp 52) = gv := (at' 52 9 (by decide) rfl (by decide) ra).trans (hI.tab 9 _ rfl ra)
      have eb : A.eval (.tmp 59) = vals 16 := at' 59 16 (by decide) rfl (by decide) rb
      have hl : l.getD 19 false = false := waits_not hcl 17 (by kernel_rfl) hn
      have h2 := hI.two
      rw [hn, rb] at h2
      obtain ⟨v', w', hr, h3⟩ := h2.t17 22 hlg
      refine wpOp_value (oi := sh17) (v := v') rfl rfl (w' := w') (ex_append (o := sh17) rfl (by rw [ea, eb]; exact hr)) ?_
      refine ⟨_, rfl, ?_, hI.tab.set (fun v' h => by cases h), ?_, ?_⟩
      · rw [set_here (by omega), set_else (by decide), set_else (by decide), set_else (by decide), updV_at, updV_ne _ _ (by decide), updV_ne _ _ (by decide), updV_ne _ _ (by decide), rb]
        exact h3
      · rw [set_else (by decide), updV_ne _ _ (by decide), updV_ne _ _ (by decide)]; exact hI.m
      · intro q; rw [set_else (by decide), hl] at q; cases q
    · have ra := waits_ready hi 8 (by kernel_rfl)
      have ea : A.eval (.tmp 51) = vals 8 := at' 51 8 (by decide) rfl (by decide) ra
      refine wpOp_value (oi := sh18) rfl rfl (w' := w) rfl ?_
      refine ⟨_, rfl, ?_, hI.tab.set (fun v' h => by cases h), ?_, ?_⟩
      · rw [set_else (by decide), set_else (by decide), set_else (by decide), set_else (by decide), updV_ne _ _ (by decide), updV_ne _ _ (by decide), updV_ne _ _ (by decide), updV_ne _ _ (by decide)]
        exact hI.two
      · intro _; rw [updV_at, updV_ne _ _ (by decide)]; exact ea
      · rw [set_else (by decide), updV_ne _ _ (by decide), updV_ne _ _ (by decide)]; exact hI.r
    · have ra := waits_ready hi 17 (by kernel_rfl)
      have ea : A.eval (.tmp 60) = vals 17 := at' 60 17 (by decide) rfl (by decide) ra
      refine wpOp_value (oi := sh19) rfl rfl (w' := w) rfl ?_
      refine ⟨_, rfl, ?_, hI.tab.set (fun v' h => by cases h), ?_, ?_⟩
      · rw [set_else (by decide), set_else (by decide), set_else (by decide), set_else (by decide), updV_ne _ _ (by decide), updV_ne _ _ (by decide), updV_ne _ _ (by decide), updV_ne _ _ (by decide)]
        exact hI.two
      · rw [set_else (by decide), updV_ne _ _ (by decide), updV_ne _ _ (by decide)]; exact hI.m
      · intro _; rw [updV_at, updV_ne _ _ (by decide)]; exact ea
end Go.Proofs.Ytbpdapggdccmiaa
