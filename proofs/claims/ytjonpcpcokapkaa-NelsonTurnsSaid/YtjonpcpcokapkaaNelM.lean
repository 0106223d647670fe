/- The drawn region of some's loop: two rows, each with one more put behind it, whatever order comes. -/
import Derived.Test.YtjonpcpcokapkaaTwo
import Derived.Test.YtjonpcpcokapkaaTab
namespace Go.Proofs.Ytjonpcpcokapkaa
open Go.RowKit

set_option maxRecDepth 100000
def so0 : Oper := { dst := some 47, op := Op.move (Operand.tmp 6), type := 22, pos := "law.go:30", after := #[], guard := none }
def so1 : Oper := { dst := some 48, op := Op.move (Operand.tmp 9), type := 3, pos := "law.go:30", after := #[], guard := none }
def so2 : Oper := { dst := some 49, op := Op.buildSlice 22 1 #[(0, Operand.tmp 48)], type := 22, pos := "law.go:30", after := #[{ on := 1, ground := Ground.data }], guard := none }
def so3 : Oper := { dst := some 50, op := Op.call { callee := Callee.builtin Builtin.append, args := #[Operand.tmp 47, Operand.tmp 49], argTypes := #[22, 22] }, type := 22, pos := "law.go:30", after := #[{ on := 0, ground := Ground.data }, { on := 2, ground := Ground.data }], guard := none }
def so4 : Oper := { dst := some 51, op := Op.move (Operand.tmp 7), type := 22, pos := "law.go:30", after := #[], guard := none }
def so5 : Oper := { dst := some 52, op := Op.move (Operand.tmp 10), type := 22, pos := "law.go:30", after := #[], guard := none }
def so6 : Oper := { dst := some 53, op := Op.move (Operand.tmp 11), type := 3, pos := "law.go:30", after := #[], guard := none }
def so7 : Oper := { dst := some 54, op := Op.indexAddr 22 (Operand.tmp 52) (Operand.tmp 53), type := 0, pos := "law.go:30", after := #[{ on := 5, ground := Ground.data }, { on := 6, ground := Ground.data }], guard := none }
def so8 : Oper := { dst := some 55, op := Op.load 3 (Operand.tmp 54), type := 3, pos := "law.go:30", after := #[{ on := 7, ground := Ground.data }], guard := none }
def so9 : Oper := { dst := some 56, op := Op.buildSlice 22 1 #[(0, Operand.tmp 55)], type := 22, pos := "law.go:30", after := #[{ on := 8, ground := Ground.data }], guard := none }
def so10 : Oper := { dst := some 57, op := Op.call { callee := Callee.builtin Builtin.append, args := #[Operand.tmp 51, Operand.tmp 56], argTypes := #[22, 22] }, type := 22, pos := "law.go:30", after := #[{ on := 4, ground := Ground.data }, { on := 9, ground := Ground.data }, { on := 3, ground := Ground.chain }], guard := none }
def so11 : Oper := { dst := some 6, op := Op.assign (Operand.tmp 50), type := 22, pos := "law.go:30", after := #[{ on := 3, ground := Ground.data }, { on := 10, ground := Ground.chain }, { on := 0, ground := Ground.phase }, { on := 1, ground := Ground.phase }, { on := 2, ground := Ground.phase }, { on := 3, ground := Ground.phase }, { on := 4, ground := Ground.textOnly Departure.lateStores }, { on := 5, ground := Ground.textOnly Departure.lateStores }, { on := 6, ground := Ground.textOnly Departure.lateStores }, { on := 7, ground := Ground.textOnly Departure.lateStores }, { on := 8, ground := Ground.textOnly Departure.lateStores }, { on := 9, ground := Ground.textOnly Departure.lateStores }, { on := 10, ground := Ground.textOnly Departure.lateStoresUnsure }], guard := none }
def so12 : Oper := { dst := some 7, op := Op.assign (Operand.tmp 57), type := 22, pos := "law.go:30", after := #[{ on := 10, ground := Ground.data }, { on := 11, ground := Ground.chain }, { on := 0, ground := Ground.phase }, { on := 1, ground := Ground.phase }, { on := 2, ground := Ground.phase }, { on := 3, ground := Ground.phase }, { on := 4, ground := Ground.phase }, { on := 5, ground := Ground.phase }, { on := 6, ground := Ground.phase }, { on := 7, ground := Ground.phase }, { on := 8, ground := Ground.phase }, { on := 9, ground := Ground.phase }, { on := 10, ground := Ground.phase }, { on := 11, ground := Ground.phase }], guard := none }
def soOps : Array Oper := #[so0, so1, so2, so3, so4, so5, so6, so7, so8, so9, so10, so11, so12]
theorem soOps_apart : apartB soOps = true := by kernel_rfl
theorem soOps_order : inOrder soOps = true := by kernel_rfl
/-- What each operation that reads alone leaves. -/
def tabOk (cT : Nat → Option Value) (l : Array Bool) (vals : Nat → Value) : Prop := ∀ j v, cT j = some v → l.getD j false = true → vals j = v
theorem tabOk.set {cT : Nat → Option Value} {l : Array Bool} {vals : Nat → Value} (h : tabOk cT l vals) {i : Nat} {v : Value} (hc : ∀ v', cT i = some v' → v = v') : tabOk cT (l.setIfInBounds i true) (updV vals i v) := fun j u hj hl => by
  by_cases e : j = i
  · subst e
    rw [updV_at]
    exact hc u hj
  · rw [updV_ne _ _ e]
    rw [set_else (Ne.symm e)] at hl
    exact h j u hj hl
def soC (mv gv : Value) (g n cap k : Nat) (y z : Int) : Nat → Option Value
  | 0 => some (mv)
  | 1 => some (.int .i64 y)
  | 4 => some (gv)
  | 5 => some ((.slice (some ⟨g, 0, none⟩) n cap))
  | 6 => some (.int .i64 (k : Nat))
  | 7 => some (.pointer (some ⟨g, k, none⟩))
  | 8 => some (.int .i64 z)
  | _ => none
structure SoJ (B g n cap k : Nat) (W0 : World) (mv gv : Value) (LL Lm Lg : List Int) (y z : Int) (l : Array Bool) (vals : Nat → Value) (w : World) : Prop where
  two : TwoJ B W0 (.slice (some ⟨g, 0, none⟩) n cap) mv gv LL Lm Lg y z (l.getD 2 false) (l.getD 3 false) (l.getD 9 false) (l.getD 10 false) w (vals 2) (vals 3) (vals 9) (vals 10)
  tab : tabOk (soC mv gv g n cap k y z) l vals
  m : l.getD 11 false = true → vals 11 = vals 3
  r : l.getD 12 false = true → vals 12 = vals 10
theorem SoJ.pure {B g n cap k : Nat} {W0 : World} {mv gv : Value} {LL Lm Lg : List Int} {y z : Int} {l : Array Bool} {vals : Nat → Value} {w : World} (h : SoJ B g n cap k W0 mv gv LL Lm Lg y z l vals w) (i : Nat) (v : Value) (hi : i ≠ 2 ∧ i ≠ 3 ∧ i ≠ 9 ∧ i ≠ 10 ∧ i ≠ 11 ∧ i ≠ 12)
    (hc : ∀ v', soC mv gv g n cap k y z i = some v' → v = v') : SoJ B g n cap k W0 mv gv LL Lm Lg y z (l.setIfInBounds i true) (updV vals i v) w := by
  obtain ⟨h1, h2, h3, h4, h5, h6⟩ := hi
  refine ⟨?_, h.tab.set hc, ?_, ?_⟩
  · rw [set_else h1, set_else h2, set_else h3, set_else h4, updV_ne _ _ (Ne.symm h1), updV_ne _ _ (Ne.symm h2), updV_ne _ _ (Ne.symm h3), updV_ne _ _ (Ne.symm h4)]
    exact h.two
  · rw [set_else h5, updV_ne _ _ (Ne.symm h5), updV_ne _ _ (Ne.symm h2)]
    exact h.m
  · rw [set_else h6, updV_ne _ _ (Ne.symm h6), updV_ne _ _ (Ne.symm h4)]
    exact h.r
theorem ex_append {ρ : Operand → Value} {o : Oper} {s x : Operand} {w w' : World} {v' : Value} (ho : o.op = .call { callee := .builtin .append, args := #[s, x], argTypes := #[22, 22] }) (hr : (Builtin.append_ #[22, 22] o.type #[ρ s, ρ x]).run Try.prog w = .ok v' w') : (execOp ρ o).run Try.prog w = .ok (.value v') w' := by
  unfold execOp
  simp only [ho, resolve, invoke, builtin, Sem.run_bind, Sem.run_pure, Result.andThen_ok, List.map_toArray, List.map_cons, List.map_nil, hr]
theorem ex_so7 (ρ : Operand → Value) (w : World) {g n cap k : Nat} (ea : ρ (.tmp 52) = (.slice (some ⟨g, 0, none⟩) n cap)) (eb : ρ (.tmp 53) = .int .i64 (k : Nat)) (hki : (k : Int) < (n : Int)) : (execOp ρ so7).run Try.prog w = .ok (.value (.pointer (some ⟨g, k, none⟩))) w := by
  unfold so7
  simp only [execOp, ea, eb]
  go_simp
theorem ex_so8 (ρ : Operand → Value) (w : World) {g k : Nat} {x : Int} (ea : ρ (.tmp 54) = .pointer (some ⟨g, k, none⟩)) (hc : w.cell? ⟨g, k, none⟩ = some (.int .i64 x)) : (execOp ρ so8).run Try.prog w = .ok (.value (.int .i64 x)) w := by
  unfold so8
  simp only [execOp, ea]
  go_simp
theorem ex_so2 (ρ : Operand → Value) (w : World) {y : Int} (ea : ρ (.tmp 48) = .int .i64 y) : (execOp ρ so2).run Try.prog w = .ok (.value (.slice (some ⟨w.heap.size, 0, none⟩) 1 1)) (w.alloc (.cells #[.int .i64 y] 3)) := by
  unfold so2
  simp only [execOp, List.map_toArray, List.map_cons, List.map_nil, ea]
  go_simp
theorem ex_so9 (ρ : Operand → Value) (w : World) {y : Int} (ea : ρ (.tmp 55) = .int .i64 y) : (execOp ρ so9).run Try.prog w = .ok (.value (.slice (some ⟨w.heap.size, 0, none⟩) 1 1)) (w.alloc (.cells #[.int .i64 y] 3)) := by
  unfold so9
  simp only [execOp, List.map_toArray, List.map_cons, List.map_nil, ea]
  go_simp
set_option maxHeartbeats 4000000 in
theorem so_region {B g n cap k : Nat} {W0 : World} {mv gv : Value} {LL Lm Lg : List Int} {y z : Int} {id : Nat} {Q : Exit → Act → World → Prop} (a0 : Act) (w0 : World) (hsz : 57 < a0.tmps.size)
    (i6 : a0.eval (.tmp 6) = mv) (i7 : a0.eval (.tmp 7) = gv) (i10 : a0.eval (.tmp 10) = (.slice (some ⟨g, 0, none⟩) n cap)) (i9 : a0.eval (.tmp 9) = .int .i64 y) (i11 : a0.eval (.tmp 11) = .int .i64 (k : Nat))
    (hJ : TwoJ B W0 (.slice (some ⟨g, 0, none⟩) n cap) mv gv LL Lm Lg 0 0 false false false false w0 undef undef undef undef) (hkl : k < LL.length) (hx : LL.getD k 0 = z) (hkn : k < n)
    (hlm : Lm.length + 1 ≤ 1000000) (hlg : Lg.length + 1 ≤ 1000000)
    (hQ : ∀ (vals : Nat → Value) (w' : World), TwoJ B W0 (.slice (some ⟨g, 0, none⟩) n cap) (vals 11) (vals 12) LL (Lm ++ [y]) (Lg ++ [z]) 0 0 false false false false w' undef undef undef undef → Q .normal (((((((((((((a0.put (some 47) (vals 0)).put (some 48) (vals 1)).put (some 49) (vals 2)).put (some 50) (vals 3)).put (some 51) (vals 4)).put (some 52) (vals 5)).put (some 53) (vals 6)).put (some 54) (vals 7)).put (some 55) (vals 8)).put (some 56) (vals 9)).put (some 57) (vals 10)).put (some 6) (vals 11)).put (some 7) (vals 12)) w') :
    (Code.region id soOps true).wp Try.prog Q a0 w0 := by
  refine wp_region_tab (fun l vals w => SoJ B g n cap k W0 mv gv LL Lm Lg y z l vals w) (by kernel_rfl) soOps_order soOps_apart ?start ?step ?fin
  case start =>
    have hno : ∀ k, (Array.replicate soOps.size false).getD k false = false := fun k => by
      rcases Nat.lt_or_ge k soOps.size with q | q
      · simp [q]
      · simp [Array.getElem?_eq_none (show (Array.replicate soOps.size false).size ≤ k by simpa using q)]
    refine ⟨?_, fun j v _ hl => ?_, fun hl => ?_, fun hl => ?_⟩
    · rw [hno, hno, hno, hno]
      exact hJ.re.drew
    · exact absurd hl (by rw [hno]; simp)
    · exact absurd hl (by rw [hno]; simp)
    · exact absurd hl (by rw [hno]; simp)
  case fin =>
    intro vals l w hall hI
    refine hQ vals w ?_
    have h18 := hI.m (hall 11 (by decide))
    have h19 := hI.r (hall 12 (by decide))
    rw [h18, h19]
    have h := hI.two
    rw [hall 2 (by decide), hall 3 (by decide), hall 9 (by decide), hall 10 (by decide)] at h
    exact h.fin
  case step =>
    rintro l vals w i hz0 hcl hi hlt hI
    have hzl : l.size = 13 := hz0
    have hn := ready_not hi
    have at' : ∀ (s j : Nat), j < 13 → dstOf soOps j = some s → s ≤ 57 → l.getD j false = true → (tabA soOps l vals a0).eval (.tmp s) = vals j := fun s j hj hd hs hl => tabA_at soOps_apart hj hd hl (by omega)
    have un' : ∀ (s : Nat), (∀ j, j < 13 → dstOf soOps j = some s → l.getD j false = false) → (tabA soOps l vals a0).eval (.tmp s) = a0.eval (.tmp s) := fun s h => tabA_un h
    generalize tabA soOps l vals a0 = A at *
    have nodst : ∀ s, (s = 9 ∨ s = 10 ∨ s = 11) → ∀ j, j < 13 → dstOf soOps j ≠ some s := by
      have h : (List.range 13).all (fun j => [9, 10, 11].all fun s => decide (dstOf soOps j ≠ some s)) = true := by kernel_rfl
      intro s hs j hj
      have h1 := List.all_eq_true.1 (List.all_eq_true.1 h j (List.mem_range.2 hj)) s (by simp; omega)
      exact of_decide_eq_true h1
    have hcase : i = 0 ∨ i = 1 ∨ i = 2 ∨ i = 3 ∨ i = 4 ∨ i = 5 ∨ i = 6 ∨ i = 7 ∨ i = 8 ∨ i = 9 ∨ i = 10 ∨ i = 11 ∨ i = 12 := by
      have : i < 13 := hlt
      omega
    clear hlt
    rcases hcase with rfl | rfl | rfl | rfl | rfl | rfl | rfl | rfl | rfl | rfl | rfl | rfl | rfl
    · have hl : l.getD 11 false = false := waits_not hcl 0 (by kernel_rfl) hn
      have q : A.eval (.tmp 6) = a0.eval (.tmp 6) := un' 6 (fun j hj hd => by
        have h : ∀ j, j < 13 → dstOf soOps j = some 6 → j = 11 := by
          have h : (List.range 13).all (fun j => decide (dstOf soOps j = some 6 → j = 11)) = true := by kernel_rfl
          intro j hj
          exact of_decide_eq_true (List.all_eq_true.1 h j (List.mem_range.2 hj))
        rw [h j hj hd]
        exact hl)
      refine wpOp_value (oi := so0) rfl rfl (w' := w) rfl ?_
      exact ⟨_, rfl, hI.pure 0 _ (by decide) (fun v' h => by cases h; exact q.trans i6)⟩
    · have q9 : A.eval (.tmp 9) = a0.eval (.tmp 9) := un' 9 (fun j hj hd => absurd hd (nodst 9 (by decide) j hj))
      refine wpOp_value (oi := so1) rfl rfl (w' := w) rfl ?_
      exact ⟨_, rfl, hI.pure 1 _ (by decide) (fun v' h => by cases h; exact q9.trans i9)⟩
    · have ra := waits_ready hi 1 (by kernel_rfl)
      have ea : A.eval (.tmp 48) = .int .i64 y := (at' 48 1 (by decide) rfl (by decide) ra).trans (hI.tab 1 _ rfl ra)
      have hl : l.getD 3 false = false := waits_not hcl 2 (by kernel_rfl) hn
      have h2 := hI.two
      rw [hl] at h2
      refine wpOp_value (oi := so2) (v := .slice (some ⟨w.heap.size, 0, none⟩) 1 1) rfl rfl (w' := w.alloc (.cells #[.int .i64 y] 3)) (ex_so2 _ w ea) ?_
      refine ⟨_, rfl, ?_, hI.tab.set (fun v' h => by cases h), ?_, ?_⟩
      · rw [set_here (by omega), set_else (by decide), set_else (by decide), set_else (by decide), updV_at, updV_ne _ _ (by decide), updV_ne _ _ (by decide), updV_ne _ _ (by decide), hl]
        exact h2.t7
      · rw [set_else (by decide), updV_ne _ _ (by decide), updV_ne _ _ (by decide)]
        exact hI.m
      · rw [set_else (by decide), updV_ne _ _ (by decide), updV_ne _ _ (by decide)]
        exact hI.r
    · have ra := waits_ready hi 0 (by kernel_rfl)
      have rb := waits_ready hi 2 (by kernel_rfl)
      have ea : A.eval (.tmp 47) = mv := (at' 47 0 (by decide) rfl (by decide) ra).trans (hI.tab 0 _ rfl ra)
      have eb : A.eval (.tmp 49) = vals 2 := at' 49 2 (by decide) rfl (by decide) rb
      have hl : l.getD 11 false = false := waits_not hcl 3 (by kernel_rfl) hn
      have h2 := hI.two
      rw [hn, rb] at h2
      obtain ⟨v', w', hr, h3⟩ := h2.t8 22 hlm
      refine wpOp_value (oi := so3) (v := v') rfl rfl (w' := w') (ex_append (o := so3) rfl (by rw [ea, eb]; exact hr)) ?_
      refine ⟨_, rfl, ?_, hI.tab.set (fun v' h => by cases h), ?_, ?_⟩
      · rw [set_here (by omega), set_else (by decide), set_else (by decide), set_else (by decide), updV_at, updV_ne _ _ (by decide), updV_ne _ _ (by decide), updV_ne _ _ (by decide), rb]
        exact h3
      · intro q; rw [set_else (by decide), hl] at q; cases q
      · rw [set_else (by decide), updV_ne _ _ (by decide), updV_ne _ _ (by decide)]; exact hI.r
    · have hl : l.getD 12 false = false := waits_not hcl 4 (by kernel_rfl) hn
      have q : A.eval (.tmp 7) = a0.eval (.tmp 7) := un' 7 (fun j hj hd => by
        have h : ∀ j, j < 13 → dstOf soOps j = some 7 → j = 12 := by
          have h : (List.range 13).all (fun j => decide (dstOf soOps j = some 7 → j = 12)) = true := by kernel_rfl
          intro j hj
          exact of_decide_eq_true (List.all_eq_true.1 h j (List.mem_range.2 hj))
        rw [h j hj hd]
        exact hl)
      refine wpOp_value (oi := so4) rfl rfl (w' := w) rfl ?_
      exact ⟨_, rfl, hI.pure 4 _ (by decide) (fun v' h => by cases h; exact q.trans i7)⟩
    · have q10 : A.eval (.tmp 10) = a0.eval (.tmp 10) := un' 10 (fun j hj hd => absurd hd (nodst 10 (by decide) j hj))
      refine wpOp_value (oi := so5) rfl rfl (w' := w) rfl ?_
      exact ⟨_, rfl, hI.pure 5 _ (by decide) (fun v' h => by cases h; exact q10.trans i10)⟩
    · have q11 : A.eval (.tmp 11) = a0.eval (.tmp 11) := un' 11 (fun j hj hd => absurd hd (nodst 11 (by decide) j hj))
      refine wpOp_value (oi := so6) rfl rfl (w' := w) rfl ?_
      exact ⟨_, rfl, hI.pure 6 _ (by decide) (fun v' h => by cases h; exact q11.trans i11)⟩
    · have ra := waits_ready hi 5 (by kernel_rfl)
      have rb := waits_ready hi 6 (by kernel_rfl)
      have ea : A.eval (.tmp 52) = (.slice (some ⟨g, 0, none⟩) n cap) := (at' 52 5 (by decide) rfl (by decide) ra).trans (hI.tab 5 _ rfl ra)
      have eb : A.eval (.tmp 53) = .int .i64 (k : Nat) := (at' 53 6 (by decide) rfl (by decide) rb).trans (hI.tab 6 _ rfl rb)
      have hki : (k : Int) < (n : Int) := by omega
      refine wpOp_value (oi := so7) (v := .pointer (some ⟨g, k, none⟩)) rfl rfl (w' := w) (ex_so7 _ w ea eb hki) ?_
      exact ⟨_, rfl, hI.pure 7 _ (by decide) (fun v' h => by cases h; rfl)⟩
    · have ra := waits_ready hi 7 (by kernel_rfl)
      have ea : A.eval (.tmp 54) = .pointer (some ⟨g, k, none⟩) := (at' 54 7 (by decide) rfl (by decide) ra).trans (hI.tab 7 _ rfl ra)
      have hc := hI.two.lr.cellAt hkl
      rw [hx] at hc
      refine wpOp_value (oi := so8) (v := .int .i64 z) rfl rfl (w' := w) (ex_so8 _ w ea hc) ?_
      exact ⟨_, rfl, hI.pure 8 _ (by decide) (fun v' h => by cases h; rfl)⟩
    · have ra := waits_ready hi 8 (by kernel_rfl)
      have ea : A.eval (.tmp 55) = .int .i64 z := (at' 55 8 (by decide) rfl (by decide) ra).trans (hI.tab 8 _ rfl ra)
      have hl : l.getD 10 false = false := waits_not hcl 9 (by kernel_rfl) hn
      have h2 := hI.two
      rw [hl] at h2
      refine wpOp_value (oi := so9) (v := .slice (some ⟨w.heap.size, 0, none⟩) 1 1) rfl rfl (w' := w.alloc (.cells #[.int .i64 z] 3)) (ex_so9 _ w ea) ?_
      refine ⟨_, rfl, ?_, hI.tab.set (fun v' h => by cases h), ?_, ?_⟩
      · rw [set_here (by omega), set_else (by decide), set_else (by decide), set_else (by decide), updV_at, updV_ne _ _ (by decide), updV_ne _ _ (by decide), updV_ne _ _ (by decide), hl]
        exact h2.t16
      · rw [set_else (by decide), updV_ne _ _ (by decide), updV_ne _ _ (by decide)]
        exact hI.m
      · rw [set_else (by decide), updV_ne _ _ (by decide), updV_ne _ _ (by decide)]
        exact hI.r
    · have ra := waits_ready hi 4 (by kernel_rfl)
      have rb := waits_ready hi 9 (by kernel_rfl)
      have ea : A.eval (.tmp 51) = gv := (at' 51 4 (by decide) rfl (by decide) ra).trans (hI.tab 4 _ rfl ra)
      have eb : A.eval (.tmp 56) = vals 9 := at' 56 9 (by decide) rfl (by decide) rb
      have hl : l.getD 12 false = false := waits_not hcl 10 (by kernel_rfl) hn
      have h2 := hI.two
      rw [hn, rb] at h2
      obtain ⟨v', w', hr, h3⟩ := h2.t17 22 hlg
      refine wpOp_value (oi := so10) (v := v') rfl rfl (w' := w') (ex_append (o := so10) rfl (by rw [ea, eb]; exact hr)) ?_
      refine ⟨_, rfl, ?_, hI.tab.set (fun v' h => by cases h), ?_, ?_⟩
      · rw [set_here (by omega), set_else (by decide), set_else (by decide), set_else (by decide), updV_at, updV_ne _ _ (by decide), updV_ne _ _ (by decide), updV_ne _ _ (by decide), rb]
        exact h3
      · rw [set_else (by decide), updV_ne _ _ (by decide), updV_ne _ _ (by decide)]; exact hI.m
      · intro q; rw [set_else (by decide), hl] at q; cases q
    · have ra := waits_ready hi 3 (by kernel_rfl)
      have ea : A.eval (.tmp 50) = vals 3 := at' 50 3 (by decide) rfl (by decide) ra
      refine wpOp_value (oi := so11) rfl rfl (w' := w) rfl ?_
      refine ⟨_, rfl, ?_, hI.tab.set (fun v' h => by cases h), ?_, ?_⟩
      · rw [set_else (by decide), set_else (by decide), set_else (by decide), set_else (by decide), updV_ne _ _ (by decide), updV_ne _ _ (by decide), updV_ne _ _ (by decide), updV_ne _ _ (by decide)]
        exact hI.two
      · intro _; rw [updV_at, updV_ne _ _ (by decide)]; exact ea
      · rw [set_else (by decide), updV_ne _ _ (by decide), updV_ne _ _ (by decide)]; exact hI.r
    · have ra := waits_ready hi 10 (by kernel_rfl)
      have ea : A.eval (.tmp 57) = vals 10 := at' 57 10 (by decide) rfl (by decide) ra
      refine wpOp_value (oi := so12) rfl rfl (w' := w) rfl ?_
      refine ⟨_, rfl, ?_, hI.tab.set (fun v' h => by cases h), ?_, ?_⟩
      · rw [set_else (by decide), set_else (by decide), set_else (by decide), set_else (by decide), updV_ne _ _ (by decide), updV_ne _ _ (by decide), updV_ne _ _ (by decide), updV_ne _ _ (by decide)]
        exact hI.two
      · rw [set_else (by decide), updV_ne _ _ (by decide), updV_ne _ _ (by decide)]; exact hI.m
      · intro _; rw [updV_at, updV_ne _ _ (by decide)]; exact ea
end Go.Proofs.Ytjonpcpcokapkaa
