/- fix.attempt: what the work answers, and OK; or 0, and the error that it gave up with. -/
import Derived.Test.YtacnaencmbnjpaaRange
import Derived.Test.YtacnaencmbnjpaaFixN
import Derived.Defers
import Derived.Recover
import Derived.Laws.Pointers
namespace Go.Proofs.Ytacnaencmbnjpaa
open Go.RowKit

/-- An int in a block of one cell that may be written. -/
structure IBox (W : World) (b : Nat) (z : Int) : Prop where
  c : W.cell? ⟨b, 0, none⟩ = some (.int .i64 z)
  f : W.frozen? ⟨b, 0, none⟩ = false
theorem IBox.lt {W : World} {b : Nat} {z : Int} (h : IBox W b z) : b < W.heap.size := lt_of_cell h.c
theorem IBox.block {W W' : World} {b : Nat} {z : Int} (h : IBox W b z) (e : W'.heap[b]? = W.heap[b]?) : IBox W' b z := ⟨(World.cell?_of_block (w := W) e).trans h.c, (World.frozen?_of_block (w := W) e).trans h.f⟩
theorem IBox.below {B : Nat} {W W' : World} {b : Nat} {z : Int} (h : IBox W b z) (hb : Below B W W') (hB : b < B) : IBox W' b z := h.block (hb.block b hB)
theorem IBox.call {W W' : World} {b : Nat} {z : Int} (h : IBox W b z) (hb : Below W.heap.size W W') : IBox W' b z := h.below hb h.lt
theorem IBox.alloc {W : World} {b : Nat} {z : Int} (h : IBox W b z) (o : Obj) : IBox (W.alloc o) b z := h.call ((Below.refl _ _).alloc (Nat.le_refl _) _)
theorem IBox.drew {W : World} {b : Nat} {z : Int} (h : IBox W b z) : IBox W.drew b z := h.block rfl
theorem IBox.new (W : World) (z : Int) (t : TypeId) : IBox (W.alloc (.cells #[.int .i64 z] t)) W.heap.size z := ⟨by simp [go_sem], by simp [go_sem]⟩
theorem IBox.newAt {W : World} {z : Int} {t : TypeId} {b : Nat} (h : W.heap.size = b) : IBox (W.alloc (.cells #[.int .i64 z] t)) b z := h ▸ IBox.new W z t

/-- The panic that carries an error. -/
def gaveUp (k : Int) : Ending := .panicked [{ v := .iface 24 (.int .i64 k), recovered := false }]

theorem frame8 (p q : Value) : (#[p, q] ++ Array.replicate (Try.f71.ntmps - #[p, q].size) undef : Array Value) = #[p, q, undef, undef, undef, undef, undef, undef] := by
  rw [Try.ntmps71]; rfl
theorem catch_idle (p q : Addr) (u : World) :
    CallsD Try.prog 71 #[.pointer (some p), .pointer (some q)] .returning u fun e m w' => e = .returned (.tuple #[]) ∧ m = .returning ∧ w' = u := by
  refine callsD_of_wpS Try.func71 rfl fun c₀ cs hu => ?_
  rw [frame8]
  apply wpS_seq
  apply wpS_region
  simp [wpOpsS, go_sem, recoverD, hu, Exit.thenS]
  apply wpS_seq
  apply wpS_region
  simp [wpOpsS, go_sem, Exit.thenS]
  refine wpS_cond (t := false) (by simp [Act.eval]) ?_
  simp only [Bool.false_eq_true, if_false]
  refine wpS_of_wp (wp_skip ?_)
  cases c₀
  simp_all [bodyPostS, results, Try.results71]
theorem catch_panicking (k x y : Int) (p q : Nat) (u : World) (hpq : p ≠ q) (cp : u.cell? ⟨p, 0, none⟩ = some (.int .i64 x)) (cq : u.cell? ⟨q, 0, none⟩ = some (.int .i64 y)) (fp : u.frozen? ⟨p, 0, none⟩ = false) (fq : u.frozen? ⟨q, 0, none⟩ = false) :
    CallsD Try.prog 71 #[.pointer (some ⟨p, 0, none⟩), .pointer (some ⟨q, 0, none⟩)] (.panicking [{ v := .iface 24 (.int .i64 k), recovered := false }]) u fun e m w' =>
      e = .returned (.tuple #[]) ∧ m = .panicking [{ v := .iface 24 (.int .i64 k), recovered := true }] ∧ w' = (u.drew.setCell ⟨p, 0, none⟩ (.int .i64 0)).setCell ⟨q, 0, none⟩ (.int .i64 k) := by
  have hta : ∀ W : World, (Instr.typeAssert (.iface 24 (.int .i64 k)) 20 24 false).run Try.prog W = .ok (.int .i64 k) W := fun W => by kernel_rfl
  refine callsD_of_wpS Try.func71 rfl fun c₀ cs hu => ?_
  rw [frame8]
  apply wpS_seq
  apply wpS_region
  simp [wpOpsS, go_sem, recoverD, hu, Exit.thenS]
  apply wpS_seq
  apply wpS_region
  simp [wpOpsS, go_sem, Exit.thenS]
  refine wpS_cond (t := true) (by simp [Act.eval]) ?_
  simp only [if_true]
  refine wpS_of_wp ?_
  go_region
  simp [bodyPostS, results, Try.results71]

/-- The work answers an int. -/
theorem attempt_ok (K : Nat) (cap : Array Value) (z : Int) (w : World) (eg : ∀ args w, (callFunc K args).run Try.prog w = .ok (.enter K args) w)
    (hk : ∀ w1, Below w.heap.size w w1 → Calls Try.prog K cap w1 fun e w2 => e = .returned (.int .i64 z) ∧ Below w1.heap.size w1 w2) :
    Calls Try.prog 49 #[.func (.func K) #[] cap] w fun e w' => e = .returned (.tuple #[.int .i64 z, .int .i64 0]) ∧ Below w.heap.size w w' := by
  have hmf : ∀ (fn : Fn) (first cap : Array Value) (w : World), (Instr.makeFunc fn first cap).run Try.prog w = .ok (.func fn first cap) w := fun _ _ _ _ => rfl
  have HK := Lib.hid hk; clear hk
  go_enter_defers Try.func49, Try.ntmps49
  go_wp2_with fail
  have hA : Below w.heap.size w ((w.alloc (.cells #[.int .i64 0] 3)).alloc (.cells #[.int .i64 0] 24)) := ((Below.refl _ _).alloc (Nat.le_refl _) _).alloc (by simp) _
  refine (HK.out _ hA).mono ?_
  rintro e w2 ⟨rfl, hb⟩
  have b0 : IBox w2 w.heap.size 0 := ((IBox.new _ _ _).alloc _).call hb
  have b1 : IBox w2 (w.heap.size + 1) 0 := (IBox.newAt (by simp)).call hb
  have hW := hA.trans (hb.mono (by simp; omega))
  have HW := Lib.hid hW
  clear hA hb hW
  have x0 := b0.c; have x1 := b1.c; have x2 := b0.f; have x3 := b1.f
  clear b0 b1
  go_wp2_with fail
  refine leaves_cons (f := 71) (args := #[.pointer (some ⟨w.heap.size, 0, none⟩), .pointer (some ⟨w.heap.size + 1, 0, none⟩)]) (by simp) (by simp [go_sem]) ?_
  refine (catch_idle _ _ _).mono ?_
  rintro e u' w'' ⟨rfl, rfl, rfl⟩
  have hF := ((HW.out).setCell (p := ⟨w.heap.size, 0, none⟩) (Nat.le_refl _) (.int .i64 z)).setCell (p := ⟨w.heap.size + 1, 0, none⟩) (by simp) (.int .i64 0)
  simp [Leaves, settle, results, Try.results49, go_sem, x0, x1]
  exact hF
/-- The work gives up. -/
theorem attempt_no (K : Nat) (cap : Array Value) (k : Int) (w : World) (eg : ∀ args w, (callFunc K args).run Try.prog w = .ok (.enter K args) w)
    (hk : ∀ w1, Below w.heap.size w w1 → Calls Try.prog K cap w1 fun e w2 => e = gaveUp k ∧ Below w1.heap.size w1 w2) :
    Calls Try.prog 49 #[.func (.func K) #[] cap] w fun e w' => e = .returned (.tuple #[.int .i64 0, .int .i64 k]) ∧ Below w.heap.size w w' := by
  have hmf : ∀ (fn : Fn) (first cap : Array Value) (w : World), (Instr.makeFunc fn first cap).run Try.prog w = .ok (.func fn first cap) w := fun _ _ _ _ => rfl
  have HK := Lib.hid hk; clear hk
  go_enter_defers Try.func49, Try.ntmps49
  go_wp2_with fail
  have hA : Below w.heap.size w ((w.alloc (.cells #[.int .i64 0] 3)).alloc (.cells #[.int .i64 0] 24)) := ((Below.refl _ _).alloc (Nat.le_refl _) _).alloc (by simp) _
  refine (HK.out _ hA).mono ?_
  rintro e w2 ⟨rfl, hb⟩
  have b0 : IBox w2 w.heap.size 0 := ((IBox.new _ _ _).alloc _).call hb
  have b1 : IBox w2 (w.heap.size + 1) 0 := (IBox.newAt (by simp)).call hb
  have hW := hA.trans (hb.mono (by simp; omega))
  have HW := Lib.hid hW
  clear hA hb hW
  have x0 := b0.c; have x1 := b1.c; have x2 := b0.f; have x3 := b1.f
  clear b0 b1
  unfold gaveUp
  go_wp2_with fail
  refine leaves_cons (f := 71) (args := #[.pointer (some ⟨w.heap.size, 0, none⟩), .pointer (some ⟨w.heap.size + 1, 0, none⟩)]) (by simp) (by simp [go_sem]) ?_
  refine (catch_panicking k 0 0 _ _ _ (by omega) x0 x1 x2 x3).mono ?_
  rintro e u' w'' ⟨rfl, rfl, rfl⟩
  have hF := ((HW.out.drew).setCell (p := ⟨w.heap.size, 0, none⟩) (Nat.le_refl _) (.int .i64 0)).setCell (p := ⟨w.heap.size + 1, 0, none⟩) (by simp) (.int .i64 k)
  simp [Leaves, settle, results, Try.results49, go_sem, x0, x1]
  exact hF
end Go.Proofs.Ytacnaencmbnjpaa
