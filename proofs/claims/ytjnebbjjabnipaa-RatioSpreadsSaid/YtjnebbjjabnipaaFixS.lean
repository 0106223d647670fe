/- fix.size, fix.whole: an int without its sign; the int that lies so far from 0, or what whole gives up with. -/
import Derived.Test.YtjnebbjjabnipaaGen
import Derived.Test.YtjnebbjjabnipaaNum
import Derived.Defers
import Derived.Recover
import Derived.Laws.Pointers
import Derived.Test.YtjnebbjjabnipaaWMul
/- fix.attempt: what the work answers, and OK; or 0, and the error that it gave up with. -/
namespace Go.Proofs.Ytjnebbjjabnipaa
open Go.RowKit

/-- An int in a block of one cell that may be written. -/
structure IBox (W : World) (b : Nat) (z : Int) : Prop where
  c : W.cell? ⟨b, 0, none⟩ = some (.int .i64 z)
  f : W.frozen? ⟨b, 0, none⟩ = false
theorem IBox.lt {W : World} {b : Nat} {z : Int} (h : IBox W b z) : b < W.heap.size := lt_of_cell h.c
theorem IBox.block {W W' : World} {b : Nat} {z : Int} (h : IBox W b z) (e : W'.heap[b]? = W.heap[b]?) : IBox W' b z := ⟨(World.cell?_of_block (w := W) e).trans h.c, (World.frozen?_of_block (w := W) e).trans h.f⟩
theorem IBox.below {B : Nat} {W W' : World} {b : Nat} {z : Int} (h : IBox W b z) (hb : Below B W W') (hB : b < B) : IBox W' b z := h.block (hb.block b hB)
theorem IBox.call {W W' : World} {b : Nat} {z : Int} (h : IBox W b z) (hb : Below W.heap.size W W') : IBox W' b z := h.below hb h.lt
theorem IBox.alloc {W : World} {b : Nat} {z : Int} (h : IBox W b z) (o : Obj) : IBox (W.alloc o) b z := h.call ((Below.refl _ _).alloc (Nat.le_refl _) _)
theorem IBox.drew {W : World} {b : Nat} {z : Int} (h : IBox W b z) : IBox W.drew b z := h.block rfl
theorem IBox.new (W : World) (z : Int) (t : TypeId) : IBox (W.alloc (.cells #[.int .i64 z] t)) W.heap.size z := ⟨by simp [go_sem], by simp [go_sem]⟩
theorem IBox.newAt {W : World} {z : Int} {t : TypeId} {b : Nat} (h : W.heap.size = b) : IBox (W.alloc (.cells #[.int .i64 z] t)) b z := h ▸ IBox.new W z t

/-- The panic that carries an error. -/
def gaveUp (k : Int) : Ending := .panicked [{ v := .iface 24 (.int .i64 k), recovered := false }]

theorem frame8 (p q : Value) : (#[p, q] ++ Array.replicate (Try.f64.ntmps - #[p, q].size) undef : Array Value) = #[p, q, undef, undef, undef, undef, undef, undef] := by
  rw [Try.ntmps64]; rfl
theorem catch_idle (p q : Addr) (u : World) :
    CallsD Try.prog 64 #[.pointer (some p), .pointer (some q)] .returning u fun e m w' => e = .returned (.tuple #[]) ∧ m = .returning ∧ w' = u := by
  refine callsD_of_wpS Try.func64 rfl fun c₀ cs hu => ?_
  rw [frame8]
  apply wpS_seq
  apply wpS_region
  simp [wpOpsS, go_sem, recoverD, hu, Exit.thenS]
  apply wpS_seq
  apply wpS_region
  simp [wpOpsS, go_sem, Exit.thenS]
  refine wpS_cond (t := false) (by simp [Act.eval]) ?_
  simp only [Bool.false_eq_true, if_false]
  refine wpS_of_wp (wp_skip ?_)
  cases c₀
  simp_all [bodyPostS, results, Try.results64]
theorem catch_panicking (k x y : Int) (p q : Nat) (u : World) (hpq : p ≠ q) (cp : u.cell? ⟨p, 0, none⟩ = some (.int .i64 x)) (cq : u.cell? ⟨q, 0, none⟩ = some (.int .i64 y)) (fp : u.frozen? ⟨p, 0, none⟩ = false) (fq : u.frozen? ⟨q, 0, none⟩ = false) :
    CallsD Try.prog 64 #[.pointer (some ⟨p, 0, none⟩), .pointer (some ⟨q, 0, none⟩)] (.panicking [{ v := .iface 24 (.int .i64 k), recovered := false }]) u fun e m w' =>
      e = .returned (.tuple #[]) ∧ m = .panicking [{ v := .iface 24 (.int .i64 k), recovered := true }] ∧ w' = (u.drew.setCell ⟨p, 0, none⟩ (.int .i64 0)).setCell ⟨q, 0, none⟩ (.int .i64 k) := by
  have hta : ∀ W : World, (Instr.typeAssert (.iface 24 (.int .i64 k)) 20 24 false).run Try.prog W = .ok (.int .i64 k) W := fun W => by kernel_rfl
  refine callsD_of_wpS Try.func64 rfl fun c₀ cs hu => ?_
  rw [frame8]
  apply wpS_seq
  apply wpS_region
  simp [wpOpsS, go_sem, recoverD, hu, Exit.thenS]
  apply wpS_seq
  apply wpS_region
  simp [wpOpsS, go_sem, Exit.thenS]
  refine wpS_cond (t := true) (by simp [Act.eval]) ?_
  simp only [if_true]
  refine wpS_of_wp ?_
  go_region
  simp [bodyPostS, results, Try.results64]

/-- The work answers an int. -/
theorem attempt_ok (K : Nat) (cap : Array Value) (z : Int) (w : World) (eg : ∀ args w, (callFunc K args).run Try.prog w = .ok (.enter K args) w)
    (hk : ∀ w1, Below w.heap.size w w1 → Calls Try.prog K cap w1 fun e w2 => e = .returned (.int .i64 z) ∧ Below w1.heap.size w1 w2) :
    Calls Try.prog 39 #[.func (.func K) #[] cap] w fun e w' => e = .returned (.tuple #[.int .i64 z, .int .i64 0]) ∧ Below w.heap.size w w' := by
  have hmf : ∀ (fn : Fn) (first cap : Array Value) (w : World), (Instr.makeFunc fn first cap).run Try.prog w = .ok (.func fn first cap) w := fun _ _ _ _ => rfl
  have HK := Lib.hid hk; clear hk
  go_enter_defers Try.func39, Try.ntmps39
  go_wp2_with fail
  have hA : Below w.heap.size w ((w.alloc (.cells #[.int .i64 0] 3)).alloc (.cells #[.int .i64 0] 24)) := ((Below.refl _ _).alloc (Nat.le_refl _) _).alloc (by simp) _
  refine (HK.out _ hA).mono ?_
  rintro e w2 ⟨rfl, hb⟩
  have b0 : IBox w2 w.heap.size 0 := ((IBox.new _ _ _).alloc _).call hb
  have b1 : IBox w2 (w.heap.size + 1) 0 := (IBox.newAt (by simp)).call hb
  have hW := hA.trans (hb.mono (by simp; omega))
  have HW := Lib.hid hW
  clear hA hb hW
  have x0 := b0.c; have x1 := b1.c; have x2 := b0.f; have x3 := b1.f
  clear b0 b1
  go_wp2_with fail
  refine leaves_cons (f := 64) (args := #[.pointer (some ⟨w.heap.size, 0, none⟩), .pointer (some ⟨w.heap.size + 1, 0, none⟩)]) (by simp) (by simp [go_sem]) ?_
  refine (catch_idle _ _ _).mono ?_
  rintro e u' w'' ⟨rfl, rfl, rfl⟩
  have hF := ((HW.out).setCell (p := ⟨w.heap.size, 0, none⟩) (Nat.le_refl _) (.int .i64 z)).setCell (p := ⟨w.heap.size + 1, 0, none⟩) (by simp) (.int .i64 0)
  simp [Leaves, settle, results, Try.results39, go_sem, x0, x1]
  exact hF
/-- The work gives up. -/
theorem attempt_no (K : Nat) (cap : Array Value) (k : Int) (w : World) (eg : ∀ args w, (callFunc K args).run Try.prog w = .ok (.enter K args) w)
    (hk : ∀ w1, Below w.heap.size w w1 → Calls Try.prog K cap w1 fun e w2 => e = gaveUp k ∧ Below w1.heap.size w1 w2) :
    Calls Try.prog 39 #[.func (.func K) #[] cap] w fun e w' => e = .returned (.tuple #[.int .i64 0, .int .i64 k]) ∧ Below w.heap.size w w' := by
  have hmf : ∀ (fn : Fn) (first cap : Array Value) (w : World), (Instr.makeFunc fn first cap).run Try.prog w = .ok (.func fn first cap) w := fun _ _ _ _ => rfl
  have HK := Lib.hid hk; clear hk
  go_enter_defers Try.func39, Try.ntmps39
  go_wp2_with fail
  have hA : Below w.heap.size w ((w.alloc (.cells #[.int .i64 0] 3)).alloc (.cells #[.int .i64 0] 24)) := ((Below.refl _ _).alloc (Nat.le_refl _) _).alloc (by simp) _
  refine (HK.out _ hA).mono ?_
  rintro e w2 ⟨rfl, hb⟩
  have b0 : IBox w2 w.heap.size 0 := ((IBox.new _ _ _).alloc _).call hb
  have b1 : IBox w2 (w.heap.size + 1) 0 := (IBox.newAt (by simp)).call hb
  have hW := hA.trans (hb.mono (by simp; omega))
  have HW := Lib.hid hW
  clear hA hb hW
  have x0 := b0.c; have x1 := b1.c; have x2 := b0.f; have x3 := b1.f
  clear b0 b1
  unfold gaveUp
  go_wp2_with fail
  refine leaves_cons (f := 64) (args := #[.pointer (some ⟨w.heap.size, 0, none⟩), .pointer (some ⟨w.heap.size + 1, 0, none⟩)]) (by simp) (by simp [go_sem]) ?_
  refine (catch_panicking k 0 0 _ _ _ (by omega) x0 x1 x2 x3).mono ?_
  rintro e u' w'' ⟨rfl, rfl, rfl⟩
  have hF := ((HW.out.drew).setCell (p := ⟨w.heap.size, 0, none⟩) (Nat.le_refl _) (.int .i64 0)).setCell (p := ⟨w.heap.size + 1, 0, none⟩) (by simp) (.int .i64 k)
  simp [Leaves, settle, results, Try.results39, go_sem, x0, x1]
  exact hF
end Go.Proofs.Ytjnebbjjabnipaa

/- fix.size, fix.whole: an int without its sign; the int that lies so far from 0, or what whole gives up with. -/
namespace Go.Proofs.Ytjnebbjjabnipaa
open Go.RowKit

theorem u64_low (z : Int) (h : 0 ≤ z) (h2 : z < 18446744073709551616) : IntKind.u64.wrap z = z := by
  simp only [IntKind.wrap, IntKind.signed, IntKind.bits]
  simp
  omega
theorem u64_neg (z : Int) (h : z < 0) (h2 : -18446744073709551616 ≤ z) : IntKind.u64.wrap z = z + 18446744073709551616 := by
  simp only [IntKind.wrap, IntKind.signed, IntKind.bits]
  simp
  omega
theorem i64_high (z : Int) (h : 9223372036854775808 ≤ z) (h2 : z < 18446744073709551616) : IntKind.i64.wrap z = z - 18446744073709551616 := by
  simp only [IntKind.wrap, IntKind.signed, IntKind.bits]
  simp
  omega
theorem size_nums (a : Int) (ha : IsInt a) : (a < 0 → IntKind.u64.wrap (-(IntKind.u64.wrap a)) = (a.natAbs : Nat)) ∧ (¬ a < 0 → IntKind.u64.wrap a = (a.natAbs : Nat)) := by
  unfold IsInt at ha
  constructor
  · intro h
    rw [u64_neg a h (by omega), u64_neg _ (by omega) (by omega)]
    omega
  · intro h
    rw [u64_low a (by omega) (by omega)]
    omega
theorem size_any (a : Int) (ha : IsInt a) (w : World) :
    Calls Try.prog 43 #[.int .i64 a] w fun e w' => e = .returned (.int .u64 (a.natAbs : Nat)) ∧ w' = w := by
  obtain ⟨h1, h2⟩ := size_nums a ha
  obtain ⟨n, hn⟩ : ∃ n : Nat, a.natAbs = n := ⟨_, rfl⟩
  rw [hn] at h1 h2 ⊢
  clear hn
  by_cases h : a < 0
  · have e1 := h1 h
    clear h1 h2 ha
    obtain ⟨X, hX⟩ : ∃ X, IntKind.u64.wrap a = X := ⟨_, rfl⟩
    rw [hX] at e1
    go_enter Try.func43, Try.ntmps43
    go_wp2_with fail
    go_ret
    exact ⟨rfl, rfl⟩
  · have e1 := h2 h
    clear h1 h2 ha
    go_enter Try.func43, Try.ntmps43
    go_wp2_with fail
    go_ret
    exact ⟨rfl, rfl⟩

/-- An int, or what is given up with where there is none. -/
def told (z : Int) : Ending := if IsInt z then .returned (.int .i64 z) else gaveUp 5
theorem told_ok {z : Int} (h : IsInt z) : told z = .returned (.int .i64 z) := if_pos h
theorem told_no {z : Int} (h : ¬ IsInt z) : told z = gaveUp 5 := if_neg h

theorem whole_up (n : Nat) (hn : n < M128) (w : World) :
    Calls Try.prog 41 #[.bool false, .agg #[.int .u64 (hi n : Nat), .int .u64 (lo n : Nat)]] w fun e w' => e = told n ∧ Below w.heap.size w w' := by
  have hl := less_num 9223372036854775807 n (by decide) hn
  by_cases h : n ≤ 9223372036854775807
  · rw [told_ok (show IsInt n by unfold IsInt; omega)]
    rw [show ltW 9223372036854775807 n = false from decide_eq_false (by omega)] at hl
    have hL : ∀ w, Calls Try.prog 55 #[.agg #[.int .u64 0, .int .u64 9223372036854775807], .agg #[.int .u64 (hi n : Nat), .int .u64 (lo n : Nat)]] w fun e w' => e = .returned (.bool false) ∧ Below w.heap.size w w' := hl
    have e1 : IntKind.i64.wrap (lo n : Nat) = n := by
      rw [show lo n = n from Nat.mod_eq_of_lt (by omega)]
      exact wrap_int (by unfold IsInt; omega)
    have HL := Lib.hid hL
    clear hl hL h hn
    obtain ⟨z, hz⟩ : ∃ z : Int, (n : Int) = z := ⟨_, rfl⟩
    rw [hz] at e1 ⊢
    clear hz
    go_enter Try.func41, Try.ntmps41
    go_wp2_with fail
    refine (HL.out _).mono ?_
    rintro e w1 ⟨rfl, hb⟩
    have hW := ((Below.refl w.heap.size w).alloc (Nat.le_refl _) _).trans (hb.mono (by simp))
    have c0 := (hb.cell (p := ⟨w.heap.size, 0, none⟩) (by simp)); have c1 := (hb.cell (p := ⟨w.heap.size, 1, none⟩) (by simp))
    simp [go_sem] at c0 c1
    have HW := Lib.hid hW
    clear hb hW
    go_wp2_with fail
    go_ret
    exact ⟨rfl, HW.out⟩
  · rw [told_no (show ¬ IsInt n by unfold IsInt; omega)]
    rw [show ltW 9223372036854775807 n = true from decide_eq_true (by omega)] at hl
    have hL : ∀ w, Calls Try.prog 55 #[.agg #[.int .u64 0, .int .u64 9223372036854775807], .agg #[.int .u64 (hi n : Nat), .int .u64 (lo n : Nat)]] w fun e w' => e = .returned (.bool true) ∧ Below w.heap.size w w' := hl
    have HL := Lib.hid hL
    clear hl hL h hn
    go_enter Try.func41, Try.ntmps41
    go_wp2_with fail
    refine (HL.out _).mono ?_
    rintro e w1 ⟨rfl, hb⟩
    have hW := ((Below.refl w.heap.size w).alloc (Nat.le_refl _) _).trans (hb.mono (by simp))
    have HW := Lib.hid hW
    clear hb hW
    go_wp2_with fail
    exact ⟨rfl, rfl, HW.out⟩

theorem whole_down (n : Nat) (hn : n < M128) (w : World) :
    Calls Try.prog 41 #[.bool true, .agg #[.int .u64 (hi n : Nat), .int .u64 (lo n : Nat)]] w fun e w' => e = told (-(n : Int)) ∧ Below w.heap.size w w' := by
  have hl := less_num 9223372036854775808 n (by decide) hn
  by_cases h : n ≤ 9223372036854775808
  · rw [told_ok (show IsInt (-(n : Int)) by unfold IsInt; omega)]
    rw [show ltW 9223372036854775808 n = false from decide_eq_false (by omega)] at hl
    have hL : ∀ w, Calls Try.prog 55 #[.agg #[.int .u64 0, .int .u64 9223372036854775808], .agg #[.int .u64 (hi n : Nat), .int .u64 (lo n : Nat)]] w fun e w' => e = .returned (.bool false) ∧ Below w.heap.size w w' := hl
    have e1 : IntKind.i64.wrap (IntKind.u64.wrap (-(lo n : Nat))) = -(n : Int) := by
      rw [show lo n = n from Nat.mod_eq_of_lt (by omega)]
      rcases Nat.eq_zero_or_pos n with h0 | h0
      · subst h0; decide
      · rw [u64_neg _ (by omega) (by omega), i64_high _ (by omega) (by omega)]
        omega
    have HL := Lib.hid hL
    clear hl hL h hn
    obtain ⟨z, hz⟩ : ∃ z : Int, -(n : Int) = z := ⟨_, rfl⟩
    obtain ⟨X, hX⟩ : ∃ X : Int, IntKind.u64.wrap (-(lo n : Nat)) = X := ⟨_, rfl⟩
    rw [hz] at e1 ⊢
    rw [hX] at e1
    clear hz
    go_enter Try.func41, Try.ntmps41
    go_wp2_with fail
    refine (HL.out _).mono ?_
    rintro e w1 ⟨rfl, hb⟩
    have hW := ((Below.refl w.heap.size w).alloc (Nat.le_refl _) _).trans (hb.mono (by simp))
    have c0 := (hb.cell (p := ⟨w.heap.size, 0, none⟩) (by simp)); have c1 := (hb.cell (p := ⟨w.heap.size, 1, none⟩) (by simp))
    simp [go_sem] at c0 c1
    have HW := Lib.hid hW
    clear hb hW
    go_wp2_with fail
    go_ret
    exact ⟨rfl, HW.out⟩
  · rw [told_no (show ¬ IsInt (-(n : Int)) by unfold IsInt; omega)]
    rw [show ltW 9223372036854775808 n = true from decide_eq_true (by omega)] at hl
    have hL : ∀ w, Calls Try.prog 55 #[.agg #[.int .u64 0, .int .u64 9223372036854775808], .agg #[.int .u64 (hi n : Nat), .int .u64 (lo n : Nat)]] w fun e w' => e = .returned (.bool true) ∧ Below w.heap.size w w' := hl
    have HL := Lib.hid hL
    clear hl hL h hn
    go_enter Try.func41, Try.ntmps41
    go_wp2_with fail
    refine (HL.out _).mono ?_
    rintro e w1 ⟨rfl, hb⟩
    have hW := ((Below.refl w.heap.size w).alloc (Nat.le_refl _) _).trans (hb.mono (by simp))
    have HW := Lib.hid hW
    clear hb hW
    go_wp2_with fail
    exact ⟨rfl, rfl, HW.out⟩
theorem fixWhole_any (below : Bool) (n : Nat) (hn : n < M128) (w : World) :
    Calls Try.prog 41 #[.bool below, .agg #[.int .u64 (hi n : Nat), .int .u64 (lo n : Nat)]] w fun e w' => e = told (sgn below n) ∧ Below w.heap.size w w' := by
  cases below
  · exact whole_up n hn w
  · exact whole_down n hn w

/-- attempt where the work answers an int or gives up with ErrOver. -/
theorem attempt_told (K : Nat) (cap : Array Value) (z : Int) (w : World) (eg : ∀ args w, (callFunc K args).run Try.prog w = .ok (.enter K args) w)
    (hk : ∀ w1, Below w.heap.size w w1 → Calls Try.prog K cap w1 fun e w2 => e = told z ∧ Below w1.heap.size w1 w2) :
    Calls Try.prog 39 #[.func (.func K) #[] cap] w fun e w' => e = .returned (.tuple #[.int .i64 (ans z), .int .i64 (err z)]) ∧ Below w.heap.size w w' := by
  by_cases h : IsInt z
  · rw [ans_ok h, err_ok h]
    rw [told_ok h] at hk
    exact attempt_ok K cap z w eg hk
  · rw [ans_no h, err_no h]
    rw [told_no h] at hk
    exact attempt_no K cap 5 w eg hk

end Go.Proofs.Ytjnebbjjabnipaa
