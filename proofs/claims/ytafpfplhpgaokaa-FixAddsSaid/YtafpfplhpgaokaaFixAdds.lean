/- The law FixAdds, walked: it answers true at every two ints, and nothing that was in memory before is changed. -/
import Derived.Test.YtafpfplhpgaokaaFixRef2
import Derived.Test.YtafpfplhpgaokaaAlive4
namespace Go.Proofs.Ytafpfplhpgaokaa
open Go.RowKit

set_option maxRecDepth 100000 in
theorem fadds_core (a b x e y f z g : Int) (w : World)
    (m1 : ∀ w, Calls Try.prog 8 #[.int .i64 a, .int .i64 b] w fun en w' => en = .returned (.tuple #[.int .i64 x, .int .i64 e]) ∧ Below w.heap.size w w')
    (m2 : ∀ w, Calls Try.prog 9 #[.int .i64 a, .int .i64 b] w fun en w' => en = .returned (.tuple #[.int .i64 y, .int .i64 f]) ∧ Below w.heap.size w w')
    (m3 : ∀ w, Calls Try.prog 10 #[.int .i64 a, .int .i64 b] w fun en w' => en = .returned (.tuple #[.int .i64 z, .int .i64 g]) ∧ Below w.heap.size w w')
    (m4 : ∀ w, Calls Try.prog 11 #[.int .i64 a, .int .i64 b] w fun en w' => en = .returned (.tuple #[.int .i64 x, .int .i64 e]) ∧ Below w.heap.size w w')
    (m5 : ∀ w, Calls Try.prog 12 #[.int .i64 a, .int .i64 b] w fun en w' => en = .returned (.tuple #[.int .i64 y, .int .i64 f]) ∧ Below w.heap.size w w')
    (m6 : ∀ w, Calls Try.prog 13 #[.int .i64 a, .int .i64 b] w fun en w' => en = .returned (.tuple #[.int .i64 z, .int .i64 g]) ∧ Below w.heap.size w w') :
    Calls Try.prog 3 #[.int .i64 a, .int .i64 b] w fun en w' => en = .returned (.bool true) ∧ Below w.heap.size w w' := by
  have M1 := Lib.hid m1; have M2 := Lib.hid m2; have M3 := Lib.hid m3; have M4 := Lib.hid m4; have M5 := Lib.hid m5; have M6 := Lib.hid m6
  clear m1 m2 m3 m4 m5 m6
  go_enter Try.func3, Try.ntmps3
  go_wp2_with fail
  refine (M1.out _).mono ?_
  rintro e w1 ⟨rfl, hb⟩
  have kw : Below w.heap.size w w1 := (Below.refl w.heap.size w).trans (hb.mono (Nat.le_refl _))
  have HW1 := Lib.hid kw
  clear hb kw
  go_wp2_with fail
  refine (M2.out _).mono ?_
  rintro e w2 ⟨rfl, hb⟩
  have kw : Below w.heap.size w w2 := HW1.out.trans (hb.mono HW1.out.size)
  clear HW1
  have HW2 := Lib.hid kw
  clear hb kw
  go_wp2_with fail
  refine (M3.out _).mono ?_
  rintro e w3 ⟨rfl, hb⟩
  have kw : Below w.heap.size w w3 := HW2.out.trans (hb.mono HW2.out.size)
  clear HW2
  have HW3 := Lib.hid kw
  clear hb kw
  go_wp2_with fail
  refine (M4.out _).mono ?_
  rintro e w4 ⟨rfl, hb⟩
  have kw : Below w.heap.size w w4 := HW3.out.trans (hb.mono HW3.out.size)
  clear HW3
  have HW4 := Lib.hid kw
  clear hb kw
  go_wp2_with fail
  refine (M5.out _).mono ?_
  rintro e w5 ⟨rfl, hb⟩
  have kw : Below w.heap.size w w5 := HW4.out.trans (hb.mono HW4.out.size)
  clear HW4
  have HW5 := Lib.hid kw
  clear hb kw
  go_wp2_with fail
  refine (M6.out _).mono ?_
  rintro e w6 ⟨rfl, hb⟩
  have kw : Below w.heap.size w w6 := HW5.out.trans (hb.mono HW5.out.size)
  clear HW5
  have HW6 := Lib.hid kw
  clear hb kw
  go_wp2_with fail
  refine (alive4 _).mono ?_
  rintro e w7 ⟨rfl, hb⟩
  have kw : Below w.heap.size w w7 := HW6.out.trans (hb.mono HW6.out.size)
  clear HW6
  have HW7 := Lib.hid kw
  clear hb kw
  go_wp2_with fail
  go_ret
  exact ⟨rfl, HW7.out⟩
theorem fadds_walk (a b : Int) (ha : IsInt a) (hb : IsInt b) (w : World) :
    Calls Try.prog 3 #[.int .i64 a, .int .i64 b] w fun en w' => en = .returned (.bool true) ∧ Below w.heap.size w w' := by
  exact fadds_core a b _ _ _ _ _ _ w (fadd_any a b ha hb) (fsub_any a b ha hb) (fmul_any a b ha hb) (refadd_any a b ha hb) (refsub_any a b ha hb) (refmul_any a b ha hb)
end Go.Proofs.Ytafpfplhpgaokaa
