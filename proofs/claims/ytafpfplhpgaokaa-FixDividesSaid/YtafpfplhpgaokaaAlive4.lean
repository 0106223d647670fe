/- What the laws of stage 4 ask of MulDiv at one input, so that a program that refuses everything meets none. -/
import Derived.Test.YtafpfplhpgaokaaFixMd
namespace Go.Proofs.Ytafpfplhpgaokaa
open Go.RowKit

theorem md_at (m : Nat) (hm : m ≤ 2) (a b c z : Int) (ha : IsInt a) (hb : IsInt b) (hc : IsInt c) (h0 : c ≠ 0) (hz : IsInt z) (h : md a b c m = z) (w : World) :
    Calls Try.prog 15 #[.int .i64 a, .int .i64 b, .int .i64 c, .int .i64 (m : Nat)] w fun en w' => en = .returned (.tuple #[.int .i64 z, .int .i64 0]) ∧ Below w.heap.size w w' := by
  have := muldiv_any m hm a b c ha hb hc h0 w
  rw [h, ans_ok hz, err_ok hz] at this
  exact this
theorem alive4 (w : World) : Calls Try.prog 14 #[] w fun en w' => en = .returned (.bool true) ∧ Below w.heap.size w w' := by
  have M1 := Lib.hid (md_at 0 (by decide) (-7) 1 2 (-4) (by decide) (by decide) (by decide) (by decide) (by decide) (by decide))
  have M2 := Lib.hid (md_at 1 (by decide) (-7) 1 2 (-3) (by decide) (by decide) (by decide) (by decide) (by decide) (by decide))
  go_enter Try.func14, Try.ntmps14
  go_wp2_with fail
  refine (M1.out _).mono ?_
  rintro e w1 ⟨rfl, hb1⟩
  have HW1 := Lib.hid hb1
  clear hb1
  go_wp2_with fail
  refine (M2.out _).mono ?_
  rintro e w2 ⟨rfl, hb2⟩
  have HW2 := Lib.hid (HW1.out.trans (hb2.mono HW1.out.size))
  clear hb2 HW1
  go_wp2_with fail
  go_ret
  exact ⟨rfl, HW2.out⟩
end Go.Proofs.Ytafpfplhpgaokaa
