/- The law SpanTells: the numbers of its walk. -/
import Derived.Test.YtacnaencmbnjpaaSpanTells0
namespace Go.Proofs.Ytacnaencmbnjpaa
open Go.RowKit

theorem stells_walk (a b c d x : Int) (ha : IsInt a) (hb : IsInt b) (hc : IsInt c) (hd : IsInt d) (_ : IsInt x) (w : World) :
    Calls Try.prog 3 #[.agg #[.int .i64 a, .int .i64 b], .agg #[.int .i64 c, .int .i64 d], .int .i64 x] w fun en w' => en = .returned (.bool true) ∧ Below w.heap.size w w' := by
  have m1 := fun w => join_any a b c d w
  have m2 := fun w => sadd_any a b c d ha hb hc hd w
  have m3 := fun w => ssub_any a b c d ha hb hc hd w
  have m4 := fun w => right_any a b w
  have m5 := fun w => rright_any a b w
  have m6 := fun w => has_any a b x w
  have m7 := fun w => rhas_any a b x w
  have m8 := fun w => rright_any c d w
  by_cases h : a ≤ b ∧ c ≤ d
  · rw [oLo_r h, oHi_r h, oErr_r h] at m2 m3
    rw [show jLo a b c d = min a c from if_pos h, show jHi a b c d = max b d from if_pos h, show jErr a b c d = 0 from if_pos h] at m1
    rw [decide_eq_true h.2] at m8
    exact stells_ok a b c d x _ _ _ _ _ _ _ _ _ _ w m1 m2 m3 m4 m5 m6 m7 (decide_eq_true h.1) m8 (fun w => rjoin_any a b c d w) (fun w => ra5_any a b c d ha hb hc hd w) (fun w => rs5_any a b c d ha hb hc hd w)
  · rw [oLo_n h, oHi_n h, oErr_n h] at m2 m3
    rw [show jLo a b c d = 0 from if_neg h, show jHi a b c d = 0 from if_neg h, show jErr a b c d = 1 from if_neg h] at m1
    by_cases h1 : a ≤ b
    · rw [decide_eq_false (fun k => h ⟨h1, k⟩)] at m8
      exact stells_no2 a b c d x _ _ w m1 m2 m3 m4 m5 m6 m7 (decide_eq_true h1) m8
    · exact stells_no1 a b c d x _ _ w m1 m2 m3 m4 m5 m6 m7 (decide_eq_false h1)
end Go.Proofs.Ytacnaencmbnjpaa
