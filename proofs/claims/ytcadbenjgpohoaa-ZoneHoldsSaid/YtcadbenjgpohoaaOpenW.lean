/- A wide number, or a word, among a law's arguments, opened and shut. -/
import Derived.Test.YtcadbenjgpohoaaFrame
import Derived.Test.YtcadbenjgpohoaaNum
namespace Go.Proofs.Ytcadbenjgpohoaa
open Go.RowKit Go.ChangeShapes Go.WideShapes Go.ChangeAt Go.Joins

theorem cellsW : Try.prog.cellsOf 24 = 2 := by kernel_rfl

set_option maxRecDepth 100000 in
/-- A wide number among the arguments, opened: its two words, as natural numbers below 2^64. -/
theorem openW {H : Type} {enc : TypeId × Value → H} {W : World} {base : Nat} {v : Value} {d : DataW H} {p : List MemPlace} (hv : Value.okWide Try.prog W .any base 24 v) (h : DataW.Trod enc Try.prog W 0 (fun _ => true) true 24 v d p) :
    ∃ n : Nat, n < M128 ∧ v = .agg #[.int .u64 (hi n : Nat), .int .u64 (lo n : Nat)] ∧ d = .agg [.lit (.int .u64 (hi n : Nat)), .lit (.int .u64 (lo n : Nat))] ∧ p = [] := by
  obtain ⟨c0, c1, y0, y1, m, rfl, rfl, rfl, hy0, hy1⟩ := open_agg2 Try.underlying24 (by kernel_rfl) cellsW hv h
  obtain ⟨a, e0, rfl, wa⟩ := DataW.trod_int Try.underlying22 hy0
  obtain ⟨b, e1, rfl, wb⟩ := DataW.trod_int Try.underlying22 hy1
  simp at e0 e1
  subst e0 e1
  obtain ⟨a0, a1⟩ := bounds_u64 wa
  obtain ⟨b0, b1⟩ := bounds_u64 wb
  obtain ⟨a, rfl⟩ := Int.eq_ofNat_of_zero_le a0
  obtain ⟨b, rfl⟩ := Int.eq_ofNat_of_zero_le b0
  have ha : a < B64 := by unfold B64; omega
  have hb : b < B64 := by unfold B64; omega
  refine ⟨vw a b, vw_lt a b ha hb, ?_, ?_, rfl⟩
  · rw [hi_vw a b hb, lo_vw a b hb]
  · rw [hi_vw a b hb, lo_vw a b hb]
theorem wf64 (n : Nat) (h : n < B64) : (Lit.int .u64 (n : Int)).wf = true := by
  unfold B64 at h
  simp [Lit.wf, IntKind.min, IntKind.max, IntKind.signed, IntKind.bits]
  omega
set_option maxRecDepth 100000 in
/-- .. and shut. -/
theorem shutW {H : Type} {enc : TypeId × Value → H} (n : Nat) (hn : n < M128) (W' : World) (sp : Nat → Bool) :
    DataW.Trod enc Try.prog W' 0 sp true 24 (.agg #[.int .u64 (hi n : Nat), .int .u64 (lo n : Nat)]) (.agg [.lit (.int .u64 (hi n : Nat)), .lit (.int .u64 (lo n : Nat))]) [] :=
  shut_agg2 (y0 := (.lit (.int .u64 (hi n : Nat)), [])) (y1 := (.lit (.int .u64 (lo n : Nat)), [])) Try.underlying24 (by kernel_rfl) cellsW ⟨1, by simp [DataW.trod, Try.underlying22, wf64 _ (hi_lt n hn)]⟩ ⟨1, by simp [DataW.trod, Try.underlying22, wf64 _ (lo_lt n)]⟩
set_option maxRecDepth 100000 in
/-- A word among the arguments, opened. -/
theorem openU {H : Type} {enc : TypeId × Value → H} {W : World} {base : Nat} {v : Value} {d : DataW H} {p : List MemPlace} (hv : Value.okWide Try.prog W .any base 22 v) (h : DataW.Trod enc Try.prog W 0 (fun _ => true) true 22 v d p) :
    ∃ n : Nat, n < B64 ∧ v = .int .u64 (n : Nat) ∧ d = .lit (.int .u64 (n : Nat)) ∧ p = [] := by
  obtain ⟨a, rfl, rfl, rfl, wa⟩ := open_int Try.underlying22 hv h
  obtain ⟨a0, a1⟩ := bounds_u64 wa
  obtain ⟨a, rfl⟩ := Int.eq_ofNat_of_zero_le a0
  exact ⟨a, by unfold B64; omega, rfl, rfl, rfl⟩
end Go.Proofs.Ytcadbenjgpohoaa
