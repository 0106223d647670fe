/- Points: numbers and values; products within bounds. -/
import Derived.Test.YtgmifimpeefpcaaNum
import Derived.Test.YtgmifimpeefpcaaHas
namespace Go.Proofs.Ytgmifimpeefpcaa
open Go.RowKit

theorem wrapJ {x : Int} (h : -9000000000000000000 ≤ x ∧ x ≤ 9000000000000000000) : IntKind.i64.wrap x = x := wrap_int (by unfold IsInt; omega)
theorem wrapJ6 {x : Int} (h : -9000000000000000000 ≤ x ∧ x ≤ 9000000000000000000) : wrap64 x = x := by unfold wrap64; omega
structure Pnt where
  center : Int
  den : Int
  dev : Int
  var : Nat
def pnt0 : Pnt := ⟨0, 0, 0, 0⟩
abbrev pntV (p : Pnt) : Value := .agg #[.int .i64 p.center, .int .i64 p.den, .int .i64 p.dev, .int .u64 (hi p.var : Nat), .int .u64 (lo p.var : Nat)]
theorem sizePnt : ((Try.prog).info? 38).map (·.size) = some 5 := by kernel_rfl
theorem loadPnt {w : World} {b : Nat} {c0 c1 c2 c3 c4 : Value} (h : Has w b [c0, c1, c2, c3, c4] 38) : (loadVar 38 ⟨b, 0, none⟩).run Try.prog w = .ok (.agg #[c0, c1, c2, c3, c4]) w :=
  run_loadVar_mid w b 0 38 [c0, c1, c2, c3, c4] _ h.range Try.underlying38 rfl sizePnt
theorem mulB {a b A B : Int} (ha : -A ≤ a ∧ a ≤ A) (hb : -B ≤ b ∧ b ≤ B) : -(A * B) ≤ a * b ∧ a * b ≤ A * B := by
  have h : (a * b).natAbs ≤ A.natAbs * B.natAbs := by
    rw [Int.natAbs_mul]
    exact Nat.mul_le_mul (by omega) (by omega)
  have hA : (A.natAbs : Int) = A := by omega
  have hB : (B.natAbs : Int) = B := by omega
  have h2 : ((a * b).natAbs : Int) ≤ A * B := by
    rw [← hA, ← hB, ← Int.natCast_mul]
    exact Int.ofNat_le.2 h
  omega
end Go.Proofs.Ytgmifimpeefpcaa
