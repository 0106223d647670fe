/- Texts as lists of bytes: what a byte, a piece, a sum and '==' of such texts are in the walk. -/
import Derived.Test.YticgmbhdcegoeaaDoorNum
import Derived.WalkKit
import Derived.Laws.Strings
import Derived.Laws.Strings2
import Derived.Laws.Strings3
import Derived.Laws.DeepStrings4
import Derived.Laws.Concat
import Derived.Laws.StructEq
import Derived.ChangeMaps5
namespace Go.Proofs.YticgmbhdcegoeaaDoor
open Go.RowKit

/-- A text of these bytes; its i-th byte. -/
def bs (l : List UInt8) : ByteArray := ⟨l.toArray⟩
def bt (l : List UInt8) (i : Nat) : Nat := (l.getD i 0).toNat
theorem bt_lt (l : List UInt8) (i : Nat) : bt l i < 256 := (l.getD i 0).toNat_lt
theorem bs_of (s : ByteArray) : bs s.data.toList = s := rfl
theorem bs_size (l : List UInt8) : (bs l).size = l.length := by simp [bs, ByteArray.size]
theorem bs_list (l : List UInt8) : (bs l).data.toList = l := rfl
theorem bs_toList (l : List UInt8) : (bs l).toList = l := ByteArray.toList_mk l
theorem bs_append (a b : List UInt8) : bs a ++ bs b = bs (a ++ b) := ByteArray.mk_append_mk a b
theorem bs_extract (l : List UInt8) (a b : Nat) : (bs l).extract a b = bs ((l.drop a).take (b - a)) := ByteArray.extract_mk l a b
theorem bs_get (l : List UInt8) (i : Nat) (h : i < (bs l).size) : ((bs l)[i]'h).toNat = bt l i := by
  have h2 : i < l.length := by rw [bs_size] at h; exact h
  unfold bt
  rw [List.getD_eq_getElem?_getD, List.getElem?_eq_getElem h2]
  rfl
section
variable {P : Program} (w : World)
theorem run_index_bs (t : TypeId) (l : List UInt8) (k : IntKind) (i : Nat) (h : P.underlying t = some .string) (hi : i < l.length) :
    (Instr.index t (.string (bs l)) (.int k (i : Int))).run P w = .ok (.int .u8 (bt l i : Nat)) w := by
  have hs := bs_size l
  rw [run_index_string w t (bs l) k i h, dif_pos ⟨by omega, by omega⟩]
  simp only [Int.toNat_natCast]
  rw [bs_get]
theorem run_slice_bs (t : TypeId) (l : List UInt8) (k k' : IntKind) (a b : Nat) (h : P.underlying t = some .string) (h1 : a ≤ b) (h2 : b ≤ l.length) :
    (Instr.slice t (.string (bs l)) (some (.int k (a : Int))) (some (.int k' (b : Int))) none).run P w = .ok (.string (bs ((l.drop a).take (b - a)))) w := by
  rw [run_slice_string w t (bs l) k k' a b h (by omega) (by omega) (by rw [bs_size]; omega), Int.toNat_natCast, Int.toNat_natCast, bs_extract]
theorem run_add_bs (a b : List UInt8) (h : a.length + b.length ≤ 9223372036854775807) : (Op.stringOp .add (bs a) (bs b)).run P w = .ok (.string (bs (a ++ b))) w := by
  rw [run_string_add_sum w (bs a) (bs b) (by rw [bs_size, bs_size]; exact h), bs_append]
theorem run_eq_bs (d : Nat) (t : TypeId) (a b : List UInt8) (h : P.underlying t = some .string) : (Op.equalIn (d + 1) t (.string (bs a)) (.string (bs b))).run P w = .ok (decide (a = b)) w := by
  rw [run_equalIn_string w d t (bs a) (bs b) h, bs_toList, bs_toList]
  congr 1
  by_cases e : a = b
  · rw [decide_eq_true e]; simp [e]
  · rw [decide_eq_false e]; simp [e]
theorem run_len_bs (t ty : TypeId) (l : List UInt8) (h : P.underlying t = some .string) : (Builtin.len_ #[t] ty #[.string (bs l)]).run P w = .ok (goInt l.length) w := by
  rw [run_len_string w t ty (bs l) h, bs_size]
end
end Go.Proofs.YticgmbhdcegoeaaDoor
