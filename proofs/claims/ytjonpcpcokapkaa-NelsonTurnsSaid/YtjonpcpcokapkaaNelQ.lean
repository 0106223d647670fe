/- A mask parted in two by any number. -/
import Derived.Test.YtjonpcpcokapkaaNelT
import Derived.IntWalk
namespace Go.Proofs.Ytjonpcpcokapkaa

theorem bits_parts (m : Nat) (hm : m < 512) (p : Int) : ∃ q : Nat, q < 18446744073709551616 ∧ bits .and .i64 (m : Int) p = ((m &&& q : Nat) : Int) ∧ bits .andNot .i64 (m : Int) p = ((m &&& (18446744073709551616 - (q + 1)) : Nat) : Int) := by
  have ha : (BitVec.ofInt 64 (m : Int)).toNat = m := by
    rw [BitVec.ofInt_natCast, BitVec.toNat_ofNat]
    omega
  have hw : ∀ x : Nat, x ≤ m → IntKind.i64.wrap (x : Int) = (x : Int) := fun x hx => by
    rw [IntKind.wrap_i64]
    omega
  refine ⟨(BitVec.ofInt 64 p).toNat, (BitVec.ofInt 64 p).isLt, ?_, ?_⟩
  · have e : (BitVec.ofInt 64 (m : Int) &&& BitVec.ofInt 64 p).toNat = m &&& (BitVec.ofInt 64 p).toNat := by rw [BitVec.toNat_and, ha]
    show IntKind.i64.wrap ((BitVec.ofInt 64 (m : Int) &&& BitVec.ofInt 64 p).toNat : Int) = _
    rw [e]
    exact hw _ Nat.and_le_left
  · have e : (BitVec.ofInt 64 (m : Int) &&& ~~~ BitVec.ofInt 64 p).toNat = m &&& (18446744073709551616 - ((BitVec.ofInt 64 p).toNat + 1)) := by
      rw [BitVec.toNat_and, ha, BitVec.toNat_not]
      congr 1
      have e64 : (2 : Nat) ^ 64 = 18446744073709551616 := by decide
      rw [e64]
      omega
    show IntKind.i64.wrap ((BitVec.ofInt 64 (m : Int) &&& ~~~ BitVec.ofInt 64 p).toNat : Int) = _
    rw [e]
    exact hw _ Nat.and_le_left
theorem bitB_nat (a : Nat) (ha : 1 ≤ a ∧ a ≤ 511) (c : Int) (hc : -4 ≤ c ∧ c ≤ 4) : bitB (a : Int) c = a.testBit (c + 4).toNat := by
  unfold bitB
  rw [decide_eq_true (show 1 ≤ (a : Int) ∧ (a : Int) ≤ 511 by omega), decide_eq_true hc, Bool.true_and, Bool.true_and, Nat.testBit_eq_decide_div_mod_eq]
  rfl
/-- Both parts of a mask, where neither is empty. -/
theorem parts_of {m p : Int} (hm : 1 ≤ m ∧ m ≤ 511) (h1 : bits .and .i64 m p ≠ 0) (h2 : bits .andNot .i64 m p ≠ 0) :
    (1 ≤ bits .and .i64 m p ∧ bits .and .i64 m p ≤ 511) ∧ (1 ≤ bits .andNot .i64 m p ∧ bits .andNot .i64 m p ≤ 511) ∧ Parts m (bits .and .i64 m p) (bits .andNot .i64 m p) := by
  obtain ⟨a, rfl⟩ : ∃ a : Nat, m = (a : Int) := ⟨m.toNat, by omega⟩
  obtain ⟨q, hq, e1, e2⟩ := bits_parts a (by omega) p
  rw [e1] at h1 ⊢
  rw [e2] at h2 ⊢
  have l1 : a &&& q ≤ a := Nat.and_le_left
  have l2 : a &&& (18446744073709551616 - (q + 1)) ≤ a := Nat.and_le_left
  refine ⟨by omega, by omega, fun c => ?_⟩
  rw [mem_classes, mem_classes, mem_classes]
  by_cases hc : -4 ≤ c ∧ c ≤ 4
  · rw [bitB_nat a (by omega) c hc, bitB_nat _ (by omega) c hc, bitB_nat _ (by omega) c hc, Nat.testBit_and, Nat.testBit_and]
    have h3 := Nat.testBit_two_pow_sub_succ (n := 64) (x := q) hq (c + 4).toNat
    have e64 : (2 : Nat) ^ 64 = 18446744073709551616 := by decide
    rw [e64] at h3
    rw [h3, decide_eq_true (show (c + 4).toNat < 64 by omega)]
    cases a.testBit (c + 4).toNat <;> cases q.testBit (c + 4).toNat <;> simp
  · have f : ∀ m : Int, bitB m c = false := fun m => by unfold bitB; rw [decide_eq_false hc]; simp
    rw [f, f, f]
    simp
end Go.Proofs.Ytjonpcpcokapkaa
