/- token's small functions: what a byte is, how many letters a text begins with; and those of the reference. -/
import Derived.Test.YticgmbhdcegoeaaDoorShelf7
import Derived.Test.YticgmbhdcegoeaaDoorGen
import Derived.Lib.OthersKept
import Derived.Laws.RangeAny
import Derived.Laws.RangeString
import Derived.IntWalk
namespace Go.Proofs.YticgmbhdcegoeaaDoor
open Go.RowKit

def letB (n : Nat) : Bool := decide (97 ≤ n ∧ n ≤ 122)
def digB (n : Nat) : Bool := decide (48 ≤ n ∧ n ≤ 57)
theorem letB_of (b : UInt8) : letB b.toNat = isLetter b := rfl
theorem digB_of (b : UInt8) : digB b.toNat = isDigit b := rfl

theorem isDigit_any (n : Nat) (h : n < 256) (w : World) :
    Calls Tryd.prog 35 #[.int .u8 (n : Nat)] w fun e w' => e = .returned (.bool (digB n)) ∧ w = w' := by
  obtain ⟨x, hx⟩ : ∃ x : Int, x = (n : Int) := ⟨_, rfl⟩
  rw [← hx]
  by_cases h1 : (48 : Int) ≤ x
  · by_cases h2 : x ≤ 57
    · have e : digB n = true := decide_eq_true ⟨by omega, by omega⟩
      rw [e]
      clear e
      have HX := Lib.hid hx
      clear hx
      go_enter Tryd.func35, Tryd.ntmps35
      go_wp2
      go_ret
      exact ⟨rfl, rfl⟩
    · have e : digB n = false := decide_eq_false (by omega)
      rw [e]
      clear e
      have HX := Lib.hid hx
      clear hx
      go_enter Tryd.func35, Tryd.ntmps35
      go_wp2
      go_ret
      exact ⟨rfl, rfl⟩
  · have e : digB n = false := decide_eq_false (by omega)
    rw [e]
    clear e
    have HX := Lib.hid hx
    clear hx
    go_enter Tryd.func35, Tryd.ntmps35
    go_wp2
    go_ret
    exact ⟨rfl, rfl⟩
theorem digit_any (n : Nat) (h : n < 256) (w : World) :
    Calls Tryd.prog 38 #[.int .u8 (n : Nat)] w fun e w' => e = .returned (.bool (digB n)) ∧ w = w' := by
  obtain ⟨x, hx⟩ : ∃ x : Int, x = (n : Int) := ⟨_, rfl⟩
  rw [← hx]
  by_cases h1 : (48 : Int) ≤ x
  · by_cases h2 : x ≤ 57
    · have e : digB n = true := decide_eq_true ⟨by omega, by omega⟩
      rw [e]
      clear e
      have HX := Lib.hid hx
      clear hx
      go_enter Tryd.func38, Tryd.ntmps38
      go_wp2
      go_ret
      exact ⟨rfl, rfl⟩
    · have e : digB n = false := decide_eq_false (by omega)
      rw [e]
      clear e
      have HX := Lib.hid hx
      clear hx
      go_enter Tryd.func38, Tryd.ntmps38
      go_wp2
      go_ret
      exact ⟨rfl, rfl⟩
  · have e : digB n = false := decide_eq_false (by omega)
    rw [e]
    clear e
    have HX := Lib.hid hx
    clear hx
    go_enter Tryd.func38, Tryd.ntmps38
    go_wp2
    go_ret
    exact ⟨rfl, rfl⟩
theorem letter_any (n : Nat) (h : n < 256) (w : World) :
    Calls Tryd.prog 40 #[.int .u8 (n : Nat)] w fun e w' => e = .returned (.bool (letB n)) ∧ w = w' := by
  obtain ⟨x, hx⟩ : ∃ x : Int, x = (n : Int) := ⟨_, rfl⟩
  rw [← hx]
  by_cases h1 : (97 : Int) ≤ x
  · by_cases h2 : x ≤ 122
    · have e : letB n = true := decide_eq_true ⟨by omega, by omega⟩
      rw [e]
      clear e
      have HX := Lib.hid hx
      clear hx
      go_enter Tryd.func40, Tryd.ntmps40
      go_wp2
      go_ret
      exact ⟨rfl, rfl⟩
    · have e : letB n = false := decide_eq_false (by omega)
      rw [e]
      clear e
      have HX := Lib.hid hx
      clear hx
      go_enter Tryd.func40, Tryd.ntmps40
      go_wp2
      go_ret
      exact ⟨rfl, rfl⟩
  · have e : letB n = false := decide_eq_false (by omega)
    rw [e]
    clear e
    have HX := Lib.hid hx
    clear hx
    go_enter Tryd.func40, Tryd.ntmps40
    go_wp2
    go_ret
    exact ⟨rfl, rfl⟩
/-! ### A block of cells -/
def Has (w : World) (b : Nat) (cs : List Value) (T : TypeId) : Prop := w.heap[b]? = some (.cells cs.toArray T (0, 0))
theorem Has.lt {w : World} {b : Nat} {cs : List Value} {T : TypeId} (h : Has w b cs T) : b < w.heap.size := (Array.getElem?_eq_some_iff.1 h).1
theorem Has.cell {w : World} {b : Nat} {cs : List Value} {T : TypeId} (h : Has w b cs T) (i : Nat) : w.cell? ⟨b, i, none⟩ = cs[i]? := by
  have h' : w.heap[b]? = _ := h
  simp [World.cell?, h']
theorem Has.frozen {w : World} {b : Nat} {cs : List Value} {T : TypeId} (h : Has w b cs T) (i : Nat) : w.frozen? ⟨b, i, none⟩ = false := by
  have h' : w.heap[b]? = _ := h
  simp [World.frozen?, h']
theorem Has.of {w w' : World} {b : Nat} {cs : List Value} {T : TypeId} (h : Has w b cs T) (e : w'.heap[b]? = w.heap[b]?) : Has w' b cs T := e.trans h
theorem Has.below {w w' : World} {b B : Nat} {cs : List Value} {T : TypeId} (h : Has w b cs T) (hb : Below B w w') (hB : b < B) : Has w' b cs T := h.of (hb.block b hB)
theorem Has.call {w w' : World} {b : Nat} {cs : List Value} {T : TypeId} (h : Has w b cs T) (hb : Below w.heap.size w w') : Has w' b cs T := h.below hb h.lt
theorem Has.new (w : World) (cs : List Value) (T : TypeId) : Has (w.alloc (.cells cs.toArray T)) w.heap.size cs T := heap_alloc_new w _
theorem Has.alloc {w : World} {b : Nat} {cs : List Value} {T : TypeId} (h : Has w b cs T) (o : Obj) : Has (w.alloc o) b cs T := h.call ((Below.refl _ _).alloc (Nat.le_refl _) _)
theorem Has.set {w : World} {b : Nat} {cs : List Value} {T : TypeId} (h : Has w b cs T) (i : Nat) (v : Value) : Has (w.setCell ⟨b, i, none⟩ v) b (cs.set i v) T := by
  have h' : w.heap[b]? = _ := h
  show (w.setCell ⟨b, i, none⟩ v).heap[b]? = _
  simp [World.setCell, Array.getElem?_modify, h']
theorem Has.other {w : World} {b : Nat} {cs : List Value} {T : TypeId} (h : Has w b cs T) {p : Addr} (hp : b ≠ p.block) (v : Value) : Has (w.setCell p v) b cs T := h.of (Below.heap_setCell _ _ _ _ hp)
/-- One block alone was written. -/
structure Only (b : Nat) (w w' : World) : Prop where
  os : w'.os = w.os
  tape : w'.tape = w.tape
  output : w'.output = w.output
  size : w'.heap.size = w.heap.size
  block : ∀ k, k ≠ b → w'.heap[k]? = w.heap[k]?
theorem Only.below {b B : Nat} {w w' : World} (h : Only b w w') (hB : B ≤ b) : Below B w w' := ⟨h.os, h.tape, h.output, by rw [h.size]; exact Nat.le_refl _, fun k hk => h.block k (by omega)⟩
theorem Only.has {b k : Nat} {w w' : World} {cs : List Value} {T : TypeId} (h : Only b w w') (hk : k ≠ b) (hh : Has w k cs T) : Has w' k cs T := hh.of (h.block k hk)

/-! ### A text's next byte -/
def Rd (l : List UInt8) (k b : Nat) (w : World) : Prop := Has w b [.string (bs l), .int .i64 (k : Nat)] 69
theorem next_more (l : List UInt8) (k b : Nat) (w : World) (h : Rd l k b w) (hk : k < l.length) (hm : l.length ≤ 100000) :
    Calls Tryd.prog 44 #[.pointer (some ⟨b, 0, none⟩)] w fun e w' => e = .returned (.tuple #[.int .u8 (bt l k : Nat), .bool true]) ∧ Rd l (k + 1) b w' ∧ Only b w w' := by
  have c0 : w.cell? ⟨b, 0, none⟩ = some (.string (bs l)) := h.cell 0
  have c1 : w.cell? ⟨b, 1, none⟩ = some (.int .i64 (k : Nat)) := h.cell 1
  have f1 : w.frozen? ⟨b, 1, none⟩ = false := h.frozen 1
  have hs := bs_size l
  have hi : ∀ w, (Instr.index 9 (.string (bs l)) (.int .i64 (k : Int))).run Tryd.prog w = .ok (.int .u8 (bt l k : Nat)) w := fun w => run_index_bs w _ l .i64 k Tryd.underlying9 hk
  go_enter Tryd.func44, Tryd.ntmps44
  go_wp2
  go_quiet (fail)
  go_wp2
  go_quiet (fail)
  go_wp2
  go_ret2
  have e : ∀ W : World, Has W b [.string (bs l), .int .i64 (k : Nat)] 69 → Rd l (k + 1) b (W.setCell ⟨b, 1, none⟩ (.int .i64 ((k : Int) + 1))) := fun W hW => hW.set 1 (.int .i64 ((k : Int) + 1))
  exact ⟨rfl, e _ h, ⟨rfl, rfl, rfl, by simp [World.setCell, World.drewN], fun j hj => Below.heap_setCell _ _ _ _ hj⟩⟩
theorem next_end (l : List UInt8) (k b : Nat) (w : World) (h : Rd l k b w) (hk : k = l.length) :
    Calls Tryd.prog 44 #[.pointer (some ⟨b, 0, none⟩)] w fun e w' => e = .returned (.tuple #[.int .u8 0, .bool false]) ∧ Rd l k b w' ∧ Only b w w' := by
  have c0 : w.cell? ⟨b, 0, none⟩ = some (.string (bs l)) := h.cell 0
  have c1 : w.cell? ⟨b, 1, none⟩ = some (.int .i64 (k : Nat)) := h.cell 1
  have hs := bs_size l
  have HK := Lib.hid hk
  clear hk
  have he : ((k : Int) == (l.length : Nat)) = true := by rw [HK.out]; exact beq_self_eq_true _
  go_enter Tryd.func44, Tryd.ntmps44
  go_wp2
  go_quiet (fail)
  go_wp2
  go_ret2
  exact ⟨rfl, h, ⟨rfl, rfl, rfl, rfl, fun _ _ => rfl⟩⟩
def nextOf (b : Nat) : Value := .func (.func 44) #[.pointer (some ⟨b, 0, none⟩)] #[]
theorem bytesOf_any (l : List UInt8) (w : World) :
    Calls Tryd.prog 32 #[.string (bs l)] w fun e w' => e = .returned (nextOf w.heap.size) ∧ w' = w.alloc (.cells #[.string (bs l), .int .i64 0] 69) := by
  go_enter Tryd.func32, Tryd.ntmps32
  go_wp2
  go_ret
  exact ⟨rfl, rfl⟩

/-! ### Blanks, byte by byte -/
def remB (r : Bool) (n : Nat) : Bool := !decide (n = 10) && (r || decide (n = 35))
def spcB (n : Nat) : Bool := decide (n = 32 ∨ n = 9 ∨ n = 10 ∨ n = 13)
def fitB (r : Bool) (n : Nat) : Bool := remB r n || spcB n
theorem remB_of (r : Bool) (b : UInt8) : remB r b.toNat = remN r b := rfl
theorem fitB_of (r : Bool) (b : UInt8) : fitB r b.toNat = fitN r b := rfl
def boxOf (r : Bool) (c : Nat) (w : World) : Prop := Has w c [.bool r] 4
theorem blank_core (r x y : Bool) (n : Nat) (hx : remB r n = x) (hy : fitB r n = y) (c : Nat) (w : World) (h : boxOf r c w) :
    Calls Tryd.prog 33 #[.int .u8 (n : Nat), .pointer (some ⟨c, 0, none⟩)] w fun e w' => e = .returned (.bool y) ∧ w' = w.setCell ⟨c, 0, none⟩ (.bool x) := by
  have c0 : w.cell? ⟨c, 0, none⟩ = some (.bool r) := h.cell 0
  have f0 : w.frozen? ⟨c, 0, none⟩ = false := h.frozen 0
  have lt := h.lt
  clear h
  obtain ⟨z, hz⟩ : ∃ z : Int, z = (n : Int) := ⟨_, rfl⟩
  rw [← hz]
  have hc : z = 10 ∨ z = 35 ∨ z = 32 ∨ z = 9 ∨ z = 13 ∨ (z ≠ 10 ∧ z ≠ 35 ∧ z ≠ 32 ∧ z ≠ 9 ∧ z ≠ 13) := by omega
  have e1 : remB r n = (!decide (z = 10) && (r || decide (z = 35))) := by
    unfold remB
    rw [hz, show decide (n = 10) = decide ((n : Int) = 10) from decide_eq_decide.2 (by omega), show decide (n = 35) = decide ((n : Int) = 35) from decide_eq_decide.2 (by omega)]
  have e2 : fitB r n = (remB r n || decide (z = 32 ∨ z = 9 ∨ z = 10 ∨ z = 13)) := by
    unfold fitB spcB
    rw [hz, show decide (n = 32 ∨ n = 9 ∨ n = 10 ∨ n = 13) = decide ((n : Int) = 32 ∨ (n : Int) = 9 ∨ (n : Int) = 10 ∨ (n : Int) = 13) from decide_eq_decide.2 (by omega)]
  rw [e1] at e2 hx
  rw [hy] at e2
  clear hz e1 hy
  rcases hc with rfl | rfl | rfl | rfl | rfl | ⟨h1, h2, h3, h4, h5⟩
  case inr.inr.inr.inr.inr =>
    have e3 : decide (z = 32 ∨ z = 9 ∨ z = 10 ∨ z = 13) = false := decide_eq_false (by omega)
    rw [e3] at e2
    rw [decide_eq_false h1, decide_eq_false h2] at hx e2
    have b1 : (z == 10) = false := beq_false_of_ne h1
    have b2 : (z == 35) = false := beq_false_of_ne h2
    have b3 : (z == 32) = false := beq_false_of_ne h3
    have b4 : (z == 9) = false := beq_false_of_ne h4
    have b5 : (z == 13) = false := beq_false_of_ne h5
    have b6 : (z != 10) = true := bne_iff_ne.2 h1
    clear e3 h1 h2 h3 h4 h5
    cases r
    all_goals simp at hx e2
    all_goals subst hx
    all_goals subst e2
    all_goals go_enter Tryd.func33, Tryd.ntmps33
    all_goals go_wp2
    all_goals go_ret
    all_goals exact ⟨rfl, rfl⟩
  all_goals cases r
  all_goals simp at hx e2
  all_goals subst hx
  all_goals subst e2
  all_goals go_enter Tryd.func33, Tryd.ntmps33
  all_goals go_wp2
  all_goals go_ret
  all_goals exact ⟨rfl, rfl⟩
end Go.Proofs.YticgmbhdcegoeaaDoor
