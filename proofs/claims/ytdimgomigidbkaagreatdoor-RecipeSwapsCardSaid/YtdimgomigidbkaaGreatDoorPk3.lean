/- Texts of one proof, put together: TokA, TokB, TokC, TokD, TokE, TokF, TokG, TokH, TokI, TokJ. -/
import Derived.Test.YtdimgomigidbkaaGreatDoorPk2
import Derived.Lib.OthersKept
import Derived.Laws.RangeAny
import Derived.Laws.RangeString
import Derived.IntWalk
import Derived.OwnWalk
/- token's small functions: what a byte is, how many letters a text begins with; and those of the reference. -/
namespace Go.Proofs.YtdimgomigidbkaaGreatDoor
open Go.RowKit

def letB (n : Nat) : Bool := decide (97 ≤ n ∧ n ≤ 122)
def digB (n : Nat) : Bool := decide (48 ≤ n ∧ n ≤ 57)
theorem letB_of (b : UInt8) : letB b.toNat = isLetter b := rfl
theorem digB_of (b : UInt8) : digB b.toNat = isDigit b := rfl

theorem isDigit_any (n : Nat) (h : n < 256) (w : World) :
    Calls Tryz.prog 63 #[.int .u8 (n : Nat)] w fun e w' => e = .returned (.bool (digB n)) ∧ w = w' := by
  obtain ⟨x, hx⟩ : ∃ x : Int, x = (n : Int) := ⟨_, rfl⟩
  rw [← hx]
  by_cases h1 : (48 : Int) ≤ x
  · by_cases h2 : x ≤ 57
    · have e : digB n = true := decide_eq_true ⟨by omega, by omega⟩
      rw [e]
      clear e
      have HX := Lib.hid hx
      clear hx
      go_enter Tryz.func63, Tryz.ntmps63
      go_wp2
      go_ret
      exact ⟨rfl, rfl⟩
    · have e : digB n = false := decide_eq_false (by omega)
      rw [e]
      clear e
      have HX := Lib.hid hx
      clear hx
      go_enter Tryz.func63, Tryz.ntmps63
      go_wp2
      go_ret
      exact ⟨rfl, rfl⟩
  · have e : digB n = false := decide_eq_false (by omega)
    rw [e]
    clear e
    have HX := Lib.hid hx
    clear hx
    go_enter Tryz.func63, Tryz.ntmps63
    go_wp2
    go_ret
    exact ⟨rfl, rfl⟩
theorem digit_any (n : Nat) (h : n < 256) (w : World) :
    Calls Tryz.prog 74 #[.int .u8 (n : Nat)] w fun e w' => e = .returned (.bool (digB n)) ∧ w = w' := by
  obtain ⟨x, hx⟩ : ∃ x : Int, x = (n : Int) := ⟨_, rfl⟩
  rw [← hx]
  by_cases h1 : (48 : Int) ≤ x
  · by_cases h2 : x ≤ 57
    · have e : digB n = true := decide_eq_true ⟨by omega, by omega⟩
      rw [e]
      clear e
      have HX := Lib.hid hx
      clear hx
      go_enter Tryz.func74, Tryz.ntmps74
      go_wp2
      go_ret
      exact ⟨rfl, rfl⟩
    · have e : digB n = false := decide_eq_false (by omega)
      rw [e]
      clear e
      have HX := Lib.hid hx
      clear hx
      go_enter Tryz.func74, Tryz.ntmps74
      go_wp2
      go_ret
      exact ⟨rfl, rfl⟩
  · have e : digB n = false := decide_eq_false (by omega)
    rw [e]
    clear e
    have HX := Lib.hid hx
    clear hx
    go_enter Tryz.func74, Tryz.ntmps74
    go_wp2
    go_ret
    exact ⟨rfl, rfl⟩
theorem letter_any (n : Nat) (h : n < 256) (w : World) :
    Calls Tryz.prog 76 #[.int .u8 (n : Nat)] w fun e w' => e = .returned (.bool (letB n)) ∧ w = w' := by
  obtain ⟨x, hx⟩ : ∃ x : Int, x = (n : Int) := ⟨_, rfl⟩
  rw [← hx]
  by_cases h1 : (97 : Int) ≤ x
  · by_cases h2 : x ≤ 122
    · have e : letB n = true := decide_eq_true ⟨by omega, by omega⟩
      rw [e]
      clear e
      have HX := Lib.hid hx
      clear hx
      go_enter Tryz.func76, Tryz.ntmps76
      go_wp2
      go_ret
      exact ⟨rfl, rfl⟩
    · have e : letB n = false := decide_eq_false (by omega)
      rw [e]
      clear e
      have HX := Lib.hid hx
      clear hx
      go_enter Tryz.func76, Tryz.ntmps76
      go_wp2
      go_ret
      exact ⟨rfl, rfl⟩
  · have e : letB n = false := decide_eq_false (by omega)
    rw [e]
    clear e
    have HX := Lib.hid hx
    clear hx
    go_enter Tryz.func76, Tryz.ntmps76
    go_wp2
    go_ret
    exact ⟨rfl, rfl⟩
/-! ### A block of cells -/
def Has (w : World) (b : Nat) (cs : List Value) (T : TypeId) : Prop := w.heap[b]? = some (.cells cs.toArray T (0, 0))
theorem Has.lt {w : World} {b : Nat} {cs : List Value} {T : TypeId} (h : Has w b cs T) : b < w.heap.size := (Array.getElem?_eq_some_iff.1 h).1
theorem Has.cell {w : World} {b : Nat} {cs : List Value} {T : TypeId} (h : Has w b cs T) (i : Nat) : w.cell? ⟨b, i, none⟩ = cs[i]? := by
  have h' : w.heap[b]? = _ := h
  simp [World.cell?, h']
theorem Has.frozen {w : World} {b : Nat} {cs : List Value} {T : TypeId} (h : Has w b cs T) (i : Nat) : w.frozen? ⟨b, i, none⟩ = false := by
  have h' : w.heap[b]? = _ := h
  simp [World.frozen?, h']
theorem Has.of {w w' : World} {b : Nat} {cs : List Value} {T : TypeId} (h : Has w b cs T) (e : w'.heap[b]? = w.heap[b]?) : Has w' b cs T := e.trans h
theorem Has.below {w w' : World} {b B : Nat} {cs : List Value} {T : TypeId} (h : Has w b cs T) (hb : Below B w w') (hB : b < B) : Has w' b cs T := h.of (hb.block b hB)
theorem Has.call {w w' : World} {b : Nat} {cs : List Value} {T : TypeId} (h : Has w b cs T) (hb : Below w.heap.size w w') : Has w' b cs T := h.below hb h.lt
theorem Has.new (w : World) (cs : List Value) (T : TypeId) : Has (w.alloc (.cells cs.toArray T)) w.heap.size cs T := heap_alloc_new w _
theorem Has.alloc {w : World} {b : Nat} {cs : List Value} {T : TypeId} (h : Has w b cs T) (o : Obj) : Has (w.alloc o) b cs T := h.call ((Below.refl _ _).alloc (Nat.le_refl _) _)
theorem Has.set {w : World} {b : Nat} {cs : List Value} {T : TypeId} (h : Has w b cs T) (i : Nat) (v : Value) : Has (w.setCell ⟨b, i, none⟩ v) b (cs.set i v) T := by
  have h' : w.heap[b]? = _ := h
  show (w.setCell ⟨b, i, none⟩ v).heap[b]? = _
  simp [World.setCell, Array.getElem?_modify, h']
theorem Has.other {w : World} {b : Nat} {cs : List Value} {T : TypeId} (h : Has w b cs T) {p : Addr} (hp : b ≠ p.block) (v : Value) : Has (w.setCell p v) b cs T := h.of (Below.heap_setCell _ _ _ _ hp)
/-- One block alone was written. -/
structure Only (b : Nat) (w w' : World) : Prop where
  os : w'.os = w.os
  tape : w'.tape = w.tape
  output : w'.output = w.output
  size : w'.heap.size = w.heap.size
  block : ∀ k, k ≠ b → w'.heap[k]? = w.heap[k]?
theorem Only.below {b B : Nat} {w w' : World} (h : Only b w w') (hB : B ≤ b) : Below B w w' := ⟨h.os, h.tape, h.output, by rw [h.size]; exact Nat.le_refl _, fun k hk => h.block k (by omega)⟩
theorem Only.has {b k : Nat} {w w' : World} {cs : List Value} {T : TypeId} (h : Only b w w') (hk : k ≠ b) (hh : Has w k cs T) : Has w' k cs T := hh.of (h.block k hk)

/-! ### A text's next byte -/
def Rd (l : List UInt8) (k b : Nat) (w : World) : Prop := Has w b [.string (bs l), .int .i64 (k : Nat)] 149
theorem next_more (l : List UInt8) (k b : Nat) (w : World) (h : Rd l k b w) (hk : k < l.length) (hm : l.length ≤ 100000) :
    Calls Tryz.prog 84 #[.pointer (some ⟨b, 0, none⟩)] w fun e w' => e = .returned (.tuple #[.int .u8 (bt l k : Nat), .bool true]) ∧ Rd l (k + 1) b w' ∧ Only b w w' := by
  have c0 : w.cell? ⟨b, 0, none⟩ = some (.string (bs l)) := h.cell 0
  have c1 : w.cell? ⟨b, 1, none⟩ = some (.int .i64 (k : Nat)) := h.cell 1
  have f1 : w.frozen? ⟨b, 1, none⟩ = false := h.frozen 1
  have hs := bs_size l
  have hi : ∀ w, (Instr.index 9 (.string (bs l)) (.int .i64 (k : Int))).run Tryz.prog w = .ok (.int .u8 (bt l k : Nat)) w := fun w => run_index_bs w _ l .i64 k Tryz.underlying9 hk
  go_enter Tryz.func84, Tryz.ntmps84
  go_wp2
  go_quiet (fail)
  go_wp2
  go_quiet (fail)
  go_wp2
  go_ret2
  have e : ∀ W : World, Has W b [.string (bs l), .int .i64 (k : Nat)] 149 → Rd l (k + 1) b (W.setCell ⟨b, 1, none⟩ (.int .i64 ((k : Int) + 1))) := fun W hW => hW.set 1 (.int .i64 ((k : Int) + 1))
  exact ⟨rfl, e _ h, ⟨rfl, rfl, rfl, by simp [World.setCell, World.drewN], fun j hj => Below.heap_setCell _ _ _ _ hj⟩⟩
theorem next_end (l : List UInt8) (k b : Nat) (w : World) (h : Rd l k b w) (hk : k = l.length) :
    Calls Tryz.prog 84 #[.pointer (some ⟨b, 0, none⟩)] w fun e w' => e = .returned (.tuple #[.int .u8 0, .bool false]) ∧ Rd l k b w' ∧ Only b w w' := by
  have c0 : w.cell? ⟨b, 0, none⟩ = some (.string (bs l)) := h.cell 0
  have c1 : w.cell? ⟨b, 1, none⟩ = some (.int .i64 (k : Nat)) := h.cell 1
  have hs := bs_size l
  have HK := Lib.hid hk
  clear hk
  have he : ((k : Int) == (l.length : Nat)) = true := by rw [HK.out]; exact beq_self_eq_true _
  go_enter Tryz.func84, Tryz.ntmps84
  go_wp2
  go_quiet (fail)
  go_wp2
  go_ret2
  exact ⟨rfl, h, ⟨rfl, rfl, rfl, rfl, fun _ _ => rfl⟩⟩
def nextOf (b : Nat) : Value := .func (.func 84) #[.pointer (some ⟨b, 0, none⟩)] #[]
theorem bytesOf_any (l : List UInt8) (w : World) :
    Calls Tryz.prog 59 #[.string (bs l)] w fun e w' => e = .returned (nextOf w.heap.size) ∧ w' = w.alloc (.cells #[.string (bs l), .int .i64 0] 149) := by
  go_enter Tryz.func59, Tryz.ntmps59
  go_wp2
  go_ret
  exact ⟨rfl, rfl⟩

/-! ### Blanks, byte by byte -/
def remB (r : Bool) (n : Nat) : Bool := !decide (n = 10) && (r || decide (n = 35))
def spcB (n : Nat) : Bool := decide (n = 32 ∨ n = 9 ∨ n = 10 ∨ n = 13)
def fitB (r : Bool) (n : Nat) : Bool := remB r n || spcB n
theorem remB_of (r : Bool) (b : UInt8) : remB r b.toNat = remN r b := rfl
theorem fitB_of (r : Bool) (b : UInt8) : fitB r b.toNat = fitN r b := rfl
def boxOf (r : Bool) (c : Nat) (w : World) : Prop := Has w c [.bool r] 4
theorem blank_core (r x y : Bool) (n : Nat) (hx : remB r n = x) (hy : fitB r n = y) (c : Nat) (w : World) (h : boxOf r c w) :
    Calls Tryz.prog 60 #[.int .u8 (n : Nat), .pointer (some ⟨c, 0, none⟩)] w fun e w' => e = .returned (.bool y) ∧ w' = w.setCell ⟨c, 0, none⟩ (.bool x) := by
  have c0 : w.cell? ⟨c, 0, none⟩ = some (.bool r) := h.cell 0
  have f0 : w.frozen? ⟨c, 0, none⟩ = false := h.frozen 0
  have lt := h.lt
  clear h
  obtain ⟨z, hz⟩ : ∃ z : Int, z = (n : Int) := ⟨_, rfl⟩
  rw [← hz]
  have hc : z = 10 ∨ z = 35 ∨ z = 32 ∨ z = 9 ∨ z = 13 ∨ (z ≠ 10 ∧ z ≠ 35 ∧ z ≠ 32 ∧ z ≠ 9 ∧ z ≠ 13) := by omega
  have e1 : remB r n = (!decide (z = 10) && (r || decide (z = 35))) := by
    unfold remB
    rw [hz, show decide (n = 10) = decide ((n : Int) = 10) from decide_eq_decide.2 (by omega), show decide (n = 35) = decide ((n : Int) = 35) from decide_eq_decide.2 (by omega)]
  have e2 : fitB r n = (remB r n || decide (z = 32 ∨ z = 9 ∨ z = 10 ∨ z = 13)) := by
    unfold fitB spcB
    rw [hz, show decide (n = 32 ∨ n = 9 ∨ n = 10 ∨ n = 13) = decide ((n : Int) = 32 ∨ (n : Int) = 9 ∨ (n : Int) = 10 ∨ (n : Int) = 13) from decide_eq_decide.2 (by omega)]
  rw [e1] at e2 hx
  rw [hy] at e2
  clear hz e1 hy
  rcases hc with rfl | rfl | rfl | rfl | rfl | ⟨h1, h2, h3, h4, h5⟩
  case inr.inr.inr.inr.inr =>
    have e3 : decide (z = 32 ∨ z = 9 ∨ z = 10 ∨ z = 13) = false := decide_eq_false (by omega)
    rw [e3] at e2
    rw [decide_eq_false h1, decide_eq_false h2] at hx e2
    have b1 : (z == 10) = false := beq_false_of_ne h1
    have b2 : (z == 35) = false := beq_false_of_ne h2
    have b3 : (z == 32) = false := beq_false_of_ne h3
    have b4 : (z == 9) = false := beq_false_of_ne h4
    have b5 : (z == 13) = false := beq_false_of_ne h5
    have b6 : (z != 10) = true := bne_iff_ne.2 h1
    clear e3 h1 h2 h3 h4 h5
    cases r
    all_goals simp at hx e2
    all_goals subst hx
    all_goals subst e2
    all_goals go_enter Tryz.func60, Tryz.ntmps60
    all_goals go_wp2
    all_goals go_ret
    all_goals exact ⟨rfl, rfl⟩
  all_goals cases r
  all_goals simp at hx e2
  all_goals subst hx
  all_goals subst e2
  all_goals go_enter Tryz.func60, Tryz.ntmps60
  all_goals go_wp2
  all_goals go_ret
  all_goals exact ⟨rfl, rfl⟩
end Go.Proofs.YtdimgomigidbkaaGreatDoor
/- token.run: how many bytes fit; token.blanks. -/
namespace Go.Proofs.YtdimgomigidbkaaGreatDoor
open Go.RowKit

theorem ret_nat {a b : Nat} (h : a = b) : Ending.returned (.int .i64 (a : Nat)) = Ending.returned (.int .i64 (b : Nat)) := by rw [h]
/-- What was read at a place: a byte, or that there is none. -/
def NextAt (l : List UInt8) (k b x : Nat) (m : Bool) (w : World) : Prop := (k < l.length ∧ x = bt l k ∧ m = true ∧ Rd l (k + 1) b w) ∨ (k = l.length ∧ x = 0 ∧ m = false ∧ Rd l k b w)
theorem NextAt.lt {l : List UInt8} {k b x : Nat} {m : Bool} {w : World} (h : NextAt l k b x m w) : x < 256 := by
  rcases h with ⟨_, h, _⟩ | ⟨_, h, _⟩
  · rw [h]; exact bt_lt l k
  · omega
theorem next_any (l : List UInt8) (k b : Nat) (w : World) (h : Rd l k b w) (hk : k ≤ l.length) (hm : l.length ≤ 100000) :
    Calls Tryz.prog 84 #[.pointer (some ⟨b, 0, none⟩)] w fun e w' => ∃ x m, e = .returned (.tuple #[.int .u8 (x : Nat), .bool m]) ∧ NextAt l k b x m w' ∧ Only b w w' := by
  by_cases c : k < l.length
  · exact (next_more l k b w h c hm).mono fun e w' ⟨he, h1, h2⟩ => ⟨bt l k, true, he, Or.inl ⟨c, rfl, rfl, h1⟩, h2⟩
  · exact (next_end l k b w h (by omega)).mono fun e w' ⟨he, h1, h2⟩ => ⟨0, false, he, Or.inr ⟨by omega, rfl, rfl, h1⟩, h2⟩

def RunD (l : List UInt8) (b B : Nat) (w : World) (n x m : Value) (wr : World) : Prop :=
  ∃ (k y : Nat) (z : Bool), k ≤ spanLen isDigit l ∧ n = .int .i64 (k : Nat) ∧ x = .int .u8 (y : Nat) ∧ m = .bool z ∧ NextAt l k b y z wr ∧ Below B w wr
set_option maxHeartbeats 1000000 in
theorem run_digits (l : List UInt8) (b B : Nat) (w : World) (h : Rd l 0 b w) (hB : B ≤ b) (hm : l.length ≤ 100000) :
    Calls Tryz.prog 58 #[nextOf b, .func (.func 63) #[] #[]] w fun e w' => e = .returned (.int .i64 (spanLen isDigit l : Nat)) ∧ Below B w w' := by
  have hsl := spanLen_le isDigit l
  unfold nextOf
  go_enter Tryz.func58, Tryz.ntmps58
  go_wp2_with fail
  refine (next_any l 0 b w h (Nat.zero_le _) hm).mono ?_
  rintro e w1 ⟨x, m, rfl, h1, h2⟩
  have hb1 := h2.below hB
  clear h2
  go_wp2
  go_loopw [5, 6, 7] (RunD l b B w) (fun n _ _ _ => l.length - (intOf n).toNat)
  case atStart => exact ⟨0, x, m, Nat.zero_le _, rfl, rfl, rfl, h1, hb1⟩
  case round =>
    obtain ⟨k, y, z, hk, rfl, rfl, rfl, hn, hb⟩ := hrel
    clear h1 hb1
    have hy := hn.lt
    rcases hn with ⟨hkl, e1, e2, hr⟩ | ⟨hkl, e1, e2, hr⟩
    · subst e2
      cases hd : digB y
      · have HS := Lib.hid (spanLen_stop isDigit l k hk (Or.inr (by rw [← hd, e1]; rfl)))
        clear e1
        go_wp2_with fail
        refine (isDigit_any y hy _).mono ?_
        rintro e w2 ⟨rfl, rfl⟩
        rw [hd]
        clear hd
        go_wp2
        go_ret
        exact ⟨ret_nat HS.out, hb⟩
      · have HS := Lib.hid (spanLen_step isDigit l k hk hkl (by rw [← hd, e1]; rfl))
        clear e1
        go_wp2_with fail
        refine (isDigit_any y hy _).mono ?_
        rintro e w2 ⟨rfl, rfl⟩
        rw [hd]
        clear hd
        go_wp2_with fail
        refine (next_any l (k + 1) b _ hr (by omega) hm).mono ?_
        rintro e w3 ⟨x', m', rfl, h3, h4⟩
        have hb3 := hb.trans (h4.below hB)
        clear h4
        go_wp2
        go_roundw
        case rel => exact ⟨k + 1, x', m', HS.out, by go_num, rfl, rfl, h3, hb3⟩
        case measure => simp [intOf]; omega
    · subst e2
      have HS := Lib.hid (spanLen_stop isDigit l k hk (Or.inl (by omega)))
      clear e1 hkl
      go_wp2
      go_ret
      exact ⟨ret_nat HS.out, hb⟩

/-- Whether a remark goes on is kept in a cell. -/
def RunB (l : List UInt8) (b c B : Nat) (w : World) (n x m : Value) (wr : World) : Prop :=
  ∃ (k y : Nat) (z : Bool), k ≤ skipN false l ∧ n = .int .i64 (k : Nat) ∧ x = .int .u8 (y : Nat) ∧ m = .bool z ∧ NextAt l k b y z wr ∧ boxOf (inRem false l k) c wr ∧ Below B w wr
set_option maxHeartbeats 1000000 in
theorem run_blanks (l : List UInt8) (b c B : Nat) (w : World) (h : Rd l 0 b w) (hc : boxOf false c w) (hbc : b ≠ c) (hB : B ≤ b) (hC : B ≤ c) (hm : l.length ≤ 100000) :
    Calls Tryz.prog 58 #[nextOf b, .func (.func 60) #[] #[.pointer (some ⟨c, 0, none⟩)]] w fun e w' => e = .returned (.int .i64 (skipN false l : Nat)) ∧ Below B w w' := by
  have hsl := skipN_le false l
  unfold nextOf
  go_enter Tryz.func58, Tryz.ntmps58
  go_wp2_with fail
  refine (next_any l 0 b w h (Nat.zero_le _) hm).mono ?_
  rintro e w1 ⟨x, m, rfl, h1, h2⟩
  have hb1 := h2.below hB
  have hc1 : boxOf false c w1 := h2.has (Ne.symm hbc) hc
  clear h2
  go_wp2
  go_loopw [5, 6, 7] (RunB l b c B w) (fun n _ _ _ => l.length - (intOf n).toNat)
  case atStart => exact ⟨0, x, m, Nat.zero_le _, rfl, rfl, rfl, h1, hc1, hb1⟩
  case round =>
    obtain ⟨k, y, z, hk, rfl, rfl, rfl, hn, hcr, hb⟩ := hrel
    clear h1 hb1 hc1 hc
    have hy := hn.lt
    rcases hn with ⟨hkl, e1, e2, hr⟩ | ⟨hkl, e1, e2, hr⟩
    · subst e2
      have HK := blank_core (inRem false l k) _ _ y rfl rfl c wr hcr
      have hr2 : Rd l (k + 1) b (wr.setCell ⟨c, 0, none⟩ (.bool (remB (inRem false l k) y))) := hr.other hbc _
      have hc2 : boxOf (remB (inRem false l k) y) c (wr.setCell ⟨c, 0, none⟩ (.bool (remB (inRem false l k) y))) := hcr.set 0 _
      have hb2 : Below B w (wr.setCell ⟨c, 0, none⟩ (.bool (remB (inRem false l k) y))) := hb.setCell hC _
      have he3 : remB (inRem false l k) y = inRem false l (k + 1) := by rw [inRem_succ false l k hkl, e1]; rfl
      rw [he3] at HK hr2 hc2 hb2
      clear hr hcr hb he3
      generalize wr.setCell ⟨c, 0, none⟩ (.bool (inRem false l (k + 1))) = w2 at HK hr2 hc2 hb2
      cases hd : fitB (inRem false l k) y
      · have HS := Lib.hid (skipN_stop false l k hk (Or.inr (by rw [e1] at hd; exact hd)))
        rw [hd] at HK
        have HK' := Lib.hid HK
        clear e1 hd HK
        go_wp2_with fail
        refine HK'.out.mono ?_
        rintro e w2' ⟨rfl, rfl⟩
        go_wp2
        go_ret
        exact ⟨ret_nat HS.out, hb2⟩
      · have HS := Lib.hid (skipN_step false l k hk hkl (by rw [e1] at hd; exact hd))
        rw [hd] at HK
        have HK' := Lib.hid HK
        clear e1 hd HK
        go_wp2_with fail
        refine HK'.out.mono ?_
        rintro e w2' ⟨rfl, rfl⟩
        go_wp2_with fail
        refine (next_any l (k + 1) b _ hr2 (by omega) hm).mono ?_
        rintro e w3 ⟨x', m', rfl, h3, h4⟩
        have hb3 := hb2.trans (h4.below hB)
        have hc3 : boxOf (inRem false l (k + 1)) c w3 := h4.has (Ne.symm hbc) hc2
        clear h4
        go_wp2
        go_roundw
        case rel => exact ⟨k + 1, x', m', HS.out, by go_num, rfl, rfl, h3, hc3, hb3⟩
        case measure => simp [intOf]; omega
    · subst e2
      have HS := Lib.hid (skipN_stop false l k hk (Or.inl (by omega)))
      clear e1 hkl
      go_wp2
      go_ret
      exact ⟨ret_nat HS.out, hb⟩
theorem blanks_any (l : List UInt8) (w : World) (hm : l.length ≤ 100000) :
    Calls Tryz.prog 33 #[.string (bs l)] w fun e w' => e = .returned (.int .i64 (skipN false l : Nat)) ∧ Below w.heap.size w w' := by
  go_enter Tryz.func33, Tryz.ntmps33
  go_wp2_with fail
  refine (bytesOf_any l _).mono ?_
  rintro e w2 ⟨rfl, rfl⟩
  have hc : boxOf false w.heap.size ((w.alloc (.cells #[.bool false] 4)).alloc (.cells #[.string (bs l), .int .i64 0] 149)) := (Has.new w [.bool false] 4).alloc _
  have hr : Rd l 0 (w.heap.size + 1) ((w.alloc (.cells #[.bool false] 4)).alloc (.cells #[.string (bs l), .int .i64 0] 149)) := by
    have := Has.new (w.alloc (.cells #[.bool false] 4)) [.string (bs l), .int .i64 0] 149
    rw [show (w.alloc (.cells #[.bool false] 4)).heap.size = w.heap.size + 1 by simp] at this
    exact this
  have hb : Below w.heap.size w ((w.alloc (.cells #[.bool false] 4)).alloc (.cells #[.string (bs l), .int .i64 0] 149)) := ((Below.refl _ _).alloc (Nat.le_refl _) _).alloc (by simp) _
  go_wp2_with fail
  refine (run_blanks l (w.heap.size + 1) w.heap.size w.heap.size _ hr hc (by omega) (by omega) (by omega) hm).mono ?_
  rintro e w2 ⟨rfl, h2⟩
  go_wp2
  go_ret
  exact ⟨rfl, hb.trans h2⟩
end Go.Proofs.YtdimgomigidbkaaGreatDoor
/- token's pieces: letters, a word, a number, a mark. -/
namespace Go.Proofs.YtdimgomigidbkaaGreatDoor
open Go.RowKit

theorem run_slice_hi {P : Program} (w : World) (t : TypeId) (l : List UInt8) (k : IntKind) (b : Nat) (h : P.underlying t = some .string) (h2 : b ≤ l.length) :
    (Instr.slice t (.string (bs l)) none (some (.int k (b : Int))) none).run P w = .ok (.string (bs (l.take b))) w := by
  rw [run_slice_string_h (P := P) (s := bs l) w t h k b (by omega) (by rw [bs_size]; omega), Int.toNat_natCast, bs_extract]
  rfl
theorem run_slice_lo {P : Program} (w : World) (t : TypeId) (l : List UInt8) (k : IntKind) (a : Nat) (h : P.underlying t = some .string) (h2 : a ≤ l.length) :
    (Instr.slice t (.string (bs l)) (some (.int k (a : Int))) none none).run P w = .ok (.string (bs (l.drop a))) w := by
  rw [run_slice_string_l (P := P) (s := bs l) w t h k a (by omega) (by rw [bs_size]; omega), Int.toNat_natCast, bs_extract, bs_size, List.take_of_length_le (by rw [List.length_drop]; exact Nat.le_refl _)]

/-! ### Letters -/
theorem rune_at (l : List UInt8) (pos : Nat) (h : pos < l.length) : ∃ r d, Utf8.decode (bs l) pos = (r, d) ∧ 1 ≤ d ∧ (isLetter (l.getD pos 0) = true → 97 ≤ r ∧ r ≤ 122 ∧ d = 1) ∧ (isLetter (l.getD pos 0) = false → r < 97 ∨ 122 < r) := by
  have hs : pos < (bs l).size := by rw [bs_size]; exact h
  have e := bs_get l pos hs
  have hb : bt l pos = (l.getD pos 0).toNat := rfl
  by_cases c : ((bs l)[pos]'hs).toNat < 128
  · refine ⟨_, _, decode_ascii (bs l) pos hs c, Nat.le_refl _, fun hl => ?_, fun hl => ?_⟩
    · have := letter_nat hl
      rw [e, hb]
      exact ⟨this.1, this.2, rfl⟩
    · rw [e, hb]
      have := of_decide_eq_false hl
      omega
  · have hd := decode_high (bs l) pos hs (by omega)
    refine ⟨(Utf8.decode (bs l) pos).1, (Utf8.decode (bs l) pos).2, rfl, hd.2, ?_, ?_⟩
    · intro hl
      have k := letter_nat hl
      exact absurd (show ((bs l)[pos]'hs).toNat < 128 by rw [e, hb]; exact Nat.lt_of_le_of_lt k.2 (by decide)) c
    · intro _
      exact Or.inr (Nat.lt_of_lt_of_le (by decide) hd.1)
set_option maxHeartbeats 1000000 in
theorem letters_any (l : List UInt8) (w : World) :
    Calls Tryz.prog 61 #[.string (bs l)] w fun e w' => e = .returned (.int .i64 (spanLen isLetter l : Nat)) ∧ Below w.heap.size w w' := by
  have hsl := spanLen_le isLetter l
  have hk0 : (w.iter (bs l) 0).heap[w.heap.size]? = some (.stringIter (bs l) 0) := World.iter_heap w (bs l) 0
  have hb0 : Below w.heap.size w (w.iter (bs l) 0) := (Below.refl _ w).alloc (Nat.le_refl _) _
  have hs := bs_size l
  go_enter Tryz.func61, Tryz.ntmps61
  go_wp2
  go_loopw [3, 4] (fun _ _ wr => ∃ pos : Nat, pos ≤ spanLen isLetter l ∧ wr.heap[w.heap.size]? = some (.stringIter (bs l) pos) ∧ Below w.heap.size w wr) (fun _ _ wr => l.length - wr.iterPos w.heap.size)
  case atStart => exact ⟨0, Nat.zero_le _, hk0, hb0⟩
  case round =>
    obtain ⟨pos, hp, hk, hb⟩ := hrel
    clear hk0 hb0
    by_cases hl : pos < l.length
    · obtain ⟨r, d, hd, h1, h2, h3⟩ := rune_at l pos hl
      have hnext : ∀ ty, (Instr.next (.pointer (some ⟨w.heap.size, 0, none⟩)) true ty).run Tryz.prog wr = .ok (.tuple #[.bool true, .int .i64 (pos : Nat), .int .i32 (r : Nat)]) (wr.iterAt w.heap.size (bs l) (pos + d)) := fun ty => by
        rw [Lib.run_next_any_at wr w.heap.size (bs l) pos ty hk (by rw [hs]; exact hl), hd]
      have hk1 := Lib.iterAt_heap wr w.heap.size (bs l) pos (pos + d) hk
      have hb1 : Below w.heap.size w (wr.iterAt w.heap.size (bs l) (pos + d)) := Lib.below_iterAt hb (Nat.le_refl _) (bs l) (pos + d)
      have hmu : wr.iterPos w.heap.size = pos := by simp [World.iterPos, hk]
      generalize wr.iterAt w.heap.size (bs l) (pos + d) = w1 at hnext hk1 hb1
      have HM := Lib.hid hmu
      clear hmu hd
      cases hlet : isLetter (l.getD pos 0)
      · have HS := Lib.hid (spanLen_stop isLetter l pos hp (Or.inr hlet))
        have h3' := h3 hlet
        clear h2 h3 hlet
        rcases h3' with h3' | h3'
        all_goals
          go_wp2
          go_ret
          exact ⟨ret_nat HS.out, hb1⟩
      · obtain ⟨h4, h5, h6⟩ := h2 hlet
        have HS := Lib.hid (spanLen_step isLetter l pos hp hl hlet)
        clear h2 h3 hlet
        subst h6
        go_wp2
        go_roundw
        case rel => exact ⟨pos + 1, HS.out, hk1, hb1⟩
        case measure =>
          have : w1.iterPos w.heap.size = pos + 1 := by simp [World.iterPos, hk1]
          rw [HM.out, this]
          omega
    · have hnext : ∀ ty, (Instr.next (.pointer (some ⟨w.heap.size, 0, none⟩)) true ty).run Tryz.prog wr = .ok (.tuple #[.bool false]) wr := fun ty => Lib.run_next_end_at wr w.heap.size (bs l) pos ty hk (by rw [hs]; exact hl)
      have HS := Lib.hid (show l.length = spanLen isLetter l by omega)
      go_wp2
      go_ret
      exact ⟨ret_nat HS.out, hb⟩

/-! ### A piece, told -/
def tokV (k : Int) (t : List UInt8) (v p : Int) : Value := .agg #[.int .i64 k, .string (bs t), .int .i64 v, .int .i64 p]
def pieceOut : Except Int (Int × List UInt8 × Int × Nat) → Value
  | .error e => .tuple #[tokV 0 [] 0 0, .int .i64 0, .int .i64 e]
  | .ok (k, t, v, n) => .tuple #[tokV k t v 0, .int .i64 (n : Nat), .int .i64 0]
theorem Has.four {w : World} {b : Nat} {x0 x1 x2 x3 : Value} {T : TypeId} (h : Has w b [x0, x1, x2, x3] T) :
    (w.cell? ⟨b, 0, none⟩ = some x0 ∧ w.cell? ⟨b, 1, none⟩ = some x1 ∧ w.cell? ⟨b, 2, none⟩ = some x2 ∧ w.cell? ⟨b, 3, none⟩ = some x3) ∧
    (w.frozen? ⟨b, 0, none⟩ = false ∧ w.frozen? ⟨b, 1, none⟩ = false ∧ w.frozen? ⟨b, 2, none⟩ = false ∧ w.frozen? ⟨b, 3, none⟩ = false) :=
  ⟨⟨h.cell 0, h.cell 1, h.cell 2, h.cell 3⟩, ⟨h.frozen 0, h.frozen 1, h.frozen 2, h.frozen 3⟩⟩
/-- A token's box, fresh, behind a call. -/
def zeroTok : List Value := [.int .i64 0, .string ⟨#[]⟩, .int .i64 0, .int .i64 0]
theorem box_kept {w w2 : World} (h2 : Below (w.alloc (.cells #[.int .i64 0, .string ⟨#[]⟩, .int .i64 0, .int .i64 0] 55)).heap.size (w.alloc (.cells #[.int .i64 0, .string ⟨#[]⟩, .int .i64 0, .int .i64 0] 55)) w2) :
    Has w2 w.heap.size zeroTok 55 ∧ Below w.heap.size w w2 ∧ w.heap.size < w2.heap.size :=
  ⟨(Has.new w zeroTok 55).call h2, ((Below.refl _ w).alloc (Nat.le_refl _) _).trans (h2.mono (by simp)), by have := h2.size; simp at this; omega⟩
theorem below_four {B b : Nat} {w w2 : World} (h : Below B w w2) (hB : B ≤ b) (x0 x1 x2 x3 : Value) : Below B w ((((w2.setCell ⟨b, 0, none⟩ x0).setCell ⟨b, 1, none⟩ x1).setCell ⟨b, 2, none⟩ x2).setCell ⟨b, 3, none⟩ x3) :=
  (((h.setCell hB _).setCell hB _).setCell hB _).setCell hB _
theorem word_any (l : List UInt8) (w : World) :
    Calls Tryz.prog 62 #[.string (bs l)] w fun e w' => e = .returned (pieceOut (wordN l)) ∧ Below w.heap.size w w' := by
  have hsl := spanLen_le isLetter l
  have hsli : ∀ w, (Instr.slice 9 (.string (bs l)) none (some (.int .i64 ((spanLen isLetter l : Nat) : Int))) none).run Tryz.prog w = .ok (.string (bs (l.take (spanLen isLetter l)))) w := fun w => run_slice_hi w _ l .i64 _ Tryz.underlying9 hsl
  have hlet := letters_any l
  have e : wordN l = if 12 < spanLen isLetter l then .error 2 else .ok (1, l.take (spanLen isLetter l), 0, spanLen isLetter l) := rfl
  rw [e]
  clear e
  generalize l.take (spanLen isLetter l) = t at hsli
  generalize spanLen isLetter l = n at hlet hsli hsl
  by_cases h : 12 < n
  · rw [if_pos h]
    go_enter Tryz.func62, Tryz.ntmps62
    go_wp2_with fail
    refine (hlet _).mono ?_
    rintro e w2 ⟨rfl, h2⟩
    obtain ⟨hH, hb, hlt⟩ := box_kept h2
    clear h2
    obtain ⟨⟨c0, c1, c2, c3⟩, ⟨f0, f1, f2, f3⟩⟩ := hH.four
    go_wp2
    refine bodyPost_ret (v := .tuple #[tokV 0 [] 0 0, .int .i64 0, .int .i64 2]) (by simp [results, Tryz.results62, go_sem, tokV, bs, *]) rfl ⟨rfl, below_four hb (Nat.le_refl _) _ _ _ _⟩
  · rw [if_neg h]
    have h' : n ≤ 12 := by omega
    clear h
    go_enter Tryz.func62, Tryz.ntmps62
    go_wp2_with fail
    refine (hlet _).mono ?_
    rintro e w2 ⟨rfl, h2⟩
    obtain ⟨hH, hb, hlt⟩ := box_kept h2
    clear h2
    obtain ⟨⟨c0, c1, c2, c3⟩, ⟨f0, f1, f2, f3⟩⟩ := hH.four
    go_wp2
    refine bodyPost_ret (v := .tuple #[tokV 1 t 0 0, .int .i64 (n : Nat), .int .i64 0]) (by simp [results, Tryz.results62, go_sem, tokV, *]) rfl ⟨rfl, below_four hb (Nat.le_refl _) _ _ _ _⟩
end Go.Proofs.YtdimgomigidbkaaGreatDoor
/- token.number, token.piece. -/
namespace Go.Proofs.YtdimgomigidbkaaGreatDoor
open Go.RowKit

theorem mark_core (n : Nat) (k x : Int) (hk : (if n = 123 then 3 else if n = 125 then 4 else if n = 59 then 5 else 0 : Int) = k) (hx : (if k = 0 then 7 else 0 : Int) = x) (w : World) :
    Calls Tryz.prog 65 #[.int .u8 (n : Nat)] w fun e w' => e = .returned (.tuple #[.int .i64 k, .int .i64 x]) ∧ w = w' := by
  obtain ⟨z, hz⟩ : ∃ z : Int, z = (n : Int) := ⟨_, rfl⟩
  rw [← hz]
  by_cases h1 : n = 123
  · rw [if_pos h1] at hk
    obtain rfl : z = 123 := by omega
    subst hk
    rw [if_neg (by decide)] at hx
    subst hx
    clear hz h1
    go_enter Tryz.func65, Tryz.ntmps65
    go_wp2
    go_ret2
    exact ⟨rfl, rfl⟩
  rw [if_neg h1] at hk
  by_cases h2 : n = 125
  · rw [if_pos h2] at hk
    obtain rfl : z = 125 := by omega
    subst hk
    rw [if_neg (by decide)] at hx
    subst hx
    clear hz h1 h2
    go_enter Tryz.func65, Tryz.ntmps65
    go_wp2
    go_ret2
    exact ⟨rfl, rfl⟩
  rw [if_neg h2] at hk
  by_cases h3 : n = 59
  · rw [if_pos h3] at hk
    obtain rfl : z = 59 := by omega
    subst hk
    rw [if_neg (by decide)] at hx
    subst hx
    clear hz h1 h2 h3
    go_enter Tryz.func65, Tryz.ntmps65
    go_wp2
    go_ret2
    exact ⟨rfl, rfl⟩
  rw [if_neg h3] at hk
  subst hk
  rw [if_pos rfl] at hx
  subst hx
  have b1 : (z == 123) = false := beq_false_of_ne (by omega)
  have b2 : (z == 125) = false := beq_false_of_ne (by omega)
  have b3 : (z == 59) = false := beq_false_of_ne (by omega)
  clear hz h1 h2 h3
  go_enter Tryz.func65, Tryz.ntmps65
  go_wp2
  go_ret2
  exact ⟨rfl, rfl⟩

/-! ### A number -/
def numOut : Except Int (Int × Nat) → Value
  | .error e => .tuple #[tokV 0 [] 0 0, .int .i64 0, .int .i64 e]
  | .ok (v, n) => .tuple #[tokV 2 [] v 0, .int .i64 (n : Nat), .int .i64 0]
/-- The digits ahead of anything else, by plain names. -/
structure Digs (d t : List UInt8) (n v h : Nat) : Prop where
  span : spanLen isDigit d = n
  take : d.take n = t
  val : valD t 0 = v
  head : 0 < n → bt t 0 = h
  all : ∀ b ∈ t, isDigit b = true
  len : t.length = n
theorem Digs.mk' (d : List UInt8) : Digs d (d.take (spanLen isDigit d)) (spanLen isDigit d) (valD (d.take (spanLen isDigit d)) 0) (d.headD 0).toNat := by
  refine ⟨rfl, rfl, rfl, fun h => ?_, spanLen_take isDigit d, by rw [List.length_take]; have := spanLen_le isDigit d; omega⟩
  cases d with
  | nil => exact absurd h (by decide)
  | cons b r =>
    cases e : spanLen isDigit (b :: r) with
    | zero => rw [e] at h; exact absurd h (by decide)
    | succ k => rfl
theorem rd_box (d : List UInt8) (w : World) : Rd d 0 (w.heap.size + 1) ((w.alloc (.cells #[.int .i64 0, .string ⟨#[]⟩, .int .i64 0, .int .i64 0] 55)).alloc (.cells #[.string (bs d), .int .i64 0] 149)) := by
  have := Has.new (w.alloc (.cells #[.int .i64 0, .string ⟨#[]⟩, .int .i64 0, .int .i64 0] 55)) [.string (bs d), .int .i64 0] 149
  rw [show (w.alloc (.cells #[.int .i64 0, .string ⟨#[]⟩, .int .i64 0, .int .i64 0] 55)).heap.size = w.heap.size + 1 by simp] at this
  exact this
theorem rd_kept {d : List UInt8} {w w3 : World} (h3 : Below (w.heap.size + 1) ((w.alloc (.cells #[.int .i64 0, .string ⟨#[]⟩, .int .i64 0, .int .i64 0] 55)).alloc (.cells #[.string (bs d), .int .i64 0] 149)) w3) :
    Has w3 w.heap.size zeroTok 55 ∧ Below w.heap.size w w3 :=
  ⟨((Has.new w zeroTok 55).alloc _).below h3 (by omega), (((Below.refl _ w).alloc (Nat.le_refl _) _).alloc (by simp) _).trans (h3.mono (by omega))⟩
set_option maxHeartbeats 1000000 in
theorem number_core (l d t : List UInt8) (below : Bool) (n v h : Nat) (w : World) (hd : numD l = d) (hb : decide ((l.headD 0).toNat = 45) = below) (hD : Digs d t n v h) (hl : d.length ≤ 100000) (hE : Env w) (r : Except Int (Int × Nat))
    (hr : r = if n = 0 then .error 7 else if (h = 48 ∧ (1 < n ∨ below = true)) ∨ 1000000000 < v then .error 3 else .ok (sgn below v, if below = true then n + 1 else n)) :
    Calls Tryz.prog 64 #[.string (bs l)] w fun e w' => e = .returned (numOut r) ∧ Below w.heap.size w w' := by
  have hcut := cut_minus l
  rw [hd, hb] at hcut
  clear hd hb
  have hn : n ≤ d.length := by rw [← hD.span]; exact spanLen_le _ _
  have hsli : ∀ w, (Instr.slice 9 (.string (bs d)) none (some (.int .i64 ((n : Nat) : Int))) none).run Tryz.prog w = .ok (.string (bs t)) w := fun w => by
    rw [run_slice_hi w _ d .i64 n Tryz.underlying9 hn, hD.take]
  have hW : ∀ W b B, Rd d 0 b W → B ≤ b → Calls Tryz.prog 58 #[nextOf b, .func (.func 63) #[] #[]] W fun e w' => e = .returned (.int .i64 (n : Nat)) ∧ Below B W w' := fun W b B hR hB => by
    have := run_digits d b B W hR hB hl
    rw [hD.span] at this
    exact this
  have hlen := hD.len
  have hst := bs_size t
  by_cases c0 : n = 0
  · rw [if_pos c0] at hr
    subst hr
    have ht : t = [] := List.eq_nil_of_length_eq_zero (by omega)
    subst ht
    have C0 := Lib.hid c0
    clear hst hlen hD c0
    go_enter Tryz.func64, Tryz.ntmps64
    go_wp2_with fail
    refine (hcut _).mono ?_
    rintro e w2 ⟨rfl, rfl⟩
    go_wp2_with fail
    refine (bytesOf_any d _).mono ?_
    rintro e w2 ⟨rfl, rfl⟩
    have hR := rd_box d w
    go_wp2_with fail
    refine (hW _ _ (w.heap.size + 1) hR (Nat.le_refl _)).mono ?_
    rintro e w3 ⟨rfl, h3⟩
    obtain ⟨hH, hb⟩ := rd_kept h3
    clear h3 hR hW hcut
    obtain ⟨⟨c0, c1, c2, c3⟩, ⟨f0, f1, f2, f3⟩⟩ := hH.four
    have hq := bs_toList ([] : List UInt8)
    go_wp2
    refine bodyPost_ret (v := .tuple #[tokV 0 [] 0 0, .int .i64 0, .int .i64 7]) (by simp [results, Tryz.results64, go_sem, tokV, bs, *]) rfl ⟨rfl, below_four hb (Nat.le_refl _) _ _ _ _⟩
  rw [if_neg c0] at hr
  have ht : t ≠ [] := fun e => c0 (by rw [← hlen, e]; rfl)
  have hq1 : (bs t).toList = t := bs_toList t
  have hq2 : (t == []) = false := by
    cases t with
    | nil => exact absurd rfl ht
    | cons a b => rfl
  have hq3 : t.isEmpty = false := by
    cases t with
    | nil => exact absurd rfl ht
    | cons a b => rfl
  have hidx : ∀ w, (Instr.index 9 (.string (bs t)) (.int .i64 0)).run Tryz.prog w = .ok (.int .u8 (h : Nat)) w := fun w => by
    have := run_index_bs (P := Tryz.prog) w 9 t .i64 0 Tryz.underlying9 (by omega)
    rw [hD.head (by omega)] at this
    exact this
  have hv := hD.val
  have hok : ∀ W, v < 9223372036854775808 → Calls Tryz.prog 86 #[.string (bs t)] W fun e w' => e = .returned (.tuple #[.int .i64 (v : Nat), .nilIface]) ∧ Below W.heap.size W w' := fun W hv2 => by
    have := atoi_ok t ht hD.all (by omega) (by rw [hv]; exact hv2) W
    rw [hv] at this
    exact this
  have hfar : ¬ v < 9223372036854775808 → ∀ W, Env W → Calls Tryz.prog 86 #[.string (bs t)] W fun e w' => ∃ n tp p, e = .returned (.tuple #[.int .i64 n, .iface tp p]) ∧ Below W.heap.size W w' := fun hv2 W hE =>
    atoi_far t ht hD.all (by omega) (by rw [hv]; exact hv2) W hE
  have hlm : n ≤ 100000 := by omega
  have hn1 : n ≠ 0 := c0
  rw [hlen] at hst
  clear hv hD hlen hn hl ht c0
  obtain ⟨z, hz⟩ : ∃ z : Int, z = (h : Int) := ⟨_, rfl⟩
  rw [← hz] at hidx
  by_cases c1 : h = 48
  · obtain rfl : z = 48 := by omega
    clear hz
    cases below
    · by_cases c2 : 1 < n
      · rw [if_pos (Or.inl ⟨c1, Or.inl c2⟩)] at hr
        subst hr
        clear c1 hok hfar
        go_enter Tryz.func64, Tryz.ntmps64
        go_wp2_with fail
        refine (hcut _).mono ?_
        rintro e w2 ⟨rfl, rfl⟩
        go_wp2_with fail
        refine (bytesOf_any d _).mono ?_
        rintro e w2 ⟨rfl, rfl⟩
        have hR := rd_box d w
        go_wp2_with fail
        refine (hW _ _ (w.heap.size + 1) hR (Nat.le_refl _)).mono ?_
        rintro e w3 ⟨rfl, h3⟩
        obtain ⟨hH, hb⟩ := rd_kept h3
        clear h3 hR hW hcut
        obtain ⟨⟨c0, c1, c2, c3⟩, ⟨f0, f1, f2, f3⟩⟩ := hH.four
        go_wp2
        refine bodyPost_ret (v := .tuple #[tokV 0 [] 0 0, .int .i64 0, .int .i64 3]) (by simp [results, Tryz.results64, go_sem, tokV, bs, *]) rfl ⟨rfl, below_four hb (Nat.le_refl _) _ _ _ _⟩
      · have c2' : ¬ (1 : Int) < (n : Int) := by omega
        by_cases c3 : 1000000000 < v
        · rw [if_pos (Or.inr c3)] at hr
          subst hr
          by_cases c4 : v < 9223372036854775808
          · replace hok := fun W => hok W c4
            clear c1 c4 hfar
            go_enter Tryz.func64, Tryz.ntmps64
            go_wp2_with fail
            refine (hcut _).mono ?_
            rintro e w2 ⟨rfl, rfl⟩
            go_wp2_with fail
            refine (bytesOf_any d _).mono ?_
            rintro e w2 ⟨rfl, rfl⟩
            have hR := rd_box d w
            go_wp2_with fail
            refine (hW _ _ (w.heap.size + 1) hR (Nat.le_refl _)).mono ?_
            rintro e w3 ⟨rfl, h3⟩
            obtain ⟨hH, hb⟩ := rd_kept h3
            clear h3 hR hW hcut
            have hE3 := hE.below hb
            go_wp2_with fail
            refine (hok _).mono ?_
            rintro e w4 ⟨rfl, h4⟩
            replace hH := hH.call h4
            replace hb := hb.trans (h4.mono hb.size)
            clear h4 hE3 hok
            obtain ⟨⟨c0, c1, c2, c3⟩, ⟨f0, f1, f2, f3⟩⟩ := hH.four
            go_wp2
            refine bodyPost_ret (v := .tuple #[tokV 0 [] 0 0, .int .i64 0, .int .i64 3]) (by simp [results, Tryz.results64, go_sem, tokV, bs, *]) rfl ⟨rfl, below_four hb (Nat.le_refl _) _ _ _ _⟩
          · replace hfar := hfar c4
            clear c1 c4 c3 hok
            go_enter Tryz.func64, Tryz.ntmps64
            go_wp2_with fail
            refine (hcut _).mono ?_
            rintro e w2 ⟨rfl, rfl⟩
            go_wp2_with fail
            refine (bytesOf_any d _).mono ?_
            rintro e w2 ⟨rfl, rfl⟩
            have hR := rd_box d w
            go_wp2_with fail
            refine (hW _ _ (w.heap.size + 1) hR (Nat.le_refl _)).mono ?_
            rintro e w3 ⟨rfl, h3⟩
            obtain ⟨hH, hb⟩ := rd_kept h3
            clear h3 hR hW hcut
            have hE3 := hE.below hb
            go_wp2_with fail
            refine (hfar _ hE3).mono ?_
            rintro e w4 ⟨an, atp, ap, rfl, h4⟩
            replace hH := hH.call h4
            replace hb := hb.trans (h4.mono hb.size)
            clear h4 hE3 hfar
            obtain ⟨⟨c0, c1, c2, c3⟩, ⟨f0, f1, f2, f3⟩⟩ := hH.four
            go_wp2
            refine bodyPost_ret (v := .tuple #[tokV 0 [] 0 0, .int .i64 0, .int .i64 3]) (by simp [results, Tryz.results64, go_sem, tokV, bs, *]) rfl ⟨rfl, below_four hb (Nat.le_refl _) _ _ _ _⟩
        · rw [if_neg (by rintro (⟨_, h | h⟩ | h); exact c2 h; exact absurd h (by decide); exact c3 h), if_neg (by decide)] at hr
          subst hr
          replace hok := fun W => hok W (by omega)
          clear c1 hfar
          go_enter Tryz.func64, Tryz.ntmps64
          go_wp2_with fail
          refine (hcut _).mono ?_
          rintro e w2 ⟨rfl, rfl⟩
          go_wp2_with fail
          refine (bytesOf_any d _).mono ?_
          rintro e w2 ⟨rfl, rfl⟩
          have hR := rd_box d w
          go_wp2_with fail
          refine (hW _ _ (w.heap.size + 1) hR (Nat.le_refl _)).mono ?_
          rintro e w3 ⟨rfl, h3⟩
          obtain ⟨hH, hb⟩ := rd_kept h3
          clear h3 hR hW hcut
          have hE3 := hE.below hb
          go_wp2_with fail
          refine (hok _).mono ?_
          rintro e w4 ⟨rfl, h4⟩
          replace hH := hH.call h4
          replace hb := hb.trans (h4.mono hb.size)
          clear h4 hE3 hok
          obtain ⟨⟨c0, c1, c2, c3⟩, ⟨f0, f1, f2, f3⟩⟩ := hH.four
          go_wp2
          refine bodyPost_ret (v := .tuple #[tokV 2 [] (v : Nat) 0, .int .i64 (n : Nat), .int .i64 0]) (by simp [results, Tryz.results64, go_sem, tokV, bs, *]) rfl ⟨rfl, below_four hb (Nat.le_refl _) _ _ _ _⟩
    · rw [if_pos (Or.inl ⟨c1, Or.inr rfl⟩)] at hr
      subst hr
      clear c1 hok hfar
      go_enter Tryz.func64, Tryz.ntmps64
      go_wp2_with fail
      refine (hcut _).mono ?_
      rintro e w2 ⟨rfl, rfl⟩
      go_wp2_with fail
      refine (bytesOf_any d _).mono ?_
      rintro e w2 ⟨rfl, rfl⟩
      have hR := rd_box d w
      go_wp2_with fail
      refine (hW _ _ (w.heap.size + 1) hR (Nat.le_refl _)).mono ?_
      rintro e w3 ⟨rfl, h3⟩
      obtain ⟨hH, hb⟩ := rd_kept h3
      clear h3 hR hW hcut
      obtain ⟨⟨c0, c1, c2, c3⟩, ⟨f0, f1, f2, f3⟩⟩ := hH.four
      go_wp2
      refine bodyPost_ret (v := .tuple #[tokV 0 [] 0 0, .int .i64 0, .int .i64 3]) (by simp [results, Tryz.results64, go_sem, tokV, bs, *]) rfl ⟨rfl, below_four hb (Nat.le_refl _) _ _ _ _⟩
  · have b1 : (z == 48) = false := beq_false_of_ne (by omega)
    by_cases c3 : 1000000000 < v
    · rw [if_pos (Or.inr c3)] at hr
      subst hr
      by_cases c4 : v < 9223372036854775808
      · replace hok := fun W => hok W c4
        clear c1 c4 hfar hz
        go_enter Tryz.func64, Tryz.ntmps64
        go_wp2_with fail
        refine (hcut _).mono ?_
        rintro e w2 ⟨rfl, rfl⟩
        go_wp2_with fail
        refine (bytesOf_any d _).mono ?_
        rintro e w2 ⟨rfl, rfl⟩
        have hR := rd_box d w
        go_wp2_with fail
        refine (hW _ _ (w.heap.size + 1) hR (Nat.le_refl _)).mono ?_
        rintro e w3 ⟨rfl, h3⟩
        obtain ⟨hH, hb⟩ := rd_kept h3
        clear h3 hR hW hcut
        have hE3 := hE.below hb
        go_wp2_with fail
        refine (hok _).mono ?_
        rintro e w4 ⟨rfl, h4⟩
        replace hH := hH.call h4
        replace hb := hb.trans (h4.mono hb.size)
        clear h4 hE3 hok
        obtain ⟨⟨c0, c1, c2, c3⟩, ⟨f0, f1, f2, f3⟩⟩ := hH.four
        go_wp2
        refine bodyPost_ret (v := .tuple #[tokV 0 [] 0 0, .int .i64 0, .int .i64 3]) (by simp [results, Tryz.results64, go_sem, tokV, bs, *]) rfl ⟨rfl, below_four hb (Nat.le_refl _) _ _ _ _⟩
      · replace hfar := hfar c4
        clear c1 c4 c3 hok hz
        go_enter Tryz.func64, Tryz.ntmps64
        go_wp2_with fail
        refine (hcut _).mono ?_
        rintro e w2 ⟨rfl, rfl⟩
        go_wp2_with fail
        refine (bytesOf_any d _).mono ?_
        rintro e w2 ⟨rfl, rfl⟩
        have hR := rd_box d w
        go_wp2_with fail
        refine (hW _ _ (w.heap.size + 1) hR (Nat.le_refl _)).mono ?_
        rintro e w3 ⟨rfl, h3⟩
        obtain ⟨hH, hb⟩ := rd_kept h3
        clear h3 hR hW hcut
        have hE3 := hE.below hb
        go_wp2_with fail
        refine (hfar _ hE3).mono ?_
        rintro e w4 ⟨an, atp, ap, rfl, h4⟩
        replace hH := hH.call h4
        replace hb := hb.trans (h4.mono hb.size)
        clear h4 hE3 hfar
        obtain ⟨⟨c0, c1, c2, c3⟩, ⟨f0, f1, f2, f3⟩⟩ := hH.four
        go_wp2
        refine bodyPost_ret (v := .tuple #[tokV 0 [] 0 0, .int .i64 0, .int .i64 3]) (by simp [results, Tryz.results64, go_sem, tokV, bs, *]) rfl ⟨rfl, below_four hb (Nat.le_refl _) _ _ _ _⟩
    · rw [if_neg (by rintro (⟨h, _⟩ | h); exact c1 h; exact c3 h)] at hr
      replace hok := fun W => hok W (by omega)
      clear c1 hfar hz
      cases below
      · rw [if_neg (by decide)] at hr
        subst hr
        go_enter Tryz.func64, Tryz.ntmps64
        go_wp2_with fail
        refine (hcut _).mono ?_
        rintro e w2 ⟨rfl, rfl⟩
        go_wp2_with fail
        refine (bytesOf_any d _).mono ?_
        rintro e w2 ⟨rfl, rfl⟩
        have hR := rd_box d w
        go_wp2_with fail
        refine (hW _ _ (w.heap.size + 1) hR (Nat.le_refl _)).mono ?_
        rintro e w3 ⟨rfl, h3⟩
        obtain ⟨hH, hb⟩ := rd_kept h3
        clear h3 hR hW hcut
        have hE3 := hE.below hb
        go_wp2_with fail
        refine (hok _).mono ?_
        rintro e w4 ⟨rfl, h4⟩
        replace hH := hH.call h4
        replace hb := hb.trans (h4.mono hb.size)
        clear h4 hE3 hok
        obtain ⟨⟨c0, c1, c2, c3⟩, ⟨f0, f1, f2, f3⟩⟩ := hH.four
        go_wp2
        refine bodyPost_ret (v := .tuple #[tokV 2 [] (v : Nat) 0, .int .i64 (n : Nat), .int .i64 0]) (by simp [results, Tryz.results64, go_sem, tokV, bs, *]) rfl ⟨rfl, below_four hb (Nat.le_refl _) _ _ _ _⟩
      · rw [if_pos rfl] at hr
        subst hr
        go_enter Tryz.func64, Tryz.ntmps64
        go_wp2_with fail
        refine (hcut _).mono ?_
        rintro e w2 ⟨rfl, rfl⟩
        go_wp2_with fail
        refine (bytesOf_any d _).mono ?_
        rintro e w2 ⟨rfl, rfl⟩
        have hR := rd_box d w
        go_wp2_with fail
        refine (hW _ _ (w.heap.size + 1) hR (Nat.le_refl _)).mono ?_
        rintro e w3 ⟨rfl, h3⟩
        obtain ⟨hH, hb⟩ := rd_kept h3
        clear h3 hR hW hcut
        have hE3 := hE.below hb
        go_wp2_with fail
        refine (hok _).mono ?_
        rintro e w4 ⟨rfl, h4⟩
        replace hH := hH.call h4
        replace hb := hb.trans (h4.mono hb.size)
        clear h4 hE3 hok
        obtain ⟨⟨c0, c1, c2, c3⟩, ⟨f0, f1, f2, f3⟩⟩ := hH.four
        go_wp2
        refine bodyPost_ret (v := .tuple #[tokV 2 [] (-(v : Nat)) 0, .int .i64 ((n + 1 : Nat) : Int), .int .i64 0]) (by simp [results, Tryz.results64, go_sem, tokV, bs, *]; omega) rfl ⟨rfl, below_four hb (Nat.le_refl _) _ _ _ _⟩
end Go.Proofs.YtdimgomigidbkaaGreatDoor
/- token.piece: the token that a text begins with. -/
namespace Go.Proofs.YtdimgomigidbkaaGreatDoor
open Go.RowKit

theorem number_any (l : List UInt8) (w : World) (hl : l.length ≤ 100000) (hE : Env w) :
    Calls Tryz.prog 64 #[.string (bs l)] w fun e w' => e = .returned (numOut (numberN l)) ∧ Below w.heap.size w w' := by
  have hd : (numD l).length ≤ 100000 := by
    unfold numD
    split
    · rw [List.length_drop]; omega
    · exact hl
  exact number_core l (numD l) _ _ _ _ _ w rfl rfl (Digs.mk' (numD l)) hd hE _ (numberN_eq l)
theorem pieceOut_form (r : Except Int (Int × List UInt8 × Int × Nat)) : ∃ (k v : Int) (t : List UInt8) (n e : Int), pieceOut r = .tuple #[.agg #[.int .i64 k, .string (bs t), .int .i64 v, .int .i64 0], .int .i64 n, .int .i64 e] := by
  cases r with
  | error e => exact ⟨0, 0, [], 0, e, rfl⟩
  | ok x => obtain ⟨k, t, v, n⟩ := x; exact ⟨k, v, t, n, 0, rfl⟩
theorem num_piece {b : UInt8} (t : List UInt8) (h : b.toNat = 45 ∨ isDigit b = true) : numOut (numberN (b :: t)) = pieceOut (oneN (b :: t)) := by
  rw [oneN_num t h]
  cases numberN (b :: t) with
  | error e => rfl
  | ok x => rfl
theorem piece_core (l : List UInt8) (n h : Nat) (w : World) (hl : l.length ≤ 100000) (hE : Env w) (r : Except Int (Int × List UInt8 × Int × Nat)) (m : Int) (h256 : h < 256)
    (hh : bt l 0 = h) (hl0 : 0 < l.length) (hn : spanLen isLetter l = n)
    (hm : (if h = 123 then 3 else if h = 125 then 4 else if h = 59 then 5 else 0 : Int) = m)
    (hr1 : 0 < n → r = wordN l) (hr2 : n = 0 → (h = 45 ∨ digB h = true) → pieceOut r = numOut (numberN l)) (hr3 : n = 0 → ¬ (h = 45 ∨ digB h = true) → r = if m = 0 then .error 7 else .ok (m, [], 0, 1)) :
    Calls Tryz.prog 34 #[.string (bs l)] w fun e w' => e = .returned (pieceOut r) ∧ Below w.heap.size w w' := by
  have hlet := letters_any l
  rw [hn] at hlet
  clear hn
  have hidx : ∀ w, (Instr.index 9 (.string (bs l)) (.int .i64 0)).run Tryz.prog w = .ok (.int .u8 (h : Nat)) w := fun w => by
    have := run_index_bs (P := Tryz.prog) w 9 l .i64 0 Tryz.underlying9 hl0
    rw [hh] at this
    exact this
  clear hh hl0
  by_cases c0 : 0 < n
  · have hwd := word_any l
    rw [← hr1 c0] at hwd
    obtain ⟨k, v, t, sz, er, hp⟩ := pieceOut_form r
    rw [hp] at hwd ⊢
    clear hr1 hr2 hr3 hp hm
    go_enter Tryz.func34, Tryz.ntmps34
    go_wp2_with fail
    refine (hlet _).mono ?_
    rintro e w2 ⟨rfl, h2⟩
    obtain ⟨hH, hb, hlt⟩ := box_kept h2
    clear h2 hlet
    go_wp2_with fail
    refine (hwd _).mono ?_
    rintro e w3 ⟨rfl, h3⟩
    replace hH := hH.call h3
    replace hb := hb.trans (h3.mono hb.size)
    clear h3 hwd
    obtain ⟨⟨c0, c1, c2, c3⟩, ⟨f0, f1, f2, f3⟩⟩ := hH.four
    go_wp2
    refine bodyPost_ret (v := .tuple #[.agg #[.int .i64 k, .string (bs t), .int .i64 v, .int .i64 0], .int .i64 sz, .int .i64 er]) (by simp [results, Tryz.results34, go_sem, *]) rfl ⟨rfl, below_four hb (Nat.le_refl _) _ _ _ _⟩
  have hn0 : n = 0 := by omega
  subst hn0
  clear hr1 c0
  have hE2 : ∀ w2, Below (w.alloc (.cells #[.int .i64 0, .string ⟨#[]⟩, .int .i64 0, .int .i64 0] 55)).heap.size (w.alloc (.cells #[.int .i64 0, .string ⟨#[]⟩, .int .i64 0, .int .i64 0] 55)) w2 → Env w2 := fun w2 h2 => (hE.alloc _).below h2
  by_cases c1 : h = 45 ∨ digB h = true
  · have hnum := fun W hE => number_any l W hl hE
    rw [← hr2 rfl c1] at hnum
    obtain ⟨k, v, t, sz, er, hp⟩ := pieceOut_form r
    rw [hp] at hnum ⊢
    clear hr2 hr3 hp hm
    obtain ⟨z, hz⟩ : ∃ z : Int, z = (h : Int) := ⟨_, rfl⟩
    by_cases c2 : h = 45
    · have b1 : ((h : Int) == 45) = true := by rw [c2]; rfl
      clear c1 c2 hz
      go_enter Tryz.func34, Tryz.ntmps34
      go_wp2_with fail
      refine (hlet _).mono ?_
      rintro e w2 ⟨rfl, h2⟩
      have hE3 := hE2 w2 h2
      obtain ⟨hH, hb, hlt⟩ := box_kept h2
      clear h2 hlet hE2
      go_wp2_with fail
      refine (hnum _ hE3).mono ?_
      rintro e w3 ⟨rfl, h3⟩
      replace hH := hH.call h3
      replace hb := hb.trans (h3.mono hb.size)
      clear h3 hnum
      obtain ⟨⟨c0, c1, c2, c3⟩, ⟨f0, f1, f2, f3⟩⟩ := hH.four
      go_wp2
      refine bodyPost_ret (v := .tuple #[.agg #[.int .i64 k, .string (bs t), .int .i64 v, .int .i64 0], .int .i64 sz, .int .i64 er]) (by simp [results, Tryz.results34, go_sem, *]) rfl ⟨rfl, below_four hb (Nat.le_refl _) _ _ _ _⟩
    · have b1 : ((h : Int) == 45) = false := beq_false_of_ne (by omega)
      have hdg := isDigit_any h h256
      rw [show digB h = true from c1.resolve_left c2] at hdg
      clear c1 c2 hz
      go_enter Tryz.func34, Tryz.ntmps34
      go_wp2_with fail
      refine (hlet _).mono ?_
      rintro e w2 ⟨rfl, h2⟩
      have hE3 := hE2 w2 h2
      obtain ⟨hH, hb, hlt⟩ := box_kept h2
      clear h2 hlet hE2
      go_wp2_with fail
      refine (hdg _).mono ?_
      rintro e w2' ⟨rfl, rfl⟩
      go_wp2_with fail
      refine (hnum _ hE3).mono ?_
      rintro e w3 ⟨rfl, h3⟩
      replace hH := hH.call h3
      replace hb := hb.trans (h3.mono hb.size)
      clear h3 hnum
      obtain ⟨⟨c0, c1, c2, c3⟩, ⟨f0, f1, f2, f3⟩⟩ := hH.four
      go_wp2
      refine bodyPost_ret (v := .tuple #[.agg #[.int .i64 k, .string (bs t), .int .i64 v, .int .i64 0], .int .i64 sz, .int .i64 er]) (by simp [results, Tryz.results34, go_sem, *]) rfl ⟨rfl, below_four hb (Nat.le_refl _) _ _ _ _⟩
  · have hr := hr3 rfl c1
    clear hr2 hr3 hE2 hE
    have b1 : ((h : Int) == 45) = false := beq_false_of_ne (by omega)
    have hdg := isDigit_any h h256
    rw [show digB h = false by simpa using fun e => c1 (Or.inr e)] at hdg
    have hmk := fun W => mark_core h m _ hm rfl W
    clear c1 hm
    by_cases c2 : m = 0
    · rw [if_pos c2] at hr hmk
      subst hr
      subst c2
      go_enter Tryz.func34, Tryz.ntmps34
      go_wp2_with fail
      refine (hlet _).mono ?_
      rintro e w2 ⟨rfl, h2⟩
      obtain ⟨hH, hb, hlt⟩ := box_kept h2
      clear h2 hlet
      go_wp2_with fail
      refine (hdg _).mono ?_
      rintro e w2' ⟨rfl, rfl⟩
      go_wp2_with fail
      refine (hmk _).mono ?_
      rintro e w2' ⟨rfl, rfl⟩
      obtain ⟨⟨c0, c1, c2, c3⟩, ⟨f0, f1, f2, f3⟩⟩ := hH.four
      go_wp2
      refine bodyPost_ret (v := .tuple #[tokV 0 [] 0 0, .int .i64 0, .int .i64 7]) (by simp [results, Tryz.results34, go_sem, tokV, bs, *]) rfl ⟨rfl, below_four hb (Nat.le_refl _) _ _ _ _⟩
    · rw [if_neg c2] at hr hmk
      subst hr
      clear c2
      go_enter Tryz.func34, Tryz.ntmps34
      go_wp2_with fail
      refine (hlet _).mono ?_
      rintro e w2 ⟨rfl, h2⟩
      obtain ⟨hH, hb, hlt⟩ := box_kept h2
      clear h2 hlet
      go_wp2_with fail
      refine (hdg _).mono ?_
      rintro e w2' ⟨rfl, rfl⟩
      go_wp2_with fail
      refine (hmk _).mono ?_
      rintro e w2' ⟨rfl, rfl⟩
      obtain ⟨⟨c0, c1, c2, c3⟩, ⟨f0, f1, f2, f3⟩⟩ := hH.four
      go_wp2
      refine bodyPost_ret (v := .tuple #[tokV m [] 0 0, .int .i64 1, .int .i64 0]) (by simp [results, Tryz.results34, go_sem, tokV, bs, *]) rfl ⟨rfl, below_four hb (Nat.le_refl _) _ _ _ _⟩
theorem piece_any (l : List UInt8) (w : World) (h0 : l ≠ []) (hl : l.length ≤ 100000) (hE : Env w) :
    Calls Tryz.prog 34 #[.string (bs l)] w fun e w' => e = .returned (pieceOut (oneN l)) ∧ Below w.heap.size w w' := by
  cases l with
  | nil => exact absurd rfl h0
  | cons b t =>
    refine piece_core (b :: t) _ b.toNat w hl hE _ _ b.toNat_lt rfl (by simp) rfl rfl (fun h => one_word h) (fun _ h => (num_piece t h).symm) (fun h1 h2 => one_mark h1 h2)
end Go.Proofs.YtdimgomigidbkaaGreatDoor
/- Rows of tokens; token.Scan. -/
namespace Go.Proofs.YtdimgomigidbkaaGreatDoor
open Go.RowKit

/-! ### Rows of tokens -/
def cellsT (t : Tok) : List Value := [.int .i64 t.kind, .string (bs t.text), .int .i64 t.num, .int .i64 t.place]
def cells4 (l : List Tok) : List Value := l.flatMap cellsT
theorem cells4_length (l : List Tok) : (cells4 l).length = l.length * 4 := by
  unfold cells4
  induction l with
  | nil => rfl
  | cons t r ih => rw [List.flatMap_cons, List.length_append, ih, List.length_cons]; show 4 + r.length * 4 = _; omega
theorem cells4_snoc (l : List Tok) (t : Tok) : cells4 (l ++ [t]) = cells4 l ++ cellsT t := by
  unfold cells4
  rw [List.flatMap_append]
  simp
/-- The call's own row of tokens. -/
def Row (B : Nat) (v : Value) (l : List Tok) (w : World) : Prop := w.ownsRow B 55 4 v l.length (cells4 l)
theorem Below.grows {w w' : World} (h : Below w.heap.size w w') : w.grownBy w' none := ⟨h.os, h.tape, h.output, h.size, fun k hk _ => h.block k hk⟩
theorem Row.below {B : Nat} {v : Value} {l : List Tok} {w w' : World} (h : Row B v l w) (hb : Below w.heap.size w w') : Row B v l w' :=
  h.kept (Below.grows hb) (by cases v.ownBlock <;> simp)
theorem Row.alloc {B : Nat} {v : Value} {l : List Tok} {w : World} (h : Row B v l w) (o : Obj) : Row B v l (w.alloc o) := h.below ((Below.refl _ w).alloc (Nat.le_refl _) o)
theorem Row.nil (B : Nat) (w : World) : Row B (.slice none 0 0) [] w := World.ownsRow_nil w B _ 4
theorem Row.snoc {B : Nat} {v : Value} {l : List Tok} {t : Tok} {w : World} (h : w.ownsRow B 55 4 v (l.length + 1) (cells4 l ++ cellsT t)) : Row B v (l ++ [t]) w := by
  unfold Row
  rw [cells4_snoc, List.length_append]
  exact h
theorem cellsT_one (t : Tok) : ∀ u ∈ cellsT t, u.oneCell' = true := by
  intro u hu
  simp only [cellsT, List.mem_cons, List.not_mem_nil, or_false] at hu
  rcases hu with rfl | rfl | rfl | rfl <;> rfl
/-- A token that was laid in a block of its own. -/
theorem tok_at (w : World) (t : Tok) {b : Nat} (hb : w.heap.size = b) (j : Nat) (u : Value) (h : (cellsT t)[j]? = some u) :
    (w.alloc (.cells #[.int .i64 t.kind, .string (bs t.text), .int .i64 t.num, .int .i64 t.place] 55)).cell? ((⟨b, 0, none⟩ : Addr).add j) = some u := by
  subst hb
  have e : (⟨w.heap.size, 0, none⟩ : Addr).add j = ⟨w.heap.size, j, none⟩ := by unfold Addr.add; split <;> simp_all
  rw [e]
  exact ((Has.new w (cellsT t) 55).cell j).trans h
theorem infoTok : ((Tryz.prog).info? 55).map (fun i => (i.zero, i.size, i.bytes)) = some (some (.agg #[.int .i64 0, .string ⟨#[]⟩, .int .i64 0, .int .i64 0]), 4, 40) := by kernel_rfl

/-! ### A scan, from a place on -/
def pre (acc : List Tok) : Except (Nat × Int) (List Tok) → Except (Nat × Int) (List Tok)
  | .error e => .error e
  | .ok ts => .ok (acc ++ ts)
theorem pre_nil (r : Except (Nat × Int) (List Tok)) : pre [] r = r := by cases r <;> rfl
theorem pre_snoc (acc : List Tok) (t : Tok) (r : Except (Nat × Int) (List Tok)) : pre acc (match r with | .error e => .error e | .ok ts => .ok (t :: ts)) = pre (acc ++ [t]) r := by
  cases r with
  | error e => rfl
  | ok ts => show Except.ok (acc ++ (t :: ts)) = Except.ok (acc ++ [t] ++ ts); rw [List.append_assoc]; rfl
theorem numberN_err {l : List UInt8} {e : Int} (h : numberN l = .error e) : e ≠ 0 := by
  rw [numberN_eq] at h
  unfold numberK at h
  split at h
  · injection h with h; omega
  · split at h
    · injection h with h; omega
    · cases h
theorem oneN_err {l : List UInt8} {e : Int} (h : oneN l = .error e) : e ≠ 0 := by
  cases l with
  | nil => injection h with h; omega
  | cons b t =>
    by_cases h1 : 0 < spanLen isLetter (b :: t)
    · rw [one_word h1] at h
      unfold wordN at h
      split at h
      · injection h with h; omega
      · cases h
    · by_cases h2 : b.toNat = 45 ∨ isDigit b = true
      · rw [oneN_num t h2] at h
        cases hn : numberN (b :: t) with
        | error x => rw [hn] at h; injection h with h; have := numberN_err hn; omega
        | ok x => rw [hn] at h; cases h
      · rw [one_mark (by omega) h2] at h
        split at h
        · injection h with h; omega
        · cases h
/-- Behind a token and the blanks there. -/
theorem scan_next (l : List UInt8) (a : Nat) (acc : List Tok) (k : Int) (t : List UInt8) (v : Int) (n : Nat) (ha : a < l.length) (hb : blankN (l.drop a) = 0) (h1 : oneN (l.drop a) = .ok (k, t, v, n)) :
    pre acc (scanF (l.drop a) a) = pre (acc ++ [⟨k, t, v, a⟩]) (scanF (l.drop (a + n + skipN false (l.drop (a + n)))) (a + n + skipN false (l.drop (a + n)))) := by
  have hne : l.drop a ≠ [] := fun e => by have := congrArg List.length e; rw [List.length_drop, List.length_nil] at this; omega
  rw [scanF_one _ a hne hb, h1]
  dsimp only
  refine (pre_snoc acc ⟨k, t, v, a⟩ (scanF ((l.drop a).drop n) (a + n))).trans ?_
  rw [List.drop_drop, ← scan_skip (l.drop (a + n)) (a + n), List.drop_drop]
def scanOut (v : Value) : Except (Nat × Int) (List Tok) → Value
  | .error e => .tuple #[.slice none 0 0, .int .i64 (e.1 : Nat), .int .i64 e.2]
  | .ok _ => .tuple #[v, .int .i64 0, .int .i64 0]
def ScanEnd (l : List UInt8) (w : World) (e : Ending) (w' : World) : Prop :=
  ∃ v, e = .returned (scanOut v (scanL l)) ∧ (∀ ts, scanL l = .ok ts → Row w.heap.size v ts w') ∧ Below w.heap.size w w'
def ScanRel (l : List UInt8) (w : World) (v at' : Value) (wr : World) : Prop :=
  ∃ (a : Nat) (acc : List Tok), at' = .int .i64 (a : Nat) ∧ a ≤ l.length ∧ acc.length ≤ a ∧ blankN (l.drop a) = 0 ∧ Row w.heap.size v acc wr ∧ scanL l = pre acc (scanF (l.drop a) a) ∧ Below w.heap.size w wr
theorem scan_long (l : List UInt8) (w : World) (h : 4000 < l.length) :
    Calls Tryz.prog 17 #[.string (bs l)] w fun e w' => e = .returned (.tuple #[.slice none 0 0, .int .i64 0, .int .i64 2]) ∧ w = w' := by
  have hs := bs_size l
  go_enter Tryz.func17, Tryz.ntmps17
  go_wp2
  go_ret3
  exact ⟨rfl, rfl⟩
set_option maxHeartbeats 2000000 in
set_option maxRecDepth 100000 in
theorem scan_any (l : List UInt8) (w : World) (hl : l.length ≤ 4000) (hE : Env w) :
    Calls Tryz.prog 17 #[.string (bs l)] w (ScanEnd l w) := by
  obtain ⟨i0, hi, hz0, hz1, hz2⟩ := info_parts infoTok
  have hs := bs_size l
  have hsk := skipN_le false l
  go_enter Tryz.func17, Tryz.ntmps17
  go_wp2_with fail
  refine (blanks_any l _ (by omega)).mono ?_
  rintro e w1 ⟨rfl, h1⟩
  go_wp2
  go_loopw [5, 6] (ScanRel l w) (fun _ i _ => l.length - (intOf i).toNat)
  case atStart => exact ⟨skipN false l, [], rfl, hsk, Nat.zero_le _, skipN_drop false l, Row.nil _ _, by rw [pre_nil]; unfold scanL; rw [show scanN l.length l 0 = scanF l 0 from rfl, ← scan_skip l 0, Nat.zero_add], h1⟩
  case round =>
    obtain ⟨a, acc, rfl, ha, hacc, hbl, hrow, hsc, hb⟩ := hrel
    clear h1 hsk
    by_cases hal : a < l.length
    · have hsli : ∀ w, (Instr.slice 9 (.string (bs l)) (some (.int .i64 (a : Int))) none none).run Tryz.prog w = .ok (.string (bs (l.drop a))) w := fun w => run_slice_lo w _ l .i64 a Tryz.underlying9 ha
      have hne : l.drop a ≠ [] := fun e => by have := congrArg List.length e; rw [List.length_drop, List.length_nil] at this; omega
      have hpc := piece_any (l.drop a) wr hne (by rw [List.length_drop]; omega) (hE.below hb)
      cases h1 : oneN (l.drop a) with
      | error c =>
        have hc := oneN_err h1
        rw [h1] at hpc
        have HS : Hid (scanL l = .error (a, c)) := by rw [hsc, scanF_one _ a hne hbl, h1]; exact Lib.hid rfl
        have hc2 : (c == 0) = false := beq_false_of_ne hc
        have hc3 : (c != 0) = true := bne_iff_ne.2 hc
        have HR := Lib.hid hrow
        clear hrow hsc h1 hbl hne hc
        go_wp2_with fail
        refine hpc.mono ?_
        rintro e w2 ⟨rfl, h2⟩
        have hb2 := hb.trans (h2.mono hb.size)
        clear h2 hpc
        unfold pieceOut tokV
        go_wp2
        go_ret3
        refine ⟨.slice none 0 0, (by rw [HS.out]; rfl), (fun ts h => by rw [HS.out] at h; cases h), hb2.alloc hb2.size _⟩
      | ok x =>
        obtain ⟨k, t, v', n⟩ := x
        have hlen := (oneN_len h1).2
        rw [List.length_drop] at hlen
        have hpos := (oneN_len h1).1
        have hsk := skipN_le false (l.drop (a + n))
        rw [List.length_drop] at hsk
        have hbl2 : blankN (l.drop (a + n + skipN false (l.drop (a + n)))) = 0 := by rw [← List.drop_drop]; exact skipN_drop false _
        have HN := Lib.hid (hsc.trans (scan_next l a acc k t v' n hal hbl h1))
        have HB := Lib.hid hbl2
        have hsli2 : ∀ w, (Instr.slice 9 (.string (bs l)) (some (.int .i64 ((a : Int) + (n : Int)))) none none).run Tryz.prog w = .ok (.string (bs (l.drop (a + n)))) w := fun w => run_slice_lo w _ l .i64 (a + n) Tryz.underlying9 (by omega)
        have hbk := blanks_any (l.drop (a + n))
        rw [h1] at hpc
        generalize skipN false (l.drop (a + n)) = s at hsk HN HB hbk
        have HK : Hid (∀ W, Calls Tryz.prog 33 #[.string (bs (l.drop (a + n)))] W fun e w' => e = .returned (.int .i64 (s : Nat)) ∧ Below W.heap.size W w') := Lib.hid fun W => hbk W (by rw [List.length_drop]; omega)
        clear hsc h1 hbl hne hbl2 hbk
        go_wp2_with fail
        refine hpc.mono ?_
        rintro e w2 ⟨rfl, h2⟩
        have hb2 := hb.trans (h2.mono hb.size)
        have hr2 := hrow.below h2
        clear h2 hpc hb hrow
        have hr3 := (hr2.alloc (.cells #[.int .i64 k, .string (bs t), .int .i64 v', .int .i64 (a : Nat)] 55)).alloc (.cells #[.int .i64 k, .string (bs t), .int .i64 v', .int .i64 (a : Nat)] 55)
        have hb3 := (hb2.alloc hb2.size (.cells #[.int .i64 k, .string (bs t), .int .i64 v', .int .i64 (a : Nat)] 55)).alloc (by have := hb2.size; simp; omega) (.cells #[.int .i64 k, .string (bs t), .int .i64 v', .int .i64 (a : Nat)] 55)
        clear hb2 hr2
        unfold pieceOut tokV
        go_wp2_with (at_builtin; refine wpList_append_own _ rfl _ _ 39 rfl w.heap.size 55 i0 (.agg #[.int .i64 0, .string ⟨#[]⟩, .int .i64 0, .int .i64 0]) 4 40 Tryz.underlying39 hi hz0 hz1 hz2 rfl (by decide) _ _ _ rfl hr3 ⟨w2.heap.size + 1, 0, none⟩ 1 1 (cellsT ⟨k, t, v', a⟩) rfl rfl ?c1 ?c2 ?c3 ?c4 ?c5 ?_)
        case c1 => exact fun j u hj => tok_at _ _ (by simp) j u hj
        case c2 => exact cellsT_one _
        case c3 => unfold maxLen; omega
        case c4 => omega
        case c5 => exact hb3.size
        intro v2 w4 hown hgrow _
        have hb4 := hb3.grown hgrow hb3.size (fun j hj => (World.ownsRow.lt hr3 j hj).1)
        have hr4 := Row.snoc hown
        clear hown hgrow hb3 hr3
        go_wp2_with fail
        refine (HK.out _).mono ?_
        rintro e w5 ⟨rfl, h5⟩
        have hb5 := hb4.trans (h5.mono hb4.size)
        have hr5 := hr4.below h5
        clear h5 hb4 hr4
        go_wp2
        go_roundw
        case rel => exact ⟨a + n + s, acc ++ [⟨k, t, v', a⟩], by go_num, by omega, by rw [List.length_append]; show acc.length + 1 ≤ _; omega, HB.out, hr5, HN.out, hb5⟩
        case measure => simp [intOf]; omega
    · have HS : Hid (scanL l = .ok acc) := by rw [hsc, List.drop_of_length_le (by omega), scanF_nil]; exact Lib.hid (by show Except.ok (acc ++ []) = _; rw [List.append_nil])
      have HR := Lib.hid hrow
      clear hrow hsc hbl
      go_wp2
      go_ret3
      refine ⟨_, (by rw [HS.out]; rfl), (fun ts h => by rw [HS.out] at h; cases h; exact HR.out), hb⟩
end Go.Proofs.YtdimgomigidbkaaGreatDoor
/- The reference of stage 7, first part: a blank, a number, one token, at a place of a text. -/
namespace Go.Proofs.YtdimgomigidbkaaGreatDoor
open Go.RowKit

theorem getD_drop (l : List UInt8) (a k : Nat) : (l.drop a).getD k 0 = l.getD (a + k) 0 := by
  rw [List.getD_eq_getElem?_getD, List.getD_eq_getElem?_getD, List.getElem?_drop]
theorem idx_at (l : List UInt8) (i : Nat) (h : i < l.length) (w : World) : (Instr.index 9 (.string (bs l)) (.int .i64 (i : Int))).run Tryz.prog w = .ok (.int .u8 (bt l i : Nat)) w :=
  run_index_bs (P := Tryz.prog) w 9 l .i64 i Tryz.underlying9 h

/-- A remark's length, byte by byte. -/
theorem rblank_core (l : List UInt8) (a h s : Nat) (w : World) (hm : l.length ≤ 100000) (ha : a < l.length) (hh : bt l a = h) (hs : spanLen notEnd (l.drop a) = s) :
    Calls Tryz.prog 40 #[.string (bs l), .int .i64 (a : Nat)] w fun e w' => e = .returned (.int .i64 ((if spcB h = true then 1 else if h = 35 then s else 0 : Nat) : Int)) ∧ w = w' := by
  have hidx := idx_at l a ha
  rw [hh] at hidx
  have hz := bs_size l
  obtain ⟨z, hzz⟩ : ∃ z : Int, z = (h : Int) := ⟨_, rfl⟩
  rw [← hzz] at hidx
  have hc : z = 32 ∨ z = 9 ∨ z = 10 ∨ z = 13 ∨ z = 35 ∨ (z ≠ 32 ∧ z ≠ 9 ∧ z ≠ 10 ∧ z ≠ 13 ∧ z ≠ 35) := by omega
  have e1 : spcB h = decide (z = 32 ∨ z = 9 ∨ z = 10 ∨ z = 13) := by
    unfold spcB
    exact decide_eq_decide.2 (by omega)
  rw [e1]
  clear e1 hh
  rcases hc with rfl | rfl | rfl | rfl | rfl | ⟨h1, h2, h3, h4, h5⟩
  case inr.inr.inr.inr.inr =>
    rw [if_neg (by rw [decide_eq_false (by omega)]; decide), if_neg (by omega)]
    have b1 : (z == 32) = false := beq_false_of_ne h1
    have b2 : (z == 9) = false := beq_false_of_ne h2
    have b3 : (z == 10) = false := beq_false_of_ne h3
    have b4 : (z == 13) = false := beq_false_of_ne h4
    have b5 : (z != 35) = true := bne_iff_ne.2 h5
    clear h1 h2 h3 h4 h5 hzz hs
    go_enter Tryz.func40, Tryz.ntmps40
    go_wp2
    go_ret
    exact ⟨rfl, rfl⟩
  case inr.inr.inr.inr.inl =>
    obtain rfl : h = 35 := by omega
    rw [if_neg (by decide), if_pos rfl]
    have hsl := spanLen_le notEnd (l.drop a)
    rw [hs, List.length_drop] at hsl
    have hbt : ∀ k, bt (l.drop a) k = bt l (a + k) := fun k => by unfold bt; rw [getD_drop]
    clear hzz
    go_enter Tryz.func40, Tryz.ntmps40
    go_wp2
    go_loop [6] (fun n => ∃ k : Nat, k ≤ s ∧ n = .int .i64 (k : Nat)) (fun n => l.length - (intOf n).toNat)
    case atStart => exact ⟨0, Nat.zero_le _, rfl⟩
    case round =>
      obtain ⟨k, hk, rfl⟩ := hrel
      by_cases hl : a + k < l.length
      · have hi2 : ∀ w, (Instr.index 9 (.string (bs l)) (.int .i64 ((a : Int) + (k : Int)))).run Tryz.prog w = .ok (.int .u8 (bt l (a + k) : Nat)) w := idx_at l (a + k) hl
        have hn : notEnd ((l.drop a).getD k 0) = !decide (bt l (a + k) = 10) := by
          rw [← hbt k]
          unfold notEnd
          exact decide_not
        have hkl : k < (l.drop a).length := by rw [List.length_drop]; omega
        by_cases c : bt l (a + k) = 10
        · have HS := Lib.hid (spanLen_stop notEnd (l.drop a) k (by rw [hs]; exact hk) (Or.inr (by rw [hn, decide_eq_true c]; rfl)))
          rw [hs] at HS
          rw [c] at hi2
          clear hn c hbt hs
          go_wp2
          go_ret
          exact ⟨ret_nat HS.out, rfl⟩
        · have HS := Lib.hid (spanLen_step notEnd (l.drop a) k (by rw [hs]; exact hk) hkl (by rw [hn, decide_eq_false c]; rfl))
          rw [hs] at HS
          obtain ⟨y, hy⟩ : ∃ y : Int, y = (bt l (a + k) : Nat) := ⟨_, rfl⟩
          rw [← hy] at hi2
          have b1 : (y != 10) = true := bne_iff_ne.2 (by omega)
          clear hn c hbt hs hy
          go_wp2
          go_round
          case rel => exact ⟨k + 1, HS.out, by go_num⟩
          case measure => simp [intOf]; omega
      · have HS := Lib.hid (show k = s by omega)
        clear hbt hs
        go_wp2
        go_ret
        exact ⟨ret_nat HS.out, rfl⟩
  all_goals rw [if_pos (by decide)]
  all_goals clear hzz hs
  all_goals go_enter Tryz.func40, Tryz.ntmps40
  all_goals go_wp2
  all_goals go_ret
  all_goals exact ⟨rfl, rfl⟩
theorem rblank_any (l : List UInt8) (a : Nat) (w : World) (hm : l.length ≤ 100000) (ha : a < l.length) :
    Calls Tryz.prog 40 #[.string (bs l), .int .i64 (a : Nat)] w fun e w' => e = .returned (.int .i64 (blankN (l.drop a) : Nat)) ∧ w = w' := by
  have h := rblank_core l a _ _ w hm ha rfl rfl
  have e : (if spcB (bt l a) = true then 1 else if bt l a = 35 then spanLen notEnd (l.drop a) else 0) = blankN (l.drop a) := by
    have hd : l.drop a = l.getD a 0 :: l.drop (a + 1) := by rw [List.drop_eq_getElem_cons ha, List.getD_eq_getElem?_getD, List.getElem?_eq_getElem ha]; rfl
    rw [hd, blankN_cons]
    show (if isSpace (l.getD a 0) = true then 1 else if (l.getD a 0).toNat = 35 then _ else 0) = _
    by_cases c : isSpace (l.getD a 0) = true
    · rw [if_pos c, if_pos c]
    · rw [if_neg c, if_neg c]
      by_cases d : (l.getD a 0).toNat = 35
      · rw [if_pos d, if_pos d]
        show (if notEnd (l.getD a 0) = true then _ else 0) = _
        rw [if_pos (by unfold notEnd; rw [d]; rfl)]
      · rw [if_neg d, if_neg d]
  rw [e] at h
  exact h
end Go.Proofs.YtdimgomigidbkaaGreatDoor
/- The reference of stage 7: a number, at a place of a text. -/
namespace Go.Proofs.YtdimgomigidbkaaGreatDoor
open Go.RowKit

def rnumOut : Except Int (Int × Nat) → Value
  | .error e => .tuple #[.int .i64 0, .int .i64 0, .int .i64 e]
  | .ok (v, n) => .tuple #[.int .i64 v, .int .i64 (n : Nat), .int .i64 0]
/-- The digits' worth so far, kept at a bound. -/
structure Keeps (l : List UInt8) (F N v : Nat) (G : Nat → Nat) : Prop where
  zero : G 0 = 0
  step : ∀ k, k < N → G (k + 1) = min (10 * G k + (bt l (F + k) - 48)) 10000000000
  last : G N = min v 10000000000
  digs : ∀ k, k < N → 48 ≤ bt l (F + k) ∧ bt l (F + k) ≤ 57
  top : ∀ k, G k ≤ 10000000000
theorem keeps (l : List UInt8) (F : Nat) : Keeps l F (spanLen isDigit (l.drop F)) (valD ((l.drop F).take (spanLen isDigit (l.drop F))) 0) (fun k => min (valD ((l.drop F).take k) 0) 10000000000) := by
  have hbt : ∀ k, bt (l.drop F) k = bt l (F + k) := fun k => by unfold bt; rw [getD_drop]
  refine ⟨rfl, fun k hk => ?_, rfl, fun k hk => ?_, fun k => Nat.min_le_right _ _⟩
  · have hl : k < (l.drop F).length := Nat.lt_of_lt_of_le hk (spanLen_le _ _)
    show min (valD ((l.drop F).take (k + 1)) 0) _ = min (10 * min (valD ((l.drop F).take k) 0) 10000000000 + _) _
    rw [List.take_add_one, List.getElem?_eq_getElem hl]
    show min (valD ((l.drop F).take k ++ [(l.drop F)[k]]) 0) _ = _
    rw [valD_snoc, keep_step, ← hbt k]
    unfold bt
    rw [List.getD_eq_getElem?_getD, List.getElem?_eq_getElem hl]
    rfl
  · have := digit_nat (spanLen_yes isDigit (l.drop F) k hk)
    rw [← hbt k]
    exact this
theorem rsign {g v n a : Nat} (h : g = v) : Ending.returned (.tuple #[.int .i64 (-(g : Int)), .int .i64 ((a : Int) + 1 + (n : Int) - (a : Int)), .int .i64 0]) = .returned (rnumOut (.ok (sgn true v, n + 1))) := by
  rw [h, show (a : Int) + 1 + (n : Int) - (a : Int) = ((n + 1 : Nat) : Int) by omega]
  rfl
theorem rsame {g v n a : Nat} (h : g = v) : Ending.returned (.tuple #[.int .i64 (g : Int), .int .i64 ((a : Int) + (n : Int) - (a : Int)), .int .i64 0]) = .returned (rnumOut (.ok (sgn false v, n))) := by
  rw [h, show (a : Int) + (n : Int) - (a : Int) = (n : Int) by omega]
  rfl
set_option maxHeartbeats 4000000 in
set_option maxRecDepth 100000 in
theorem rnumber_core (l : List UInt8) (a F N v h : Nat) (below : Bool) (G : Nat → Nat) (w : World) (hm : l.length ≤ 100000) (ha : a < l.length) (hb : decide (bt l a = 45) = below) (hF : F = if below = true then a + 1 else a)
    (hN : spanLen isDigit (l.drop F) = N) (hG : Keeps l F N v G) (hh : 0 < N → bt l F = h) (r : Except Int (Int × Nat))
    (hr : r = if N = 0 then .error 7 else if (h = 48 ∧ (1 < N ∨ below = true)) ∨ 1000000000 < v then .error 3 else .ok (sgn below v, if below = true then N + 1 else N)) :
    Calls Tryz.prog 75 #[.string (bs l), .int .i64 (a : Nat)] w fun e w' => e = .returned (rnumOut r) ∧ w = w' := by
  have hidx := idx_at l a ha
  have hz := bs_size l
  have hNl := spanLen_le isDigit (l.drop F)
  rw [hN, List.length_drop] at hNl
  have hdig := digit_any
  have g0 := hG.zero
  obtain ⟨y, hy⟩ : ∃ y : Int, y = (bt l a : Nat) := ⟨_, rfl⟩
  rw [← hy] at hidx
  have b0 : (y == 45) = below := by
    rw [← hb, hy, Bool.eq_iff_iff]
    simp
    omega
  have HR := Lib.hid hr
  have HY := Lib.hid hy
  have HH := Lib.hid hh
  have HN := Lib.hid hN
  have HG := Lib.hid hG
  clear hb hy hr hN hh hG
  have E0 : (0 : Int) = ((G 0 : Nat) : Int) := by rw [g0]; rfl
  have HE := Lib.hid E0
  clear E0 g0
  cases below
  · have hFF : a = F := hF.symm
    clear hF
    subst hFF
    have hF2 : a ≤ l.length := by omega
    go_enter Tryz.func75, Tryz.ntmps75
    go_wp2
    go_loop [9, 10] (fun e n => ∃ k : Nat, k ≤ N ∧ e = .int .i64 ((a : Int) + (k : Int)) ∧ n = .int .i64 (G k : Nat)) (fun e _ => l.length - (intOf e).toNat)
    case atStart => exact ⟨0, Nat.zero_le _, by go_num, by rw [← HE.out]⟩
    case round =>
      obtain ⟨k, hk, rfl, rfl⟩ := hrel
      have hgt := HG.out.top k
      by_cases hl : a + k < l.length
      · have hi2 : ∀ w, (Instr.index 9 (.string (bs l)) (.int .i64 ((a : Int) + (k : Int)))).run Tryz.prog w = .ok (.int .u8 (bt l (a + k) : Nat)) w := idx_at l (a + k) hl
        have hkl : k < (l.drop a).length := by rw [List.length_drop]; omega
        have hdd : isDigit ((l.drop a).getD k 0) = digB (bt l (a + k)) := by rw [getD_drop]; rfl
        have hq256 := bt_lt l (a + k)
        cases hd : digB (bt l (a + k))
        · have HS := Lib.hid (spanLen_stop isDigit (l.drop a) k (by rw [HN.out]; exact hk) (Or.inr (by rw [hdd, hd])))
          rw [HN.out] at HS
          have hdc := digit_any (bt l (a + k)) hq256
          rw [hd] at hdc
          generalize bt l (a + k) = q at hi2 hdc hq256
          clear hdd hd hkl
          go_wp2_with fail
          refine (hdc _).mono ?_
          rintro e w2 ⟨rfl, rfl⟩
          clear hdc hi2 hdig hl
          obtain rfl : k = N := HS.out
          clear HS hk
          have hlast := HG.out.last
          by_cases c0 : k = 0
          · have hr := HR.out
            rw [if_pos c0] at hr
            subst hr
            clear hlast HR HG
            go_wp2
            all_goals go_ret3
            all_goals exact ⟨rfl, rfl⟩
          have hr := HR.out
          rw [if_neg c0] at hr
          have hzz : y = (h : Int) := by rw [HY.out, HH.out (by omega)]
          obtain ⟨g, hg⟩ : ∃ g, G k = g := ⟨_, rfl⟩
          rw [hg] at hlast hgt ⊢
          by_cases c1 : h = 48
          · obtain rfl : y = 48 := by omega
            clear hzz
            by_cases c2 : 1 < k
            · rw [if_pos (Or.inl ⟨c1, Or.inl c2⟩)] at hr
              subst hr
              clear hlast HR HG hg c1
              go_wp2
              all_goals go_ret3
              all_goals exact ⟨rfl, rfl⟩
            · have c2' : k ≤ 1 := by omega
              by_cases c3 : 1000000000 < v
              · have hgb : 1000000000 < g := by omega
                rw [if_pos (Or.inr c3)] at hr
                subst hr
                clear hlast HR HG hg c1 c2 c3
                go_wp2
                all_goals go_ret3
                all_goals exact ⟨rfl, rfl⟩
              · have hgb : g ≤ 1000000000 := by omega
                have HV := Lib.hid (show g = v by omega)
                rw [if_neg (by rintro (⟨_, h | h⟩ | h); exact c2 h; exact absurd h (by decide); exact c3 h), if_neg (by decide)] at hr
                subst hr
                clear hlast HR HG hg c1 c2 c3
                go_wp2
                go_ret3
                exact ⟨rsame HV.out, rfl⟩
          · have b1 : (y == 48) = false := beq_false_of_ne (by omega)
            clear hzz
            by_cases c3 : 1000000000 < v
            · have hgb : 1000000000 < g := by omega
              rw [if_pos (Or.inr c3)] at hr
              subst hr
              clear hlast HR HG hg c1 c3
              go_wp2
              all_goals go_ret3
              all_goals exact ⟨rfl, rfl⟩
            · have hgb : g ≤ 1000000000 := by omega
              have HV := Lib.hid (show g = v by omega)
              rw [if_neg (by rintro (⟨h, _⟩ | h); exact c1 h; exact c3 h), if_neg (by decide)] at hr
              subst hr
              clear hlast HR HG hg c1 c3
              go_wp2
              go_ret3
              exact ⟨rsame HV.out, rfl⟩
        · have HS := Lib.hid (spanLen_step isDigit (l.drop a) k (by rw [HN.out]; exact hk) hkl (by rw [hdd, hd]))
          rw [HN.out] at HS
          have hst := HG.out.step k HS.out
          have hdd2 := HG.out.digs k HS.out
          have hdc := digit_any (bt l (a + k)) hq256
          rw [hd] at hdc
          generalize bt l (a + k) = q at hi2 hdc hq256 hst hdd2
          have HT := Lib.hid hst
          obtain ⟨hq1, hq2⟩ := hdd2
          clear hdd hd hkl hst
          go_wp2_with fail
          refine (hdc _).mono ?_
          rintro e w2 ⟨rfl, rfl⟩
          clear hdc hdig
          go_wp2
          go_round
          case rel => exact ⟨k + 1, HS.out, by go_num, by rw [HT.out]; congr 1; omega⟩
          case measure => simp [intOf]; omega
      · have HS := Lib.hid (show k = N by omega)
        obtain rfl : k = N := HS.out
        clear HS hk
        have hlast := HG.out.last
        by_cases c0 : k = 0
        · have hr := HR.out
          rw [if_pos c0] at hr
          subst hr
          clear hlast HR HG
          go_wp2
          all_goals go_ret3
          all_goals exact ⟨rfl, rfl⟩
        have hr := HR.out
        rw [if_neg c0] at hr
        have hzz : y = (h : Int) := by rw [HY.out, HH.out (by omega)]
        obtain ⟨g, hg⟩ : ∃ g, G k = g := ⟨_, rfl⟩
        rw [hg] at hlast hgt ⊢
        by_cases c1 : h = 48
        · obtain rfl : y = 48 := by omega
          clear hzz
          by_cases c2 : 1 < k
          · rw [if_pos (Or.inl ⟨c1, Or.inl c2⟩)] at hr
            subst hr
            clear hlast HR HG hg c1
            go_wp2
            all_goals go_ret3
            all_goals exact ⟨rfl, rfl⟩
          · have c2' : k ≤ 1 := by omega
            by_cases c3 : 1000000000 < v
            · have hgb : 1000000000 < g := by omega
              rw [if_pos (Or.inr c3)] at hr
              subst hr
              clear hlast HR HG hg c1 c2 c3
              go_wp2
              all_goals go_ret3
              all_goals exact ⟨rfl, rfl⟩
            · have hgb : g ≤ 1000000000 := by omega
              have HV := Lib.hid (show g = v by omega)
              rw [if_neg (by rintro (⟨_, h | h⟩ | h); exact c2 h; exact absurd h (by decide); exact c3 h), if_neg (by decide)] at hr
              subst hr
              clear hlast HR HG hg c1 c2 c3
              go_wp2
              go_ret3
              exact ⟨rsame HV.out, rfl⟩
        · have b1 : (y == 48) = false := beq_false_of_ne (by omega)
          clear hzz
          by_cases c3 : 1000000000 < v
          · have hgb : 1000000000 < g := by omega
            rw [if_pos (Or.inr c3)] at hr
            subst hr
            clear hlast HR HG hg c1 c3
            go_wp2
            all_goals go_ret3
            all_goals exact ⟨rfl, rfl⟩
          · have hgb : g ≤ 1000000000 := by omega
            have HV := Lib.hid (show g = v by omega)
            rw [if_neg (by rintro (⟨h, _⟩ | h); exact c1 h; exact c3 h), if_neg (by decide)] at hr
            subst hr
            clear hlast HR HG hg c1 c3
            go_wp2
            go_ret3
            exact ⟨rsame HV.out, rfl⟩
  · have hFF : (a + 1) = F := hF.symm
    clear hF
    subst hFF
    have hF2 : (a + 1) ≤ l.length := by omega
    go_enter Tryz.func75, Tryz.ntmps75
    go_wp2
    go_loop [9, 10] (fun e n => ∃ k : Nat, k ≤ N ∧ e = .int .i64 ((a : Int) + 1 + (k : Int)) ∧ n = .int .i64 (G k : Nat)) (fun e _ => l.length - (intOf e).toNat)
    case atStart => exact ⟨0, Nat.zero_le _, by go_num, by rw [← HE.out]⟩
    case round =>
      obtain ⟨k, hk, rfl, rfl⟩ := hrel
      have hgt := HG.out.top k
      by_cases hl : (a + 1) + k < l.length
      · have hi2 : ∀ w, (Instr.index 9 (.string (bs l)) (.int .i64 (((a : Int) + 1) + (k : Int)))).run Tryz.prog w = .ok (.int .u8 (bt l ((a + 1) + k) : Nat)) w := idx_at l ((a + 1) + k) hl
        have hkl : k < (l.drop (a + 1)).length := by rw [List.length_drop]; omega
        have hdd : isDigit ((l.drop (a + 1)).getD k 0) = digB (bt l ((a + 1) + k)) := by rw [getD_drop]; rfl
        have hq256 := bt_lt l ((a + 1) + k)
        cases hd : digB (bt l ((a + 1) + k))
        · have HS := Lib.hid (spanLen_stop isDigit (l.drop (a + 1)) k (by rw [HN.out]; exact hk) (Or.inr (by rw [hdd, hd])))
          rw [HN.out] at HS
          have hdc := digit_any (bt l ((a + 1) + k)) hq256
          rw [hd] at hdc
          generalize bt l ((a + 1) + k) = q at hi2 hdc hq256
          clear hdd hd hkl
          go_wp2_with fail
          refine (hdc _).mono ?_
          rintro e w2 ⟨rfl, rfl⟩
          clear hdc hi2 hdig hl
          obtain rfl : k = N := HS.out
          clear HS hk
          have hlast := HG.out.last
          by_cases c0 : k = 0
          · have hr := HR.out
            rw [if_pos c0] at hr
            subst hr
            clear hlast HR HG
            go_wp2
            all_goals go_ret3
            all_goals exact ⟨rfl, rfl⟩
          have hr := HR.out
          rw [if_neg c0] at hr
          have hF : (a + 1) < l.length := by omega
          have hix : ∀ w, (Instr.index 9 (.string (bs l)) (.int .i64 ((a : Int) + 1))).run Tryz.prog w = .ok (.int .u8 (h : Nat)) w := fun w => by
            have := idx_at l (a + 1) hF w
            rw [HH.out (by omega)] at this
            exact this
          obtain ⟨z, hzz⟩ : ∃ z : Int, z = (h : Int) := ⟨_, rfl⟩
          rw [← hzz] at hix
          obtain ⟨g, hg⟩ : ∃ g, G k = g := ⟨_, rfl⟩
          rw [hg] at hlast hgt ⊢
          by_cases c1 : h = 48
          · obtain rfl : z = 48 := by omega
            clear hzz
            rw [if_pos (Or.inl ⟨c1, Or.inr (by trivial)⟩)] at hr
            subst hr
            clear hlast HR HG hg c1
            go_wp2
            all_goals go_ret3
            all_goals exact ⟨rfl, rfl⟩
          · have b1 : (z == 48) = false := beq_false_of_ne (by omega)
            clear hzz
            by_cases c3 : 1000000000 < v
            · have hgb : 1000000000 < g := by omega
              rw [if_pos (Or.inr c3)] at hr
              subst hr
              clear hlast HR HG hg c1 c3
              go_wp2
              all_goals go_ret3
              all_goals exact ⟨rfl, rfl⟩
            · have hgb : g ≤ 1000000000 := by omega
              have HV := Lib.hid (show g = v by omega)
              rw [if_neg (by rintro (⟨h, _⟩ | h); exact c1 h; exact c3 h), if_pos (by trivial)] at hr
              subst hr
              clear hlast HR HG hg c1 c3
              go_wp2
              go_ret3
              exact ⟨rsign HV.out, rfl⟩
        · have HS := Lib.hid (spanLen_step isDigit (l.drop (a + 1)) k (by rw [HN.out]; exact hk) hkl (by rw [hdd, hd]))
          rw [HN.out] at HS
          have hst := HG.out.step k HS.out
          have hdd2 := HG.out.digs k HS.out
          have hdc := digit_any (bt l ((a + 1) + k)) hq256
          rw [hd] at hdc
          generalize bt l ((a + 1) + k) = q at hi2 hdc hq256 hst hdd2
          have HT := Lib.hid hst
          obtain ⟨hq1, hq2⟩ := hdd2
          clear hdd hd hkl hst
          go_wp2_with fail
          refine (hdc _).mono ?_
          rintro e w2 ⟨rfl, rfl⟩
          clear hdc hdig
          go_wp2
          go_round
          case rel => exact ⟨k + 1, HS.out, by go_num, by rw [HT.out]; congr 1; omega⟩
          case measure => simp [intOf]; omega
      · have HS := Lib.hid (show k = N by omega)
        obtain rfl : k = N := HS.out
        clear HS hk
        have hlast := HG.out.last
        by_cases c0 : k = 0
        · have hr := HR.out
          rw [if_pos c0] at hr
          subst hr
          clear hlast HR HG
          go_wp2
          all_goals go_ret3
          all_goals exact ⟨rfl, rfl⟩
        have hr := HR.out
        rw [if_neg c0] at hr
        have hF : (a + 1) < l.length := by omega
        have hix : ∀ w, (Instr.index 9 (.string (bs l)) (.int .i64 ((a : Int) + 1))).run Tryz.prog w = .ok (.int .u8 (h : Nat)) w := fun w => by
          have := idx_at l (a + 1) hF w
          rw [HH.out (by omega)] at this
          exact this
        obtain ⟨z, hzz⟩ : ∃ z : Int, z = (h : Int) := ⟨_, rfl⟩
        rw [← hzz] at hix
        obtain ⟨g, hg⟩ : ∃ g, G k = g := ⟨_, rfl⟩
        rw [hg] at hlast hgt ⊢
        by_cases c1 : h = 48
        · obtain rfl : z = 48 := by omega
          clear hzz
          rw [if_pos (Or.inl ⟨c1, Or.inr (by trivial)⟩)] at hr
          subst hr
          clear hlast HR HG hg c1
          go_wp2
          all_goals go_ret3
          all_goals exact ⟨rfl, rfl⟩
        · have b1 : (z == 48) = false := beq_false_of_ne (by omega)
          clear hzz
          by_cases c3 : 1000000000 < v
          · have hgb : 1000000000 < g := by omega
            rw [if_pos (Or.inr c3)] at hr
            subst hr
            clear hlast HR HG hg c1 c3
            go_wp2
            all_goals go_ret3
            all_goals exact ⟨rfl, rfl⟩
          · have hgb : g ≤ 1000000000 := by omega
            have HV := Lib.hid (show g = v by omega)
            rw [if_neg (by rintro (⟨h, _⟩ | h); exact c1 h; exact c3 h), if_pos (by trivial)] at hr
            subst hr
            clear hlast HR HG hg c1 c3
            go_wp2
            go_ret3
            exact ⟨rsign HV.out, rfl⟩
end Go.Proofs.YtdimgomigidbkaaGreatDoor
/- The reference of stage 7: one token, at a place of a text. -/
namespace Go.Proofs.YtdimgomigidbkaaGreatDoor
open Go.RowKit

theorem headD_drop (l : List UInt8) (a : Nat) : (l.drop a).headD 0 = l.getD a 0 := by
  rw [List.getD_eq_getElem?_getD, ← List.head?_drop]
  cases l.drop a <;> rfl
theorem rnumber_any (l : List UInt8) (a : Nat) (w : World) (hm : l.length ≤ 100000) (ha : a < l.length) :
    Calls Tryz.prog 75 #[.string (bs l), .int .i64 (a : Nat)] w fun e w' => e = .returned (rnumOut (numberN (l.drop a))) ∧ w = w' := by
  have hF : numD (l.drop a) = l.drop (if decide (bt l a = 45) = true then a + 1 else a) := by
    unfold numD
    rw [headD_drop]
    show (if bt l a = 45 then _ else _) = _
    by_cases c : bt l a = 45
    · rw [if_pos c, if_pos (decide_eq_true c), List.drop_drop]
    · rw [if_neg c, if_neg (by rw [decide_eq_false c]; decide)]
  refine rnumber_core l a _ _ _ (bt l (if decide (bt l a = 45) = true then a + 1 else a)) _ _ w hm ha rfl rfl rfl (keeps l _) (fun _ => rfl) _ ?_
  rw [numberN_eq, hF, headD_drop]
  unfold numberK
  rw [headD_drop]
  rfl

def roneOut (a : Nat) : Except Int (Int × List UInt8 × Int × Nat) → Value
  | .error e => .tuple #[tokV 0 [] 0 0, .int .i64 0, .int .i64 e]
  | .ok (k, t, v, n) => .tuple #[tokV k t v (a : Nat), .int .i64 (n : Nat), .int .i64 0]
theorem rletters_stop (l : List UInt8) (a k : Nat) : isLetter ((l.drop a).getD k 0) = letB (bt l (a + k)) := by rw [getD_drop]; rfl
set_option maxHeartbeats 4000000 in
set_option maxRecDepth 100000 in
/-- A word at a place, or nothing that is one. -/
theorem rone_word (l t : List UInt8) (a h n : Nat) (w : World) (hm : l.length ≤ 100000) (ha : a < l.length) (hh : bt l a = h)
    (h1 : h ≠ 123) (h2 : h ≠ 125) (h3 : h ≠ 59) (h4 : h ≠ 45) (h5 : digB h = false) (hn : spanLen isLetter (l.drop a) = n) (ht : (l.drop a).take n = t) (r : Except Int (Int × List UInt8 × Int × Nat))
    (hr : r = if n = 0 then .error 7 else if 12 < n then .error 2 else .ok (1, t, 0, n)) :
    Calls Tryz.prog 41 #[.string (bs l), .int .i64 (a : Nat)] w fun e w' => e = .returned (roneOut a r) ∧ Below w.heap.size w w' := by
  have hidx := idx_at l a ha
  rw [hh] at hidx
  have hz := bs_size l
  have h256 : h < 256 := by rw [← hh]; exact bt_lt l a
  have hnl := spanLen_le isLetter (l.drop a)
  rw [hn, List.length_drop] at hnl
  have hsli : ∀ w, (Instr.slice 9 (.string (bs l)) (some (.int .i64 (a : Int))) (some (.int .i64 ((a : Int) + (n : Int)))) none).run Tryz.prog w = .ok (.string (bs t)) w := fun w => by
    have := run_slice_bs (P := Tryz.prog) w 9 l .i64 .i64 a (a + n) Tryz.underlying9 (by omega) (by omega)
    rw [show a + n - a = n by omega, ht] at this
    exact this
  obtain ⟨y, hy⟩ : ∃ y : Int, y = (h : Int) := ⟨_, rfl⟩
  rw [← hy] at hidx
  have b1 : (y == 123) = false := beq_false_of_ne (by omega)
  have b2 : (y == 125) = false := beq_false_of_ne (by omega)
  have b3 : (y == 59) = false := beq_false_of_ne (by omega)
  have b4 : (y == 45) = false := beq_false_of_ne (by omega)
  have hdg := digit_any h h256
  rw [h5, ← hy] at hdg
  have HN := Lib.hid hn
  have HR := Lib.hid hr
  clear hh h1 h2 h3 h4 h5 hn ht hr hy
  go_enter Tryz.func41, Tryz.ntmps41
  go_wp2_with fail
  refine (hdg _).mono ?_
  rintro e w2 ⟨rfl, rfl⟩
  clear hdg
  go_wp2
  go_loop [12] (fun e => ∃ k : Nat, k ≤ n ∧ e = .int .i64 ((a : Int) + (k : Int))) (fun e => l.length - (intOf e).toNat)
  case atStart => exact ⟨0, Nat.zero_le _, by go_num⟩
  case round =>
    obtain ⟨k, hk, rfl⟩ := hrel
    by_cases hl : a + k < l.length
    · have hi2 : ∀ w, (Instr.index 9 (.string (bs l)) (.int .i64 ((a : Int) + (k : Int)))).run Tryz.prog w = .ok (.int .u8 (bt l (a + k) : Nat)) w := idx_at l (a + k) hl
      have hkl : k < (l.drop a).length := by rw [List.length_drop]; omega
      have hlt := letter_any (bt l (a + k)) (bt_lt l (a + k))
      have hst := rletters_stop l a k
      cases hd : letB (bt l (a + k))
      · have HS := Lib.hid (spanLen_stop isLetter (l.drop a) k (by rw [HN.out]; exact hk) (Or.inr (by rw [hst, hd])))
        rw [HN.out] at HS
        rw [hd] at hlt
        generalize bt l (a + k) = q at hi2 hlt
        clear hst hd hkl
        go_wp2_with fail
        refine (hlt _).mono ?_
        rintro e w2 ⟨rfl, rfl⟩
        clear hlt hi2 hl
        obtain rfl : k = n := HS.out
        clear HS hk
        have hr := HR.out
        by_cases c0 : k = 0
        · rw [if_pos c0] at hr
          subst hr
          clear HR HN
          go_wp2
          exact bodyPost_ret (v := .tuple #[tokV 0 [] 0 0, .int .i64 0, .int .i64 7]) (by simp [results, Tryz.results41, go_sem, tokV, bs]) rfl ⟨rfl, (Below.refl _ _).alloc (Nat.le_refl _) _⟩
        · rw [if_neg c0] at hr
          by_cases c1 : 12 < k
          · rw [if_pos c1] at hr
            subst hr
            clear HR HN
            go_wp2
            exact bodyPost_ret (v := .tuple #[tokV 0 [] 0 0, .int .i64 0, .int .i64 2]) (by simp [results, Tryz.results41, go_sem, tokV, bs]) rfl ⟨rfl, (Below.refl _ _).alloc (Nat.le_refl _) _⟩
          · rw [if_neg c1] at hr
            subst hr
            have c2 : k ≤ 12 := by omega
            clear HR HN c1
            go_wp2
            exact bodyPost_ret (v := .tuple #[tokV 1 t 0 (a : Nat), .int .i64 (k : Nat), .int .i64 0]) (by simp [results, Tryz.results41, go_sem, tokV] <;> omega) rfl ⟨rfl, (Below.refl _ _).alloc (Nat.le_refl _) _⟩
      · have HS := Lib.hid (spanLen_step isLetter (l.drop a) k (by rw [HN.out]; exact hk) hkl (by rw [hst, hd]))
        rw [HN.out] at HS
        rw [hd] at hlt
        generalize bt l (a + k) = q at hi2 hlt
        clear hst hd hkl
        go_wp2_with fail
        refine (hlt _).mono ?_
        rintro e w2 ⟨rfl, rfl⟩
        clear hlt
        go_wp2
        go_round
        case rel => exact ⟨k + 1, HS.out, by go_num⟩
        case measure => simp [intOf]; omega
    · obtain rfl : k = n := by omega
      clear hk
      have hr := HR.out
      by_cases c0 : k = 0
      · omega
      · rw [if_neg c0] at hr
        by_cases c1 : 12 < k
        · rw [if_pos c1] at hr
          subst hr
          clear HR HN
          go_wp2
          exact bodyPost_ret (v := .tuple #[tokV 0 [] 0 0, .int .i64 0, .int .i64 2]) (by simp [results, Tryz.results41, go_sem, tokV, bs]) rfl ⟨rfl, (Below.refl _ _).alloc (Nat.le_refl _) _⟩
        · rw [if_neg c1] at hr
          subst hr
          have c2 : k ≤ 12 := by omega
          clear HR HN c1
          go_wp2
          exact bodyPost_ret (v := .tuple #[tokV 1 t 0 (a : Nat), .int .i64 (k : Nat), .int .i64 0]) (by simp [results, Tryz.results41, go_sem, tokV] <;> omega) rfl ⟨rfl, (Below.refl _ _).alloc (Nat.le_refl _) _⟩
end Go.Proofs.YtdimgomigidbkaaGreatDoor
/- The reference of stage 7: one token of any kind, and all of a text. -/
namespace Go.Proofs.YtdimgomigidbkaaGreatDoor
open Go.RowKit

theorem rone_mark (l : List UInt8) (a h : Nat) (m : Int) (w : World) (ha : a < l.length) (hh : bt l a = h)
    (hk : (h = 123 ∧ m = 3) ∨ (h = 125 ∧ m = 4) ∨ (h = 59 ∧ m = 5)) :
    Calls Tryz.prog 41 #[.string (bs l), .int .i64 (a : Nat)] w fun e w' => e = .returned (roneOut a (.ok (m, [], 0, 1))) ∧ Below w.heap.size w w' := by
  have hidx := idx_at l a ha
  rw [hh] at hidx
  have hz := bs_size l
  obtain ⟨y, hy⟩ : ∃ y : Int, y = (h : Int) := ⟨_, rfl⟩
  rw [← hy] at hidx
  rcases hk with ⟨h1, rfl⟩ | ⟨h1, rfl⟩ | ⟨h1, rfl⟩
  · obtain rfl : y = 123 := by omega
    clear h1 hy hh
    go_enter Tryz.func41, Tryz.ntmps41
    go_wp2
    exact bodyPost_ret (v := .tuple #[tokV 3 [] 0 (a : Nat), .int .i64 1, .int .i64 0]) (by simp [results, Tryz.results41, go_sem, tokV, bs]) rfl ⟨rfl, (Below.refl _ _).alloc (Nat.le_refl _) _⟩
  · obtain rfl : y = 125 := by omega
    clear h1 hy hh
    go_enter Tryz.func41, Tryz.ntmps41
    go_wp2
    exact bodyPost_ret (v := .tuple #[tokV 4 [] 0 (a : Nat), .int .i64 1, .int .i64 0]) (by simp [results, Tryz.results41, go_sem, tokV, bs]) rfl ⟨rfl, (Below.refl _ _).alloc (Nat.le_refl _) _⟩
  · obtain rfl : y = 59 := by omega
    clear h1 hy hh
    go_enter Tryz.func41, Tryz.ntmps41
    go_wp2
    exact bodyPost_ret (v := .tuple #[tokV 5 [] 0 (a : Nat), .int .i64 1, .int .i64 0]) (by simp [results, Tryz.results41, go_sem, tokV, bs]) rfl ⟨rfl, (Below.refl _ _).alloc (Nat.le_refl _) _⟩
def numTok : Except Int (Int × Nat) → Except Int (Int × List UInt8 × Int × Nat)
  | .error e => .error e
  | .ok (v, n) => .ok (2, [], v, n)
theorem one_num {b : UInt8} (t : List UInt8) (h : b.toNat = 45 ∨ isDigit b = true) : oneN (b :: t) = numTok (numberN (b :: t)) := by
  rw [oneN_num t h]
  cases numberN (b :: t) with
  | error e => rfl
  | ok x => rfl
theorem rone_num (l : List UInt8) (a h : Nat) (w : World) (hm : l.length ≤ 100000) (ha : a < l.length) (hh : bt l a = h) (h45 : h = 45 ∨ digB h = true) (r : Except Int (Int × Nat)) (hr : numberN (l.drop a) = r) (hr0 : ∀ e, r = .error e → e ≠ 0) :
    Calls Tryz.prog 41 #[.string (bs l), .int .i64 (a : Nat)] w fun e w' => e = .returned (roneOut a (numTok r)) ∧ Below w.heap.size w w' := by
  have hidx := idx_at l a ha
  rw [hh] at hidx
  have hz := bs_size l
  have h256 : h < 256 := by rw [← hh]; exact bt_lt l a
  have hnum := fun W => rnumber_any l a W hm ha
  rw [hr] at hnum
  obtain ⟨y, hy⟩ : ∃ y : Int, y = (h : Int) := ⟨_, rfl⟩
  rw [← hy] at hidx
  have hdg := digit_any h h256
  rw [← hy] at hdg
  have hr48 : digB h = true → 48 ≤ h ∧ h ≤ 57 := fun e => of_decide_eq_true e
  have b1 : (y == 123) = false := beq_false_of_ne (by rcases h45 with c | c; omega; have := hr48 c; omega)
  have b2 : (y == 125) = false := beq_false_of_ne (by rcases h45 with c | c; omega; have := hr48 c; omega)
  have b3 : (y == 59) = false := beq_false_of_ne (by rcases h45 with c | c; omega; have := hr48 c; omega)
  clear hr hh hr48
  by_cases c : h = 45
  · obtain rfl : y = 45 := by omega
    clear c hy hdg h45 h256
    cases r with
    | error e =>
      have b5 : (e == 0) = false := beq_false_of_ne (hr0 e rfl)
      have b6 : (e != 0) = true := bne_iff_ne.2 (hr0 e rfl)
      clear hr0
      unfold rnumOut at hnum
      go_enter Tryz.func41, Tryz.ntmps41
      go_wp2_with fail
      refine (hnum _).mono ?_
      rintro e w2 ⟨rfl, rfl⟩
      go_wp2
      exact bodyPost_ret (v := .tuple #[tokV 0 [] 0 0, .int .i64 0, .int .i64 e]) (by simp [results, Tryz.results41, go_sem, tokV, bs]) rfl ⟨rfl, (Below.refl _ _).alloc (Nat.le_refl _) _⟩
    | ok x =>
      obtain ⟨v, n⟩ := x
      clear hr0
      unfold rnumOut at hnum
      go_enter Tryz.func41, Tryz.ntmps41
      go_wp2_with fail
      refine (hnum _).mono ?_
      rintro e w2 ⟨rfl, rfl⟩
      go_wp2
      exact bodyPost_ret (v := .tuple #[tokV 2 [] v (a : Nat), .int .i64 (n : Nat), .int .i64 0]) (by simp [results, Tryz.results41, go_sem, tokV, bs]) rfl ⟨rfl, (Below.refl _ _).alloc (Nat.le_refl _) _⟩
  · rw [h45.resolve_left c] at hdg
    have b4 : (y == 45) = false := beq_false_of_ne (by omega)
    clear c hy h45 h256
    cases r with
    | error e =>
      have b5 : (e == 0) = false := beq_false_of_ne (hr0 e rfl)
      have b6 : (e != 0) = true := bne_iff_ne.2 (hr0 e rfl)
      clear hr0
      unfold rnumOut at hnum
      go_enter Tryz.func41, Tryz.ntmps41
      go_wp2_with fail
      refine (hdg _).mono ?_
      rintro e w2 ⟨rfl, rfl⟩
      clear hdg
      go_wp2_with fail
      refine (hnum _).mono ?_
      rintro e w2 ⟨rfl, rfl⟩
      go_wp2
      exact bodyPost_ret (v := .tuple #[tokV 0 [] 0 0, .int .i64 0, .int .i64 e]) (by simp [results, Tryz.results41, go_sem, tokV, bs]) rfl ⟨rfl, (Below.refl _ _).alloc (Nat.le_refl _) _⟩
    | ok x =>
      obtain ⟨v, n⟩ := x
      clear hr0
      unfold rnumOut at hnum
      go_enter Tryz.func41, Tryz.ntmps41
      go_wp2_with fail
      refine (hdg _).mono ?_
      rintro e w2 ⟨rfl, rfl⟩
      clear hdg
      go_wp2_with fail
      refine (hnum _).mono ?_
      rintro e w2 ⟨rfl, rfl⟩
      go_wp2
      exact bodyPost_ret (v := .tuple #[tokV 2 [] v (a : Nat), .int .i64 (n : Nat), .int .i64 0]) (by simp [results, Tryz.results41, go_sem, tokV, bs]) rfl ⟨rfl, (Below.refl _ _).alloc (Nat.le_refl _) _⟩
theorem rone_any (l : List UInt8) (a : Nat) (w : World) (hm : l.length ≤ 100000) (ha : a < l.length) :
    Calls Tryz.prog 41 #[.string (bs l), .int .i64 (a : Nat)] w fun e w' => e = .returned (roneOut a (oneN (l.drop a))) ∧ Below w.heap.size w w' := by
  have hd : l.drop a = l.getD a 0 :: l.drop (a + 1) := by rw [List.drop_eq_getElem_cons ha, List.getD_eq_getElem?_getD, List.getElem?_eq_getElem ha]; rfl
  by_cases c1 : (l.getD a 0).toNat = 123
  · rw [hd, oneN_open _ c1]; exact rone_mark l a _ 3 w ha rfl (Or.inl ⟨c1, rfl⟩)
  by_cases c2 : (l.getD a 0).toNat = 125
  · rw [hd, oneN_close _ c2]; exact rone_mark l a _ 4 w ha rfl (Or.inr (Or.inl ⟨c2, rfl⟩))
  by_cases c3 : (l.getD a 0).toNat = 59
  · rw [hd, oneN_end _ c3]; exact rone_mark l a _ 5 w ha rfl (Or.inr (Or.inr ⟨c3, rfl⟩))
  by_cases c4 : (l.getD a 0).toNat = 45 ∨ isDigit (l.getD a 0) = true
  · have := rone_num l a _ w hm ha rfl c4 _ rfl (fun e h => numberN_err h)
    rw [hd] at this ⊢
    rw [one_num _ c4]
    exact this
  · have h5 : digB (bt l a) = false := by
      have : isDigit (l.getD a 0) = false := by simpa using fun e => c4 (Or.inr e)
      exact this
    refine rone_word l ((l.drop a).take (spanLen isLetter (l.drop a))) a _ _ w hm ha rfl c1 c2 c3 (fun e => c4 (Or.inl e)) h5 rfl rfl _ ?_
    rw [hd]
    exact oneN_word _ c1 c2 c3 c4
end Go.Proofs.YtdimgomigidbkaaGreatDoor
