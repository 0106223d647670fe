/- What holds in follow's loops. -/
import Derived.Test.YtjonpcpcokapkaaNelPh
import Derived.Test.YtjonpcpcokapkaaNelPi
import Derived.Test.YtjonpcpcokapkaaRdR
namespace Go.Proofs.Ytjonpcpcokapkaa
open Go.RowKit

theorem ReadsR.shape {w : World} {v : Value} {L : List (List Int)} (h : ReadsR w v L) : ∃ ao cap, v = .slice ao L.length cap := by
  obtain ⟨ao, cap, h1, _⟩ := h
  exact ⟨ao, cap, h1⟩
theorem ReadsR.spot {w : World} {ao : Option Addr} {n cap : Nat} {L : List (List Int)} (h : ReadsR w (.slice ao n cap) L) {i : Nat} {z : List Int} (hz : L[i]? = some z) :
    ∃ b off u, ao = some ⟨b, off, none⟩ ∧ b < w.heap.size ∧ w.cell? ⟨b, off + i, none⟩ = some u ∧ ReadsI w u z := by
  obtain ⟨ao', cap', h1, h2, h3, h4⟩ := h
  injection h1 with e1 e2 e3
  subst e1 e3
  have hi : i < L.length := (List.getElem?_eq_some_iff.1 hz).1
  obtain ⟨b, off, u, h5, h6, h7, h8⟩ := h4 i hi
  refine ⟨b, off, u, h5, h6, h7, ?_⟩
  rwa [List.getD_eq_getElem?_getD, hz] at h8
/-- A function that is the rule r. -/
structure RuleC (r : Nat) (K : FuncId) : Prop where
  eg : ∀ args w, (callFunc K args).run Try.prog w = .ok (.enter K args) w
  run : ∀ (c : Int), -4 ≤ c ∧ c ≤ 4 → ∀ (p : Past), PaB 15 p → ∀ (W : World), Calls Try.prog K #[lookA c p] W fun e w' => e = .returned (.tuple #[pastA (pastN r c p), .bool (goesN r c p)]) ∧ Below W.heap.size W w'
theorem ruleC1 : RuleC 1 33 := ⟨fun args w => by kernel_rfl, fun c hc p hp W => rule1_any c hc p (by unfold PaB at hp; omega) (by unfold PaB at hp; omega) W⟩
theorem ruleC2 : RuleC 2 34 := ⟨fun args w => by kernel_rfl, fun c _ p hp W => rule2_any c p (by unfold PaB at hp; omega) W⟩
theorem ruleC3 : RuleC 3 35 := ⟨fun args w => by kernel_rfl, fun c _ p hp W => rule3_any c p (by unfold PaB at hp; omega) W⟩
theorem ruleC4 : RuleC 4 36 := ⟨fun args w => by kernel_rfl, fun c _ p hp W => rule4_any c p (by unfold PaB at hp; omega) W⟩
theorem ruleC5 : RuleC 5 37 := ⟨fun args w => by kernel_rfl, fun c hc p hp W => rule5_any c hc p (by unfold PaB at hp; omega) (by unfold PaB at hp; omega) W⟩
theorem ruleC6 : RuleC 6 38 := ⟨fun args w => by kernel_rfl, fun c hc p hp W => rule6_any c hc p (by unfold PaB at hp; omega) (by unfold PaB at hp; omega) W⟩
theorem ruleC7 : RuleC 7 39 := ⟨fun args w => by kernel_rfl, fun c hc p hp W => rule7_any c hc p (by unfold PaB at hp; omega) (by unfold PaB at hp; omega) W⟩
theorem ruleC8 : RuleC 8 40 := ⟨fun args w => by kernel_rfl, fun c hc p hp W => rule8_any c hc p (by unfold PaB at hp; omega) (by unfold PaB at hp; omega) W⟩
theorem PaB.mono {i k : Nat} {p : Past} (h : PaB i p) (hk : i ≤ k) : PaB k p := by unfold PaB at *; omega
def FolI (r : Nat) (w : World) (pts : List (List Int)) (pv sv iv : Value) (wr : World) : Prop :=
  ∃ i : Nat, i ≤ pts.length ∧ iv = .int .i64 (i : Nat) ∧ sv = .bool (allP r startP (pts.take i)).2 ∧ RowP w.heap.size pv (allP r startP (pts.take i)).1 wr ∧ Below w.heap.size w wr
def FolJ (r : Nat) (cs : List Int) (b0 : Bool) (all : List Past) (W1 : World) (sv mv jv : Value) (wr : World) : Prop :=
  ∃ j : Nat, j ≤ all.length ∧ jv = .int .i64 (j : Nat) ∧ sv = .bool (midP r cs ([], b0) (all.take j)).2 ∧ RowP W1.heap.size mv (midP r cs ([], b0) (all.take j)).1 wr ∧ Below W1.heap.size W1 wr
def FolK (r : Nat) (p : Past) (X0 : List Past × Bool) (cs : List Int) (W1 : World) (bx : Nat) (sv mv kv : Value) (wr : World) : Prop :=
  ∃ k : Nat, k ≤ cs.length ∧ kv = .int .i64 (k : Nat) ∧ sv = .bool (innerP r p X0 (cs.take k)).2 ∧ RowP W1.heap.size mv (innerP r p X0 (cs.take k)).1 wr ∧ Has wr bx (pastV p) 55 ∧ Below W1.heap.size W1 wr ∧ ∀ b, mv.ownBlock = some b → b ≠ bx
/-- Behind one more class: the row is as it was. -/
theorem FolK.stay {r : Nat} {p : Past} {X0 : List Past × Bool} {cs : List Int} {W1 wr w8 : World} {mv : Value} {bx k : Nat} {c : Int} {S : Bool} (hk : k < cs.length) (hc : cs[k]? = some c)
    (h1 : RowP W1.heap.size mv (innerP r p X0 (cs.take k)).1 wr) (h3 : Has wr bx (pastV p) 55) (h4 : Below W1.heap.size W1 wr) (h5 : ∀ b, mv.ownBlock = some b → b ≠ bx) (k8 : Below wr.heap.size wr w8)
    (hL : (stepP r p (innerP r p X0 (cs.take k)) c).1 = (innerP r p X0 (cs.take k)).1) (hS : (stepP r p (innerP r p X0 (cs.take k)) c).2 = S) : FolK r p X0 cs W1 bx (.bool S) mv (.int .i64 ((k : Int) + 1)) w8 := by
  have e : cs.take (k + 1) = cs.take k ++ [c] := by rw [List.take_add_one, hc]; rfl
  refine ⟨k + 1, hk, by first | rfl | go_num, ?_, ?_, h3.call k8, h4.trans (k8.mono h4.size), h5⟩
  · rw [e, innerP_snoc, hS]
  · rw [e, innerP_snoc, hL]
    exact h1.below k8
/-- Behind one more class: the row has grown. -/
theorem FolK.grow {r : Nat} {p : Past} {X0 : List Past × Bool} {cs : List Int} {W1 wr w8 w9 : World} {mv v' : Value} {bx k : Nat} {c : Int} {S : Bool} (hk : k < cs.length) (hc : cs[k]? = some c)
    (h1 : RowP W1.heap.size mv (innerP r p X0 (cs.take k)).1 wr) (h3 : Has wr bx (pastV p) 55) (h4 : Below W1.heap.size W1 wr) (h5 : ∀ b, mv.ownBlock = some b → b ≠ bx) (k8 : Below wr.heap.size wr w8)
    (h6 : RowP W1.heap.size v' (stepP r p (innerP r p X0 (cs.take k)) c).1 w9) (h7 : Grew w8 w9 mv v') (hS : (stepP r p (innerP r p X0 (cs.take k)) c).2 = S) : FolK r p X0 cs W1 bx (.bool S) v' (.int .i64 ((k : Int) + 1)) w9 := by
  have e : cs.take (k + 1) = cs.take k ++ [c] := by rw [List.take_add_one, hc]; rfl
  have hown := World.ownsRow.lt h1
  have hsz := k8.size
  refine ⟨k + 1, hk, by first | rfl | go_num, ?_, ?_, ?_, ?_, ?_⟩
  · rw [e, innerP_snoc, hS]
  · rw [e, innerP_snoc]
    exact h6
  · exact h3.of ((h7.grown.block bx (Nat.lt_of_lt_of_le h3.lt hsz) (fun e => h5 bx e.symm rfl)).trans (k8.block bx h3.lt))
  · exact (h4.trans (k8.mono h4.size)).trans (h7.below (Nat.le_trans h4.size hsz) fun b hb => (hown b hb).1)
  · intro b hb
    rcases h7.own b hb with h | h
    · exact h5 b h
    · have := h3.lt
      omega
theorem FolK.start {r : Nat} {p : Past} {X0 : List Past × Bool} {cs : List Int} {W1 wr w5 : World} {mv : Value} {bx : Nat} (h1 : RowP W1.heap.size mv X0.1 wr) (h2 : Below W1.heap.size W1 wr) (h5 : Below wr.heap.size wr w5) (hx : Has w5 bx (pastV p) 55) (hbx : wr.heap.size ≤ bx) :
    FolK r p X0 cs W1 bx (.bool X0.2) mv (.int .i64 0) w5 := by
  refine ⟨0, Nat.zero_le _, rfl, rfl, h1.below h5, hx, h2.trans (h5.mono h2.size), fun b hb => ?_⟩
  have hlt := World.ownsRow.lt h1 b hb
  omega
theorem Grew.appended {w8 w9 : World} {v v' : Value} {o : Obj} (hg : (w8.alloc o).grownBy w9 v.ownBlock) (h4 : v'.ownBlock = v.ownBlock ∨ v'.ownBlock = some (w8.alloc o).heap.size) : Grew w8 w9 v v' := by
  have k : Below w8.heap.size w8 (w8.alloc o) := (Below.refl _ _).alloc (Nat.le_refl _) _
  refine ⟨⟨hg.os.trans k.os, hg.tape.trans k.tape, hg.output.trans k.output, Nat.le_trans k.size hg.size, fun i hi hne => (hg.block i (Nat.lt_of_lt_of_le hi k.size) hne).trans (k.block i hi)⟩, fun i hi => ?_⟩
  rcases h4 with h4 | h4
  · exact .inl (by rw [← h4]; exact hi)
  · right
    rw [h4] at hi
    injection hi with hi
    have := k.size
    omega
end Go.Proofs.Ytjonpcpcokapkaa
