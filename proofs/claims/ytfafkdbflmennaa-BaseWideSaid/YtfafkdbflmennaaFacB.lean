/- factor's book: the table is made once; what it tells. -/
import Derived.Test.YtfafkdbflmennaaOnce
import Derived.Test.YtfafkdbflmennaaFacR0
namespace Go.Proofs.Ytfafkdbflmennaa
open Go.RowKit

def facV : List Value := facL.map (.int .i64 ·)
theorem facV_len : facV.length = 63 := rfl
theorem facV_one : facV.toArray.all (·.oneCell') = true := by kernel_rfl
theorem size63 : ((Try.prog).info? 102).map (·.size) = some 63 := by kernel_rfl

set_option maxRecDepth 100000 in
theorem fill_any (b : Nat) (c0 c1 c2 : Value) (old : List Value) (hl : old.length = 63) (w : World) (h : Has w b (c0 :: c1 :: c2 :: old) 104) :
    Calls Try.prog 49 #[.pointer (some ⟨b, 0, none⟩)] w fun e w' => e = .returned (.tuple #[]) ∧ Has w' b (c0 :: c1 :: c2 :: facV) 104 ∧ Only b w w' := by
  have hT : w.there b 3 63 := h.midThere 3 63 (by simp [hl])
  have hN : Has (w.setCells b 3 facV) b (c0 :: c1 :: c2 :: facV) 104 := sets_list b _ facV w [c0, c1, c2] old hl h
  have hO : Only b w (w.setCells b 3 facV) := (Only.refl b w).sets 3 facV
  go_enter Try.func49, Try.ntmps49
  go_wp2_with (refine wpList_store_mid rfl 102 _ _ rfl b 3 facV.toArray rfl rfl hT size63 facV_one ?_)
  go_end0
  exact ⟨rfl, hN, hO⟩

/-- The book, not yet made, or made. -/
def bookC : Bool → List Value
  | false => .int .u32 0 :: .int .i32 0 :: .int .u32 0 :: List.replicate 63 (.int .i64 0)
  | true => .int .u32 1 :: .int .i32 0 :: .int .u32 0 :: facV
abbrev Book (m : Bool) (b : Nat) (w : World) : Prop := Has w b (bookC m) 104
theorem do_any (m : Bool) (b : Nat) (w : World) (h : Book m b w) :
    Calls Try.prog 48 #[.pointer (some ⟨b, 0, none⟩), .func (.func 49) #[.pointer (some ⟨b, 0, none⟩)] #[]] w fun e w' => e = .returned (.tuple #[]) ∧ Book true b w' ∧ Only b w w' := by
  cases m with
  | true => exact (do_done _ b _ _ w h).mono fun e w' ⟨h1, h2⟩ => ⟨h1, h2 ▸ h, h2 ▸ Only.refl b w⟩
  | false => exact do_first _ b _ _ _ facV w h fun w1 h1 => fill_any b _ _ _ _ (by simp) w1 h1
theorem Book.at {b : Nat} {w : World} (h : Book true b w) (k j : Nat) (hk : k < 7) (hj : j < 9) : w.cell? ⟨b, 3 + k * 9 + j, none⟩ = some (.int .i64 (fac k j)) := by
  rw [h.cell, show 3 + k * 9 + j = (9 * k + j) + 3 by omega]
  show facV[9 * k + j]? = _
  have hl : 9 * k + j < facL.length := by show 9 * k + j < 63; omega
  unfold facV fac
  rw [List.getElem?_map, List.getElem?_eq_getElem hl, List.getD_eq_getElem?_getD, List.getElem?_eq_getElem hl]
  rfl

set_option maxRecDepth 100000 in
theorem ask_core (m : Bool) (b k j : Nat) (x : Int) (hk : k < 7) (hj : j < 9) (hx : ∀ W, Book true b W → W.cell? ⟨b, 3 + k * 9 + j, none⟩ = some (.int .i64 x)) (w : World) (h : Book m b w) :
    Calls Try.prog 46 #[.pointer (some ⟨b, 0, none⟩), .int .i64 (k : Nat), .int .i64 ((j : Nat) + 2 : Int)] w fun e w' => e = .returned (.int .i64 x) ∧ Book true b w' ∧ Only b w w' := by
  have M : Hid _ := Lib.hid (do_any m b w h)
  have HX := Lib.hid hx
  clear hx h
  have hmf : ∀ (fn : Fn) (first cap : Array Value) (w : World), (Instr.makeFunc fn first cap).run Try.prog w = .ok (.func fn first cap) w := fun _ _ _ _ => rfl
  have hs : IntKind.i64.wrap ((j : Nat) + 2 - 2 : Int) = (j : Nat) := by rw [wrap_int (by unfold IsInt; omega)]; omega
  go_enter Try.func46, Try.ntmps46
  go_wp2_with fail
  refine M.out.mono ?_
  rintro e w1 ⟨rfl, h1, o1⟩
  have c := HX.out w1 h1
  have H1 := Lib.hid h1
  have O1 := Lib.hid o1
  clear h1 o1 M HX
  go_wp2
  go_ret
  exact ⟨rfl, H1.out, O1.out⟩
theorem ask_any (m : Bool) (b k j : Nat) (hk : k < 7) (hj : j < 9) (w : World) (h : Book m b w) :
    Calls Try.prog 46 #[.pointer (some ⟨b, 0, none⟩), .int .i64 (k : Nat), .int .i64 ((j : Nat) + 2 : Int)] w fun e w' => e = .returned (.int .i64 (fac k j)) ∧ Book true b w' ∧ Only b w w' :=
  ask_core m b k j _ hk hj (fun _ hW => hW.at k j hk hj) w h
/-- The zero value of a type, by the type's row. -/
theorem run_zero_of {P : Program} {t : TypeId} {v : Value} (h : (P.info? t).map (·.zero) = some (some v)) (w : World) : (zeroValue t).run P w = .ok v w := by
  obtain ⟨i, hi, hz⟩ := Option.map_eq_some_iff.1 h
  simp [zeroValue, typeInfo, hi, hz]
theorem zero_book (w : World) : (zeroValue 104).run Try.prog w = .ok (.agg (bookC false).toArray) w := run_zero_of (by kernel_rfl) w
theorem Book.new (w : World) : Book false w.heap.size (w.alloc (.cells (bookC false).toArray 104)) := Has.new w _ _
end Go.Proofs.Ytfafkdbflmennaa
