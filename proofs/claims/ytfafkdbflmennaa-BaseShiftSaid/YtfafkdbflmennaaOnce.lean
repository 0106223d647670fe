/- sync.Once, of one goroutine: a Once at the head of a block of the call's own. The first call of Do calls the function, and says that it is done; a later one does nothing. -/
import Derived.Test.YtfafkdbflmennaaHas
import Derived.Tactics2
import Derived.Defers
import Derived.Laws.Pointers
import Derived.Laws.LoneSync
import Derived.RegionTactic
import Derived.RegionCalls
namespace Go.Proofs.Ytfafkdbflmennaa
open Go.RowKit

theorem race_off (w : World) : (callFunc 60 #[]).run Try.prog w = .ok (.value (.tuple #[])) w := run_call_mark0 Try.func60 (by kernel_rfl) (by kernel_rfl) (by kernel_rfl) .disable (by kernel_rfl) w
theorem race_on (w : World) : (callFunc 62 #[]).run Try.prog w = .ok (.value (.tuple #[])) w := run_call_mark0 Try.func62 (by kernel_rfl) (by kernel_rfl) (by kernel_rfl) .enable (by kernel_rfl) w
theorem race_acq (a : Addr) (w : World) : (callFunc 63 #[.pointer (some a)]).run Try.prog w = .ok (.value (.tuple #[])) w := run_call_marked Try.func63 (by kernel_rfl) (by kernel_rfl) (by kernel_rfl) .acquire (by kernel_rfl) a w
theorem race_rel (a : Addr) (w : World) : (callFunc 65 #[.pointer (some a)]).run Try.prog w = .ok (.value (.tuple #[])) w := run_call_marked Try.func65 (by kernel_rfl) (by kernel_rfl) (by kernel_rfl) .releaseMerge (by kernel_rfl) a w
theorem lock_unsafe {w : World} {a : Addr} {v : Value} (hc : w.cell? a = some v) (s : TypeId) (_ : Try.f56.params = #[s]) (hs : Try.prog.underlying s = some (.pointer 95)) :
    (convert s 120 (.pointer (some a))).run Try.prog w = .ok (.pointer (some a)) w :=
  run_convert_to_unsafe hs Try.underlying120 (by kernel_rfl) hc

theorem store_deferred (a : Addr) (x : Value) (u : FrameMode) (w : World) (hc : w.cell? a = some x) (hz : w.frozen? a = false) :
    CallsD Try.prog 55 #[.pointer (some a), .bool true] u w fun e u' w' => u' = u ∧ (e = .returned (.tuple #[]) ∧ w' = w.drew.setCell a (.int .u32 1)) := by
  have hc' : w.drew.cell? a = some x := by go_simp
  have hz' : w.drew.frozen? a = false := by go_simp
  have hst := run_call_store (P := Try.prog) Try.func58 (by kernel_rfl) (by kernel_rfl) (by kernel_rfl) (by kernel_rfl) (k := .u32) (y := 1) hc' hz'
  go_enter_d Try.func55, Try.ntmps55
  go_wp2
  go_region_calls
  all_goals (go_end0; exact ⟨rfl, rfl⟩)

set_option maxRecDepth 100000 in
theorem unlock_deferred (a : Addr) (u : FrameMode) (w : World) (hc : w.cell? a = some (.int .i32 1)) (hz : w.frozen? a = false) :
    CallsD Try.prog 54 #[.pointer (some a)] u w fun e u' w' => u' = u ∧ (e = .returned (.tuple #[]) ∧ w' = w.setCell a (.int .i32 0)) := by
  have hd := race_off
  have he := race_on
  have hr := race_rel
  have hadd := run_call_add (P := Try.prog) Try.func66 (by kernel_rfl) (by kernel_rfl) (by kernel_rfl) .i32 (by kernel_rfl) (y := -1) (s := 0) hc hz (by simp [go_sem]; rfl)
  have hcv := lock_unsafe hc _ Try.params56 (by kernel_rfl)
  go_enter_d Try.func54, Try.ntmps54
  go_wp2
  go_end0
  go_wp2
  go_end0
  exact ⟨rfl, rfl⟩

set_option maxRecDepth 100000 in
theorem lock_free (a : Addr) (w : World) (hc : w.cell? a = some (.int .i32 0)) (hz : w.frozen? a = false) :
    Calls Try.prog 53 #[.pointer (some a)] w fun e w' => e = .returned (.tuple #[]) ∧ w' = w.setCell a (.int .i32 1) := by
  have hd := race_off
  have he := race_on
  have ha := race_acq
  have hcas := run_call_cas_hit (P := Try.prog) Try.func61 (by kernel_rfl) (by kernel_rfl) (by kernel_rfl) .i32 (by kernel_rfl) (y := 1) hc hz
  have hc' : (w.setCell a (.int .i32 1)).cell? a = some (.int .i32 1) := World.cell?_setCell_same w a _ hc
  have hcv := lock_unsafe hc' _ Try.params56 (by kernel_rfl)
  go_enter Try.func53, Try.ntmps53
  go_wp2
  first | go_end0 | (simp only [Exit.inBlock, Exit.then]; refine bodyPost_ret (results_none rfl _ _ _) rfl ?_) | refine bodyPost_ret (results_none rfl _ _ _) rfl ?_
  go_wp2
  go_end0
  exact ⟨rfl, rfl⟩

theorem Only.refl (b : Nat) (w : World) : Only b w w := ⟨rfl, rfl, rfl, rfl, fun _ _ => rfl⟩
theorem Only.trans {b : Nat} {x y z : World} (h : Only b x y) (k : Only b y z) : Only b x z := ⟨k.os.trans h.os, k.tape.trans h.tape, k.output.trans h.output, k.size.trans h.size, fun j hj => (k.block j hj).trans (h.block j hj)⟩
theorem Only.set {b : Nat} {x y : World} (h : Only b x y) (i : Nat) (v : Value) : Only b x (y.setCell ⟨b, i, none⟩ v) := h.trans ⟨rfl, rfl, rfl, by simp [World.setCell], fun j hj => Below.heap_setCell _ _ _ _ hj⟩
theorem Only.sets {b : Nat} {x y : World} (h : Only b x y) (o : Nat) (vs : List Value) : Only b x (y.setCells b o vs) := by
  obtain ⟨h1, h2, h3, h4⟩ := sets_same b vs o y
  exact h.trans ⟨h1, h2, h3, h4, fun j hj => sets_other b vs o y j hj⟩
theorem Only.drew {b : Nat} {x y : World} (h : Only b x y) : Only b x y.drew := ⟨h.os, h.tape, h.output, h.size, h.block⟩
theorem Has.drew {w : World} {b : Nat} {cs : List Value} {T : TypeId} (h : Has w b cs T) : Has w.drew b cs T := h

/-- '(*sync.Once).doSlow', not yet done, the lock free. -/
theorem slow_first (p : Value) (b : Nat) (T : TypeId) (c : Value) (cs cs' : List Value) (w : World) (h : Has w b (.int .u32 0 :: .int .i32 0 :: c :: cs) T)
    (hF : ∀ w1, Has w1 b (.int .u32 0 :: .int .i32 1 :: c :: cs) T → Calls Try.prog 49 #[p] w1 fun e w2 => e = .returned (.tuple #[]) ∧ Has w2 b (.int .u32 0 :: .int .i32 1 :: c :: cs') T ∧ Only b w1 w2) :
    Calls Try.prog 51 #[.pointer (some ⟨b, 0, none⟩), .func (.func 49) #[p] #[]] w fun e w' => e = .returned (.tuple #[]) ∧ Has w' b (.int .u32 1 :: .int .i32 0 :: c :: cs') T ∧ Only b w w' := by
  have h1 : Has (w.setCell ⟨b, 1, none⟩ (.int .i32 1)) b (.int .u32 0 :: .int .i32 1 :: c :: cs) T := h.set 1 (.int .i32 1)
  have hl := run_call_load (P := Try.prog) Try.func52 (by kernel_rfl) (by kernel_rfl) (by kernel_rfl) .u32 (by kernel_rfl) (w := w.setCell ⟨b, 1, none⟩ (.int .i32 1)) (a := ⟨b, 0, none⟩) (x := 0) (h1.cell 0)
  have hnot : ∀ (x : Bool) (w : World), (Op.unary .not (.bool x)).run Try.prog w = .ok (.bool (!x)) w := fun _ _ => rfl
  have HF := Lib.hid hF
  clear hF
  go_enter_defers Try.func51, Try.ntmps51
  go_wp2_with (first | (go_at_call 53; refine (lock_free ⟨b, 1, none⟩ _ (h.cell 1) (h.frozen 1)).mono ?_; rintro e w' ⟨rfl, rfl⟩) | (go_at_call 50; go_in))
  refine (HF.out _ h1).mono ?_
  rintro e w2 ⟨rfl, h2, o2⟩
  have HH := Lib.hid h2
  have HO := Lib.hid o2
  clear h2 o2
  go_wp2
  -- the door: two deferred calls, the last laid first
  refine leaves_cons (f := 55) (args := #[.pointer (some ⟨b, 0, none⟩), .bool true]) (by simp) (by simp [go_sem]) ?_
  refine (store_deferred ⟨b, 0, none⟩ (.int .u32 0) .returning _ (HH.out.cell 0) (HH.out.frozen 0)).mono ?_
  rintro e u' w'' ⟨rfl, rfl, rfl⟩
  have h3 : Has (w2.drew.setCell ⟨b, 0, none⟩ (.int .u32 1)) b (.int .u32 1 :: .int .i32 1 :: c :: cs') T := HH.out.drew.set 0 (.int .u32 1)
  refine leaves_cons (f := 54) (args := #[.pointer (some ⟨b, 1, none⟩)]) (by simp [settle]) (by simp [go_sem]) ?_
  refine (unlock_deferred ⟨b, 1, none⟩ _ _ (h3.cell 1) (h3.frozen 1)).mono ?_
  rintro e u' w'' ⟨rfl, rfl, rfl⟩
  have h4 : Has ((w2.drew.setCell ⟨b, 0, none⟩ (.int .u32 1)).setCell ⟨b, 1, none⟩ (.int .i32 0)) b (.int .u32 1 :: .int .i32 0 :: c :: cs') T := h3.set 1 (.int .i32 0)
  have o4 : Only b w ((w2.drew.setCell ⟨b, 0, none⟩ (.int .u32 1)).setCell ⟨b, 1, none⟩ (.int .i32 0)) := ((((Only.refl b w).set 1 (.int .i32 1)).trans HO.out).drew.set 0 (.int .u32 1)).set 1 (.int .i32 0)
  simp [Leaves, settle, results, Try.results51]
  exact ⟨h4, o4⟩

set_option maxRecDepth 100000 in
/-- '(*sync.Once).Do', not yet done, the lock free: the function is called. -/
theorem do_first (p : Value) (b : Nat) (T : TypeId) (c : Value) (cs cs' : List Value) (w : World) (h : Has w b (.int .u32 0 :: .int .i32 0 :: c :: cs) T)
    (hF : ∀ w1, Has w1 b (.int .u32 0 :: .int .i32 1 :: c :: cs) T → Calls Try.prog 49 #[p] w1 fun e w2 => e = .returned (.tuple #[]) ∧ Has w2 b (.int .u32 0 :: .int .i32 1 :: c :: cs') T ∧ Only b w1 w2) :
    Calls Try.prog 48 #[.pointer (some ⟨b, 0, none⟩), .func (.func 49) #[p] #[]] w fun e w' => e = .returned (.tuple #[]) ∧ Has w' b (.int .u32 1 :: .int .i32 0 :: c :: cs') T ∧ Only b w w' := by
  have hl := run_call_load (P := Try.prog) Try.func52 (by kernel_rfl) (by kernel_rfl) (by kernel_rfl) .u32 (by kernel_rfl) (w := w) (a := ⟨b, 0, none⟩) (x := 0) (h.cell 0)
  have hnot : ∀ (x : Bool) (w : World), (Op.unary .not (.bool x)).run Try.prog w = .ok (.bool (!x)) w := fun _ _ => rfl
  have M : Hid (Calls Try.prog 51 #[.pointer (some ⟨b, 0, none⟩), .func (.func 49) #[p] #[]] w fun e w' => e = .returned (.tuple #[]) ∧ Has w' b (.int .u32 1 :: .int .i32 0 :: c :: cs') T ∧ Only b w w') := Lib.hid (slow_first p b T c cs cs' w h hF)
  clear hF
  go_enter Try.func48, Try.ntmps48
  go_wp2_with (go_at_call 50; go_in)
  refine M.out.mono ?_
  rintro e w' ⟨rfl, h2⟩
  go_wp2
  go_end0
  exact ⟨rfl, h2⟩

set_option maxRecDepth 100000 in
/-- '(*sync.Once).Do', done already: the function is not called. -/
theorem do_done (fv : Value) (b : Nat) (T : TypeId) (cs : List Value) (w : World) (h : Has w b (.int .u32 1 :: cs) T) :
    Calls Try.prog 48 #[.pointer (some ⟨b, 0, none⟩), fv] w fun e w' => e = .returned (.tuple #[]) ∧ w' = w := by
  have hl := run_call_load (P := Try.prog) Try.func52 (by kernel_rfl) (by kernel_rfl) (by kernel_rfl) .u32 (by kernel_rfl) (w := w) (a := ⟨b, 0, none⟩) (x := 1) (h.cell 0)
  have hnot : ∀ (x : Bool) (w : World), (Op.unary .not (.bool x)).run Try.prog w = .ok (.bool (!x)) w := fun _ _ => rfl
  go_enter Try.func48, Try.ntmps48
  go_wp2
  go_end0
  exact ⟨rfl, rfl⟩
end Go.Proofs.Ytfafkdbflmennaa
