/- datumref01.Carried: each piece with what was carried, modulo 65536, and at last what is carried, in a slice of the call's own; nothing that was in memory before is changed. -/
import Derived.Test.YtacnaencmbnjpaaRow
import Derived.Test.YtacnaencmbnjpaaCarr
namespace Go.Proofs.Ytacnaencmbnjpaa
open Go.RowKit

theorem carry_step {x c : Nat} (hx : x < 1099511627776) (hc : c < 1099511627776) : IntKind.u64.wrap ((x : Int) + (c : Int)) = ((x + c : Nat) : Int) := by
  rw [IntKind.wrap_u64]; omega

set_option maxHeartbeats 2000000 in
theorem carried_own (f : Nat → Nat) (g n cap : Nat) (w : World) (hn : n ≤ 100) (hx : ∀ j, f j < 1099511627776) (hg : g < w.heap.size)
    (hc : ∀ j, j < n → w.cell? ⟨g, j, none⟩ = some (.int .u64 (f j : Nat))) :
    Calls Try.prog 85 #[.slice (some ⟨g, 0, none⟩) n cap] w fun e w' => ∃ v, e = .returned v ∧ w'.ownsRow w.heap.size 53 1 v (n + 1) (u64s (fl (carL f n) (n + 1))) ∧ Below w.heap.size w w' := by
  have own0 : (w.alloc (.cells #[] 53)).ownsRow w.heap.size 53 1 (.slice (some ⟨w.heap.size, 0, none⟩) 0 0) 0 (u64s (fl (carM f) 0)) := by
    exact World.ownsRow_made (base := w.heap.size) (e := 53) (size := 1) w #[] 0 (Nat.le_refl _) (by unfold maxLen; omega) (by simp)
  have O0 := Lib.hid own0; clear own0
  have HC := Lib.hid hc; clear hc
  have HX := Lib.hid hx; clear hx
  go_enter Try.func85, Try.ntmps85
  go_wp2_with fail
  go_loopw [3, 4, 10] (fun v c i wr => ∃ k : Nat, k ≤ n ∧ i = .int .i64 k ∧ c = .int .u64 (carC f k : Nat) ∧ Hid (wr.ownsRow w.heap.size 53 1 v k (u64s (fl (carM f) k))) ∧ Hid (Below w.heap.size w wr)) (fun _ _ i _ => n - (intOf i).toNat)
  case atStart => exact ⟨0, Nat.zero_le _, rfl, rfl, O0, Lib.hid ((Below.refl _ _).alloc (Nat.le_refl _) _)⟩
  case round =>
    obtain ⟨k, hk, rfl, rfl, O, B⟩ := hrel
    have zr := B.out.size
    by_cases hlt : k < n
    · have hcell : wr.cell? ⟨g, k, none⟩ = some (.int .u64 (f k : Nat)) := (B.out.cell (p := ⟨g, k, none⟩) hg).trans (HC.out k hlt)
      have bx := HX.out k
      have bc := carC_le f HX.out k
      have Hc : Hid (carC f (k + 1) = (f k + carC f k) / 65536) := rfl
      have Ho : Hid (u64s (fl (carM f) (k + 1)) = u64s (fl (carM f) k) ++ [.int .u64 (((f k + carC f k) % 65536 : Nat) : Int)]) := u64s_snoc (carM f) k
      generalize f k = x at *
      generalize carC f k = c at *
      generalize u64s (fl (carM f) k) = out at *
      have hw := carry_step bx bc
      go_wp2_with (at_builtin; refine append1 rfl _ _ rfl w.heap.size _ k _ rfl (O.out.alloc _) wr.heap.size (((x + c : Nat) : Int) % 65536) rfl ?c1 ?c2 ?c3 ?_)
      case c1 => simp [go_sem]
      case c2 => omega
      case c3 => (simp; omega)
      intro v1 w1 O1 G1
      have B1 := Lib.hid ((B.out.alloc (by omega) _).grown G1 (by simp; omega) (fun k hk => (O.out.lt k hk).1))
      have HO := Lib.hid O1; clear O1 G1 zr
      have z1 := B1.out.size
      go_wp2_with fail
      go_roundw
      case rel =>
        refine ⟨k + 1, by omega, by go_num, congrArg (Value.int .u64) (by rw [Hc.out]; omega), ?_, B1⟩
        have e : (((x : Int) + (c : Int)) % 65536) = (((x + c) % 65536 : Nat) : Int) := by omega
        have h := HO.out
        rw [e, ← Ho.out] at h
        exact Lib.hid h
      case measure => simp [intOf]; omega
    · have hkn : k = n := by omega
      have HK := Lib.hid hkn; clear hkn
      go_wp2_with (at_builtin; refine append1 rfl _ _ rfl w.heap.size _ k _ rfl (O.out.alloc _) wr.heap.size ((carC f k : Nat) : Int) rfl ?d1 ?d2 ?d3 ?_)
      case d1 => simp [go_sem]
      case d2 => omega
      case d3 => (simp; omega)
      intro v1 w1 O1 G1
      have B1 := Lib.hid ((B.out.alloc (by omega) _).grown G1 (by simp; omega) (fun k hk => (O.out.lt k hk).1))
      have HO := Lib.hid O1; clear O1 G1
      go_wp2_with fail
      go_ret
      have e := HK.out
      subst e
      refine ⟨_, rfl, ?_, B1.out⟩
      rw [fl_carL, u64s_append]
      exact HO.out
/-- .. its cells. -/
theorem carried_any (f : Nat → Nat) (g n cap : Nat) (w : World) (hn : n ≤ 100) (hx : ∀ j, f j < 1099511627776) (hg : g < w.heap.size)
    (hc : ∀ j, j < n → w.cell? ⟨g, j, none⟩ = some (.int .u64 (f j : Nat))) :
    Calls Try.prog 85 #[.slice (some ⟨g, 0, none⟩) n cap] w (RowOut (carL f n) (n + 1) w) :=
  (carried_own f g n cap w hn hx hg hc).mono fun e w' ⟨v, he, ho, hb⟩ => RowOut.of_own (by omega) he ho hb
end Go.Proofs.Ytacnaencmbnjpaa
