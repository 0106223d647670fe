/- datumref01.Pieces: the eight pieces of 16 bits of a wide number, the lowest first, in a slice of the call's own; nothing that was in memory before is changed. -/
import Derived.Test.YtacnaencmbnjpaaRow
namespace Go.Proofs.Ytacnaencmbnjpaa
open Go.RowKit
set_option maxHeartbeats 4000000 in
theorem pieces_core (ah al : Nat) (w : World) :
    Calls Try.prog 84 #[.agg #[.int .u64 ah, .int .u64 al]] w fun e w' => ∃ v, e = .returned v ∧ w'.ownsRow w.heap.size 53 1 v 8 [.int .u64 ((al : Int) % 65536), .int .u64 ((al : Int) / 65536 % 65536), .int .u64 ((al : Int) / 4294967296 % 65536), .int .u64 ((al : Int) / 281474976710656 % 65536), .int .u64 ((ah : Int) % 65536), .int .u64 ((ah : Int) / 65536 % 65536), .int .u64 ((ah : Int) / 4294967296 % 65536), .int .u64 ((ah : Int) / 281474976710656 % 65536)] ∧ Below w.heap.size w w' := by
  have own0 : ((w.alloc (.cells #[.int .u64 ah, .int .u64 al] 55)).alloc (.cells #[] 53)).ownsRow (w.heap.size + 1) 53 1 (.slice (some ⟨w.heap.size + 1, 0, none⟩) 0 0) 0 [] := by
    have := World.ownsRow_made (base := w.heap.size + 1) (e := 53) (size := 1) (w.alloc (.cells #[.int .u64 ah, .int .u64 al] 55)) #[] 0 (by simp) (by unfold maxLen; omega) (by simp)
    simpa using this
  have O0 := Lib.hid own0; clear own0
  have B0 := Lib.hid (show Below (w.heap.size + 1) (w.alloc (.cells #[.int .u64 ah, .int .u64 al] 55)) ((w.alloc (.cells #[.int .u64 ah, .int .u64 al] 55)).alloc (.cells #[] 53)) from (Below.refl _ _).alloc (by simp) _)
  go_enter Try.func84, Try.ntmps84
  go_wp2_with fail
  refine wp_loop_rounds 5 ?_
  rw [rounds_succ]
  go_wp2_with (at_builtin; refine append1 rfl _ _ rfl (w.heap.size + 1) _ 0 _ rfl (O0.out.alloc _) (w.heap.size + 1 + 1) ((al : Int) % 65536) rfl ?c0a (by omega) ?c0b ?_)
  case c0a => simp [go_sem]
  case c0b => simp
  intro v1 w1 O G
  have B1 := Lib.hid ((B0.out.alloc (by simp) _).grown G (by simp) (fun k hk => (O0.out.lt k hk).1))
  have O1 := Lib.hid O; clear O G O0 B0
  have z1 : w.heap.size + 1 ≤ w1.heap.size := by have := B1.out.size; simp at this; omega
  have d1 := B1.out.cell (p := ⟨w.heap.size, 1, none⟩) (by simp)
  simp [go_sem] at d1
  go_wp2_with fail
  rw [rounds_succ]
  go_wp2_with (at_builtin; refine append1 rfl _ _ rfl (w.heap.size + 1) _ 1 _ rfl (O1.out.alloc _) w1.heap.size ((al : Int) / 65536 % 65536) rfl ?c1a (by omega) ?c1b ?_)
  case c1a => simp [go_sem]
  case c1b => (simp; omega)
  intro v2 w2 O G
  have B2 := Lib.hid ((B1.out.alloc (by omega) _).grown G (by (simp; omega)) (fun k hk => (O1.out.lt k hk).1))
  have O2 := Lib.hid O; clear O G O1 B1
  have z2 : w.heap.size + 1 ≤ w2.heap.size := by have := B2.out.size; simp at this; omega
  have d2 := B2.out.cell (p := ⟨w.heap.size, 1, none⟩) (by simp)
  simp [go_sem] at d2
  clear z1 d1
  go_wp2_with fail
  rw [rounds_succ]
  go_wp2_with (at_builtin; refine append1 rfl _ _ rfl (w.heap.size + 1) _ 2 _ rfl (O2.out.alloc _) w2.heap.size ((al : Int) / 4294967296 % 65536) rfl ?c2a (by omega) ?c2b ?_)
  case c2a => simp [go_sem]
  case c2b => (simp; omega)
  intro v3 w3 O G
  have B3 := Lib.hid ((B2.out.alloc (by omega) _).grown G (by (simp; omega)) (fun k hk => (O2.out.lt k hk).1))
  have O3 := Lib.hid O; clear O G O2 B2
  have z3 : w.heap.size + 1 ≤ w3.heap.size := by have := B3.out.size; simp at this; omega
  have d3 := B3.out.cell (p := ⟨w.heap.size, 1, none⟩) (by simp)
  simp [go_sem] at d3
  clear z2 d2
  go_wp2_with fail
  rw [rounds_succ]
  go_wp2_with (at_builtin; refine append1 rfl _ _ rfl (w.heap.size + 1) _ 3 _ rfl (O3.out.alloc _) w3.heap.size ((al : Int) / 281474976710656 % 65536) rfl ?c3a (by omega) ?c3b ?_)
  case c3a => simp [go_sem]
  case c3b => (simp; omega)
  intro v4 w4 O G
  have B4 := Lib.hid ((B3.out.alloc (by omega) _).grown G (by (simp; omega)) (fun k hk => (O3.out.lt k hk).1))
  have O4 := Lib.hid O; clear O G O3 B3
  have z4 : w.heap.size + 1 ≤ w4.heap.size := by have := B4.out.size; simp at this; omega
  have d4 := B4.out.cell (p := ⟨w.heap.size, 0, none⟩) (by simp)
  simp [go_sem] at d4
  clear z3 d3
  go_wp2_with fail
  rw [rounds_succ]
  go_wp2_with fail
  refine wp_loop_rounds 5 ?_
  rw [rounds_succ]
  go_wp2_with (at_builtin; refine append1 rfl _ _ rfl (w.heap.size + 1) _ 4 _ rfl (O4.out.alloc _) w4.heap.size ((ah : Int) % 65536) rfl ?c4a (by omega) ?c4b ?_)
  case c4a => simp [go_sem]
  case c4b => (simp; omega)
  intro v5 w5 O G
  have B5 := Lib.hid ((B4.out.alloc (by omega) _).grown G (by (simp; omega)) (fun k hk => (O4.out.lt k hk).1))
  have O5 := Lib.hid O; clear O G O4 B4
  have z5 : w.heap.size + 1 ≤ w5.heap.size := by have := B5.out.size; simp at this; omega
  have d5 := B5.out.cell (p := ⟨w.heap.size, 0, none⟩) (by simp)
  simp [go_sem] at d5
  clear z4 d4
  go_wp2_with fail
  rw [rounds_succ]
  go_wp2_with (at_builtin; refine append1 rfl _ _ rfl (w.heap.size + 1) _ 5 _ rfl (O5.out.alloc _) w5.heap.size ((ah : Int) / 65536 % 65536) rfl ?c5a (by omega) ?c5b ?_)
  case c5a => simp [go_sem]
  case c5b => (simp; omega)
  intro v6 w6 O G
  have B6 := Lib.hid ((B5.out.alloc (by omega) _).grown G (by (simp; omega)) (fun k hk => (O5.out.lt k hk).1))
  have O6 := Lib.hid O; clear O G O5 B5
  have z6 : w.heap.size + 1 ≤ w6.heap.size := by have := B6.out.size; simp at this; omega
  have d6 := B6.out.cell (p := ⟨w.heap.size, 0, none⟩) (by simp)
  simp [go_sem] at d6
  clear z5 d5
  go_wp2_with fail
  rw [rounds_succ]
  go_wp2_with (at_builtin; refine append1 rfl _ _ rfl (w.heap.size + 1) _ 6 _ rfl (O6.out.alloc _) w6.heap.size ((ah : Int) / 4294967296 % 65536) rfl ?c6a (by omega) ?c6b ?_)
  case c6a => simp [go_sem]
  case c6b => (simp; omega)
  intro v7 w7 O G
  have B7 := Lib.hid ((B6.out.alloc (by omega) _).grown G (by (simp; omega)) (fun k hk => (O6.out.lt k hk).1))
  have O7 := Lib.hid O; clear O G O6 B6
  have z7 : w.heap.size + 1 ≤ w7.heap.size := by have := B7.out.size; simp at this; omega
  have d7 := B7.out.cell (p := ⟨w.heap.size, 0, none⟩) (by simp)
  simp [go_sem] at d7
  clear z6 d6
  go_wp2_with fail
  rw [rounds_succ]
  go_wp2_with (at_builtin; refine append1 rfl _ _ rfl (w.heap.size + 1) _ 7 _ rfl (O7.out.alloc _) w7.heap.size ((ah : Int) / 281474976710656 % 65536) rfl ?c7a (by omega) ?c7b ?_)
  case c7a => simp [go_sem]
  case c7b => (simp; omega)
  intro v8 w8 O G
  have B8 := Lib.hid ((B7.out.alloc (by omega) _).grown G (by (simp; omega)) (fun k hk => (O7.out.lt k hk).1))
  have O8 := Lib.hid O; clear O G O7 B7
  have z8 : w.heap.size + 1 ≤ w8.heap.size := by have := B8.out.size; simp at this; omega
  have d8 := B8.out.cell (p := ⟨w.heap.size, 0, none⟩) (by simp)
  simp [go_sem] at d8
  clear z7 d7
  go_wp2_with fail
  rw [rounds_succ]
  go_wp2_with fail
  go_ret
  refine ⟨_, rfl, ?_, ?_⟩
  · have h := O8.out
    exact ownsRow_base h (by omega)
  · exact ((Below.refl _ _).alloc (Nat.le_refl _) _).trans (B8.out.mono (by omega))

theorem pieces_any (n : Nat) (w : World) :
    Calls Try.prog 84 #[.agg #[.int .u64 (hi n : Nat), .int .u64 (lo n : Nat)]] w (RowOut (pc n) 8 w) := by
  refine (pieces_core (hi n) (lo n) w).mono fun e w' ⟨v, he, ho, hb⟩ => ?_
  refine RowOut.of_own (by omega) he ?_ hb
  have e : u64s (fl (pc n) 8) = [.int .u64 (((lo n : Nat) : Int) % 65536), .int .u64 (((lo n : Nat) : Int) / 65536 % 65536), .int .u64 (((lo n : Nat) : Int) / 4294967296 % 65536), .int .u64 (((lo n : Nat) : Int) / 281474976710656 % 65536), .int .u64 (((hi n : Nat) : Int) % 65536), .int .u64 (((hi n : Nat) : Int) / 65536 % 65536), .int .u64 (((hi n : Nat) : Int) / 4294967296 % 65536), .int .u64 (((hi n : Nat) : Int) / 281474976710656 % 65536)] := by
    rw [pieces_nums n]
    simp only [u64s, List.map_cons, List.map_nil, Int.natCast_emod, Int.natCast_ediv]
    rfl
  rw [e]
  exact ho
end Go.Proofs.Ytacnaencmbnjpaa
