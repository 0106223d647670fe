/- zone.class's closure: one line's count. -/
import Derived.Test.YtgmifimpeefpcaaZonG
import Derived.Test.YtgmifimpeefpcaaWTimes
import Derived.Test.YtgmifimpeefpcaaKept
namespace Go.Proofs.Ytgmifimpeefpcaa
open Go.RowKit

set_option linter.unusedVariables false in
set_option maxHeartbeats 4000000 in
set_option maxRecDepth 100000 in
theorem count_core (q kq bv bs bf n n1 v s P : Nat) (O b : Bool) (w : World)
    (hv : Has w bv [.int .u64 (hi v : Nat), .int .u64 (lo v : Nat)] 36) (hs : Has w bs [.int .u64 (hi s : Nat), .int .u64 (lo s : Nat)] 36) (hf : Has w bf [.int .i64 (n : Nat)] 3)
    (hqq : IntKind.u64.wrap ((q : Int) * (q : Int)) = (kq : Int)) (hn : wrap64 ((n : Int) + 1) = (n1 : Int))
    (m1 : ∀ W, Calls Try.prog 32 #[.agg #[.int .u64 0, .int .u64 (kq : Nat)], .agg #[.int .u64 (hi v : Nat), .int .u64 (lo v : Nat)]] W fun e w' => e = .returned (.tuple #[.agg #[.int .u64 (hi P : Nat), .int .u64 (lo P : Nat)], .bool O]) ∧ Below W.heap.size W w')
    (m2 : ∀ W, Calls Try.prog 33 #[.agg #[.int .u64 (hi P : Nat), .int .u64 (lo P : Nat)], .agg #[.int .u64 (hi s : Nat), .int .u64 (lo s : Nat)]] W fun e w' => e = .returned (.bool b) ∧ Below W.heap.size W w') :
    Calls Try.prog 31 #[.int .u64 (q : Nat), .pointer (some ⟨bv, 0, none⟩), .pointer (some ⟨bs, 0, none⟩), .pointer (some ⟨bf, 0, none⟩)] w fun e w' =>
      (∃ r, e = .returned r) ∧ Has w' bf [.int .i64 (if b then n1 else n : Nat)] 3 ∧ Kept bf w.heap.size w w' := by
  have M1 := Lib.hid m1; have M2 := Lib.hid m2
  have HV := Lib.hid hv; have HS := Lib.hid hs; have HF := Lib.hid hf; have HN := Lib.hid hn
  have v0 : w.cell? ⟨bv, 0, none⟩ = some (.int .u64 (hi v : Nat)) := hv.cell 0
  have v1 : w.cell? ⟨bv, 1, none⟩ = some (.int .u64 (lo v : Nat)) := hv.cell 1
  have vl := hv.lt
  clear m1 m2 hv hs hf hn
  go_enter Try.func31, Try.ntmps31
  go_wp2_with fail
  refine (M1.out _).mono ?_
  rintro e w2 ⟨rfl, k2⟩
  clear v0 v1 vl
  obtain ⟨w3, hw3⟩ : ∃ w3, w2.alloc (.cells #[.int .u64 (hi P : Nat), .int .u64 (lo P : Nat)] 36) = w3 := ⟨_, rfl⟩
  have k3 : Below w2.heap.size w2 w3 := by rw [← hw3]; exact (Below.refl _ _).alloc (Nat.le_refl _) _
  have HL3 := Lib.hid (show Has w3 w2.heap.size [.int .u64 (hi P : Nat), .int .u64 (lo P : Nat)] 36 by rw [← hw3]; exact Has.new _ _ _)
  have HS3 := Lib.hid ((HS.out.call k2).call k3)
  have HF3 := Lib.hid ((HF.out.call k2).call k3)
  have HB3 := Lib.hid (k2.trans (k3.mono k2.size))
  have HW3 := Lib.hid hw3
  clear k2 k3 hw3
  go_upto_region 1 with fail
  rw [HW3.out]
  have p0 : w3.cell? ⟨w2.heap.size, 0, none⟩ = some (.int .u64 (hi P : Nat)) := HL3.out.cell 0
  have p1 : w3.cell? ⟨w2.heap.size, 1, none⟩ = some (.int .u64 (lo P : Nat)) := HL3.out.cell 1
  have pl := HL3.out.lt
  have s0 : w3.cell? ⟨bs, 0, none⟩ = some (.int .u64 (hi s : Nat)) := HS3.out.cell 0
  have s1 : w3.cell? ⟨bs, 1, none⟩ = some (.int .u64 (lo s : Nat)) := HS3.out.cell 1
  have sl := HS3.out.lt
  go_wp2_with fail
  refine (M2.out _).mono ?_
  rintro e w4 ⟨rfl, k4⟩
  have HF4 := Lib.hid (HF3.out.call k4)
  have HB4 := Lib.hid (HB3.out.trans (k4.mono HB3.out.size))
  clear k4 p0 p1 pl s0 s1 sl
  cases b with
  | false =>
    go_wp2
    exact bodyPost_end (v := .tuple #[]) (by simp [results, Try.results31]) rfl ⟨⟨_, rfl⟩, HF4.out, Kept.of HB4.out⟩
  | true =>
    have f0 : w4.cell? ⟨bf, 0, none⟩ = some (.int .i64 (n : Nat)) := HF4.out.cell 0
    have fz : w4.frozen? ⟨bf, 0, none⟩ = false := HF4.out.frozen 0
    have fl := HF4.out.lt
    have hn := HN.out
    go_wp2
    exact bodyPost_end (v := .tuple #[]) (by simp [results, Try.results31]) rfl ⟨⟨_, rfl⟩, HF4.out.set 0 _, (Kept.of HB4.out).trans ⟨rfl, rfl, rfl, by simp, fun k _ hk => Below.heap_setCell _ _ _ _ hk⟩⟩
theorem count_any (q bv bs bf n v s : Nat) (w : World) (h3 : q ≤ 3) (hv : v < 21267647932558653966460912964485513216) (hs : s < M128) (hn : n ≤ 4)
    (Hv : Has w bv [.int .u64 (hi v : Nat), .int .u64 (lo v : Nat)] 36) (Hs : Has w bs [.int .u64 (hi s : Nat), .int .u64 (lo s : Nat)] 36) (Hf : Has w bf [.int .i64 (n : Nat)] 3) :
    Calls Try.prog 31 #[.int .u64 (q : Nat), .pointer (some ⟨bv, 0, none⟩), .pointer (some ⟨bs, 0, none⟩), .pointer (some ⟨bf, 0, none⟩)] w fun e w' =>
      (∃ r, e = .returned r) ∧ Has w' bf [.int .i64 (n + (if q * q * v < s then 1 else 0) : Nat)] 3 ∧ Kept bf w.heap.size w w' := by
  have h9 : q * q ≤ 9 := Nat.mul_le_mul h3 h3
  have hv9 : q * q * v ≤ 9 * v := Nat.mul_le_mul_right v h9
  have hcast : (q : Int) * (q : Int) = ((q * q : Nat) : Int) := by rw [Int.natCast_mul]
  obtain ⟨kq, hkq⟩ : ∃ kq, q * q = kq := ⟨_, rfl⟩
  rw [hkq] at h9 hv9 hcast ⊢
  have m := fun W => times_num kq v (by unfold M128; omega) (by unfold M128; omega) W
  rw [mulW_fit kq v (by unfold M128; omega), hi_low kq (by unfold B64; omega), lo_low kq (by unfold B64; omega)] at m
  have hm := count_core q kq bv bs bf n (n + 1) v s (kq * v) _ _ w Hv Hs Hf (by rw [hcast]; exact u64_low _ (by omega) (by omega)) (by unfold wrap64; omega) m (fun W => less_num (kq * v) s (by unfold M128; omega) hs W)
  refine hm.mono fun e w' ⟨r, hh, hk⟩ => ⟨r, ?_, hk⟩
  by_cases c : kq * v < s
  · rw [if_pos c]
    rw [show ltW (kq * v) s = true from decide_eq_true c] at hh
    exact hh
  · rw [if_neg c]
    rw [show ltW (kq * v) s = false from decide_eq_false c] at hh
    exact hh
end Go.Proofs.Ytgmifimpeefpcaa
