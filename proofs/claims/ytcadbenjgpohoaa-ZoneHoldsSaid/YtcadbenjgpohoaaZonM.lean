/- zone.Hull, whatever its arguments; datumlaw13.alive. -/
import Derived.Test.YtcadbenjgpohoaaZonL
namespace Go.Proofs.Ytcadbenjgpohoaa
open Go.RowKit

theorem least_eq {a b : Int} (h : a ≤ b) (u x : Nat) : min (clsN a u) (clsN a x) = leastN a b u x := by
  have h1 := clsN_rise h u
  have h2 := clsN_rise h x
  unfold leastN
  omega
theorem most_eq {a b : Int} (h : a ≤ b) (u x : Nat) : max (clsN b u) (clsN b x) = mostN a b u x := by
  have h1 := clsN_rise h u
  have h2 := clsN_rise h x
  unfold mostN
  omega
def hullP (a b : Int) (u x : Nat) : Prop := a ≤ b ∧ u ≤ x ∧ x < 21267647932558653966460912964485513216
instance (a b : Int) (u x : Nat) : Decidable (hullP a b u x) := by unfold hullP; infer_instance
def hulR (a b : Int) (u x : Nat) : Int := if hullP a b u x then maskN (leastN a b u x) (mostN a b u x) else 0
def hulE (a b : Int) (u x : Nat) : Int := if hullP a b u x then 0 else 1
theorem hull13_any (a b : Int) (u x : Nat) (ha : IsInt a) (hb : IsInt b) (hu : u < M128) (hx : x < M128) (w : World) :
    Calls Try.prog 16 #[.agg #[.int .i64 a, .int .i64 b], .agg #[.int .u64 (hi u : Nat), .int .u64 (lo u : Nat)], .agg #[.int .u64 (hi x : Nat), .int .u64 (lo x : Nat)]] w fun e w' => e = .returned (.tuple #[.int .i64 (hulR a b u x), .int .i64 (hulE a b u x)]) ∧ Below w.heap.size w w' := by
  have mr := fun W => right_any a b W
  have ml := fun W => less_num x u hx hu W
  have mv := fun W => var13_any (hi x) (lo x) W
  rw [hi_var] at mv
  unfold hulR hulE
  by_cases h1 : a ≤ b
  · rw [decide_eq_true h1] at mr
    by_cases h2 : u ≤ x
    · rw [show ltW x u = false from decide_eq_false (by omega)] at ml
      by_cases h3 : x < 21267647932558653966460912964485513216
      · rw [decide_eq_true h3] at mv
        rw [if_pos ⟨h1, h2, h3⟩, if_pos ⟨h1, h2, h3⟩]
        obtain ⟨b1, b2, b3⟩ := box_bounds a b u x
        exact hull_core a b _ _ _ _ _ _ _ _ _ _ _ w mr ml mv (fun W => class13_any a u ha (by omega) W) (fun W => class13_any a x ha h3 W) (fun W => class13_any b u hb (by omega) W) (fun W => class13_any b x hb h3 W) (least_eq h1 u x) (most_eq h1 u x) (fun W => between13_any _ _ b1 b2 b3 W)
      · rw [decide_eq_false h3] at mv
        rw [if_neg (fun h => h3 h.2.2), if_neg (fun h => h3 h.2.2)]
        exact hull_var a b _ _ _ _ w mr ml mv
    · rw [show ltW x u = true from decide_eq_true (by omega)] at ml
      rw [if_neg (fun h => h2 h.2.1), if_neg (fun h => h2 h.2.1)]
      exact hull_less a b _ _ _ _ w mr ml
  · rw [decide_eq_false h1] at mr
    rw [if_neg (fun h => h1 h.1), if_neg (fun h => h1 h.1)]
    exact hull_span a b _ _ _ _ w mr
set_option linter.unusedSimpArgs false in
set_option maxHeartbeats 4000000 in
theorem alive13_any (w : World) : Calls Try.prog 11 #[] w fun e w' => e = .returned (.bool true) ∧ Below w.heap.size w w' := by
  have k1 : ∀ W, Calls Try.prog 7 #[.int .i64 6, .agg #[.int .u64 0, .int .u64 9]] W fun e w' => e = .returned (.tuple #[.int .i64 2, .int .i64 0]) ∧ Below W.heap.size W w' := fun W => cls13_any 6 9 (by decide) W
  have k2 : ∀ W, Calls Try.prog 7 #[.int .i64 7, .agg #[.int .u64 0, .int .u64 9]] W fun e w' => e = .returned (.tuple #[.int .i64 3, .int .i64 0]) ∧ Below W.heap.size W w' := fun W => cls13_any 7 9 (by decide) W
  have k3 : ∀ W, Calls Try.prog 7 #[.int .i64 (-10), .agg #[.int .u64 0, .int .u64 9]] W fun e w' => e = .returned (.tuple #[.int .i64 (-4), .int .i64 0]) ∧ Below W.heap.size W w' := fun W => cls13_any (-10) 9 (by decide) W
  have K1 := Lib.hid k1; have K2 := Lib.hid k2; have K3 := Lib.hid k3
  have HB1 := Lib.hid (Below.refl w.heap.size w)
  have hbase := Nat.le_refl w.heap.size
  clear k1 k2 k3
  go_enter Try.func11, Try.ntmps11
  have hcz1 := K1.out w
  go_wp2_with fail
  refine hcz1.mono ?_
  rintro e wz1 ⟨rfl, kz1⟩
  clear hcz1
  have HBz1 := Lib.hid (HB1.out.trans (kz1.mono (Nat.le_trans hbase HB1.out.size)))
  clear kz1
  have hcz2 := K2.out wz1
  go_wp2_with fail
  refine hcz2.mono ?_
  rintro e wz2 ⟨rfl, kz2⟩
  clear hcz2
  have HBz2 := Lib.hid (HBz1.out.trans (kz2.mono (Nat.le_trans hbase HBz1.out.size)))
  clear kz2
  have hcz3 := K3.out wz2
  go_wp2_with fail
  refine hcz3.mono ?_
  rintro e wz3 ⟨rfl, kz3⟩
  clear hcz3
  have HBz3 := Lib.hid (HBz2.out.trans (kz3.mono (Nat.le_trans hbase HBz2.out.size)))
  clear kz3
  go_wp2
  go_ret
  exact ⟨rfl, HBz3.out⟩
end Go.Proofs.Ytcadbenjgpohoaa
