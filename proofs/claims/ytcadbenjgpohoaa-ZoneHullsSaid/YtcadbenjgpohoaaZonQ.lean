/- The law of ZoneHulls: its walk. -/
import Derived.Test.YtcadbenjgpohoaaZonM
import Derived.Test.YtcadbenjgpohoaaZonF
namespace Go.Proofs.Ytcadbenjgpohoaa
open Go.RowKit

set_option linter.unusedSimpArgs false in
set_option linter.unusedVariables false in
set_option maxHeartbeats 8000000 in
set_option maxRecDepth 100000 in
theorem hulls13_core (a b M E : Int) (uh ul xh xl : Nat) (rb lb vb : Bool) (w : World)
    (k1 : (∀ W, Calls Try.prog 16 #[.agg #[.int .i64 a, .int .i64 b], .agg #[.int .u64 (uh : Nat), .int .u64 (ul : Nat)], .agg #[.int .u64 (xh : Nat), .int .u64 (xl : Nat)]] W fun e w' => e = .returned (.tuple #[.int .i64 M, .int .i64 E]) ∧ Below W.heap.size W w')) (k2 : (∀ W, Calls Try.prog 17 #[.agg #[.int .i64 a, .int .i64 b]] W fun e w' => e = .returned (.bool rb) ∧ Below W.heap.size W w')) (k3 : (∀ W, Calls Try.prog 18 #[.agg #[.int .u64 (xh : Nat), .int .u64 (xl : Nat)], .agg #[.int .u64 (uh : Nat), .int .u64 (ul : Nat)]] W fun e w' => e = .returned (.bool lb) ∧ Below W.heap.size W w')) (k4 : (∀ W, Calls Try.prog 14 #[.agg #[.int .u64 (xh : Nat), .int .u64 (xl : Nat)]] W fun e w' => e = .returned (.bool vb) ∧ Below W.heap.size W w'))
    (h1 : rb = false ∨ lb = true ∨ vb = false → E = 1 ∧ M = 0) (h2 : rb = true → lb = false → vb = true → E = 0 ∧ (∀ W, Calls Try.prog 19 #[.agg #[.int .i64 a, .int .i64 b], .agg #[.int .u64 (uh : Nat), .int .u64 (ul : Nat)], .agg #[.int .u64 (xh : Nat), .int .u64 (xl : Nat)]] W fun e w' => e = .returned (.int .i64 M) ∧ Below W.heap.size W w')) :
    Calls Try.prog 4 #[.agg #[.int .i64 a, .int .i64 b], .agg #[.int .u64 (uh : Nat), .int .u64 (ul : Nat)], .agg #[.int .u64 (xh : Nat), .int .u64 (xl : Nat)]] w fun e w' => e = .returned (.bool true) ∧ Below w.heap.size w w' := by
  have K1 := Lib.hid k1; have K2 := Lib.hid k2; have K3 := Lib.hid k3; have K4 := Lib.hid k4
  have H1 := Lib.hid h1; have H2 := Lib.hid h2
  have KA := Lib.hid (fun W => alive13_any W)
  clear k1 k2 k3 k4 h1 h2
  obtain ⟨w2, hw2⟩ : ∃ w2, ((w.alloc (.cells #[.int .i64 a, .int .i64 b] 39)).alloc (.cells #[.int .u64 (uh : Nat), .int .u64 (ul : Nat)] 24)).alloc (.cells #[.int .u64 (xh : Nat), .int .u64 (xl : Nat)] 24) = w2 := ⟨_, rfl⟩
  have HB2 := Lib.hid (show Below w.heap.size w w2 by rw [← hw2]; exact (((Below.refl _ _).alloc (Nat.le_refl _) _).alloc (by simp) _).alloc (by simp; omega) _)
  have HP2 := Lib.hid (show Has w2 w.heap.size [.int .i64 a, .int .i64 b] 39 by rw [← hw2]; exact ((Has.new w _ _).alloc _).alloc _)
  have HU2 := Lib.hid (show Has w2 (w.heap.size + 1) [.int .u64 (uh : Nat), .int .u64 (ul : Nat)] 24 by
    rw [← hw2]
    have := (Has.new (w.alloc (.cells #[.int .i64 a, .int .i64 b] 39)) [.int .u64 (uh : Nat), .int .u64 (ul : Nat)] 24).alloc (.cells #[.int .u64 (xh : Nat), .int .u64 (xl : Nat)] 24)
    rw [show (w.alloc (.cells #[.int .i64 a, .int .i64 b] 39)).heap.size = w.heap.size + 1 by simp] at this
    exact this)
  have HX2 := Lib.hid (show Has w2 (w.heap.size + 2) [.int .u64 (xh : Nat), .int .u64 (xl : Nat)] 24 by
    rw [← hw2]
    have := Has.new ((w.alloc (.cells #[.int .i64 a, .int .i64 b] 39)).alloc (.cells #[.int .u64 (uh : Nat), .int .u64 (ul : Nat)] 24)) [.int .u64 (xh : Nat), .int .u64 (xl : Nat)] 24
    rw [show ((w.alloc (.cells #[.int .i64 a, .int .i64 b] 39)).alloc (.cells #[.int .u64 (uh : Nat), .int .u64 (ul : Nat)] 24)).heap.size = w.heap.size + 2 by simp] at this
    exact this)
  have HW2 := Lib.hid hw2
  clear hw2
  have hbase := Nat.le_refl w.heap.size
  go_enter Try.func4, Try.ntmps4
  go_upto_region 1 with fail
  rw [HW2.out]
  have qp0_0 : w2.cell? ⟨w.heap.size, 0, none⟩ = some (.int .i64 a) := HP2.out.cell 0
  have qp1_0 : w2.cell? ⟨w.heap.size, 1, none⟩ = some (.int .i64 b) := HP2.out.cell 1
  have lp_0 : w.heap.size < w2.heap.size := HP2.out.lt
  have qu0_0 : w2.cell? ⟨w.heap.size + 1, 0, none⟩ = some (.int .u64 (uh : Nat)) := HU2.out.cell 0
  have qu1_0 : w2.cell? ⟨w.heap.size + 1, 1, none⟩ = some (.int .u64 (ul : Nat)) := HU2.out.cell 1
  have lu_0 : w.heap.size + 1 < w2.heap.size := HU2.out.lt
  have qx0_0 : w2.cell? ⟨w.heap.size + 2, 0, none⟩ = some (.int .u64 (xh : Nat)) := HX2.out.cell 0
  have qx1_0 : w2.cell? ⟨w.heap.size + 2, 1, none⟩ = some (.int .u64 (xl : Nat)) := HX2.out.cell 1
  have lx_0 : w.heap.size + 2 < w2.heap.size := HX2.out.lt
  have hcz1 := K1.out w2
  go_wp2_with fail
  refine hcz1.mono ?_
  rintro e wz1 ⟨rfl, kz1⟩
  clear hcz1 qp0_0 qp1_0 lp_0 qu0_0 qu1_0 lu_0 qx0_0 qx1_0 lx_0
  have HBz1 := Lib.hid (HB2.out.trans (kz1.mono (Nat.le_trans hbase HB2.out.size)))
  have Hpz1 := Lib.hid (HP2.out.call kz1)
  have Huz1 := Lib.hid (HU2.out.call kz1)
  have Hxz1 := Lib.hid (HX2.out.call kz1)
  clear kz1
  have qp0_1 : wz1.cell? ⟨w.heap.size, 0, none⟩ = some (.int .i64 a) := Hpz1.out.cell 0
  have qp1_1 : wz1.cell? ⟨w.heap.size, 1, none⟩ = some (.int .i64 b) := Hpz1.out.cell 1
  have lp_1 : w.heap.size < wz1.heap.size := Hpz1.out.lt
  have hcz2 := K2.out wz1
  go_wp2_with fail
  refine hcz2.mono ?_
  rintro e wz2 ⟨rfl, kz2⟩
  clear hcz2 qp0_1 qp1_1 lp_1
  have HBz2 := Lib.hid (HBz1.out.trans (kz2.mono (Nat.le_trans hbase HBz1.out.size)))
  have Hpz2 := Lib.hid (Hpz1.out.call kz2)
  have Huz2 := Lib.hid (Huz1.out.call kz2)
  have Hxz2 := Lib.hid (Hxz1.out.call kz2)
  clear kz2
  cases rb with
  | false =>
    obtain ⟨rfl, rfl⟩ := H1.out (.inl rfl)
    have hcz3 := KA.out wz2
    go_wp2_with fail
    refine hcz3.mono ?_
    rintro e wz3 ⟨rfl, kz3⟩
    clear hcz3
    have HBz3 := Lib.hid (HBz2.out.trans (kz3.mono (Nat.le_trans hbase HBz2.out.size)))
    have Hpz3 := Lib.hid (Hpz2.out.call kz3)
    have Huz3 := Lib.hid (Huz2.out.call kz3)
    have Hxz3 := Lib.hid (Hxz2.out.call kz3)
    clear kz3
    go_wp2
    go_ret
    exact ⟨rfl, HBz3.out⟩
  | true =>
    have qx0_2 : wz2.cell? ⟨w.heap.size + 2, 0, none⟩ = some (.int .u64 (xh : Nat)) := Hxz2.out.cell 0
    have qx1_2 : wz2.cell? ⟨w.heap.size + 2, 1, none⟩ = some (.int .u64 (xl : Nat)) := Hxz2.out.cell 1
    have lx_2 : w.heap.size + 2 < wz2.heap.size := Hxz2.out.lt
    have qu0_2 : wz2.cell? ⟨w.heap.size + 1, 0, none⟩ = some (.int .u64 (uh : Nat)) := Huz2.out.cell 0
    have qu1_2 : wz2.cell? ⟨w.heap.size + 1, 1, none⟩ = some (.int .u64 (ul : Nat)) := Huz2.out.cell 1
    have lu_2 : w.heap.size + 1 < wz2.heap.size := Huz2.out.lt
    have hcz3 := K3.out wz2
    go_wp2_with fail
    refine hcz3.mono ?_
    rintro e wz3 ⟨rfl, kz3⟩
    clear hcz3 qx0_2 qx1_2 lx_2 qu0_2 qu1_2 lu_2
    have HBz3 := Lib.hid (HBz2.out.trans (kz3.mono (Nat.le_trans hbase HBz2.out.size)))
    have Hpz3 := Lib.hid (Hpz2.out.call kz3)
    have Huz3 := Lib.hid (Huz2.out.call kz3)
    have Hxz3 := Lib.hid (Hxz2.out.call kz3)
    clear kz3
    cases lb with
    | true =>
      obtain ⟨rfl, rfl⟩ := H1.out (.inr (.inl rfl))
      have hcz4 := KA.out wz3
      go_wp2_with fail
      refine hcz4.mono ?_
      rintro e wz4 ⟨rfl, kz4⟩
      clear hcz4
      have HBz4 := Lib.hid (HBz3.out.trans (kz4.mono (Nat.le_trans hbase HBz3.out.size)))
      have Hpz4 := Lib.hid (Hpz3.out.call kz4)
      have Huz4 := Lib.hid (Huz3.out.call kz4)
      have Hxz4 := Lib.hid (Hxz3.out.call kz4)
      clear kz4
      go_wp2
      go_ret
      exact ⟨rfl, HBz4.out⟩
    | false =>
      have qx0_3 : wz3.cell? ⟨w.heap.size + 2, 0, none⟩ = some (.int .u64 (xh : Nat)) := Hxz3.out.cell 0
      have qx1_3 : wz3.cell? ⟨w.heap.size + 2, 1, none⟩ = some (.int .u64 (xl : Nat)) := Hxz3.out.cell 1
      have lx_3 : w.heap.size + 2 < wz3.heap.size := Hxz3.out.lt
      have hcz4 := K4.out wz3
      go_wp2_with fail
      refine hcz4.mono ?_
      rintro e wz4 ⟨rfl, kz4⟩
      clear hcz4 qx0_3 qx1_3 lx_3
      have HBz4 := Lib.hid (HBz3.out.trans (kz4.mono (Nat.le_trans hbase HBz3.out.size)))
      have Hpz4 := Lib.hid (Hpz3.out.call kz4)
      have Huz4 := Lib.hid (Huz3.out.call kz4)
      have Hxz4 := Lib.hid (Hxz3.out.call kz4)
      clear kz4
      cases vb with
      | false =>
        obtain ⟨rfl, rfl⟩ := H1.out (.inr (.inr rfl))
        have hcz5 := KA.out wz4
        go_wp2_with fail
        refine hcz5.mono ?_
        rintro e wz5 ⟨rfl, kz5⟩
        clear hcz5
        have HBz5 := Lib.hid (HBz4.out.trans (kz5.mono (Nat.le_trans hbase HBz4.out.size)))
        have Hpz5 := Lib.hid (Hpz4.out.call kz5)
        have Huz5 := Lib.hid (Huz4.out.call kz5)
        have Hxz5 := Lib.hid (Hxz4.out.call kz5)
        clear kz5
        go_wp2
        go_ret
        exact ⟨rfl, HBz5.out⟩
      | true =>
        obtain ⟨rfl, h2⟩ := H2.out (by simp) (by simp) (by simp)
        have K5 := Lib.hid h2
        clear h2
        have hcz5 := KA.out wz4
        go_wp2_with fail
        refine hcz5.mono ?_
        rintro e wz5 ⟨rfl, kz5⟩
        clear hcz5
        have HBz5 := Lib.hid (HBz4.out.trans (kz5.mono (Nat.le_trans hbase HBz4.out.size)))
        have Hpz5 := Lib.hid (Hpz4.out.call kz5)
        have Huz5 := Lib.hid (Huz4.out.call kz5)
        have Hxz5 := Lib.hid (Hxz4.out.call kz5)
        clear kz5
        have qp0_5 : wz5.cell? ⟨w.heap.size, 0, none⟩ = some (.int .i64 a) := Hpz5.out.cell 0
        have qp1_5 : wz5.cell? ⟨w.heap.size, 1, none⟩ = some (.int .i64 b) := Hpz5.out.cell 1
        have lp_5 : w.heap.size < wz5.heap.size := Hpz5.out.lt
        have qu0_5 : wz5.cell? ⟨w.heap.size + 1, 0, none⟩ = some (.int .u64 (uh : Nat)) := Huz5.out.cell 0
        have qu1_5 : wz5.cell? ⟨w.heap.size + 1, 1, none⟩ = some (.int .u64 (ul : Nat)) := Huz5.out.cell 1
        have lu_5 : w.heap.size + 1 < wz5.heap.size := Huz5.out.lt
        have qx0_5 : wz5.cell? ⟨w.heap.size + 2, 0, none⟩ = some (.int .u64 (xh : Nat)) := Hxz5.out.cell 0
        have qx1_5 : wz5.cell? ⟨w.heap.size + 2, 1, none⟩ = some (.int .u64 (xl : Nat)) := Hxz5.out.cell 1
        have lx_5 : w.heap.size + 2 < wz5.heap.size := Hxz5.out.lt
        have hcz6 := K5.out wz5
        go_wp2_with fail
        refine hcz6.mono ?_
        rintro e wz6 ⟨rfl, kz6⟩
        clear hcz6 qp0_5 qp1_5 lp_5 qu0_5 qu1_5 lu_5 qx0_5 qx1_5 lx_5
        have HBz6 := Lib.hid (HBz5.out.trans (kz6.mono (Nat.le_trans hbase HBz5.out.size)))
        have Hpz6 := Lib.hid (Hpz5.out.call kz6)
        have Huz6 := Lib.hid (Huz5.out.call kz6)
        have Hxz6 := Lib.hid (Hxz5.out.call kz6)
        clear kz6
        go_wp2
        go_ret
        exact ⟨rfl, HBz6.out⟩
theorem hulls13_walk (a b : Int) (u x : Nat) (ha : IsInt a) (hb : IsInt b) (hu : u < M128) (hx : x < M128) (w : World) :
    Calls Try.prog 4 #[.agg #[.int .i64 a, .int .i64 b], .agg #[.int .u64 (hi u : Nat), .int .u64 (lo u : Nat)], .agg #[.int .u64 (hi x : Nat), .int .u64 (lo x : Nat)]] w fun e w' => e = .returned (.bool true) ∧ Below w.heap.size w w' := by
  have k4 := fun W => rvar13_any (hi x) (lo x) W
  rw [hi_var] at k4
  refine hulls13_core a b (hulR a b u x) (hulE a b u x) _ _ _ _ _ (ltW x u) _ w (fun W => hull13_any a b u x ha hb hu hx W) (fun W => rright_any a b W) (fun W => less_num x u hx hu W) k4 (fun h => ?_) (fun h1 h2 h3 => ?_)
  · have hn : ¬ hullP a b u x := by
      rintro ⟨q1, q2, q3⟩
      rcases h with h | h | h
      · exact of_decide_eq_false h q1
      · have : x < u := of_decide_eq_true h
        omega
      · exact of_decide_eq_false h q3
    unfold hulR hulE
    rw [if_neg hn, if_neg hn]
    exact ⟨rfl, rfl⟩
  · have q1 := of_decide_eq_true h1
    have q2 : ¬ x < u := of_decide_eq_false h2
    have q3 := of_decide_eq_true h3
    have hp : hullP a b u x := ⟨q1, by omega, q3⟩
    unfold hulR hulE
    rw [if_pos hp, if_pos hp]
    exact ⟨rfl, fun W => rhull13_any a b u x ha hb (by omega) q3 W⟩
end Go.Proofs.Ytcadbenjgpohoaa
