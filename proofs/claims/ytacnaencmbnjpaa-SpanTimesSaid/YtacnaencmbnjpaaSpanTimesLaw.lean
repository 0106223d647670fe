/- SpanTimes: for every two spans: what they are multiplied, divided, and the root of the first, is as the reference has it, or refused as it is. No condition. -/
import Derived.Test.YtacnaencmbnjpaaAlive5
import Derived.Test.YtacnaencmbnjpaaSpanRef2
import Derived.Test.YtacnaencmbnjpaaAb
import Derived.Test.YtacnaencmbnjpaaSpanRoot
import Derived.Test.YtacnaencmbnjpaaOpenI
import Derived.Test.YtacnaencmbnjpaaOpenS
/- The law SpanTimes, walked: where the program and the reference say the same, it answers true; nothing that was in memory before is changed. -/
namespace Go.Proofs.Ytacnaencmbnjpaa
open Go.RowKit

theorem eqS' (x y : Int) (w : World) : (Op.equalIn 10000 23 (.agg #[.int .i64 x, .int .i64 y]) (.agg #[.int .i64 x, .int .i64 y])).run Try.prog w = .ok true w := by go_simp
theorem eqS0' (w : World) : (Op.equalIn 10000 23 (.agg #[.int .i64 0, .int .i64 0]) (.agg #[.int .i64 0, .int .i64 0])).run Try.prog w = .ok true w := eqS' 0 0 w
set_option maxRecDepth 100000 in
set_option maxHeartbeats 2000000 in
theorem stimes_no_any (a b c d : Int) (w : World)
    (m1 : ∀ w, Calls Try.prog 19 #[.agg #[.int .i64 a, .int .i64 b], .agg #[.int .i64 c, .int .i64 d]] w fun en w' => en = .returned (.tuple #[.agg #[.int .i64 0, .int .i64 0], .int .i64 1]) ∧ Below w.heap.size w w')
    (m2 : ∀ w, Calls Try.prog 20 #[.agg #[.int .i64 a, .int .i64 b], .agg #[.int .i64 c, .int .i64 d]] w fun en w' => en = .returned (.tuple #[.agg #[.int .i64 0, .int .i64 0], .int .i64 1]) ∧ Below w.heap.size w w')
    (m3 : ∀ w, Calls Try.prog 21 #[.agg #[.int .i64 a, .int .i64 b]] w fun en w' => en = .returned (.tuple #[.agg #[.int .i64 0, .int .i64 0], .int .i64 1]) ∧ Below w.heap.size w w')
    (m4 : ∀ w, Calls Try.prog 12 #[.agg #[.int .i64 a, .int .i64 b]] w fun en w' => en = .returned (.bool false) ∧ Below w.heap.size w w') :
    Calls Try.prog 4 #[.agg #[.int .i64 a, .int .i64 b], .agg #[.int .i64 c, .int .i64 d]] w fun en w' => en = .returned (.bool true) ∧ Below w.heap.size w w' := by
  have M1 := Lib.hid m1; have M2 := Lib.hid m2; have M3 := Lib.hid m3; have M4 := Lib.hid m4
  clear m1 m2 m3 m4
  go_enter Try.func4, Try.ntmps4
  go_wp2_with fail
  refine (M1.out _).mono ?_
  rintro e w1 ⟨rfl, hb⟩
  have ka : Blk w1 w.heap.size #[.int .i64 a, .int .i64 b] := ((Blk.new _ _ _).alloc _).call hb
  have kc : Blk w1 (w.heap.size + 1) #[.int .i64 c, .int .i64 d] := (Blk.newAt (by simp)).call hb
  have kw : Below w.heap.size w w1 := (((Below.refl w.heap.size w).alloc (Nat.le_refl _) _).alloc (by simp) _).trans (hb.mono (by simp; omega))
  have Ba := Lib.hid ka
  have Bc := Lib.hid kc
  have HW1 := Lib.hid kw
  clear hb kw ka kc
  have la := Ba.out.lt
  have ca0 : w1.cell? ⟨w.heap.size, 0, none⟩ = some (.int .i64 a) := Ba.out.cell rfl
  have ca1 : w1.cell? ⟨w.heap.size, 1, none⟩ = some (.int .i64 b) := Ba.out.cell rfl
  have lc := Bc.out.lt
  have cc0 : w1.cell? ⟨(w.heap.size + 1), 0, none⟩ = some (.int .i64 c) := Bc.out.cell rfl
  have cc1 : w1.cell? ⟨(w.heap.size + 1), 1, none⟩ = some (.int .i64 d) := Bc.out.cell rfl
  go_wp2_with fail
  refine (M2.out _).mono ?_
  rintro e w2 ⟨rfl, hb⟩
  have ka : Blk w2 w.heap.size #[.int .i64 a, .int .i64 b] := (Ba.out.alloc _).call hb
  have kc : Blk w2 (w.heap.size + 1) #[.int .i64 c, .int .i64 d] := (Bc.out.alloc _).call hb
  have km : Blk w2 w1.heap.size #[.int .i64 0, .int .i64 0] := (Blk.new _ _ _).call hb
  have kw : Below w.heap.size w w2 := (HW1.out.alloc HW1.out.size _).trans (hb.mono (by have := HW1.out.size; simp; omega))
  clear la ca0 ca1 lc cc0 cc1 Ba Bc HW1
  have Ba := Lib.hid ka
  have Bc := Lib.hid kc
  have Bm := Lib.hid km
  have HW2 := Lib.hid kw
  clear hb kw ka kc km
  have la := Ba.out.lt
  have ca0 : w2.cell? ⟨w.heap.size, 0, none⟩ = some (.int .i64 a) := Ba.out.cell rfl
  have ca1 : w2.cell? ⟨w.heap.size, 1, none⟩ = some (.int .i64 b) := Ba.out.cell rfl
  go_wp2_with fail
  refine (M3.out _).mono ?_
  rintro e w3 ⟨rfl, hb⟩
  have ka : Blk w3 w.heap.size #[.int .i64 a, .int .i64 b] := (Ba.out.alloc _).call hb
  have kc : Blk w3 (w.heap.size + 1) #[.int .i64 c, .int .i64 d] := (Bc.out.alloc _).call hb
  have km : Blk w3 w1.heap.size #[.int .i64 0, .int .i64 0] := (Bm.out.alloc _).call hb
  have kq : Blk w3 w2.heap.size #[.int .i64 0, .int .i64 0] := (Blk.new _ _ _).call hb
  have kw : Below w.heap.size w w3 := (HW2.out.alloc HW2.out.size _).trans (hb.mono (by have := HW2.out.size; simp; omega))
  clear la ca0 ca1 Ba Bc Bm HW2
  have Ba := Lib.hid ka
  have Bc := Lib.hid kc
  have Bm := Lib.hid km
  have Bq := Lib.hid kq
  have HW3 := Lib.hid kw
  clear hb kw ka kc km kq
  go_wp2_with fail
  refine (alive5 _).mono ?_
  rintro e w4 ⟨rfl, hb⟩
  have ka : Blk w4 w.heap.size #[.int .i64 a, .int .i64 b] := ((Ba.out.alloc _).alloc _).call hb
  have kc : Blk w4 (w.heap.size + 1) #[.int .i64 c, .int .i64 d] := ((Bc.out.alloc _).alloc _).call hb
  have km : Blk w4 w1.heap.size #[.int .i64 0, .int .i64 0] := ((Bm.out.alloc _).alloc _).call hb
  have kq : Blk w4 w2.heap.size #[.int .i64 0, .int .i64 0] := ((Bq.out.alloc _).alloc _).call hb
  have kr : Blk w4 w3.heap.size #[.int .i64 0, .int .i64 0] := ((Blk.new _ _ _).alloc _).call hb
  have kn : Blk w4 (w3.heap.size + 1) #[.int .i64 0, .int .i64 0] := (Blk.newAt (by simp)).call hb
  have kw : Below w.heap.size w w4 := ((HW3.out.alloc HW3.out.size _).alloc (by have := HW3.out.size; simp; omega) _).trans (hb.mono (by have := HW3.out.size; simp; omega))
  clear Ba Bc Bm Bq HW3
  have Ba := Lib.hid ka
  have Bc := Lib.hid kc
  have Bm := Lib.hid km
  have Bq := Lib.hid kq
  have Br := Lib.hid kr
  have Bn := Lib.hid kn
  have HW4 := Lib.hid kw
  clear hb kw ka kc km kq kr kn
  have la := Ba.out.lt
  have ca0 : w4.cell? ⟨w.heap.size, 0, none⟩ = some (.int .i64 a) := Ba.out.cell rfl
  have ca1 : w4.cell? ⟨w.heap.size, 1, none⟩ = some (.int .i64 b) := Ba.out.cell rfl
  go_wp2_with fail
  refine (M4.out _).mono ?_
  rintro e w5 ⟨rfl, hb⟩
  have ka : Blk w5 w.heap.size #[.int .i64 a, .int .i64 b] := Ba.out.call hb
  have kc : Blk w5 (w.heap.size + 1) #[.int .i64 c, .int .i64 d] := Bc.out.call hb
  have km : Blk w5 w1.heap.size #[.int .i64 0, .int .i64 0] := Bm.out.call hb
  have kq : Blk w5 w2.heap.size #[.int .i64 0, .int .i64 0] := Bq.out.call hb
  have kr : Blk w5 w3.heap.size #[.int .i64 0, .int .i64 0] := Br.out.call hb
  have kn : Blk w5 (w3.heap.size + 1) #[.int .i64 0, .int .i64 0] := Bn.out.call hb
  have kw : Below w.heap.size w w5 := HW4.out.trans (hb.mono HW4.out.size)
  clear la ca0 ca1 Ba Bc Bm Bq Br Bn HW4
  have Ba := Lib.hid ka
  have Bc := Lib.hid kc
  have Bm := Lib.hid km
  have Bq := Lib.hid kq
  have Br := Lib.hid kr
  have Bn := Lib.hid kn
  have HW5 := Lib.hid kw
  clear hb kw ka kc km kq kr kn
  have e0 := eqS0'
  have lm := Bm.out.lt
  have cm0 : w5.cell? ⟨w1.heap.size, 0, none⟩ = some (.int .i64 0) := Bm.out.cell rfl
  have cm1 : w5.cell? ⟨w1.heap.size, 1, none⟩ = some (.int .i64 0) := Bm.out.cell rfl
  have lq := Bq.out.lt
  have cq0 : w5.cell? ⟨w2.heap.size, 0, none⟩ = some (.int .i64 0) := Bq.out.cell rfl
  have cq1 : w5.cell? ⟨w2.heap.size, 1, none⟩ = some (.int .i64 0) := Bq.out.cell rfl
  have lr := Br.out.lt
  have cr0 : w5.cell? ⟨w3.heap.size, 0, none⟩ = some (.int .i64 0) := Br.out.cell rfl
  have cr1 : w5.cell? ⟨w3.heap.size, 1, none⟩ = some (.int .i64 0) := Br.out.cell rfl
  have ln := Bn.out.lt
  have cn0 : w5.cell? ⟨(w3.heap.size + 1), 0, none⟩ = some (.int .i64 0) := Bn.out.cell rfl
  have cn1 : w5.cell? ⟨(w3.heap.size + 1), 1, none⟩ = some (.int .i64 0) := Bn.out.cell rfl
  go_wp2_with fail
  go_ret
  exact ⟨rfl, HW5.out⟩
set_option maxRecDepth 100000 in
set_option maxHeartbeats 2000000 in
theorem stimes_low_no (a b c d : Int) (w : World) (h0 : a < 0)
    (m1 : ∀ w, Calls Try.prog 19 #[.agg #[.int .i64 a, .int .i64 b], .agg #[.int .i64 c, .int .i64 d]] w fun en w' => en = .returned (.tuple #[.agg #[.int .i64 0, .int .i64 0], .int .i64 1]) ∧ Below w.heap.size w w')
    (m2 : ∀ w, Calls Try.prog 20 #[.agg #[.int .i64 a, .int .i64 b], .agg #[.int .i64 c, .int .i64 d]] w fun en w' => en = .returned (.tuple #[.agg #[.int .i64 0, .int .i64 0], .int .i64 1]) ∧ Below w.heap.size w w')
    (m3 : ∀ w, Calls Try.prog 21 #[.agg #[.int .i64 a, .int .i64 b]] w fun en w' => en = .returned (.tuple #[.agg #[.int .i64 0, .int .i64 0], .int .i64 3]) ∧ Below w.heap.size w w')
    (m4 : ∀ w, Calls Try.prog 12 #[.agg #[.int .i64 a, .int .i64 b]] w fun en w' => en = .returned (.bool true) ∧ Below w.heap.size w w')
    (m5 : ∀ w, Calls Try.prog 12 #[.agg #[.int .i64 c, .int .i64 d]] w fun en w' => en = .returned (.bool false) ∧ Below w.heap.size w w') :
    Calls Try.prog 4 #[.agg #[.int .i64 a, .int .i64 b], .agg #[.int .i64 c, .int .i64 d]] w fun en w' => en = .returned (.bool true) ∧ Below w.heap.size w w' := by
  have M1 := Lib.hid m1; have M2 := Lib.hid m2; have M3 := Lib.hid m3; have M4 := Lib.hid m4; have M5 := Lib.hid m5
  clear m1 m2 m3 m4 m5
  go_enter Try.func4, Try.ntmps4
  go_wp2_with fail
  refine (M1.out _).mono ?_
  rintro e w1 ⟨rfl, hb⟩
  have ka : Blk w1 w.heap.size #[.int .i64 a, .int .i64 b] := ((Blk.new _ _ _).alloc _).call hb
  have kc : Blk w1 (w.heap.size + 1) #[.int .i64 c, .int .i64 d] := (Blk.newAt (by simp)).call hb
  have kw : Below w.heap.size w w1 := (((Below.refl w.heap.size w).alloc (Nat.le_refl _) _).alloc (by simp) _).trans (hb.mono (by simp; omega))
  have Ba := Lib.hid ka
  have Bc := Lib.hid kc
  have HW1 := Lib.hid kw
  clear hb kw ka kc
  have la := Ba.out.lt
  have ca0 : w1.cell? ⟨w.heap.size, 0, none⟩ = some (.int .i64 a) := Ba.out.cell rfl
  have ca1 : w1.cell? ⟨w.heap.size, 1, none⟩ = some (.int .i64 b) := Ba.out.cell rfl
  have lc := Bc.out.lt
  have cc0 : w1.cell? ⟨(w.heap.size + 1), 0, none⟩ = some (.int .i64 c) := Bc.out.cell rfl
  have cc1 : w1.cell? ⟨(w.heap.size + 1), 1, none⟩ = some (.int .i64 d) := Bc.out.cell rfl
  go_wp2_with fail
  refine (M2.out _).mono ?_
  rintro e w2 ⟨rfl, hb⟩
  have ka : Blk w2 w.heap.size #[.int .i64 a, .int .i64 b] := (Ba.out.alloc _).call hb
  have kc : Blk w2 (w.heap.size + 1) #[.int .i64 c, .int .i64 d] := (Bc.out.alloc _).call hb
  have km : Blk w2 w1.heap.size #[.int .i64 0, .int .i64 0] := (Blk.new _ _ _).call hb
  have kw : Below w.heap.size w w2 := (HW1.out.alloc HW1.out.size _).trans (hb.mono (by have := HW1.out.size; simp; omega))
  clear la ca0 ca1 lc cc0 cc1 Ba Bc HW1
  have Ba := Lib.hid ka
  have Bc := Lib.hid kc
  have Bm := Lib.hid km
  have HW2 := Lib.hid kw
  clear hb kw ka kc km
  have la := Ba.out.lt
  have ca0 : w2.cell? ⟨w.heap.size, 0, none⟩ = some (.int .i64 a) := Ba.out.cell rfl
  have ca1 : w2.cell? ⟨w.heap.size, 1, none⟩ = some (.int .i64 b) := Ba.out.cell rfl
  go_wp2_with fail
  refine (M3.out _).mono ?_
  rintro e w3 ⟨rfl, hb⟩
  have ka : Blk w3 w.heap.size #[.int .i64 a, .int .i64 b] := (Ba.out.alloc _).call hb
  have kc : Blk w3 (w.heap.size + 1) #[.int .i64 c, .int .i64 d] := (Bc.out.alloc _).call hb
  have km : Blk w3 w1.heap.size #[.int .i64 0, .int .i64 0] := (Bm.out.alloc _).call hb
  have kq : Blk w3 w2.heap.size #[.int .i64 0, .int .i64 0] := (Blk.new _ _ _).call hb
  have kw : Below w.heap.size w w3 := (HW2.out.alloc HW2.out.size _).trans (hb.mono (by have := HW2.out.size; simp; omega))
  clear la ca0 ca1 Ba Bc Bm HW2
  have Ba := Lib.hid ka
  have Bc := Lib.hid kc
  have Bm := Lib.hid km
  have Bq := Lib.hid kq
  have HW3 := Lib.hid kw
  clear hb kw ka kc km kq
  go_wp2_with fail
  refine (alive5 _).mono ?_
  rintro e w4 ⟨rfl, hb⟩
  have ka : Blk w4 w.heap.size #[.int .i64 a, .int .i64 b] := ((Ba.out.alloc _).alloc _).call hb
  have kc : Blk w4 (w.heap.size + 1) #[.int .i64 c, .int .i64 d] := ((Bc.out.alloc _).alloc _).call hb
  have km : Blk w4 w1.heap.size #[.int .i64 0, .int .i64 0] := ((Bm.out.alloc _).alloc _).call hb
  have kq : Blk w4 w2.heap.size #[.int .i64 0, .int .i64 0] := ((Bq.out.alloc _).alloc _).call hb
  have kr : Blk w4 w3.heap.size #[.int .i64 0, .int .i64 0] := ((Blk.new _ _ _).alloc _).call hb
  have kn : Blk w4 (w3.heap.size + 1) #[.int .i64 0, .int .i64 0] := (Blk.newAt (by simp)).call hb
  have kw : Below w.heap.size w w4 := ((HW3.out.alloc HW3.out.size _).alloc (by have := HW3.out.size; simp; omega) _).trans (hb.mono (by have := HW3.out.size; simp; omega))
  clear Ba Bc Bm Bq HW3
  have Ba := Lib.hid ka
  have Bc := Lib.hid kc
  have Bm := Lib.hid km
  have Bq := Lib.hid kq
  have Br := Lib.hid kr
  have Bn := Lib.hid kn
  have HW4 := Lib.hid kw
  clear hb kw ka kc km kq kr kn
  have la := Ba.out.lt
  have ca0 : w4.cell? ⟨w.heap.size, 0, none⟩ = some (.int .i64 a) := Ba.out.cell rfl
  have ca1 : w4.cell? ⟨w.heap.size, 1, none⟩ = some (.int .i64 b) := Ba.out.cell rfl
  go_wp2_with fail
  refine (M4.out _).mono ?_
  rintro e w5 ⟨rfl, hb⟩
  have ka : Blk w5 w.heap.size #[.int .i64 a, .int .i64 b] := Ba.out.call hb
  have kc : Blk w5 (w.heap.size + 1) #[.int .i64 c, .int .i64 d] := Bc.out.call hb
  have km : Blk w5 w1.heap.size #[.int .i64 0, .int .i64 0] := Bm.out.call hb
  have kq : Blk w5 w2.heap.size #[.int .i64 0, .int .i64 0] := Bq.out.call hb
  have kr : Blk w5 w3.heap.size #[.int .i64 0, .int .i64 0] := Br.out.call hb
  have kn : Blk w5 (w3.heap.size + 1) #[.int .i64 0, .int .i64 0] := Bn.out.call hb
  have kw : Below w.heap.size w w5 := HW4.out.trans (hb.mono HW4.out.size)
  clear la ca0 ca1 Ba Bc Bm Bq Br Bn HW4
  have Ba := Lib.hid ka
  have Bc := Lib.hid kc
  have Bm := Lib.hid km
  have Bq := Lib.hid kq
  have Br := Lib.hid kr
  have Bn := Lib.hid kn
  have HW5 := Lib.hid kw
  clear hb kw ka kc km kq kr kn
  have e0 := eqS0'
  have la := Ba.out.lt
  have ca0 : w5.cell? ⟨w.heap.size, 0, none⟩ = some (.int .i64 a) := Ba.out.cell rfl
  have ca1 : w5.cell? ⟨w.heap.size, 1, none⟩ = some (.int .i64 b) := Ba.out.cell rfl
  have lr := Br.out.lt
  have cr0 : w5.cell? ⟨w3.heap.size, 0, none⟩ = some (.int .i64 0) := Br.out.cell rfl
  have cr1 : w5.cell? ⟨w3.heap.size, 1, none⟩ = some (.int .i64 0) := Br.out.cell rfl
  have ln := Bn.out.lt
  have cn0 : w5.cell? ⟨(w3.heap.size + 1), 0, none⟩ = some (.int .i64 0) := Bn.out.cell rfl
  have cn1 : w5.cell? ⟨(w3.heap.size + 1), 1, none⟩ = some (.int .i64 0) := Bn.out.cell rfl
  have lc := Bc.out.lt
  have cc0 : w5.cell? ⟨(w.heap.size + 1), 0, none⟩ = some (.int .i64 c) := Bc.out.cell rfl
  have cc1 : w5.cell? ⟨(w.heap.size + 1), 1, none⟩ = some (.int .i64 d) := Bc.out.cell rfl
  go_wp2_with fail
  refine (M5.out _).mono ?_
  rintro e w6 ⟨rfl, hb⟩
  have ka : Blk w6 w.heap.size #[.int .i64 a, .int .i64 b] := Ba.out.call hb
  have kc : Blk w6 (w.heap.size + 1) #[.int .i64 c, .int .i64 d] := Bc.out.call hb
  have km : Blk w6 w1.heap.size #[.int .i64 0, .int .i64 0] := Bm.out.call hb
  have kq : Blk w6 w2.heap.size #[.int .i64 0, .int .i64 0] := Bq.out.call hb
  have kr : Blk w6 w3.heap.size #[.int .i64 0, .int .i64 0] := Br.out.call hb
  have kn : Blk w6 (w3.heap.size + 1) #[.int .i64 0, .int .i64 0] := Bn.out.call hb
  have kw : Below w.heap.size w w6 := HW5.out.trans (hb.mono HW5.out.size)
  clear la ca0 ca1 lr cr0 cr1 ln cn0 cn1 lc cc0 cc1 Ba Bc Bm Bq Br Bn HW5
  have Ba := Lib.hid ka
  have Bc := Lib.hid kc
  have Bm := Lib.hid km
  have Bq := Lib.hid kq
  have Br := Lib.hid kr
  have Bn := Lib.hid kn
  have HW6 := Lib.hid kw
  clear hb kw ka kc km kq kr kn
  have lm := Bm.out.lt
  have cm0 : w6.cell? ⟨w1.heap.size, 0, none⟩ = some (.int .i64 0) := Bm.out.cell rfl
  have cm1 : w6.cell? ⟨w1.heap.size, 1, none⟩ = some (.int .i64 0) := Bm.out.cell rfl
  have lq := Bq.out.lt
  have cq0 : w6.cell? ⟨w2.heap.size, 0, none⟩ = some (.int .i64 0) := Bq.out.cell rfl
  have cq1 : w6.cell? ⟨w2.heap.size, 1, none⟩ = some (.int .i64 0) := Bq.out.cell rfl
  have ln := Bn.out.lt
  have cn0 : w6.cell? ⟨(w3.heap.size + 1), 0, none⟩ = some (.int .i64 0) := Bn.out.cell rfl
  have cn1 : w6.cell? ⟨(w3.heap.size + 1), 1, none⟩ = some (.int .i64 0) := Bn.out.cell rfl
  go_wp2_with fail
  go_ret
  exact ⟨rfl, HW6.out⟩
set_option maxRecDepth 100000 in
set_option maxHeartbeats 2000000 in
theorem stimes_low_zero (a b c d y0 y1 ye : Int) (w : World) (h0 : a < 0)
    (m1 : ∀ w, Calls Try.prog 19 #[.agg #[.int .i64 a, .int .i64 b], .agg #[.int .i64 c, .int .i64 d]] w fun en w' => en = .returned (.tuple #[.agg #[.int .i64 y0, .int .i64 y1], .int .i64 ye]) ∧ Below w.heap.size w w')
    (m2 : ∀ w, Calls Try.prog 20 #[.agg #[.int .i64 a, .int .i64 b], .agg #[.int .i64 c, .int .i64 d]] w fun en w' => en = .returned (.tuple #[.agg #[.int .i64 0, .int .i64 0], .int .i64 4]) ∧ Below w.heap.size w w')
    (m3 : ∀ w, Calls Try.prog 21 #[.agg #[.int .i64 a, .int .i64 b]] w fun en w' => en = .returned (.tuple #[.agg #[.int .i64 0, .int .i64 0], .int .i64 3]) ∧ Below w.heap.size w w')
    (m4 : ∀ w, Calls Try.prog 12 #[.agg #[.int .i64 a, .int .i64 b]] w fun en w' => en = .returned (.bool true) ∧ Below w.heap.size w w')
    (m5 : ∀ w, Calls Try.prog 12 #[.agg #[.int .i64 c, .int .i64 d]] w fun en w' => en = .returned (.bool true) ∧ Below w.heap.size w w')
    (n2 : ∀ w, Calls Try.prog 23 #[.agg #[.int .i64 a, .int .i64 b], .agg #[.int .i64 c, .int .i64 d]] w fun en w' => en = .returned (.tuple #[.agg #[.int .i64 y0, .int .i64 y1], .int .i64 ye]) ∧ Below w.heap.size w w')
    (n3 : ∀ w, Calls Try.prog 14 #[.agg #[.int .i64 c, .int .i64 d], .int .i64 0] w fun en w' => en = .returned (.bool true) ∧ Below w.heap.size w w') :
    Calls Try.prog 4 #[.agg #[.int .i64 a, .int .i64 b], .agg #[.int .i64 c, .int .i64 d]] w fun en w' => en = .returned (.bool true) ∧ Below w.heap.size w w' := by
  have M1 := Lib.hid m1; have M2 := Lib.hid m2; have M3 := Lib.hid m3; have M4 := Lib.hid m4; have M5 := Lib.hid m5; have N2 := Lib.hid n2; have N3 := Lib.hid n3
  clear m1 m2 m3 m4 m5 n2 n3
  go_enter Try.func4, Try.ntmps4
  go_wp2_with fail
  refine (M1.out _).mono ?_
  rintro e w1 ⟨rfl, hb⟩
  have ka : Blk w1 w.heap.size #[.int .i64 a, .int .i64 b] := ((Blk.new _ _ _).alloc _).call hb
  have kc : Blk w1 (w.heap.size + 1) #[.int .i64 c, .int .i64 d] := (Blk.newAt (by simp)).call hb
  have kw : Below w.heap.size w w1 := (((Below.refl w.heap.size w).alloc (Nat.le_refl _) _).alloc (by simp) _).trans (hb.mono (by simp; omega))
  have Ba := Lib.hid ka
  have Bc := Lib.hid kc
  have HW1 := Lib.hid kw
  clear hb kw ka kc
  have la := Ba.out.lt
  have ca0 : w1.cell? ⟨w.heap.size, 0, none⟩ = some (.int .i64 a) := Ba.out.cell rfl
  have ca1 : w1.cell? ⟨w.heap.size, 1, none⟩ = some (.int .i64 b) := Ba.out.cell rfl
  have lc := Bc.out.lt
  have cc0 : w1.cell? ⟨(w.heap.size + 1), 0, none⟩ = some (.int .i64 c) := Bc.out.cell rfl
  have cc1 : w1.cell? ⟨(w.heap.size + 1), 1, none⟩ = some (.int .i64 d) := Bc.out.cell rfl
  go_wp2_with fail
  refine (M2.out _).mono ?_
  rintro e w2 ⟨rfl, hb⟩
  have ka : Blk w2 w.heap.size #[.int .i64 a, .int .i64 b] := (Ba.out.alloc _).call hb
  have kc : Blk w2 (w.heap.size + 1) #[.int .i64 c, .int .i64 d] := (Bc.out.alloc _).call hb
  have km : Blk w2 w1.heap.size #[.int .i64 y0, .int .i64 y1] := (Blk.new _ _ _).call hb
  have kw : Below w.heap.size w w2 := (HW1.out.alloc HW1.out.size _).trans (hb.mono (by have := HW1.out.size; simp; omega))
  clear la ca0 ca1 lc cc0 cc1 Ba Bc HW1
  have Ba := Lib.hid ka
  have Bc := Lib.hid kc
  have Bm := Lib.hid km
  have HW2 := Lib.hid kw
  clear hb kw ka kc km
  have la := Ba.out.lt
  have ca0 : w2.cell? ⟨w.heap.size, 0, none⟩ = some (.int .i64 a) := Ba.out.cell rfl
  have ca1 : w2.cell? ⟨w.heap.size, 1, none⟩ = some (.int .i64 b) := Ba.out.cell rfl
  go_wp2_with fail
  refine (M3.out _).mono ?_
  rintro e w3 ⟨rfl, hb⟩
  have ka : Blk w3 w.heap.size #[.int .i64 a, .int .i64 b] := (Ba.out.alloc _).call hb
  have kc : Blk w3 (w.heap.size + 1) #[.int .i64 c, .int .i64 d] := (Bc.out.alloc _).call hb
  have km : Blk w3 w1.heap.size #[.int .i64 y0, .int .i64 y1] := (Bm.out.alloc _).call hb
  have kq : Blk w3 w2.heap.size #[.int .i64 0, .int .i64 0] := (Blk.new _ _ _).call hb
  have kw : Below w.heap.size w w3 := (HW2.out.alloc HW2.out.size _).trans (hb.mono (by have := HW2.out.size; simp; omega))
  clear la ca0 ca1 Ba Bc Bm HW2
  have Ba := Lib.hid ka
  have Bc := Lib.hid kc
  have Bm := Lib.hid km
  have Bq := Lib.hid kq
  have HW3 := Lib.hid kw
  clear hb kw ka kc km kq
  go_wp2_with fail
  refine (alive5 _).mono ?_
  rintro e w4 ⟨rfl, hb⟩
  have ka : Blk w4 w.heap.size #[.int .i64 a, .int .i64 b] := ((Ba.out.alloc _).alloc _).call hb
  have kc : Blk w4 (w.heap.size + 1) #[.int .i64 c, .int .i64 d] := ((Bc.out.alloc _).alloc _).call hb
  have km : Blk w4 w1.heap.size #[.int .i64 y0, .int .i64 y1] := ((Bm.out.alloc _).alloc _).call hb
  have kq : Blk w4 w2.heap.size #[.int .i64 0, .int .i64 0] := ((Bq.out.alloc _).alloc _).call hb
  have kr : Blk w4 w3.heap.size #[.int .i64 0, .int .i64 0] := ((Blk.new _ _ _).alloc _).call hb
  have kn : Blk w4 (w3.heap.size + 1) #[.int .i64 0, .int .i64 0] := (Blk.newAt (by simp)).call hb
  have kw : Below w.heap.size w w4 := ((HW3.out.alloc HW3.out.size _).alloc (by have := HW3.out.size; simp; omega) _).trans (hb.mono (by have := HW3.out.size; simp; omega))
  clear Ba Bc Bm Bq HW3
  have Ba := Lib.hid ka
  have Bc := Lib.hid kc
  have Bm := Lib.hid km
  have Bq := Lib.hid kq
  have Br := Lib.hid kr
  have Bn := Lib.hid kn
  have HW4 := Lib.hid kw
  clear hb kw ka kc km kq kr kn
  have la := Ba.out.lt
  have ca0 : w4.cell? ⟨w.heap.size, 0, none⟩ = some (.int .i64 a) := Ba.out.cell rfl
  have ca1 : w4.cell? ⟨w.heap.size, 1, none⟩ = some (.int .i64 b) := Ba.out.cell rfl
  go_wp2_with fail
  refine (M4.out _).mono ?_
  rintro e w5 ⟨rfl, hb⟩
  have ka : Blk w5 w.heap.size #[.int .i64 a, .int .i64 b] := Ba.out.call hb
  have kc : Blk w5 (w.heap.size + 1) #[.int .i64 c, .int .i64 d] := Bc.out.call hb
  have km : Blk w5 w1.heap.size #[.int .i64 y0, .int .i64 y1] := Bm.out.call hb
  have kq : Blk w5 w2.heap.size #[.int .i64 0, .int .i64 0] := Bq.out.call hb
  have kr : Blk w5 w3.heap.size #[.int .i64 0, .int .i64 0] := Br.out.call hb
  have kn : Blk w5 (w3.heap.size + 1) #[.int .i64 0, .int .i64 0] := Bn.out.call hb
  have kw : Below w.heap.size w w5 := HW4.out.trans (hb.mono HW4.out.size)
  clear la ca0 ca1 Ba Bc Bm Bq Br Bn HW4
  have Ba := Lib.hid ka
  have Bc := Lib.hid kc
  have Bm := Lib.hid km
  have Bq := Lib.hid kq
  have Br := Lib.hid kr
  have Bn := Lib.hid kn
  have HW5 := Lib.hid kw
  clear hb kw ka kc km kq kr kn
  have e0 := eqS0'
  have em := eqS' y0 y1
  have la := Ba.out.lt
  have ca0 : w5.cell? ⟨w.heap.size, 0, none⟩ = some (.int .i64 a) := Ba.out.cell rfl
  have ca1 : w5.cell? ⟨w.heap.size, 1, none⟩ = some (.int .i64 b) := Ba.out.cell rfl
  have lr := Br.out.lt
  have cr0 : w5.cell? ⟨w3.heap.size, 0, none⟩ = some (.int .i64 0) := Br.out.cell rfl
  have cr1 : w5.cell? ⟨w3.heap.size, 1, none⟩ = some (.int .i64 0) := Br.out.cell rfl
  have ln := Bn.out.lt
  have cn0 : w5.cell? ⟨(w3.heap.size + 1), 0, none⟩ = some (.int .i64 0) := Bn.out.cell rfl
  have cn1 : w5.cell? ⟨(w3.heap.size + 1), 1, none⟩ = some (.int .i64 0) := Bn.out.cell rfl
  have lc := Bc.out.lt
  have cc0 : w5.cell? ⟨(w.heap.size + 1), 0, none⟩ = some (.int .i64 c) := Bc.out.cell rfl
  have cc1 : w5.cell? ⟨(w.heap.size + 1), 1, none⟩ = some (.int .i64 d) := Bc.out.cell rfl
  go_wp2_with fail
  refine (M5.out _).mono ?_
  rintro e w6 ⟨rfl, hb⟩
  have ka : Blk w6 w.heap.size #[.int .i64 a, .int .i64 b] := Ba.out.call hb
  have kc : Blk w6 (w.heap.size + 1) #[.int .i64 c, .int .i64 d] := Bc.out.call hb
  have km : Blk w6 w1.heap.size #[.int .i64 y0, .int .i64 y1] := Bm.out.call hb
  have kq : Blk w6 w2.heap.size #[.int .i64 0, .int .i64 0] := Bq.out.call hb
  have kr : Blk w6 w3.heap.size #[.int .i64 0, .int .i64 0] := Br.out.call hb
  have kn : Blk w6 (w3.heap.size + 1) #[.int .i64 0, .int .i64 0] := Bn.out.call hb
  have kw : Below w.heap.size w w6 := HW5.out.trans (hb.mono HW5.out.size)
  clear la ca0 ca1 lr cr0 cr1 ln cn0 cn1 lc cc0 cc1 Ba Bc Bm Bq Br Bn HW5
  have Ba := Lib.hid ka
  have Bc := Lib.hid kc
  have Bm := Lib.hid km
  have Bq := Lib.hid kq
  have Br := Lib.hid kr
  have Bn := Lib.hid kn
  have HW6 := Lib.hid kw
  clear hb kw ka kc km kq kr kn
  have la := Ba.out.lt
  have ca0 : w6.cell? ⟨w.heap.size, 0, none⟩ = some (.int .i64 a) := Ba.out.cell rfl
  have ca1 : w6.cell? ⟨w.heap.size, 1, none⟩ = some (.int .i64 b) := Ba.out.cell rfl
  have lc := Bc.out.lt
  have cc0 : w6.cell? ⟨(w.heap.size + 1), 0, none⟩ = some (.int .i64 c) := Bc.out.cell rfl
  have cc1 : w6.cell? ⟨(w.heap.size + 1), 1, none⟩ = some (.int .i64 d) := Bc.out.cell rfl
  go_wp2_with fail
  refine (N2.out _).mono ?_
  rintro e w7 ⟨rfl, hb⟩
  have ka : Blk w7 w.heap.size #[.int .i64 a, .int .i64 b] := Ba.out.call hb
  have kc : Blk w7 (w.heap.size + 1) #[.int .i64 c, .int .i64 d] := Bc.out.call hb
  have km : Blk w7 w1.heap.size #[.int .i64 y0, .int .i64 y1] := Bm.out.call hb
  have kq : Blk w7 w2.heap.size #[.int .i64 0, .int .i64 0] := Bq.out.call hb
  have kr : Blk w7 w3.heap.size #[.int .i64 0, .int .i64 0] := Br.out.call hb
  have kn : Blk w7 (w3.heap.size + 1) #[.int .i64 0, .int .i64 0] := Bn.out.call hb
  have kw : Below w.heap.size w w7 := HW6.out.trans (hb.mono HW6.out.size)
  clear la ca0 ca1 lc cc0 cc1 Ba Bc Bm Bq Br Bn HW6
  have Ba := Lib.hid ka
  have Bc := Lib.hid kc
  have Bm := Lib.hid km
  have Bq := Lib.hid kq
  have Br := Lib.hid kr
  have Bn := Lib.hid kn
  have HW7 := Lib.hid kw
  clear hb kw ka kc km kq kr kn
  have lm := Bm.out.lt
  have cm0 : w7.cell? ⟨w1.heap.size, 0, none⟩ = some (.int .i64 y0) := Bm.out.cell rfl
  have cm1 : w7.cell? ⟨w1.heap.size, 1, none⟩ = some (.int .i64 y1) := Bm.out.cell rfl
  have lc := Bc.out.lt
  have cc0 : w7.cell? ⟨(w.heap.size + 1), 0, none⟩ = some (.int .i64 c) := Bc.out.cell rfl
  have cc1 : w7.cell? ⟨(w.heap.size + 1), 1, none⟩ = some (.int .i64 d) := Bc.out.cell rfl
  go_wp2_with fail
  refine (N3.out _).mono ?_
  rintro e w8 ⟨rfl, hb⟩
  have ka : Blk w8 w.heap.size #[.int .i64 a, .int .i64 b] := (Ba.out.alloc _).call hb
  have kc : Blk w8 (w.heap.size + 1) #[.int .i64 c, .int .i64 d] := (Bc.out.alloc _).call hb
  have km : Blk w8 w1.heap.size #[.int .i64 y0, .int .i64 y1] := (Bm.out.alloc _).call hb
  have kq : Blk w8 w2.heap.size #[.int .i64 0, .int .i64 0] := (Bq.out.alloc _).call hb
  have kr : Blk w8 w3.heap.size #[.int .i64 0, .int .i64 0] := (Br.out.alloc _).call hb
  have kn : Blk w8 (w3.heap.size + 1) #[.int .i64 0, .int .i64 0] := (Bn.out.alloc _).call hb
  have kp : Blk w8 w7.heap.size #[.int .i64 y0, .int .i64 y1] := (Blk.new _ _ _).call hb
  have kw : Below w.heap.size w w8 := (HW7.out.alloc HW7.out.size _).trans (hb.mono (by have := HW7.out.size; simp; omega))
  clear lm cm0 cm1 lc cc0 cc1 Ba Bc Bm Bq Br Bn HW7
  have Ba := Lib.hid ka
  have Bc := Lib.hid kc
  have Bm := Lib.hid km
  have Bq := Lib.hid kq
  have Br := Lib.hid kr
  have Bn := Lib.hid kn
  have Bp := Lib.hid kp
  have HW8 := Lib.hid kw
  clear hb kw ka kc km kq kr kn kp
  have lq := Bq.out.lt
  have cq0 : w8.cell? ⟨w2.heap.size, 0, none⟩ = some (.int .i64 0) := Bq.out.cell rfl
  have cq1 : w8.cell? ⟨w2.heap.size, 1, none⟩ = some (.int .i64 0) := Bq.out.cell rfl
  have ln := Bn.out.lt
  have cn0 : w8.cell? ⟨(w3.heap.size + 1), 0, none⟩ = some (.int .i64 0) := Bn.out.cell rfl
  have cn1 : w8.cell? ⟨(w3.heap.size + 1), 1, none⟩ = some (.int .i64 0) := Bn.out.cell rfl
  go_wp2_with fail
  go_ret
  exact ⟨rfl, HW8.out⟩
set_option maxRecDepth 100000 in
set_option maxHeartbeats 2000000 in
theorem stimes_low_all (a b c d y0 y1 ye d0 d1 de : Int) (w : World) (h0 : a < 0)
    (m1 : ∀ w, Calls Try.prog 19 #[.agg #[.int .i64 a, .int .i64 b], .agg #[.int .i64 c, .int .i64 d]] w fun en w' => en = .returned (.tuple #[.agg #[.int .i64 y0, .int .i64 y1], .int .i64 ye]) ∧ Below w.heap.size w w')
    (m2 : ∀ w, Calls Try.prog 20 #[.agg #[.int .i64 a, .int .i64 b], .agg #[.int .i64 c, .int .i64 d]] w fun en w' => en = .returned (.tuple #[.agg #[.int .i64 d0, .int .i64 d1], .int .i64 de]) ∧ Below w.heap.size w w')
    (m3 : ∀ w, Calls Try.prog 21 #[.agg #[.int .i64 a, .int .i64 b]] w fun en w' => en = .returned (.tuple #[.agg #[.int .i64 0, .int .i64 0], .int .i64 3]) ∧ Below w.heap.size w w')
    (m4 : ∀ w, Calls Try.prog 12 #[.agg #[.int .i64 a, .int .i64 b]] w fun en w' => en = .returned (.bool true) ∧ Below w.heap.size w w')
    (m5 : ∀ w, Calls Try.prog 12 #[.agg #[.int .i64 c, .int .i64 d]] w fun en w' => en = .returned (.bool true) ∧ Below w.heap.size w w')
    (n2 : ∀ w, Calls Try.prog 23 #[.agg #[.int .i64 a, .int .i64 b], .agg #[.int .i64 c, .int .i64 d]] w fun en w' => en = .returned (.tuple #[.agg #[.int .i64 y0, .int .i64 y1], .int .i64 ye]) ∧ Below w.heap.size w w')
    (n3 : ∀ w, Calls Try.prog 14 #[.agg #[.int .i64 c, .int .i64 d], .int .i64 0] w fun en w' => en = .returned (.bool false) ∧ Below w.heap.size w w')
    (n4 : ∀ w, Calls Try.prog 24 #[.agg #[.int .i64 a, .int .i64 b], .agg #[.int .i64 c, .int .i64 d]] w fun en w' => en = .returned (.tuple #[.agg #[.int .i64 d0, .int .i64 d1], .int .i64 de]) ∧ Below w.heap.size w w') :
    Calls Try.prog 4 #[.agg #[.int .i64 a, .int .i64 b], .agg #[.int .i64 c, .int .i64 d]] w fun en w' => en = .returned (.bool true) ∧ Below w.heap.size w w' := by
  have M1 := Lib.hid m1; have M2 := Lib.hid m2; have M3 := Lib.hid m3; have M4 := Lib.hid m4; have M5 := Lib.hid m5; have N2 := Lib.hid n2; have N3 := Lib.hid n3; have N4 := Lib.hid n4
  clear m1 m2 m3 m4 m5 n2 n3 n4
  go_enter Try.func4, Try.ntmps4
  go_wp2_with fail
  refine (M1.out _).mono ?_
  rintro e w1 ⟨rfl, hb⟩
  have ka : Blk w1 w.heap.size #[.int .i64 a, .int .i64 b] := ((Blk.new _ _ _).alloc _).call hb
  have kc : Blk w1 (w.heap.size + 1) #[.int .i64 c, .int .i64 d] := (Blk.newAt (by simp)).call hb
  have kw : Below w.heap.size w w1 := (((Below.refl w.heap.size w).alloc (Nat.le_refl _) _).alloc (by simp) _).trans (hb.mono (by simp; omega))
  have Ba := Lib.hid ka
  have Bc := Lib.hid kc
  have HW1 := Lib.hid kw
  clear hb kw ka kc
  have la := Ba.out.lt
  have ca0 : w1.cell? ⟨w.heap.size, 0, none⟩ = some (.int .i64 a) := Ba.out.cell rfl
  have ca1 : w1.cell? ⟨w.heap.size, 1, none⟩ = some (.int .i64 b) := Ba.out.cell rfl
  have lc := Bc.out.lt
  have cc0 : w1.cell? ⟨(w.heap.size + 1), 0, none⟩ = some (.int .i64 c) := Bc.out.cell rfl
  have cc1 : w1.cell? ⟨(w.heap.size + 1), 1, none⟩ = some (.int .i64 d) := Bc.out.cell rfl
  go_wp2_with fail
  refine (M2.out _).mono ?_
  rintro e w2 ⟨rfl, hb⟩
  have ka : Blk w2 w.heap.size #[.int .i64 a, .int .i64 b] := (Ba.out.alloc _).call hb
  have kc : Blk w2 (w.heap.size + 1) #[.int .i64 c, .int .i64 d] := (Bc.out.alloc _).call hb
  have km : Blk w2 w1.heap.size #[.int .i64 y0, .int .i64 y1] := (Blk.new _ _ _).call hb
  have kw : Below w.heap.size w w2 := (HW1.out.alloc HW1.out.size _).trans (hb.mono (by have := HW1.out.size; simp; omega))
  clear la ca0 ca1 lc cc0 cc1 Ba Bc HW1
  have Ba := Lib.hid ka
  have Bc := Lib.hid kc
  have Bm := Lib.hid km
  have HW2 := Lib.hid kw
  clear hb kw ka kc km
  have la := Ba.out.lt
  have ca0 : w2.cell? ⟨w.heap.size, 0, none⟩ = some (.int .i64 a) := Ba.out.cell rfl
  have ca1 : w2.cell? ⟨w.heap.size, 1, none⟩ = some (.int .i64 b) := Ba.out.cell rfl
  go_wp2_with fail
  refine (M3.out _).mono ?_
  rintro e w3 ⟨rfl, hb⟩
  have ka : Blk w3 w.heap.size #[.int .i64 a, .int .i64 b] := (Ba.out.alloc _).call hb
  have kc : Blk w3 (w.heap.size + 1) #[.int .i64 c, .int .i64 d] := (Bc.out.alloc _).call hb
  have km : Blk w3 w1.heap.size #[.int .i64 y0, .int .i64 y1] := (Bm.out.alloc _).call hb
  have kq : Blk w3 w2.heap.size #[.int .i64 d0, .int .i64 d1] := (Blk.new _ _ _).call hb
  have kw : Below w.heap.size w w3 := (HW2.out.alloc HW2.out.size _).trans (hb.mono (by have := HW2.out.size; simp; omega))
  clear la ca0 ca1 Ba Bc Bm HW2
  have Ba := Lib.hid ka
  have Bc := Lib.hid kc
  have Bm := Lib.hid km
  have Bq := Lib.hid kq
  have HW3 := Lib.hid kw
  clear hb kw ka kc km kq
  go_wp2_with fail
  refine (alive5 _).mono ?_
  rintro e w4 ⟨rfl, hb⟩
  have ka : Blk w4 w.heap.size #[.int .i64 a, .int .i64 b] := ((Ba.out.alloc _).alloc _).call hb
  have kc : Blk w4 (w.heap.size + 1) #[.int .i64 c, .int .i64 d] := ((Bc.out.alloc _).alloc _).call hb
  have km : Blk w4 w1.heap.size #[.int .i64 y0, .int .i64 y1] := ((Bm.out.alloc _).alloc _).call hb
  have kq : Blk w4 w2.heap.size #[.int .i64 d0, .int .i64 d1] := ((Bq.out.alloc _).alloc _).call hb
  have kr : Blk w4 w3.heap.size #[.int .i64 0, .int .i64 0] := ((Blk.new _ _ _).alloc _).call hb
  have kn : Blk w4 (w3.heap.size + 1) #[.int .i64 0, .int .i64 0] := (Blk.newAt (by simp)).call hb
  have kw : Below w.heap.size w w4 := ((HW3.out.alloc HW3.out.size _).alloc (by have := HW3.out.size; simp; omega) _).trans (hb.mono (by have := HW3.out.size; simp; omega))
  clear Ba Bc Bm Bq HW3
  have Ba := Lib.hid ka
  have Bc := Lib.hid kc
  have Bm := Lib.hid km
  have Bq := Lib.hid kq
  have Br := Lib.hid kr
  have Bn := Lib.hid kn
  have HW4 := Lib.hid kw
  clear hb kw ka kc km kq kr kn
  have la := Ba.out.lt
  have ca0 : w4.cell? ⟨w.heap.size, 0, none⟩ = some (.int .i64 a) := Ba.out.cell rfl
  have ca1 : w4.cell? ⟨w.heap.size, 1, none⟩ = some (.int .i64 b) := Ba.out.cell rfl
  go_wp2_with fail
  refine (M4.out _).mono ?_
  rintro e w5 ⟨rfl, hb⟩
  have ka : Blk w5 w.heap.size #[.int .i64 a, .int .i64 b] := Ba.out.call hb
  have kc : Blk w5 (w.heap.size + 1) #[.int .i64 c, .int .i64 d] := Bc.out.call hb
  have km : Blk w5 w1.heap.size #[.int .i64 y0, .int .i64 y1] := Bm.out.call hb
  have kq : Blk w5 w2.heap.size #[.int .i64 d0, .int .i64 d1] := Bq.out.call hb
  have kr : Blk w5 w3.heap.size #[.int .i64 0, .int .i64 0] := Br.out.call hb
  have kn : Blk w5 (w3.heap.size + 1) #[.int .i64 0, .int .i64 0] := Bn.out.call hb
  have kw : Below w.heap.size w w5 := HW4.out.trans (hb.mono HW4.out.size)
  clear la ca0 ca1 Ba Bc Bm Bq Br Bn HW4
  have Ba := Lib.hid ka
  have Bc := Lib.hid kc
  have Bm := Lib.hid km
  have Bq := Lib.hid kq
  have Br := Lib.hid kr
  have Bn := Lib.hid kn
  have HW5 := Lib.hid kw
  clear hb kw ka kc km kq kr kn
  have e0 := eqS0'
  have em := eqS' y0 y1
  have ed := eqS' d0 d1
  have la := Ba.out.lt
  have ca0 : w5.cell? ⟨w.heap.size, 0, none⟩ = some (.int .i64 a) := Ba.out.cell rfl
  have ca1 : w5.cell? ⟨w.heap.size, 1, none⟩ = some (.int .i64 b) := Ba.out.cell rfl
  have lr := Br.out.lt
  have cr0 : w5.cell? ⟨w3.heap.size, 0, none⟩ = some (.int .i64 0) := Br.out.cell rfl
  have cr1 : w5.cell? ⟨w3.heap.size, 1, none⟩ = some (.int .i64 0) := Br.out.cell rfl
  have ln := Bn.out.lt
  have cn0 : w5.cell? ⟨(w3.heap.size + 1), 0, none⟩ = some (.int .i64 0) := Bn.out.cell rfl
  have cn1 : w5.cell? ⟨(w3.heap.size + 1), 1, none⟩ = some (.int .i64 0) := Bn.out.cell rfl
  have lc := Bc.out.lt
  have cc0 : w5.cell? ⟨(w.heap.size + 1), 0, none⟩ = some (.int .i64 c) := Bc.out.cell rfl
  have cc1 : w5.cell? ⟨(w.heap.size + 1), 1, none⟩ = some (.int .i64 d) := Bc.out.cell rfl
  go_wp2_with fail
  refine (M5.out _).mono ?_
  rintro e w6 ⟨rfl, hb⟩
  have ka : Blk w6 w.heap.size #[.int .i64 a, .int .i64 b] := Ba.out.call hb
  have kc : Blk w6 (w.heap.size + 1) #[.int .i64 c, .int .i64 d] := Bc.out.call hb
  have km : Blk w6 w1.heap.size #[.int .i64 y0, .int .i64 y1] := Bm.out.call hb
  have kq : Blk w6 w2.heap.size #[.int .i64 d0, .int .i64 d1] := Bq.out.call hb
  have kr : Blk w6 w3.heap.size #[.int .i64 0, .int .i64 0] := Br.out.call hb
  have kn : Blk w6 (w3.heap.size + 1) #[.int .i64 0, .int .i64 0] := Bn.out.call hb
  have kw : Below w.heap.size w w6 := HW5.out.trans (hb.mono HW5.out.size)
  clear la ca0 ca1 lr cr0 cr1 ln cn0 cn1 lc cc0 cc1 Ba Bc Bm Bq Br Bn HW5
  have Ba := Lib.hid ka
  have Bc := Lib.hid kc
  have Bm := Lib.hid km
  have Bq := Lib.hid kq
  have Br := Lib.hid kr
  have Bn := Lib.hid kn
  have HW6 := Lib.hid kw
  clear hb kw ka kc km kq kr kn
  have la := Ba.out.lt
  have ca0 : w6.cell? ⟨w.heap.size, 0, none⟩ = some (.int .i64 a) := Ba.out.cell rfl
  have ca1 : w6.cell? ⟨w.heap.size, 1, none⟩ = some (.int .i64 b) := Ba.out.cell rfl
  have lc := Bc.out.lt
  have cc0 : w6.cell? ⟨(w.heap.size + 1), 0, none⟩ = some (.int .i64 c) := Bc.out.cell rfl
  have cc1 : w6.cell? ⟨(w.heap.size + 1), 1, none⟩ = some (.int .i64 d) := Bc.out.cell rfl
  go_wp2_with fail
  refine (N2.out _).mono ?_
  rintro e w7 ⟨rfl, hb⟩
  have ka : Blk w7 w.heap.size #[.int .i64 a, .int .i64 b] := Ba.out.call hb
  have kc : Blk w7 (w.heap.size + 1) #[.int .i64 c, .int .i64 d] := Bc.out.call hb
  have km : Blk w7 w1.heap.size #[.int .i64 y0, .int .i64 y1] := Bm.out.call hb
  have kq : Blk w7 w2.heap.size #[.int .i64 d0, .int .i64 d1] := Bq.out.call hb
  have kr : Blk w7 w3.heap.size #[.int .i64 0, .int .i64 0] := Br.out.call hb
  have kn : Blk w7 (w3.heap.size + 1) #[.int .i64 0, .int .i64 0] := Bn.out.call hb
  have kw : Below w.heap.size w w7 := HW6.out.trans (hb.mono HW6.out.size)
  clear la ca0 ca1 lc cc0 cc1 Ba Bc Bm Bq Br Bn HW6
  have Ba := Lib.hid ka
  have Bc := Lib.hid kc
  have Bm := Lib.hid km
  have Bq := Lib.hid kq
  have Br := Lib.hid kr
  have Bn := Lib.hid kn
  have HW7 := Lib.hid kw
  clear hb kw ka kc km kq kr kn
  have lm := Bm.out.lt
  have cm0 : w7.cell? ⟨w1.heap.size, 0, none⟩ = some (.int .i64 y0) := Bm.out.cell rfl
  have cm1 : w7.cell? ⟨w1.heap.size, 1, none⟩ = some (.int .i64 y1) := Bm.out.cell rfl
  have lc := Bc.out.lt
  have cc0 : w7.cell? ⟨(w.heap.size + 1), 0, none⟩ = some (.int .i64 c) := Bc.out.cell rfl
  have cc1 : w7.cell? ⟨(w.heap.size + 1), 1, none⟩ = some (.int .i64 d) := Bc.out.cell rfl
  go_wp2_with fail
  refine (N3.out _).mono ?_
  rintro e w8 ⟨rfl, hb⟩
  have ka : Blk w8 w.heap.size #[.int .i64 a, .int .i64 b] := (Ba.out.alloc _).call hb
  have kc : Blk w8 (w.heap.size + 1) #[.int .i64 c, .int .i64 d] := (Bc.out.alloc _).call hb
  have km : Blk w8 w1.heap.size #[.int .i64 y0, .int .i64 y1] := (Bm.out.alloc _).call hb
  have kq : Blk w8 w2.heap.size #[.int .i64 d0, .int .i64 d1] := (Bq.out.alloc _).call hb
  have kr : Blk w8 w3.heap.size #[.int .i64 0, .int .i64 0] := (Br.out.alloc _).call hb
  have kn : Blk w8 (w3.heap.size + 1) #[.int .i64 0, .int .i64 0] := (Bn.out.alloc _).call hb
  have kp : Blk w8 w7.heap.size #[.int .i64 y0, .int .i64 y1] := (Blk.new _ _ _).call hb
  have kw : Below w.heap.size w w8 := (HW7.out.alloc HW7.out.size _).trans (hb.mono (by have := HW7.out.size; simp; omega))
  clear lm cm0 cm1 lc cc0 cc1 Ba Bc Bm Bq Br Bn HW7
  have Ba := Lib.hid ka
  have Bc := Lib.hid kc
  have Bm := Lib.hid km
  have Bq := Lib.hid kq
  have Br := Lib.hid kr
  have Bn := Lib.hid kn
  have Bp := Lib.hid kp
  have HW8 := Lib.hid kw
  clear hb kw ka kc km kq kr kn kp
  have la := Ba.out.lt
  have ca0 : w8.cell? ⟨w.heap.size, 0, none⟩ = some (.int .i64 a) := Ba.out.cell rfl
  have ca1 : w8.cell? ⟨w.heap.size, 1, none⟩ = some (.int .i64 b) := Ba.out.cell rfl
  have lc := Bc.out.lt
  have cc0 : w8.cell? ⟨(w.heap.size + 1), 0, none⟩ = some (.int .i64 c) := Bc.out.cell rfl
  have cc1 : w8.cell? ⟨(w.heap.size + 1), 1, none⟩ = some (.int .i64 d) := Bc.out.cell rfl
  go_wp2_with fail
  refine (N4.out _).mono ?_
  rintro e w9 ⟨rfl, hb⟩
  have ka : Blk w9 w.heap.size #[.int .i64 a, .int .i64 b] := Ba.out.call hb
  have kc : Blk w9 (w.heap.size + 1) #[.int .i64 c, .int .i64 d] := Bc.out.call hb
  have km : Blk w9 w1.heap.size #[.int .i64 y0, .int .i64 y1] := Bm.out.call hb
  have kq : Blk w9 w2.heap.size #[.int .i64 d0, .int .i64 d1] := Bq.out.call hb
  have kr : Blk w9 w3.heap.size #[.int .i64 0, .int .i64 0] := Br.out.call hb
  have kn : Blk w9 (w3.heap.size + 1) #[.int .i64 0, .int .i64 0] := Bn.out.call hb
  have kp : Blk w9 w7.heap.size #[.int .i64 y0, .int .i64 y1] := Bp.out.call hb
  have kw : Below w.heap.size w w9 := HW8.out.trans (hb.mono HW8.out.size)
  clear la ca0 ca1 lc cc0 cc1 Ba Bc Bm Bq Br Bn Bp HW8
  have Ba := Lib.hid ka
  have Bc := Lib.hid kc
  have Bm := Lib.hid km
  have Bq := Lib.hid kq
  have Br := Lib.hid kr
  have Bn := Lib.hid kn
  have Bp := Lib.hid kp
  have HW9 := Lib.hid kw
  clear hb kw ka kc km kq kr kn kp
  have lq := Bq.out.lt
  have cq0 : w9.cell? ⟨w2.heap.size, 0, none⟩ = some (.int .i64 d0) := Bq.out.cell rfl
  have cq1 : w9.cell? ⟨w2.heap.size, 1, none⟩ = some (.int .i64 d1) := Bq.out.cell rfl
  go_wp2_with fail
  go_ret
  exact ⟨rfl, (HW9.out.alloc HW9.out.size _)⟩
set_option maxRecDepth 100000 in
set_option maxHeartbeats 2000000 in
theorem stimes_root_no (a b c d r0 r1 : Int) (w : World) (h0 : ¬ a < 0)
    (m1 : ∀ w, Calls Try.prog 19 #[.agg #[.int .i64 a, .int .i64 b], .agg #[.int .i64 c, .int .i64 d]] w fun en w' => en = .returned (.tuple #[.agg #[.int .i64 0, .int .i64 0], .int .i64 1]) ∧ Below w.heap.size w w')
    (m2 : ∀ w, Calls Try.prog 20 #[.agg #[.int .i64 a, .int .i64 b], .agg #[.int .i64 c, .int .i64 d]] w fun en w' => en = .returned (.tuple #[.agg #[.int .i64 0, .int .i64 0], .int .i64 1]) ∧ Below w.heap.size w w')
    (m3 : ∀ w, Calls Try.prog 21 #[.agg #[.int .i64 a, .int .i64 b]] w fun en w' => en = .returned (.tuple #[.agg #[.int .i64 r0, .int .i64 r1], .int .i64 0]) ∧ Below w.heap.size w w')
    (m4 : ∀ w, Calls Try.prog 12 #[.agg #[.int .i64 a, .int .i64 b]] w fun en w' => en = .returned (.bool true) ∧ Below w.heap.size w w')
    (n1 : ∀ w, Calls Try.prog 22 #[.agg #[.int .i64 a, .int .i64 b]] w fun en w' => en = .returned (.agg #[.int .i64 r0, .int .i64 r1]) ∧ Below w.heap.size w w')
    (m5 : ∀ w, Calls Try.prog 12 #[.agg #[.int .i64 c, .int .i64 d]] w fun en w' => en = .returned (.bool false) ∧ Below w.heap.size w w') :
    Calls Try.prog 4 #[.agg #[.int .i64 a, .int .i64 b], .agg #[.int .i64 c, .int .i64 d]] w fun en w' => en = .returned (.bool true) ∧ Below w.heap.size w w' := by
  have M1 := Lib.hid m1; have M2 := Lib.hid m2; have M3 := Lib.hid m3; have M4 := Lib.hid m4; have N1 := Lib.hid n1; have M5 := Lib.hid m5
  clear m1 m2 m3 m4 n1 m5
  go_enter Try.func4, Try.ntmps4
  go_wp2_with fail
  refine (M1.out _).mono ?_
  rintro e w1 ⟨rfl, hb⟩
  have ka : Blk w1 w.heap.size #[.int .i64 a, .int .i64 b] := ((Blk.new _ _ _).alloc _).call hb
  have kc : Blk w1 (w.heap.size + 1) #[.int .i64 c, .int .i64 d] := (Blk.newAt (by simp)).call hb
  have kw : Below w.heap.size w w1 := (((Below.refl w.heap.size w).alloc (Nat.le_refl _) _).alloc (by simp) _).trans (hb.mono (by simp; omega))
  have Ba := Lib.hid ka
  have Bc := Lib.hid kc
  have HW1 := Lib.hid kw
  clear hb kw ka kc
  have la := Ba.out.lt
  have ca0 : w1.cell? ⟨w.heap.size, 0, none⟩ = some (.int .i64 a) := Ba.out.cell rfl
  have ca1 : w1.cell? ⟨w.heap.size, 1, none⟩ = some (.int .i64 b) := Ba.out.cell rfl
  have lc := Bc.out.lt
  have cc0 : w1.cell? ⟨(w.heap.size + 1), 0, none⟩ = some (.int .i64 c) := Bc.out.cell rfl
  have cc1 : w1.cell? ⟨(w.heap.size + 1), 1, none⟩ = some (.int .i64 d) := Bc.out.cell rfl
  go_wp2_with fail
  refine (M2.out _).mono ?_
  rintro e w2 ⟨rfl, hb⟩
  have ka : Blk w2 w.heap.size #[.int .i64 a, .int .i64 b] := (Ba.out.alloc _).call hb
  have kc : Blk w2 (w.heap.size + 1) #[.int .i64 c, .int .i64 d] := (Bc.out.alloc _).call hb
  have km : Blk w2 w1.heap.size #[.int .i64 0, .int .i64 0] := (Blk.new _ _ _).call hb
  have kw : Below w.heap.size w w2 := (HW1.out.alloc HW1.out.size _).trans (hb.mono (by have := HW1.out.size; simp; omega))
  clear la ca0 ca1 lc cc0 cc1 Ba Bc HW1
  have Ba := Lib.hid ka
  have Bc := Lib.hid kc
  have Bm := Lib.hid km
  have HW2 := Lib.hid kw
  clear hb kw ka kc km
  have la := Ba.out.lt
  have ca0 : w2.cell? ⟨w.heap.size, 0, none⟩ = some (.int .i64 a) := Ba.out.cell rfl
  have ca1 : w2.cell? ⟨w.heap.size, 1, none⟩ = some (.int .i64 b) := Ba.out.cell rfl
  go_wp2_with fail
  refine (M3.out _).mono ?_
  rintro e w3 ⟨rfl, hb⟩
  have ka : Blk w3 w.heap.size #[.int .i64 a, .int .i64 b] := (Ba.out.alloc _).call hb
  have kc : Blk w3 (w.heap.size + 1) #[.int .i64 c, .int .i64 d] := (Bc.out.alloc _).call hb
  have km : Blk w3 w1.heap.size #[.int .i64 0, .int .i64 0] := (Bm.out.alloc _).call hb
  have kq : Blk w3 w2.heap.size #[.int .i64 0, .int .i64 0] := (Blk.new _ _ _).call hb
  have kw : Below w.heap.size w w3 := (HW2.out.alloc HW2.out.size _).trans (hb.mono (by have := HW2.out.size; simp; omega))
  clear la ca0 ca1 Ba Bc Bm HW2
  have Ba := Lib.hid ka
  have Bc := Lib.hid kc
  have Bm := Lib.hid km
  have Bq := Lib.hid kq
  have HW3 := Lib.hid kw
  clear hb kw ka kc km kq
  go_wp2_with fail
  refine (alive5 _).mono ?_
  rintro e w4 ⟨rfl, hb⟩
  have ka : Blk w4 w.heap.size #[.int .i64 a, .int .i64 b] := ((Ba.out.alloc _).alloc _).call hb
  have kc : Blk w4 (w.heap.size + 1) #[.int .i64 c, .int .i64 d] := ((Bc.out.alloc _).alloc _).call hb
  have km : Blk w4 w1.heap.size #[.int .i64 0, .int .i64 0] := ((Bm.out.alloc _).alloc _).call hb
  have kq : Blk w4 w2.heap.size #[.int .i64 0, .int .i64 0] := ((Bq.out.alloc _).alloc _).call hb
  have kr : Blk w4 w3.heap.size #[.int .i64 r0, .int .i64 r1] := ((Blk.new _ _ _).alloc _).call hb
  have kn : Blk w4 (w3.heap.size + 1) #[.int .i64 0, .int .i64 0] := (Blk.newAt (by simp)).call hb
  have kw : Below w.heap.size w w4 := ((HW3.out.alloc HW3.out.size _).alloc (by have := HW3.out.size; simp; omega) _).trans (hb.mono (by have := HW3.out.size; simp; omega))
  clear Ba Bc Bm Bq HW3
  have Ba := Lib.hid ka
  have Bc := Lib.hid kc
  have Bm := Lib.hid km
  have Bq := Lib.hid kq
  have Br := Lib.hid kr
  have Bn := Lib.hid kn
  have HW4 := Lib.hid kw
  clear hb kw ka kc km kq kr kn
  have la := Ba.out.lt
  have ca0 : w4.cell? ⟨w.heap.size, 0, none⟩ = some (.int .i64 a) := Ba.out.cell rfl
  have ca1 : w4.cell? ⟨w.heap.size, 1, none⟩ = some (.int .i64 b) := Ba.out.cell rfl
  go_wp2_with fail
  refine (M4.out _).mono ?_
  rintro e w5 ⟨rfl, hb⟩
  have ka : Blk w5 w.heap.size #[.int .i64 a, .int .i64 b] := Ba.out.call hb
  have kc : Blk w5 (w.heap.size + 1) #[.int .i64 c, .int .i64 d] := Bc.out.call hb
  have km : Blk w5 w1.heap.size #[.int .i64 0, .int .i64 0] := Bm.out.call hb
  have kq : Blk w5 w2.heap.size #[.int .i64 0, .int .i64 0] := Bq.out.call hb
  have kr : Blk w5 w3.heap.size #[.int .i64 r0, .int .i64 r1] := Br.out.call hb
  have kn : Blk w5 (w3.heap.size + 1) #[.int .i64 0, .int .i64 0] := Bn.out.call hb
  have kw : Below w.heap.size w w5 := HW4.out.trans (hb.mono HW4.out.size)
  clear la ca0 ca1 Ba Bc Bm Bq Br Bn HW4
  have Ba := Lib.hid ka
  have Bc := Lib.hid kc
  have Bm := Lib.hid km
  have Bq := Lib.hid kq
  have Br := Lib.hid kr
  have Bn := Lib.hid kn
  have HW5 := Lib.hid kw
  clear hb kw ka kc km kq kr kn
  have e0 := eqS0'
  have er := eqS' r0 r1
  have la := Ba.out.lt
  have ca0 : w5.cell? ⟨w.heap.size, 0, none⟩ = some (.int .i64 a) := Ba.out.cell rfl
  have ca1 : w5.cell? ⟨w.heap.size, 1, none⟩ = some (.int .i64 b) := Ba.out.cell rfl
  go_upto_region 12 with fail
  obtain ⟨W12x, hW12x⟩ : ∃ W12x, w5 = W12x := ⟨_, rfl⟩
  have ba : Blk W12x w.heap.size #[.int .i64 a, .int .i64 b] := by rw [← hW12x]; exact Ba.out
  have bc : Blk W12x (w.heap.size + 1) #[.int .i64 c, .int .i64 d] := by rw [← hW12x]; exact Bc.out
  have bm : Blk W12x w1.heap.size #[.int .i64 0, .int .i64 0] := by rw [← hW12x]; exact Bm.out
  have bq : Blk W12x w2.heap.size #[.int .i64 0, .int .i64 0] := by rw [← hW12x]; exact Bq.out
  have br : Blk W12x w3.heap.size #[.int .i64 r0, .int .i64 r1] := by rw [← hW12x]; exact Br.out
  have bn : Blk W12x (w3.heap.size + 1) #[.int .i64 0, .int .i64 0] := by rw [← hW12x]; exact Bn.out
  have hw : Below w.heap.size w W12x := by rw [← hW12x]; exact HW5.out
  rw [hW12x]
  clear hW12x la ca0 ca1 Ba Bc Bm Bq Br Bn HW5
  have hok : OwnOk (fun w' => w'.cell? ⟨w3.heap.size, 0, none⟩ = some (.int .i64 r0) ∧ w'.cell? ⟨w3.heap.size, 1, none⟩ = some (.int .i64 r1) ∧ w'.cell? ⟨w.heap.size, 0, none⟩ = some (.int .i64 a) ∧ w'.cell? ⟨w.heap.size, 1, none⟩ = some (.int .i64 b) ∧ Hid (Blk w' w.heap.size #[.int .i64 a, .int .i64 b] ∧ Blk w' (w.heap.size + 1) #[.int .i64 c, .int .i64 d] ∧ Blk w' w1.heap.size #[.int .i64 0, .int .i64 0] ∧ Blk w' w2.heap.size #[.int .i64 0, .int .i64 0] ∧ Blk w' w3.heap.size #[.int .i64 r0, .int .i64 r1] ∧ Blk w' (w3.heap.size + 1) #[.int .i64 0, .int .i64 0] ∧ Below w.heap.size w w')) W12x.heap.size [] := own0_ok (fun v1 v2 h hb => ⟨((h.2.2.2.2.out.2.2.2.2.1).below hb br.lt).cell rfl, ((h.2.2.2.2.out.2.2.2.2.1).below hb br.lt).cell rfl, ((h.2.2.2.2.out.1).below hb ba.lt).cell rfl, ((h.2.2.2.2.out.1).below hb ba.lt).cell rfl, Lib.hid ⟨(h.2.2.2.2.out.1).below hb ba.lt, (h.2.2.2.2.out.2.1).below hb bc.lt, (h.2.2.2.2.out.2.2.1).below hb bm.lt, (h.2.2.2.2.out.2.2.2.1).below hb bq.lt, (h.2.2.2.2.out.2.2.2.2.1).below hb br.lt, (h.2.2.2.2.out.2.2.2.2.2.1).below hb bn.lt, (h.2.2.2.2.out.2.2.2.2.2.2).trans (hb.mono hw.size)⟩⟩)
  have hfit : ∀ i, (∀ e ∈ ([] : List Ent), e.x ≠ i ∧ e.s ≠ i) → Fit (fun w' => w'.cell? ⟨w3.heap.size, 0, none⟩ = some (.int .i64 r0) ∧ w'.cell? ⟨w3.heap.size, 1, none⟩ = some (.int .i64 r1) ∧ w'.cell? ⟨w.heap.size, 0, none⟩ = some (.int .i64 a) ∧ w'.cell? ⟨w.heap.size, 1, none⟩ = some (.int .i64 b) ∧ Hid (Blk w' w.heap.size #[.int .i64 a, .int .i64 b] ∧ Blk w' (w.heap.size + 1) #[.int .i64 c, .int .i64 d] ∧ Blk w' w1.heap.size #[.int .i64 0, .int .i64 0] ∧ Blk w' w2.heap.size #[.int .i64 0, .int .i64 0] ∧ Blk w' w3.heap.size #[.int .i64 r0, .int .i64 r1] ∧ Blk w' (w3.heap.size + 1) #[.int .i64 0, .int .i64 0] ∧ Below w.heap.size w w')) (Sof (fun w' => w'.cell? ⟨w3.heap.size, 0, none⟩ = some (.int .i64 r0) ∧ w'.cell? ⟨w3.heap.size, 1, none⟩ = some (.int .i64 r1) ∧ w'.cell? ⟨w.heap.size, 0, none⟩ = some (.int .i64 a) ∧ w'.cell? ⟨w.heap.size, 1, none⟩ = some (.int .i64 b) ∧ Hid (Blk w' w.heap.size #[.int .i64 a, .int .i64 b] ∧ Blk w' (w.heap.size + 1) #[.int .i64 c, .int .i64 d] ∧ Blk w' w1.heap.size #[.int .i64 0, .int .i64 0] ∧ Blk w' w2.heap.size #[.int .i64 0, .int .i64 0] ∧ Blk w' w3.heap.size #[.int .i64 r0, .int .i64 r1] ∧ Blk w' (w3.heap.size + 1) #[.int .i64 0, .int .i64 0] ∧ Below w.heap.size w w')) W12x.heap.size []) i := fun i hi => sof_fit hok.st hok.loc hi
  have HOK := Lib.hid hok; have HF := Lib.hid hfit; clear hok hfit
  refine wp_region_ab (S0 := (fun w' => w'.cell? ⟨w3.heap.size, 0, none⟩ = some (.int .i64 r0) ∧ w'.cell? ⟨w3.heap.size, 1, none⟩ = some (.int .i64 r1) ∧ w'.cell? ⟨w.heap.size, 0, none⟩ = some (.int .i64 a) ∧ w'.cell? ⟨w.heap.size, 1, none⟩ = some (.int .i64 b) ∧ Hid (Blk w' w.heap.size #[.int .i64 a, .int .i64 b] ∧ Blk w' (w.heap.size + 1) #[.int .i64 c, .int .i64 d] ∧ Blk w' w1.heap.size #[.int .i64 0, .int .i64 0] ∧ Blk w' w2.heap.size #[.int .i64 0, .int .i64 0] ∧ Blk w' w3.heap.size #[.int .i64 r0, .int .i64 r1] ∧ Blk w' (w3.heap.size + 1) #[.int .i64 0, .int .i64 0] ∧ Below w.heap.size w w'))) W12x.heap.size [] (by kernel_rfl) ⟨(br.drew).cell rfl, (br.drew).cell rfl, (ba.drew).cell rfl, (ba.drew).cell rfl, Lib.hid ⟨ba.drew, bc.drew, bm.drew, bq.drew, br.drew, bn.drew, hw.drew⟩⟩ (Nat.le_refl _) (by simp) ?_
  clear ba bc bm bq br bn
  refine abTake 0 (some 74) (v := ?_) rfl rfl (by kernel_rfl) (by kernel_rfl) (by kernel_rfl) (fun _ _ _ h => h) (HF.out _ (by simp)) (by rfl) ?_ ?_
  rotate_left 1
  · (intro w hSw; (try dsimp only at hSw); go_simp; try with_reducible rfl)
  simp only [Act.put, List.setIfInBounds_toArray, List.set_cons_zero, List.set_cons_succ]
  refine abTake 1 (some 75) (v := ?_) rfl rfl (by kernel_rfl) (by kernel_rfl) (by kernel_rfl) (fun _ _ _ h => h) (HF.out _ (by simp)) (by rfl) ?_ ?_
  rotate_left 1
  · (intro w hSw; (try dsimp only at hSw); go_simp; try with_reducible rfl)
  simp only [Act.put, List.setIfInBounds_toArray, List.set_cons_zero, List.set_cons_succ]
  refine abTake 2 (some 76) (v := ?_) rfl rfl (by kernel_rfl) (by kernel_rfl) (by kernel_rfl) (fun _ _ _ h => h) (HF.out _ (by simp)) (by rfl) ?_ ?_
  rotate_left 1
  · (intro w hSw; (try dsimp only at hSw); go_simp; try with_reducible rfl)
  simp only [Act.put, List.setIfInBounds_toArray, List.set_cons_zero, List.set_cons_succ]
  refine abTake 3 (some 77) (v := ?_) rfl rfl (by kernel_rfl) (by kernel_rfl) (by kernel_rfl) (fun _ _ _ h => h) (HF.out _ (by simp)) (by rfl) ?_ ?_
  rotate_left 1
  · (intro w hSw; (try dsimp only at hSw); go_simp; try with_reducible rfl)
  simp only [Act.put, List.setIfInBounds_toArray, List.set_cons_zero, List.set_cons_succ]
  refine abTake 4 (some 78) (v := ?_) rfl rfl (by kernel_rfl) (by kernel_rfl) (by kernel_rfl) (fun _ _ _ h => h) (HF.out _ (by simp)) (by rfl) ?_ ?_
  rotate_left 1
  · (intro w hSw; (try dsimp only at hSw); go_simp; try with_reducible rfl)
  simp only [Act.put, List.setIfInBounds_toArray, List.set_cons_zero, List.set_cons_succ]
  refine abCall 5 (some 79) rfl rfl (by kernel_rfl) (by kernel_rfl) (by kernel_rfl) (fun _ _ _ h => h) (HF.out _ (by simp)) (by rfl) ?_ (fun w hSw => N1.out w) ?_
  · (intro w hSw; (try dsimp only at hSw); go_simp; try with_reducible rfl)
  simp only [Act.put, List.setIfInBounds_toArray, List.set_cons_zero, List.set_cons_succ]
  refine abTake 6 (some 80) (v := ?_) rfl rfl (by kernel_rfl) (by kernel_rfl) (by kernel_rfl) (fun _ _ _ h => h) (HF.out _ (by simp)) (by rfl) ?_ ?_
  rotate_left 1
  · (intro w hSw; (try dsimp only at hSw); go_simp; try with_reducible rfl)
  simp only [Act.put, List.setIfInBounds_toArray, List.set_cons_zero, List.set_cons_succ]
  refine abTake 7 (some 81) (v := ?_) rfl rfl (by kernel_rfl) (by kernel_rfl) (by kernel_rfl) (fun _ _ _ h => h) (HF.out _ (by simp)) (by rfl) ?_ ?_
  rotate_left 1
  · (intro w hSw; (try dsimp only at hSw); go_simp; try with_reducible rfl)
  simp only [Act.put, List.setIfInBounds_toArray, List.set_cons_zero, List.set_cons_succ]
  refine abDone (by kernel_rfl) ?_ _
  rintro w9 hS
  have Ba := Lib.hid (hS.1.2.2.2.2.out.1)
  have Bc := Lib.hid (hS.1.2.2.2.2.out.2.1)
  have Bm := Lib.hid (hS.1.2.2.2.2.out.2.2.1)
  have Bq := Lib.hid (hS.1.2.2.2.2.out.2.2.2.1)
  have Br := Lib.hid (hS.1.2.2.2.2.out.2.2.2.2.1)
  have Bn := Lib.hid (hS.1.2.2.2.2.out.2.2.2.2.2.1)
  have Hw9 := Lib.hid (hS.1.2.2.2.2.out.2.2.2.2.2.2)
  clear hS HOK HF hw
  have lc := Bc.out.lt
  have cc0 : w9.cell? ⟨(w.heap.size + 1), 0, none⟩ = some (.int .i64 c) := Bc.out.cell rfl
  have cc1 : w9.cell? ⟨(w.heap.size + 1), 1, none⟩ = some (.int .i64 d) := Bc.out.cell rfl
  go_wp2_with fail
  refine (M5.out _).mono ?_
  rintro e w10 ⟨rfl, hb⟩
  have ka : Blk w10 w.heap.size #[.int .i64 a, .int .i64 b] := Ba.out.call hb
  have kc : Blk w10 (w.heap.size + 1) #[.int .i64 c, .int .i64 d] := Bc.out.call hb
  have km : Blk w10 w1.heap.size #[.int .i64 0, .int .i64 0] := Bm.out.call hb
  have kq : Blk w10 w2.heap.size #[.int .i64 0, .int .i64 0] := Bq.out.call hb
  have kr : Blk w10 w3.heap.size #[.int .i64 r0, .int .i64 r1] := Br.out.call hb
  have kn : Blk w10 (w3.heap.size + 1) #[.int .i64 0, .int .i64 0] := Bn.out.call hb
  have kw : Below w.heap.size w w10 := Hw9.out.trans (hb.mono Hw9.out.size)
  clear lc cc0 cc1 Ba Bc Bm Bq Br Bn Hw9
  have Ba := Lib.hid ka
  have Bc := Lib.hid kc
  have Bm := Lib.hid km
  have Bq := Lib.hid kq
  have Br := Lib.hid kr
  have Bn := Lib.hid kn
  have HW10 := Lib.hid kw
  clear hb kw ka kc km kq kr kn
  have lm := Bm.out.lt
  have cm0 : w10.cell? ⟨w1.heap.size, 0, none⟩ = some (.int .i64 0) := Bm.out.cell rfl
  have cm1 : w10.cell? ⟨w1.heap.size, 1, none⟩ = some (.int .i64 0) := Bm.out.cell rfl
  have lq := Bq.out.lt
  have cq0 : w10.cell? ⟨w2.heap.size, 0, none⟩ = some (.int .i64 0) := Bq.out.cell rfl
  have cq1 : w10.cell? ⟨w2.heap.size, 1, none⟩ = some (.int .i64 0) := Bq.out.cell rfl
  have ln := Bn.out.lt
  have cn0 : w10.cell? ⟨(w3.heap.size + 1), 0, none⟩ = some (.int .i64 0) := Bn.out.cell rfl
  have cn1 : w10.cell? ⟨(w3.heap.size + 1), 1, none⟩ = some (.int .i64 0) := Bn.out.cell rfl
  go_wp2_with fail
  go_ret
  exact ⟨rfl, HW10.out⟩
set_option maxRecDepth 100000 in
set_option maxHeartbeats 2000000 in
theorem stimes_root_zero (a b c d y0 y1 ye r0 r1 : Int) (w : World) (h0 : ¬ a < 0)
    (m1 : ∀ w, Calls Try.prog 19 #[.agg #[.int .i64 a, .int .i64 b], .agg #[.int .i64 c, .int .i64 d]] w fun en w' => en = .returned (.tuple #[.agg #[.int .i64 y0, .int .i64 y1], .int .i64 ye]) ∧ Below w.heap.size w w')
    (m2 : ∀ w, Calls Try.prog 20 #[.agg #[.int .i64 a, .int .i64 b], .agg #[.int .i64 c, .int .i64 d]] w fun en w' => en = .returned (.tuple #[.agg #[.int .i64 0, .int .i64 0], .int .i64 4]) ∧ Below w.heap.size w w')
    (m3 : ∀ w, Calls Try.prog 21 #[.agg #[.int .i64 a, .int .i64 b]] w fun en w' => en = .returned (.tuple #[.agg #[.int .i64 r0, .int .i64 r1], .int .i64 0]) ∧ Below w.heap.size w w')
    (m4 : ∀ w, Calls Try.prog 12 #[.agg #[.int .i64 a, .int .i64 b]] w fun en w' => en = .returned (.bool true) ∧ Below w.heap.size w w')
    (n1 : ∀ w, Calls Try.prog 22 #[.agg #[.int .i64 a, .int .i64 b]] w fun en w' => en = .returned (.agg #[.int .i64 r0, .int .i64 r1]) ∧ Below w.heap.size w w')
    (m5 : ∀ w, Calls Try.prog 12 #[.agg #[.int .i64 c, .int .i64 d]] w fun en w' => en = .returned (.bool true) ∧ Below w.heap.size w w')
    (n2 : ∀ w, Calls Try.prog 23 #[.agg #[.int .i64 a, .int .i64 b], .agg #[.int .i64 c, .int .i64 d]] w fun en w' => en = .returned (.tuple #[.agg #[.int .i64 y0, .int .i64 y1], .int .i64 ye]) ∧ Below w.heap.size w w')
    (n3 : ∀ w, Calls Try.prog 14 #[.agg #[.int .i64 c, .int .i64 d], .int .i64 0] w fun en w' => en = .returned (.bool true) ∧ Below w.heap.size w w') :
    Calls Try.prog 4 #[.agg #[.int .i64 a, .int .i64 b], .agg #[.int .i64 c, .int .i64 d]] w fun en w' => en = .returned (.bool true) ∧ Below w.heap.size w w' := by
  have M1 := Lib.hid m1; have M2 := Lib.hid m2; have M3 := Lib.hid m3; have M4 := Lib.hid m4; have N1 := Lib.hid n1; have M5 := Lib.hid m5; have N2 := Lib.hid n2; have N3 := Lib.hid n3
  clear m1 m2 m3 m4 n1 m5 n2 n3
  go_enter Try.func4, Try.ntmps4
  go_wp2_with fail
  refine (M1.out _).mono ?_
  rintro e w1 ⟨rfl, hb⟩
  have ka : Blk w1 w.heap.size #[.int .i64 a, .int .i64 b] := ((Blk.new _ _ _).alloc _).call hb
  have kc : Blk w1 (w.heap.size + 1) #[.int .i64 c, .int .i64 d] := (Blk.newAt (by simp)).call hb
  have kw : Below w.heap.size w w1 := (((Below.refl w.heap.size w).alloc (Nat.le_refl _) _).alloc (by simp) _).trans (hb.mono (by simp; omega))
  have Ba := Lib.hid ka
  have Bc := Lib.hid kc
  have HW1 := Lib.hid kw
  clear hb kw ka kc
  have la := Ba.out.lt
  have ca0 : w1.cell? ⟨w.heap.size, 0, none⟩ = some (.int .i64 a) := Ba.out.cell rfl
  have ca1 : w1.cell? ⟨w.heap.size, 1, none⟩ = some (.int .i64 b) := Ba.out.cell rfl
  have lc := Bc.out.lt
  have cc0 : w1.cell? ⟨(w.heap.size + 1), 0, none⟩ = some (.int .i64 c) := Bc.out.cell rfl
  have cc1 : w1.cell? ⟨(w.heap.size + 1), 1, none⟩ = some (.int .i64 d) := Bc.out.cell rfl
  go_wp2_with fail
  refine (M2.out _).mono ?_
  rintro e w2 ⟨rfl, hb⟩
  have ka : Blk w2 w.heap.size #[.int .i64 a, .int .i64 b] := (Ba.out.alloc _).call hb
  have kc : Blk w2 (w.heap.size + 1) #[.int .i64 c, .int .i64 d] := (Bc.out.alloc _).call hb
  have km : Blk w2 w1.heap.size #[.int .i64 y0, .int .i64 y1] := (Blk.new _ _ _).call hb
  have kw : Below w.heap.size w w2 := (HW1.out.alloc HW1.out.size _).trans (hb.mono (by have := HW1.out.size; simp; omega))
  clear la ca0 ca1 lc cc0 cc1 Ba Bc HW1
  have Ba := Lib.hid ka
  have Bc := Lib.hid kc
  have Bm := Lib.hid km
  have HW2 := Lib.hid kw
  clear hb kw ka kc km
  have la := Ba.out.lt
  have ca0 : w2.cell? ⟨w.heap.size, 0, none⟩ = some (.int .i64 a) := Ba.out.cell rfl
  have ca1 : w2.cell? ⟨w.heap.size, 1, none⟩ = some (.int .i64 b) := Ba.out.cell rfl
  go_wp2_with fail
  refine (M3.out _).mono ?_
  rintro e w3 ⟨rfl, hb⟩
  have ka : Blk w3 w.heap.size #[.int .i64 a, .int .i64 b] := (Ba.out.alloc _).call hb
  have kc : Blk w3 (w.heap.size + 1) #[.int .i64 c, .int .i64 d] := (Bc.out.alloc _).call hb
  have km : Blk w3 w1.heap.size #[.int .i64 y0, .int .i64 y1] := (Bm.out.alloc _).call hb
  have kq : Blk w3 w2.heap.size #[.int .i64 0, .int .i64 0] := (Blk.new _ _ _).call hb
  have kw : Below w.heap.size w w3 := (HW2.out.alloc HW2.out.size _).trans (hb.mono (by have := HW2.out.size; simp; omega))
  clear la ca0 ca1 Ba Bc Bm HW2
  have Ba := Lib.hid ka
  have Bc := Lib.hid kc
  have Bm := Lib.hid km
  have Bq := Lib.hid kq
  have HW3 := Lib.hid kw
  clear hb kw ka kc km kq
  go_wp2_with fail
  refine (alive5 _).mono ?_
  rintro e w4 ⟨rfl, hb⟩
  have ka : Blk w4 w.heap.size #[.int .i64 a, .int .i64 b] := ((Ba.out.alloc _).alloc _).call hb
  have kc : Blk w4 (w.heap.size + 1) #[.int .i64 c, .int .i64 d] := ((Bc.out.alloc _).alloc _).call hb
  have km : Blk w4 w1.heap.size #[.int .i64 y0, .int .i64 y1] := ((Bm.out.alloc _).alloc _).call hb
  have kq : Blk w4 w2.heap.size #[.int .i64 0, .int .i64 0] := ((Bq.out.alloc _).alloc _).call hb
  have kr : Blk w4 w3.heap.size #[.int .i64 r0, .int .i64 r1] := ((Blk.new _ _ _).alloc _).call hb
  have kn : Blk w4 (w3.heap.size + 1) #[.int .i64 0, .int .i64 0] := (Blk.newAt (by simp)).call hb
  have kw : Below w.heap.size w w4 := ((HW3.out.alloc HW3.out.size _).alloc (by have := HW3.out.size; simp; omega) _).trans (hb.mono (by have := HW3.out.size; simp; omega))
  clear Ba Bc Bm Bq HW3
  have Ba := Lib.hid ka
  have Bc := Lib.hid kc
  have Bm := Lib.hid km
  have Bq := Lib.hid kq
  have Br := Lib.hid kr
  have Bn := Lib.hid kn
  have HW4 := Lib.hid kw
  clear hb kw ka kc km kq kr kn
  have la := Ba.out.lt
  have ca0 : w4.cell? ⟨w.heap.size, 0, none⟩ = some (.int .i64 a) := Ba.out.cell rfl
  have ca1 : w4.cell? ⟨w.heap.size, 1, none⟩ = some (.int .i64 b) := Ba.out.cell rfl
  go_wp2_with fail
  refine (M4.out _).mono ?_
  rintro e w5 ⟨rfl, hb⟩
  have ka : Blk w5 w.heap.size #[.int .i64 a, .int .i64 b] := Ba.out.call hb
  have kc : Blk w5 (w.heap.size + 1) #[.int .i64 c, .int .i64 d] := Bc.out.call hb
  have km : Blk w5 w1.heap.size #[.int .i64 y0, .int .i64 y1] := Bm.out.call hb
  have kq : Blk w5 w2.heap.size #[.int .i64 0, .int .i64 0] := Bq.out.call hb
  have kr : Blk w5 w3.heap.size #[.int .i64 r0, .int .i64 r1] := Br.out.call hb
  have kn : Blk w5 (w3.heap.size + 1) #[.int .i64 0, .int .i64 0] := Bn.out.call hb
  have kw : Below w.heap.size w w5 := HW4.out.trans (hb.mono HW4.out.size)
  clear la ca0 ca1 Ba Bc Bm Bq Br Bn HW4
  have Ba := Lib.hid ka
  have Bc := Lib.hid kc
  have Bm := Lib.hid km
  have Bq := Lib.hid kq
  have Br := Lib.hid kr
  have Bn := Lib.hid kn
  have HW5 := Lib.hid kw
  clear hb kw ka kc km kq kr kn
  have e0 := eqS0'
  have em := eqS' y0 y1
  have er := eqS' r0 r1
  have la := Ba.out.lt
  have ca0 : w5.cell? ⟨w.heap.size, 0, none⟩ = some (.int .i64 a) := Ba.out.cell rfl
  have ca1 : w5.cell? ⟨w.heap.size, 1, none⟩ = some (.int .i64 b) := Ba.out.cell rfl
  go_upto_region 12 with fail
  obtain ⟨W12x, hW12x⟩ : ∃ W12x, w5 = W12x := ⟨_, rfl⟩
  have ba : Blk W12x w.heap.size #[.int .i64 a, .int .i64 b] := by rw [← hW12x]; exact Ba.out
  have bc : Blk W12x (w.heap.size + 1) #[.int .i64 c, .int .i64 d] := by rw [← hW12x]; exact Bc.out
  have bm : Blk W12x w1.heap.size #[.int .i64 y0, .int .i64 y1] := by rw [← hW12x]; exact Bm.out
  have bq : Blk W12x w2.heap.size #[.int .i64 0, .int .i64 0] := by rw [← hW12x]; exact Bq.out
  have br : Blk W12x w3.heap.size #[.int .i64 r0, .int .i64 r1] := by rw [← hW12x]; exact Br.out
  have bn : Blk W12x (w3.heap.size + 1) #[.int .i64 0, .int .i64 0] := by rw [← hW12x]; exact Bn.out
  have hw : Below w.heap.size w W12x := by rw [← hW12x]; exact HW5.out
  rw [hW12x]
  clear hW12x la ca0 ca1 Ba Bc Bm Bq Br Bn HW5
  have hok : OwnOk (fun w' => w'.cell? ⟨w3.heap.size, 0, none⟩ = some (.int .i64 r0) ∧ w'.cell? ⟨w3.heap.size, 1, none⟩ = some (.int .i64 r1) ∧ w'.cell? ⟨w.heap.size, 0, none⟩ = some (.int .i64 a) ∧ w'.cell? ⟨w.heap.size, 1, none⟩ = some (.int .i64 b) ∧ Hid (Blk w' w.heap.size #[.int .i64 a, .int .i64 b] ∧ Blk w' (w.heap.size + 1) #[.int .i64 c, .int .i64 d] ∧ Blk w' w1.heap.size #[.int .i64 y0, .int .i64 y1] ∧ Blk w' w2.heap.size #[.int .i64 0, .int .i64 0] ∧ Blk w' w3.heap.size #[.int .i64 r0, .int .i64 r1] ∧ Blk w' (w3.heap.size + 1) #[.int .i64 0, .int .i64 0] ∧ Below w.heap.size w w')) W12x.heap.size [] := own0_ok (fun v1 v2 h hb => ⟨((h.2.2.2.2.out.2.2.2.2.1).below hb br.lt).cell rfl, ((h.2.2.2.2.out.2.2.2.2.1).below hb br.lt).cell rfl, ((h.2.2.2.2.out.1).below hb ba.lt).cell rfl, ((h.2.2.2.2.out.1).below hb ba.lt).cell rfl, Lib.hid ⟨(h.2.2.2.2.out.1).below hb ba.lt, (h.2.2.2.2.out.2.1).below hb bc.lt, (h.2.2.2.2.out.2.2.1).below hb bm.lt, (h.2.2.2.2.out.2.2.2.1).below hb bq.lt, (h.2.2.2.2.out.2.2.2.2.1).below hb br.lt, (h.2.2.2.2.out.2.2.2.2.2.1).below hb bn.lt, (h.2.2.2.2.out.2.2.2.2.2.2).trans (hb.mono hw.size)⟩⟩)
  have hfit : ∀ i, (∀ e ∈ ([] : List Ent), e.x ≠ i ∧ e.s ≠ i) → Fit (fun w' => w'.cell? ⟨w3.heap.size, 0, none⟩ = some (.int .i64 r0) ∧ w'.cell? ⟨w3.heap.size, 1, none⟩ = some (.int .i64 r1) ∧ w'.cell? ⟨w.heap.size, 0, none⟩ = some (.int .i64 a) ∧ w'.cell? ⟨w.heap.size, 1, none⟩ = some (.int .i64 b) ∧ Hid (Blk w' w.heap.size #[.int .i64 a, .int .i64 b] ∧ Blk w' (w.heap.size + 1) #[.int .i64 c, .int .i64 d] ∧ Blk w' w1.heap.size #[.int .i64 y0, .int .i64 y1] ∧ Blk w' w2.heap.size #[.int .i64 0, .int .i64 0] ∧ Blk w' w3.heap.size #[.int .i64 r0, .int .i64 r1] ∧ Blk w' (w3.heap.size + 1) #[.int .i64 0, .int .i64 0] ∧ Below w.heap.size w w')) (Sof (fun w' => w'.cell? ⟨w3.heap.size, 0, none⟩ = some (.int .i64 r0) ∧ w'.cell? ⟨w3.heap.size, 1, none⟩ = some (.int .i64 r1) ∧ w'.cell? ⟨w.heap.size, 0, none⟩ = some (.int .i64 a) ∧ w'.cell? ⟨w.heap.size, 1, none⟩ = some (.int .i64 b) ∧ Hid (Blk w' w.heap.size #[.int .i64 a, .int .i64 b] ∧ Blk w' (w.heap.size + 1) #[.int .i64 c, .int .i64 d] ∧ Blk w' w1.heap.size #[.int .i64 y0, .int .i64 y1] ∧ Blk w' w2.heap.size #[.int .i64 0, .int .i64 0] ∧ Blk w' w3.heap.size #[.int .i64 r0, .int .i64 r1] ∧ Blk w' (w3.heap.size + 1) #[.int .i64 0, .int .i64 0] ∧ Below w.heap.size w w')) W12x.heap.size []) i := fun i hi => sof_fit hok.st hok.loc hi
  have HOK := Lib.hid hok; have HF := Lib.hid hfit; clear hok hfit
  refine wp_region_ab (S0 := (fun w' => w'.cell? ⟨w3.heap.size, 0, none⟩ = some (.int .i64 r0) ∧ w'.cell? ⟨w3.heap.size, 1, none⟩ = some (.int .i64 r1) ∧ w'.cell? ⟨w.heap.size, 0, none⟩ = some (.int .i64 a) ∧ w'.cell? ⟨w.heap.size, 1, none⟩ = some (.int .i64 b) ∧ Hid (Blk w' w.heap.size #[.int .i64 a, .int .i64 b] ∧ Blk w' (w.heap.size + 1) #[.int .i64 c, .int .i64 d] ∧ Blk w' w1.heap.size #[.int .i64 y0, .int .i64 y1] ∧ Blk w' w2.heap.size #[.int .i64 0, .int .i64 0] ∧ Blk w' w3.heap.size #[.int .i64 r0, .int .i64 r1] ∧ Blk w' (w3.heap.size + 1) #[.int .i64 0, .int .i64 0] ∧ Below w.heap.size w w'))) W12x.heap.size [] (by kernel_rfl) ⟨(br.drew).cell rfl, (br.drew).cell rfl, (ba.drew).cell rfl, (ba.drew).cell rfl, Lib.hid ⟨ba.drew, bc.drew, bm.drew, bq.drew, br.drew, bn.drew, hw.drew⟩⟩ (Nat.le_refl _) (by simp) ?_
  clear ba bc bm bq br bn
  refine abTake 0 (some 74) (v := ?_) rfl rfl (by kernel_rfl) (by kernel_rfl) (by kernel_rfl) (fun _ _ _ h => h) (HF.out _ (by simp)) (by rfl) ?_ ?_
  rotate_left 1
  · (intro w hSw; (try dsimp only at hSw); go_simp; try with_reducible rfl)
  simp only [Act.put, List.setIfInBounds_toArray, List.set_cons_zero, List.set_cons_succ]
  refine abTake 1 (some 75) (v := ?_) rfl rfl (by kernel_rfl) (by kernel_rfl) (by kernel_rfl) (fun _ _ _ h => h) (HF.out _ (by simp)) (by rfl) ?_ ?_
  rotate_left 1
  · (intro w hSw; (try dsimp only at hSw); go_simp; try with_reducible rfl)
  simp only [Act.put, List.setIfInBounds_toArray, List.set_cons_zero, List.set_cons_succ]
  refine abTake 2 (some 76) (v := ?_) rfl rfl (by kernel_rfl) (by kernel_rfl) (by kernel_rfl) (fun _ _ _ h => h) (HF.out _ (by simp)) (by rfl) ?_ ?_
  rotate_left 1
  · (intro w hSw; (try dsimp only at hSw); go_simp; try with_reducible rfl)
  simp only [Act.put, List.setIfInBounds_toArray, List.set_cons_zero, List.set_cons_succ]
  refine abTake 3 (some 77) (v := ?_) rfl rfl (by kernel_rfl) (by kernel_rfl) (by kernel_rfl) (fun _ _ _ h => h) (HF.out _ (by simp)) (by rfl) ?_ ?_
  rotate_left 1
  · (intro w hSw; (try dsimp only at hSw); go_simp; try with_reducible rfl)
  simp only [Act.put, List.setIfInBounds_toArray, List.set_cons_zero, List.set_cons_succ]
  refine abTake 4 (some 78) (v := ?_) rfl rfl (by kernel_rfl) (by kernel_rfl) (by kernel_rfl) (fun _ _ _ h => h) (HF.out _ (by simp)) (by rfl) ?_ ?_
  rotate_left 1
  · (intro w hSw; (try dsimp only at hSw); go_simp; try with_reducible rfl)
  simp only [Act.put, List.setIfInBounds_toArray, List.set_cons_zero, List.set_cons_succ]
  refine abCall 5 (some 79) rfl rfl (by kernel_rfl) (by kernel_rfl) (by kernel_rfl) (fun _ _ _ h => h) (HF.out _ (by simp)) (by rfl) ?_ (fun w hSw => N1.out w) ?_
  · (intro w hSw; (try dsimp only at hSw); go_simp; try with_reducible rfl)
  simp only [Act.put, List.setIfInBounds_toArray, List.set_cons_zero, List.set_cons_succ]
  refine abTake 6 (some 80) (v := ?_) rfl rfl (by kernel_rfl) (by kernel_rfl) (by kernel_rfl) (fun _ _ _ h => h) (HF.out _ (by simp)) (by rfl) ?_ ?_
  rotate_left 1
  · (intro w hSw; (try dsimp only at hSw); go_simp; try with_reducible rfl)
  simp only [Act.put, List.setIfInBounds_toArray, List.set_cons_zero, List.set_cons_succ]
  refine abTake 7 (some 81) (v := ?_) rfl rfl (by kernel_rfl) (by kernel_rfl) (by kernel_rfl) (fun _ _ _ h => h) (HF.out _ (by simp)) (by rfl) ?_ ?_
  rotate_left 1
  · (intro w hSw; (try dsimp only at hSw); go_simp; try with_reducible rfl)
  simp only [Act.put, List.setIfInBounds_toArray, List.set_cons_zero, List.set_cons_succ]
  refine abDone (by kernel_rfl) ?_ _
  rintro w9 hS
  have Ba := Lib.hid (hS.1.2.2.2.2.out.1)
  have Bc := Lib.hid (hS.1.2.2.2.2.out.2.1)
  have Bm := Lib.hid (hS.1.2.2.2.2.out.2.2.1)
  have Bq := Lib.hid (hS.1.2.2.2.2.out.2.2.2.1)
  have Br := Lib.hid (hS.1.2.2.2.2.out.2.2.2.2.1)
  have Bn := Lib.hid (hS.1.2.2.2.2.out.2.2.2.2.2.1)
  have Hw9 := Lib.hid (hS.1.2.2.2.2.out.2.2.2.2.2.2)
  clear hS HOK HF hw
  have lc := Bc.out.lt
  have cc0 : w9.cell? ⟨(w.heap.size + 1), 0, none⟩ = some (.int .i64 c) := Bc.out.cell rfl
  have cc1 : w9.cell? ⟨(w.heap.size + 1), 1, none⟩ = some (.int .i64 d) := Bc.out.cell rfl
  go_wp2_with fail
  refine (M5.out _).mono ?_
  rintro e w10 ⟨rfl, hb⟩
  have ka : Blk w10 w.heap.size #[.int .i64 a, .int .i64 b] := Ba.out.call hb
  have kc : Blk w10 (w.heap.size + 1) #[.int .i64 c, .int .i64 d] := Bc.out.call hb
  have km : Blk w10 w1.heap.size #[.int .i64 y0, .int .i64 y1] := Bm.out.call hb
  have kq : Blk w10 w2.heap.size #[.int .i64 0, .int .i64 0] := Bq.out.call hb
  have kr : Blk w10 w3.heap.size #[.int .i64 r0, .int .i64 r1] := Br.out.call hb
  have kn : Blk w10 (w3.heap.size + 1) #[.int .i64 0, .int .i64 0] := Bn.out.call hb
  have kw : Below w.heap.size w w10 := Hw9.out.trans (hb.mono Hw9.out.size)
  clear lc cc0 cc1 Ba Bc Bm Bq Br Bn Hw9
  have Ba := Lib.hid ka
  have Bc := Lib.hid kc
  have Bm := Lib.hid km
  have Bq := Lib.hid kq
  have Br := Lib.hid kr
  have Bn := Lib.hid kn
  have HW10 := Lib.hid kw
  clear hb kw ka kc km kq kr kn
  have la := Ba.out.lt
  have ca0 : w10.cell? ⟨w.heap.size, 0, none⟩ = some (.int .i64 a) := Ba.out.cell rfl
  have ca1 : w10.cell? ⟨w.heap.size, 1, none⟩ = some (.int .i64 b) := Ba.out.cell rfl
  have lc := Bc.out.lt
  have cc0 : w10.cell? ⟨(w.heap.size + 1), 0, none⟩ = some (.int .i64 c) := Bc.out.cell rfl
  have cc1 : w10.cell? ⟨(w.heap.size + 1), 1, none⟩ = some (.int .i64 d) := Bc.out.cell rfl
  go_wp2_with fail
  refine (N2.out _).mono ?_
  rintro e w11 ⟨rfl, hb⟩
  have ka : Blk w11 w.heap.size #[.int .i64 a, .int .i64 b] := Ba.out.call hb
  have kc : Blk w11 (w.heap.size + 1) #[.int .i64 c, .int .i64 d] := Bc.out.call hb
  have km : Blk w11 w1.heap.size #[.int .i64 y0, .int .i64 y1] := Bm.out.call hb
  have kq : Blk w11 w2.heap.size #[.int .i64 0, .int .i64 0] := Bq.out.call hb
  have kr : Blk w11 w3.heap.size #[.int .i64 r0, .int .i64 r1] := Br.out.call hb
  have kn : Blk w11 (w3.heap.size + 1) #[.int .i64 0, .int .i64 0] := Bn.out.call hb
  have kw : Below w.heap.size w w11 := HW10.out.trans (hb.mono HW10.out.size)
  clear la ca0 ca1 lc cc0 cc1 Ba Bc Bm Bq Br Bn HW10
  have Ba := Lib.hid ka
  have Bc := Lib.hid kc
  have Bm := Lib.hid km
  have Bq := Lib.hid kq
  have Br := Lib.hid kr
  have Bn := Lib.hid kn
  have HW11 := Lib.hid kw
  clear hb kw ka kc km kq kr kn
  have lm := Bm.out.lt
  have cm0 : w11.cell? ⟨w1.heap.size, 0, none⟩ = some (.int .i64 y0) := Bm.out.cell rfl
  have cm1 : w11.cell? ⟨w1.heap.size, 1, none⟩ = some (.int .i64 y1) := Bm.out.cell rfl
  have lc := Bc.out.lt
  have cc0 : w11.cell? ⟨(w.heap.size + 1), 0, none⟩ = some (.int .i64 c) := Bc.out.cell rfl
  have cc1 : w11.cell? ⟨(w.heap.size + 1), 1, none⟩ = some (.int .i64 d) := Bc.out.cell rfl
  go_wp2_with fail
  refine (N3.out _).mono ?_
  rintro e w12 ⟨rfl, hb⟩
  have ka : Blk w12 w.heap.size #[.int .i64 a, .int .i64 b] := (Ba.out.alloc _).call hb
  have kc : Blk w12 (w.heap.size + 1) #[.int .i64 c, .int .i64 d] := (Bc.out.alloc _).call hb
  have km : Blk w12 w1.heap.size #[.int .i64 y0, .int .i64 y1] := (Bm.out.alloc _).call hb
  have kq : Blk w12 w2.heap.size #[.int .i64 0, .int .i64 0] := (Bq.out.alloc _).call hb
  have kr : Blk w12 w3.heap.size #[.int .i64 r0, .int .i64 r1] := (Br.out.alloc _).call hb
  have kn : Blk w12 (w3.heap.size + 1) #[.int .i64 0, .int .i64 0] := (Bn.out.alloc _).call hb
  have kp : Blk w12 w11.heap.size #[.int .i64 y0, .int .i64 y1] := (Blk.new _ _ _).call hb
  have kw : Below w.heap.size w w12 := (HW11.out.alloc HW11.out.size _).trans (hb.mono (by have := HW11.out.size; simp; omega))
  clear lm cm0 cm1 lc cc0 cc1 Ba Bc Bm Bq Br Bn HW11
  have Ba := Lib.hid ka
  have Bc := Lib.hid kc
  have Bm := Lib.hid km
  have Bq := Lib.hid kq
  have Br := Lib.hid kr
  have Bn := Lib.hid kn
  have Bp := Lib.hid kp
  have HW12 := Lib.hid kw
  clear hb kw ka kc km kq kr kn kp
  have lq := Bq.out.lt
  have cq0 : w12.cell? ⟨w2.heap.size, 0, none⟩ = some (.int .i64 0) := Bq.out.cell rfl
  have cq1 : w12.cell? ⟨w2.heap.size, 1, none⟩ = some (.int .i64 0) := Bq.out.cell rfl
  have ln := Bn.out.lt
  have cn0 : w12.cell? ⟨(w3.heap.size + 1), 0, none⟩ = some (.int .i64 0) := Bn.out.cell rfl
  have cn1 : w12.cell? ⟨(w3.heap.size + 1), 1, none⟩ = some (.int .i64 0) := Bn.out.cell rfl
  go_wp2_with fail
  go_ret
  exact ⟨rfl, HW12.out⟩
set_option maxRecDepth 100000 in
set_option maxHeartbeats 2000000 in
theorem stimes_root_all (a b c d y0 y1 ye d0 d1 de r0 r1 : Int) (w : World) (h0 : ¬ a < 0)
    (m1 : ∀ w, Calls Try.prog 19 #[.agg #[.int .i64 a, .int .i64 b], .agg #[.int .i64 c, .int .i64 d]] w fun en w' => en = .returned (.tuple #[.agg #[.int .i64 y0, .int .i64 y1], .int .i64 ye]) ∧ Below w.heap.size w w')
    (m2 : ∀ w, Calls Try.prog 20 #[.agg #[.int .i64 a, .int .i64 b], .agg #[.int .i64 c, .int .i64 d]] w fun en w' => en = .returned (.tuple #[.agg #[.int .i64 d0, .int .i64 d1], .int .i64 de]) ∧ Below w.heap.size w w')
    (m3 : ∀ w, Calls Try.prog 21 #[.agg #[.int .i64 a, .int .i64 b]] w fun en w' => en = .returned (.tuple #[.agg #[.int .i64 r0, .int .i64 r1], .int .i64 0]) ∧ Below w.heap.size w w')
    (m4 : ∀ w, Calls Try.prog 12 #[.agg #[.int .i64 a, .int .i64 b]] w fun en w' => en = .returned (.bool true) ∧ Below w.heap.size w w')
    (n1 : ∀ w, Calls Try.prog 22 #[.agg #[.int .i64 a, .int .i64 b]] w fun en w' => en = .returned (.agg #[.int .i64 r0, .int .i64 r1]) ∧ Below w.heap.size w w')
    (m5 : ∀ w, Calls Try.prog 12 #[.agg #[.int .i64 c, .int .i64 d]] w fun en w' => en = .returned (.bool true) ∧ Below w.heap.size w w')
    (n2 : ∀ w, Calls Try.prog 23 #[.agg #[.int .i64 a, .int .i64 b], .agg #[.int .i64 c, .int .i64 d]] w fun en w' => en = .returned (.tuple #[.agg #[.int .i64 y0, .int .i64 y1], .int .i64 ye]) ∧ Below w.heap.size w w')
    (n3 : ∀ w, Calls Try.prog 14 #[.agg #[.int .i64 c, .int .i64 d], .int .i64 0] w fun en w' => en = .returned (.bool false) ∧ Below w.heap.size w w')
    (n4 : ∀ w, Calls Try.prog 24 #[.agg #[.int .i64 a, .int .i64 b], .agg #[.int .i64 c, .int .i64 d]] w fun en w' => en = .returned (.tuple #[.agg #[.int .i64 d0, .int .i64 d1], .int .i64 de]) ∧ Below w.heap.size w w') :
    Calls Try.prog 4 #[.agg #[.int .i64 a, .int .i64 b], .agg #[.int .i64 c, .int .i64 d]] w fun en w' => en = .returned (.bool true) ∧ Below w.heap.size w w' := by
  have M1 := Lib.hid m1; have M2 := Lib.hid m2; have M3 := Lib.hid m3; have M4 := Lib.hid m4; have N1 := Lib.hid n1; have M5 := Lib.hid m5; have N2 := Lib.hid n2; have N3 := Lib.hid n3; have N4 := Lib.hid n4
  clear m1 m2 m3 m4 n1 m5 n2 n3 n4
  go_enter Try.func4, Try.ntmps4
  go_wp2_with fail
  refine (M1.out _).mono ?_
  rintro e w1 ⟨rfl, hb⟩
  have ka : Blk w1 w.heap.size #[.int .i64 a, .int .i64 b] := ((Blk.new _ _ _).alloc _).call hb
  have kc : Blk w1 (w.heap.size + 1) #[.int .i64 c, .int .i64 d] := (Blk.newAt (by simp)).call hb
  have kw : Below w.heap.size w w1 := (((Below.refl w.heap.size w).alloc (Nat.le_refl _) _).alloc (by simp) _).trans (hb.mono (by simp; omega))
  have Ba := Lib.hid ka
  have Bc := Lib.hid kc
  have HW1 := Lib.hid kw
  clear hb kw ka kc
  have la := Ba.out.lt
  have ca0 : w1.cell? ⟨w.heap.size, 0, none⟩ = some (.int .i64 a) := Ba.out.cell rfl
  have ca1 : w1.cell? ⟨w.heap.size, 1, none⟩ = some (.int .i64 b) := Ba.out.cell rfl
  have lc := Bc.out.lt
  have cc0 : w1.cell? ⟨(w.heap.size + 1), 0, none⟩ = some (.int .i64 c) := Bc.out.cell rfl
  have cc1 : w1.cell? ⟨(w.heap.size + 1), 1, none⟩ = some (.int .i64 d) := Bc.out.cell rfl
  go_wp2_with fail
  refine (M2.out _).mono ?_
  rintro e w2 ⟨rfl, hb⟩
  have ka : Blk w2 w.heap.size #[.int .i64 a, .int .i64 b] := (Ba.out.alloc _).call hb
  have kc : Blk w2 (w.heap.size + 1) #[.int .i64 c, .int .i64 d] := (Bc.out.alloc _).call hb
  have km : Blk w2 w1.heap.size #[.int .i64 y0, .int .i64 y1] := (Blk.new _ _ _).call hb
  have kw : Below w.heap.size w w2 := (HW1.out.alloc HW1.out.size _).trans (hb.mono (by have := HW1.out.size; simp; omega))
  clear la ca0 ca1 lc cc0 cc1 Ba Bc HW1
  have Ba := Lib.hid ka
  have Bc := Lib.hid kc
  have Bm := Lib.hid km
  have HW2 := Lib.hid kw
  clear hb kw ka kc km
  have la := Ba.out.lt
  have ca0 : w2.cell? ⟨w.heap.size, 0, none⟩ = some (.int .i64 a) := Ba.out.cell rfl
  have ca1 : w2.cell? ⟨w.heap.size, 1, none⟩ = some (.int .i64 b) := Ba.out.cell rfl
  go_wp2_with fail
  refine (M3.out _).mono ?_
  rintro e w3 ⟨rfl, hb⟩
  have ka : Blk w3 w.heap.size #[.int .i64 a, .int .i64 b] := (Ba.out.alloc _).call hb
  have kc : Blk w3 (w.heap.size + 1) #[.int .i64 c, .int .i64 d] := (Bc.out.alloc _).call hb
  have km : Blk w3 w1.heap.size #[.int .i64 y0, .int .i64 y1] := (Bm.out.alloc _).call hb
  have kq : Blk w3 w2.heap.size #[.int .i64 d0, .int .i64 d1] := (Blk.new _ _ _).call hb
  have kw : Below w.heap.size w w3 := (HW2.out.alloc HW2.out.size _).trans (hb.mono (by have := HW2.out.size; simp; omega))
  clear la ca0 ca1 Ba Bc Bm HW2
  have Ba := Lib.hid ka
  have Bc := Lib.hid kc
  have Bm := Lib.hid km
  have Bq := Lib.hid kq
  have HW3 := Lib.hid kw
  clear hb kw ka kc km kq
  go_wp2_with fail
  refine (alive5 _).mono ?_
  rintro e w4 ⟨rfl, hb⟩
  have ka : Blk w4 w.heap.size #[.int .i64 a, .int .i64 b] := ((Ba.out.alloc _).alloc _).call hb
  have kc : Blk w4 (w.heap.size + 1) #[.int .i64 c, .int .i64 d] := ((Bc.out.alloc _).alloc _).call hb
  have km : Blk w4 w1.heap.size #[.int .i64 y0, .int .i64 y1] := ((Bm.out.alloc _).alloc _).call hb
  have kq : Blk w4 w2.heap.size #[.int .i64 d0, .int .i64 d1] := ((Bq.out.alloc _).alloc _).call hb
  have kr : Blk w4 w3.heap.size #[.int .i64 r0, .int .i64 r1] := ((Blk.new _ _ _).alloc _).call hb
  have kn : Blk w4 (w3.heap.size + 1) #[.int .i64 0, .int .i64 0] := (Blk.newAt (by simp)).call hb
  have kw : Below w.heap.size w w4 := ((HW3.out.alloc HW3.out.size _).alloc (by have := HW3.out.size; simp; omega) _).trans (hb.mono (by have := HW3.out.size; simp; omega))
  clear Ba Bc Bm Bq HW3
  have Ba := Lib.hid ka
  have Bc := Lib.hid kc
  have Bm := Lib.hid km
  have Bq := Lib.hid kq
  have Br := Lib.hid kr
  have Bn := Lib.hid kn
  have HW4 := Lib.hid kw
  clear hb kw ka kc km kq kr kn
  have la := Ba.out.lt
  have ca0 : w4.cell? ⟨w.heap.size, 0, none⟩ = some (.int .i64 a) := Ba.out.cell rfl
  have ca1 : w4.cell? ⟨w.heap.size, 1, none⟩ = some (.int .i64 b) := Ba.out.cell rfl
  go_wp2_with fail
  refine (M4.out _).mono ?_
  rintro e w5 ⟨rfl, hb⟩
  have ka : Blk w5 w.heap.size #[.int .i64 a, .int .i64 b] := Ba.out.call hb
  have kc : Blk w5 (w.heap.size + 1) #[.int .i64 c, .int .i64 d] := Bc.out.call hb
  have km : Blk w5 w1.heap.size #[.int .i64 y0, .int .i64 y1] := Bm.out.call hb
  have kq : Blk w5 w2.heap.size #[.int .i64 d0, .int .i64 d1] := Bq.out.call hb
  have kr : Blk w5 w3.heap.size #[.int .i64 r0, .int .i64 r1] := Br.out.call hb
  have kn : Blk w5 (w3.heap.size + 1) #[.int .i64 0, .int .i64 0] := Bn.out.call hb
  have kw : Below w.heap.size w w5 := HW4.out.trans (hb.mono HW4.out.size)
  clear la ca0 ca1 Ba Bc Bm Bq Br Bn HW4
  have Ba := Lib.hid ka
  have Bc := Lib.hid kc
  have Bm := Lib.hid km
  have Bq := Lib.hid kq
  have Br := Lib.hid kr
  have Bn := Lib.hid kn
  have HW5 := Lib.hid kw
  clear hb kw ka kc km kq kr kn
  have e0 := eqS0'
  have em := eqS' y0 y1
  have ed := eqS' d0 d1
  have er := eqS' r0 r1
  have la := Ba.out.lt
  have ca0 : w5.cell? ⟨w.heap.size, 0, none⟩ = some (.int .i64 a) := Ba.out.cell rfl
  have ca1 : w5.cell? ⟨w.heap.size, 1, none⟩ = some (.int .i64 b) := Ba.out.cell rfl
  go_upto_region 12 with fail
  obtain ⟨W12x, hW12x⟩ : ∃ W12x, w5 = W12x := ⟨_, rfl⟩
  have ba : Blk W12x w.heap.size #[.int .i64 a, .int .i64 b] := by rw [← hW12x]; exact Ba.out
  have bc : Blk W12x (w.heap.size + 1) #[.int .i64 c, .int .i64 d] := by rw [← hW12x]; exact Bc.out
  have bm : Blk W12x w1.heap.size #[.int .i64 y0, .int .i64 y1] := by rw [← hW12x]; exact Bm.out
  have bq : Blk W12x w2.heap.size #[.int .i64 d0, .int .i64 d1] := by rw [← hW12x]; exact Bq.out
  have br : Blk W12x w3.heap.size #[.int .i64 r0, .int .i64 r1] := by rw [← hW12x]; exact Br.out
  have bn : Blk W12x (w3.heap.size + 1) #[.int .i64 0, .int .i64 0] := by rw [← hW12x]; exact Bn.out
  have hw : Below w.heap.size w W12x := by rw [← hW12x]; exact HW5.out
  rw [hW12x]
  clear hW12x la ca0 ca1 Ba Bc Bm Bq Br Bn HW5
  have hok : OwnOk (fun w' => w'.cell? ⟨w3.heap.size, 0, none⟩ = some (.int .i64 r0) ∧ w'.cell? ⟨w3.heap.size, 1, none⟩ = some (.int .i64 r1) ∧ w'.cell? ⟨w.heap.size, 0, none⟩ = some (.int .i64 a) ∧ w'.cell? ⟨w.heap.size, 1, none⟩ = some (.int .i64 b) ∧ Hid (Blk w' w.heap.size #[.int .i64 a, .int .i64 b] ∧ Blk w' (w.heap.size + 1) #[.int .i64 c, .int .i64 d] ∧ Blk w' w1.heap.size #[.int .i64 y0, .int .i64 y1] ∧ Blk w' w2.heap.size #[.int .i64 d0, .int .i64 d1] ∧ Blk w' w3.heap.size #[.int .i64 r0, .int .i64 r1] ∧ Blk w' (w3.heap.size + 1) #[.int .i64 0, .int .i64 0] ∧ Below w.heap.size w w')) W12x.heap.size [] := own0_ok (fun v1 v2 h hb => ⟨((h.2.2.2.2.out.2.2.2.2.1).below hb br.lt).cell rfl, ((h.2.2.2.2.out.2.2.2.2.1).below hb br.lt).cell rfl, ((h.2.2.2.2.out.1).below hb ba.lt).cell rfl, ((h.2.2.2.2.out.1).below hb ba.lt).cell rfl, Lib.hid ⟨(h.2.2.2.2.out.1).below hb ba.lt, (h.2.2.2.2.out.2.1).below hb bc.lt, (h.2.2.2.2.out.2.2.1).below hb bm.lt, (h.2.2.2.2.out.2.2.2.1).below hb bq.lt, (h.2.2.2.2.out.2.2.2.2.1).below hb br.lt, (h.2.2.2.2.out.2.2.2.2.2.1).below hb bn.lt, (h.2.2.2.2.out.2.2.2.2.2.2).trans (hb.mono hw.size)⟩⟩)
  have hfit : ∀ i, (∀ e ∈ ([] : List Ent), e.x ≠ i ∧ e.s ≠ i) → Fit (fun w' => w'.cell? ⟨w3.heap.size, 0, none⟩ = some (.int .i64 r0) ∧ w'.cell? ⟨w3.heap.size, 1, none⟩ = some (.int .i64 r1) ∧ w'.cell? ⟨w.heap.size, 0, none⟩ = some (.int .i64 a) ∧ w'.cell? ⟨w.heap.size, 1, none⟩ = some (.int .i64 b) ∧ Hid (Blk w' w.heap.size #[.int .i64 a, .int .i64 b] ∧ Blk w' (w.heap.size + 1) #[.int .i64 c, .int .i64 d] ∧ Blk w' w1.heap.size #[.int .i64 y0, .int .i64 y1] ∧ Blk w' w2.heap.size #[.int .i64 d0, .int .i64 d1] ∧ Blk w' w3.heap.size #[.int .i64 r0, .int .i64 r1] ∧ Blk w' (w3.heap.size + 1) #[.int .i64 0, .int .i64 0] ∧ Below w.heap.size w w')) (Sof (fun w' => w'.cell? ⟨w3.heap.size, 0, none⟩ = some (.int .i64 r0) ∧ w'.cell? ⟨w3.heap.size, 1, none⟩ = some (.int .i64 r1) ∧ w'.cell? ⟨w.heap.size, 0, none⟩ = some (.int .i64 a) ∧ w'.cell? ⟨w.heap.size, 1, none⟩ = some (.int .i64 b) ∧ Hid (Blk w' w.heap.size #[.int .i64 a, .int .i64 b] ∧ Blk w' (w.heap.size + 1) #[.int .i64 c, .int .i64 d] ∧ Blk w' w1.heap.size #[.int .i64 y0, .int .i64 y1] ∧ Blk w' w2.heap.size #[.int .i64 d0, .int .i64 d1] ∧ Blk w' w3.heap.size #[.int .i64 r0, .int .i64 r1] ∧ Blk w' (w3.heap.size + 1) #[.int .i64 0, .int .i64 0] ∧ Below w.heap.size w w')) W12x.heap.size []) i := fun i hi => sof_fit hok.st hok.loc hi
  have HOK := Lib.hid hok; have HF := Lib.hid hfit; clear hok hfit
  refine wp_region_ab (S0 := (fun w' => w'.cell? ⟨w3.heap.size, 0, none⟩ = some (.int .i64 r0) ∧ w'.cell? ⟨w3.heap.size, 1, none⟩ = some (.int .i64 r1) ∧ w'.cell? ⟨w.heap.size, 0, none⟩ = some (.int .i64 a) ∧ w'.cell? ⟨w.heap.size, 1, none⟩ = some (.int .i64 b) ∧ Hid (Blk w' w.heap.size #[.int .i64 a, .int .i64 b] ∧ Blk w' (w.heap.size + 1) #[.int .i64 c, .int .i64 d] ∧ Blk w' w1.heap.size #[.int .i64 y0, .int .i64 y1] ∧ Blk w' w2.heap.size #[.int .i64 d0, .int .i64 d1] ∧ Blk w' w3.heap.size #[.int .i64 r0, .int .i64 r1] ∧ Blk w' (w3.heap.size + 1) #[.int .i64 0, .int .i64 0] ∧ Below w.heap.size w w'))) W12x.heap.size [] (by kernel_rfl) ⟨(br.drew).cell rfl, (br.drew).cell rfl, (ba.drew).cell rfl, (ba.drew).cell rfl, Lib.hid ⟨ba.drew, bc.drew, bm.drew, bq.drew, br.drew, bn.drew, hw.drew⟩⟩ (Nat.le_refl _) (by simp) ?_
  clear ba bc bm bq br bn
  refine abTake 0 (some 74) (v := ?_) rfl rfl (by kernel_rfl) (by kernel_rfl) (by kernel_rfl) (fun _ _ _ h => h) (HF.out _ (by simp)) (by rfl) ?_ ?_
  rotate_left 1
  · (intro w hSw; (try dsimp only at hSw); go_simp; try with_reducible rfl)
  simp only [Act.put, List.setIfInBounds_toArray, List.set_cons_zero, List.set_cons_succ]
  refine abTake 1 (some 75) (v := ?_) rfl rfl (by kernel_rfl) (by kernel_rfl) (by kernel_rfl) (fun _ _ _ h => h) (HF.out _ (by simp)) (by rfl) ?_ ?_
  rotate_left 1
  · (intro w hSw; (try dsimp only at hSw); go_simp; try with_reducible rfl)
  simp only [Act.put, List.setIfInBounds_toArray, List.set_cons_zero, List.set_cons_succ]
  refine abTake 2 (some 76) (v := ?_) rfl rfl (by kernel_rfl) (by kernel_rfl) (by kernel_rfl) (fun _ _ _ h => h) (HF.out _ (by simp)) (by rfl) ?_ ?_
  rotate_left 1
  · (intro w hSw; (try dsimp only at hSw); go_simp; try with_reducible rfl)
  simp only [Act.put, List.setIfInBounds_toArray, List.set_cons_zero, List.set_cons_succ]
  refine abTake 3 (some 77) (v := ?_) rfl rfl (by kernel_rfl) (by kernel_rfl) (by kernel_rfl) (fun _ _ _ h => h) (HF.out _ (by simp)) (by rfl) ?_ ?_
  rotate_left 1
  · (intro w hSw; (try dsimp only at hSw); go_simp; try with_reducible rfl)
  simp only [Act.put, List.setIfInBounds_toArray, List.set_cons_zero, List.set_cons_succ]
  refine abTake 4 (some 78) (v := ?_) rfl rfl (by kernel_rfl) (by kernel_rfl) (by kernel_rfl) (fun _ _ _ h => h) (HF.out _ (by simp)) (by rfl) ?_ ?_
  rotate_left 1
  · (intro w hSw; (try dsimp only at hSw); go_simp; try with_reducible rfl)
  simp only [Act.put, List.setIfInBounds_toArray, List.set_cons_zero, List.set_cons_succ]
  refine abCall 5 (some 79) rfl rfl (by kernel_rfl) (by kernel_rfl) (by kernel_rfl) (fun _ _ _ h => h) (HF.out _ (by simp)) (by rfl) ?_ (fun w hSw => N1.out w) ?_
  · (intro w hSw; (try dsimp only at hSw); go_simp; try with_reducible rfl)
  simp only [Act.put, List.setIfInBounds_toArray, List.set_cons_zero, List.set_cons_succ]
  refine abTake 6 (some 80) (v := ?_) rfl rfl (by kernel_rfl) (by kernel_rfl) (by kernel_rfl) (fun _ _ _ h => h) (HF.out _ (by simp)) (by rfl) ?_ ?_
  rotate_left 1
  · (intro w hSw; (try dsimp only at hSw); go_simp; try with_reducible rfl)
  simp only [Act.put, List.setIfInBounds_toArray, List.set_cons_zero, List.set_cons_succ]
  refine abTake 7 (some 81) (v := ?_) rfl rfl (by kernel_rfl) (by kernel_rfl) (by kernel_rfl) (fun _ _ _ h => h) (HF.out _ (by simp)) (by rfl) ?_ ?_
  rotate_left 1
  · (intro w hSw; (try dsimp only at hSw); go_simp; try with_reducible rfl)
  simp only [Act.put, List.setIfInBounds_toArray, List.set_cons_zero, List.set_cons_succ]
  refine abDone (by kernel_rfl) ?_ _
  rintro w9 hS
  have Ba := Lib.hid (hS.1.2.2.2.2.out.1)
  have Bc := Lib.hid (hS.1.2.2.2.2.out.2.1)
  have Bm := Lib.hid (hS.1.2.2.2.2.out.2.2.1)
  have Bq := Lib.hid (hS.1.2.2.2.2.out.2.2.2.1)
  have Br := Lib.hid (hS.1.2.2.2.2.out.2.2.2.2.1)
  have Bn := Lib.hid (hS.1.2.2.2.2.out.2.2.2.2.2.1)
  have Hw9 := Lib.hid (hS.1.2.2.2.2.out.2.2.2.2.2.2)
  clear hS HOK HF hw
  have lc := Bc.out.lt
  have cc0 : w9.cell? ⟨(w.heap.size + 1), 0, none⟩ = some (.int .i64 c) := Bc.out.cell rfl
  have cc1 : w9.cell? ⟨(w.heap.size + 1), 1, none⟩ = some (.int .i64 d) := Bc.out.cell rfl
  go_wp2_with fail
  refine (M5.out _).mono ?_
  rintro e w10 ⟨rfl, hb⟩
  have ka : Blk w10 w.heap.size #[.int .i64 a, .int .i64 b] := Ba.out.call hb
  have kc : Blk w10 (w.heap.size + 1) #[.int .i64 c, .int .i64 d] := Bc.out.call hb
  have km : Blk w10 w1.heap.size #[.int .i64 y0, .int .i64 y1] := Bm.out.call hb
  have kq : Blk w10 w2.heap.size #[.int .i64 d0, .int .i64 d1] := Bq.out.call hb
  have kr : Blk w10 w3.heap.size #[.int .i64 r0, .int .i64 r1] := Br.out.call hb
  have kn : Blk w10 (w3.heap.size + 1) #[.int .i64 0, .int .i64 0] := Bn.out.call hb
  have kw : Below w.heap.size w w10 := Hw9.out.trans (hb.mono Hw9.out.size)
  clear lc cc0 cc1 Ba Bc Bm Bq Br Bn Hw9
  have Ba := Lib.hid ka
  have Bc := Lib.hid kc
  have Bm := Lib.hid km
  have Bq := Lib.hid kq
  have Br := Lib.hid kr
  have Bn := Lib.hid kn
  have HW10 := Lib.hid kw
  clear hb kw ka kc km kq kr kn
  have la := Ba.out.lt
  have ca0 : w10.cell? ⟨w.heap.size, 0, none⟩ = some (.int .i64 a) := Ba.out.cell rfl
  have ca1 : w10.cell? ⟨w.heap.size, 1, none⟩ = some (.int .i64 b) := Ba.out.cell rfl
  have lc := Bc.out.lt
  have cc0 : w10.cell? ⟨(w.heap.size + 1), 0, none⟩ = some (.int .i64 c) := Bc.out.cell rfl
  have cc1 : w10.cell? ⟨(w.heap.size + 1), 1, none⟩ = some (.int .i64 d) := Bc.out.cell rfl
  go_wp2_with fail
  refine (N2.out _).mono ?_
  rintro e w11 ⟨rfl, hb⟩
  have ka : Blk w11 w.heap.size #[.int .i64 a, .int .i64 b] := Ba.out.call hb
  have kc : Blk w11 (w.heap.size + 1) #[.int .i64 c, .int .i64 d] := Bc.out.call hb
  have km : Blk w11 w1.heap.size #[.int .i64 y0, .int .i64 y1] := Bm.out.call hb
  have kq : Blk w11 w2.heap.size #[.int .i64 d0, .int .i64 d1] := Bq.out.call hb
  have kr : Blk w11 w3.heap.size #[.int .i64 r0, .int .i64 r1] := Br.out.call hb
  have kn : Blk w11 (w3.heap.size + 1) #[.int .i64 0, .int .i64 0] := Bn.out.call hb
  have kw : Below w.heap.size w w11 := HW10.out.trans (hb.mono HW10.out.size)
  clear la ca0 ca1 lc cc0 cc1 Ba Bc Bm Bq Br Bn HW10
  have Ba := Lib.hid ka
  have Bc := Lib.hid kc
  have Bm := Lib.hid km
  have Bq := Lib.hid kq
  have Br := Lib.hid kr
  have Bn := Lib.hid kn
  have HW11 := Lib.hid kw
  clear hb kw ka kc km kq kr kn
  have lm := Bm.out.lt
  have cm0 : w11.cell? ⟨w1.heap.size, 0, none⟩ = some (.int .i64 y0) := Bm.out.cell rfl
  have cm1 : w11.cell? ⟨w1.heap.size, 1, none⟩ = some (.int .i64 y1) := Bm.out.cell rfl
  have lc := Bc.out.lt
  have cc0 : w11.cell? ⟨(w.heap.size + 1), 0, none⟩ = some (.int .i64 c) := Bc.out.cell rfl
  have cc1 : w11.cell? ⟨(w.heap.size + 1), 1, none⟩ = some (.int .i64 d) := Bc.out.cell rfl
  go_wp2_with fail
  refine (N3.out _).mono ?_
  rintro e w12 ⟨rfl, hb⟩
  have ka : Blk w12 w.heap.size #[.int .i64 a, .int .i64 b] := (Ba.out.alloc _).call hb
  have kc : Blk w12 (w.heap.size + 1) #[.int .i64 c, .int .i64 d] := (Bc.out.alloc _).call hb
  have km : Blk w12 w1.heap.size #[.int .i64 y0, .int .i64 y1] := (Bm.out.alloc _).call hb
  have kq : Blk w12 w2.heap.size #[.int .i64 d0, .int .i64 d1] := (Bq.out.alloc _).call hb
  have kr : Blk w12 w3.heap.size #[.int .i64 r0, .int .i64 r1] := (Br.out.alloc _).call hb
  have kn : Blk w12 (w3.heap.size + 1) #[.int .i64 0, .int .i64 0] := (Bn.out.alloc _).call hb
  have kp : Blk w12 w11.heap.size #[.int .i64 y0, .int .i64 y1] := (Blk.new _ _ _).call hb
  have kw : Below w.heap.size w w12 := (HW11.out.alloc HW11.out.size _).trans (hb.mono (by have := HW11.out.size; simp; omega))
  clear lm cm0 cm1 lc cc0 cc1 Ba Bc Bm Bq Br Bn HW11
  have Ba := Lib.hid ka
  have Bc := Lib.hid kc
  have Bm := Lib.hid km
  have Bq := Lib.hid kq
  have Br := Lib.hid kr
  have Bn := Lib.hid kn
  have Bp := Lib.hid kp
  have HW12 := Lib.hid kw
  clear hb kw ka kc km kq kr kn kp
  have la := Ba.out.lt
  have ca0 : w12.cell? ⟨w.heap.size, 0, none⟩ = some (.int .i64 a) := Ba.out.cell rfl
  have ca1 : w12.cell? ⟨w.heap.size, 1, none⟩ = some (.int .i64 b) := Ba.out.cell rfl
  have lc := Bc.out.lt
  have cc0 : w12.cell? ⟨(w.heap.size + 1), 0, none⟩ = some (.int .i64 c) := Bc.out.cell rfl
  have cc1 : w12.cell? ⟨(w.heap.size + 1), 1, none⟩ = some (.int .i64 d) := Bc.out.cell rfl
  go_wp2_with fail
  refine (N4.out _).mono ?_
  rintro e w13 ⟨rfl, hb⟩
  have ka : Blk w13 w.heap.size #[.int .i64 a, .int .i64 b] := Ba.out.call hb
  have kc : Blk w13 (w.heap.size + 1) #[.int .i64 c, .int .i64 d] := Bc.out.call hb
  have km : Blk w13 w1.heap.size #[.int .i64 y0, .int .i64 y1] := Bm.out.call hb
  have kq : Blk w13 w2.heap.size #[.int .i64 d0, .int .i64 d1] := Bq.out.call hb
  have kr : Blk w13 w3.heap.size #[.int .i64 r0, .int .i64 r1] := Br.out.call hb
  have kn : Blk w13 (w3.heap.size + 1) #[.int .i64 0, .int .i64 0] := Bn.out.call hb
  have kp : Blk w13 w11.heap.size #[.int .i64 y0, .int .i64 y1] := Bp.out.call hb
  have kw : Below w.heap.size w w13 := HW12.out.trans (hb.mono HW12.out.size)
  clear la ca0 ca1 lc cc0 cc1 Ba Bc Bm Bq Br Bn Bp HW12
  have Ba := Lib.hid ka
  have Bc := Lib.hid kc
  have Bm := Lib.hid km
  have Bq := Lib.hid kq
  have Br := Lib.hid kr
  have Bn := Lib.hid kn
  have Bp := Lib.hid kp
  have HW13 := Lib.hid kw
  clear hb kw ka kc km kq kr kn kp
  have lq := Bq.out.lt
  have cq0 : w13.cell? ⟨w2.heap.size, 0, none⟩ = some (.int .i64 d0) := Bq.out.cell rfl
  have cq1 : w13.cell? ⟨w2.heap.size, 1, none⟩ = some (.int .i64 d1) := Bq.out.cell rfl
  go_wp2_with fail
  go_ret
  exact ⟨rfl, (HW13.out.alloc HW13.out.size _)⟩
end Go.Proofs.Ytacnaencmbnjpaa

/- The law SpanTimes: the numbers of its walk. -/
namespace Go.Proofs.Ytacnaencmbnjpaa
open Go.RowKit

theorem stimes_walk (a b c d : Int) (ha : IsInt a) (hb : IsInt b) (hc : IsInt c) (hd : IsInt d) (w : World) :
    Calls Try.prog 4 #[.agg #[.int .i64 a, .int .i64 b], .agg #[.int .i64 c, .int .i64 d]] w fun en w' => en = .returned (.bool true) ∧ Below w.heap.size w w' := by
  have m1 := fun w => smul_any a b c d ha hb hc hd w
  have m4 := fun w => rright_any a b w
  have m5 := fun w => rright_any c d w
  have n3 := fun w => rhas_any c d 0 w
  have n2 := fun w => rmul5_any a b c d ha hb hc hd w
  by_cases h1 : a ≤ b
  · rw [decide_eq_true h1] at m4
    obtain ⟨r, hr⟩ := IsRoot.is a.toNat
    obtain ⟨s, hs⟩ := IsRoot.is b.toNat
    by_cases h2 : c ≤ d
    · have h : a ≤ b ∧ c ≤ d := ⟨h1, h2⟩
      rw [decide_eq_true h2] at m5
      rw [oLo_r h, oHi_r h, oErr_r h] at m1
      by_cases h0 : c ≤ 0 ∧ 0 ≤ d
      · rw [decide_eq_true h0] at n3
        have m2 := fun w => sdiv_by0 a b c d h1 h0 w
        by_cases k : a < 0
        · exact stimes_low_zero a b c d _ _ _ w k m1 m2 (fun w => sroot_low a b h1 k w) m4 m5 n2 n3
        · exact stimes_root_zero a b c d _ _ _ _ _ w k m1 m2 (fun w => sroot_any a b ha hb h1 (by omega) r s hr hs w) m4 (fun w => rsroot_any a b ha hb h1 (by omega) r s hr hs w) m5 n2 n3
      · rw [decide_eq_false h0] at n3
        have m2 := fun w => sdiv_any a b c d ha hb hc hd h0 w
        have n4 := fun w => rdiv5_any a b c d ha hb hc hd (by omega) (by omega) w
        rw [oLo_r h, oHi_r h, oErr_r h] at m2
        by_cases k : a < 0
        · exact stimes_low_all a b c d _ _ _ _ _ _ w k m1 m2 (fun w => sroot_low a b h1 k w) m4 m5 n2 n3 n4
        · exact stimes_root_all a b c d _ _ _ _ _ _ _ _ w k m1 m2 (fun w => sroot_any a b ha hb h1 (by omega) r s hr hs w) m4 (fun w => rsroot_any a b ha hb h1 (by omega) r s hr hs w) m5 n2 n3 n4
    · have h : ¬ (a ≤ b ∧ c ≤ d) := fun k => h2 k.2
      rw [decide_eq_false h2] at m5
      rw [oLo_n h, oHi_n h, oErr_n h] at m1
      have m2 := fun w => sdiv_any a b c d ha hb hc hd (by omega) w
      rw [oLo_n h, oHi_n h, oErr_n h] at m2
      by_cases k : a < 0
      · exact stimes_low_no a b c d w k m1 m2 (fun w => sroot_low a b h1 k w) m4 m5
      · exact stimes_root_no a b c d _ _ w k m1 m2 (fun w => sroot_any a b ha hb h1 (by omega) r s hr hs w) m4 (fun w => rsroot_any a b ha hb h1 (by omega) r s hr hs w) m5
  · have h : ¬ (a ≤ b ∧ c ≤ d) := fun k => h1 k.1
    rw [decide_eq_false h1] at m4
    rw [oLo_n h, oHi_n h, oErr_n h] at m1
    exact stimes_no_any a b c d w m1 (fun w => sdiv_no a b c d h1 w) (fun w => sroot_no a b h1 w) m4
end Go.Proofs.Ytacnaencmbnjpaa

/- SpanTimes: for every two spans: what they are multiplied, divided, and the root of the first, is as the reference has it, or refused as it is. No condition. -/
namespace Go.Proofs.Ytacnaencmbnjpaa.lawSTimes
open Go.ChangeShapes Go.WideShapes Go.ChangeAt Go.RowKit Go.Joins

set_option maxRecDepth 100000 in
theorem lifted (os : Os) (started : os.Started) (H : Type) (enc : TypeId × Value → H) :
    ReturnsInHanded {} Try.checked os 4 .any (Rows.spanTimesSpec.pre6 enc Try.prog Try.f4 Rows.spanTimesRow.domain false) (Rows.spanTimesSpec.post enc Try.prog Try.f4 false true false false) := by
  refine returnsInHanded_of_change (C := Try.checked) own started (by kernel_rfl) Try.func4
    (ChangeSpec.witness6 (enc := enc) (C := Try.checked) false ⟨#[], #[.agg #[.int .i64 0, .int .i64 0], .agg #[.int .i64 0, .int .i64 0]], []⟩ 8 (by kernel_rfl) (by kernel_rfl) (by kernel_rfl) (by kernel_rfl)) ?_
  intro W base args ds gs before hval0 hW _ _
  have hval : ∀ (j : Nat) t v, Try.f4.params[j]? = some t → args[j]? = some v → Value.okWide Try.prog W .any base t v := hval0
  have hW' := hW
  obtain ⟨p, q, hA0, hV, rfl, _, _⟩ := hW
  have hA : DataW.TrodAll enc Try.prog W 0 (fun _ => true) true Try.f4.params.toList args.toList ds p := hA0
  rw [Try.params4] at hA hval
  obtain ⟨v0, v1, d0, d1, p0, p1, rfl, rfl, rfl, h0, h1⟩ := trodAll_two hA
  obtain ⟨rfl, rfl⟩ := trodVars_none hV
  obtain ⟨a, b, ha, hb, rfl, rfl, rfl⟩ := openS (hval 0 23 v0 rfl rfl) h0
  obtain ⟨c, d, hc, hd, rfl, rfl, rfl⟩ := openS (hval 1 23 v1 rfl rfl) h1
  clear hA0 hval0
  simp only [List.append_nil] at hW'
  refine (stimes_walk a b c d ha hb hc hd W).mono fun e W' ⟨he, hb'⟩ => ?_
  subst he
  exact ⟨_, rfl, lawPost [] [] hW' (trodAll_mk1 (shut_bool Try.underlying4 _)) (trodAll_mk2 (shutS a b ha hb W' _) (shutS c d hc hd W' _)) rfl hb'⟩

theorem holds : Rows.SpanTimesSaid :=
  OpenClaim.holds_of_wide 4 Try.f4 rfl rfl rfl rfl rfl rfl rfl ⟨rfl, rfl, rfl, rfl, rfl⟩ rfl rfl rfl rfl rfl (by kernel_rfl) Try.func4 (by kernel_rfl)
    (of_decide_eq_true (by kernel_rfl)) (by unfold Func.isWrapper; rw [if_neg (of_decide_eq_false (by kernel_rfl))]; exact ⟨rfl, rfl⟩)
    (fun os started H enc _ => lifted os started H enc)
#print axioms holds
end Go.Proofs.Ytacnaencmbnjpaa.lawSTimes
