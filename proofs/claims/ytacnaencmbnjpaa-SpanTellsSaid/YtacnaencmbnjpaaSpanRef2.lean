/- The reference of stage 5: Mul, Div: the least and the greatest of four corners, or the first that is refused. -/
import Derived.Test.YtacnaencmbnjpaaSpanOps
import Derived.Test.YtacnaencmbnjpaaFixRef2
import Derived.Test.YtacnaencmbnjpaaFixRef3
/- The reference of stage 5: both, Add, Sub, Join, pairs. -/
namespace Go.Proofs.Ytacnaencmbnjpaa
open Go.RowKit

theorem both_ok (x y : Int) (w : World) :
    Calls Try.prog 36 #[.int .i64 x, .int .i64 0, .int .i64 y, .int .i64 0] w fun en w' => en = .returned (.tuple #[.agg #[.int .i64 x, .int .i64 y], .int .i64 0]) ∧ Below w.heap.size w w' := by
  go_enter Try.func36, Try.ntmps36
  go_wp2_with fail
  exact bodyPost_ret (v := .tuple #[.agg #[.int .i64 x, .int .i64 y], .int .i64 0]) (by simp [results, Try.results36, go_sem]) rfl ⟨rfl, (Below.refl _ _).alloc (Nat.le_refl _) _⟩
theorem both_one (x y e k : Int) (w : World) (he : (e == 0) = false) :
    Calls Try.prog 36 #[.int .i64 x, .int .i64 e, .int .i64 y, .int .i64 k] w fun en w' => en = .returned (.tuple #[.agg #[.int .i64 0, .int .i64 0], .int .i64 e]) ∧ Below w.heap.size w w' := by
  go_enter Try.func36, Try.ntmps36
  go_wp2_with fail
  exact bodyPost_ret (v := .tuple #[.agg #[.int .i64 0, .int .i64 0], .int .i64 e]) (by simp [results, Try.results36, go_sem]) rfl ⟨rfl, (Below.refl _ _).alloc (Nat.le_refl _) _⟩
theorem both_two (x y k : Int) (w : World) (hk : (k == 0) = false) :
    Calls Try.prog 36 #[.int .i64 x, .int .i64 0, .int .i64 y, .int .i64 k] w fun en w' => en = .returned (.tuple #[.agg #[.int .i64 0, .int .i64 0], .int .i64 k]) ∧ Below w.heap.size w w' := by
  go_enter Try.func36, Try.ntmps36
  go_wp2_with fail
  exact bodyPost_ret (v := .tuple #[.agg #[.int .i64 0, .int .i64 0], .int .i64 k]) (by simp [results, Try.results36, go_sem]) rfl ⟨rfl, (Below.refl _ _).alloc (Nat.le_refl _) _⟩
theorem both_any (lo hi : Int) (w : World) :
    Calls Try.prog 36 #[.int .i64 (ans lo), .int .i64 (err lo), .int .i64 (ans hi), .int .i64 (err hi)] w fun en w' => en = .returned (.tuple #[.agg #[.int .i64 (rLo lo hi), .int .i64 (rHi lo hi)], .int .i64 (rErr lo hi)]) ∧ Below w.heap.size w w' := by
  by_cases h1 : IsInt lo
  · by_cases h2 : IsInt hi
    · rw [ans_ok h1, err_ok h1, ans_ok h2, err_ok h2, rLo_ok ⟨h1, h2⟩, rHi_ok ⟨h1, h2⟩, rErr_ok ⟨h1, h2⟩]
      exact both_ok lo hi w
    · have k : ¬ (IsInt lo ∧ IsInt hi) := fun k => h2 k.2
      rw [ans_ok h1, err_ok h1, ans_no h2, err_no h2, rLo_no k, rHi_no k, rErr_no k]
      exact both_two lo 0 5 w (by decide)
  · have k : ¬ (IsInt lo ∧ IsInt hi) := fun k => h1 k.1
    rw [ans_no h1, err_no h1, rLo_no k, rHi_no k, rErr_no k]
    exact both_one 0 (ans hi) 5 (err hi) w (by decide)
theorem ra5_core (a b c d x e y k s0 s1 s2 : Int) (w : World)
    (m1 : ∀ w, Calls Try.prog 35 #[.int .i64 a, .int .i64 c] w fun en w' => en = .returned (.tuple #[.int .i64 x, .int .i64 e]) ∧ Below w.heap.size w w')
    (m2 : ∀ w, Calls Try.prog 35 #[.int .i64 b, .int .i64 d] w fun en w' => en = .returned (.tuple #[.int .i64 y, .int .i64 k]) ∧ Below w.heap.size w w')
    (m3 : ∀ w, Calls Try.prog 36 #[.int .i64 x, .int .i64 e, .int .i64 y, .int .i64 k] w fun en w' => en = .returned (.tuple #[.agg #[.int .i64 s0, .int .i64 s1], .int .i64 s2]) ∧ Below w.heap.size w w') :
    Calls Try.prog 16 #[.agg #[.int .i64 a, .int .i64 b], .agg #[.int .i64 c, .int .i64 d]] w fun en w' => en = .returned (.tuple #[.agg #[.int .i64 s0, .int .i64 s1], .int .i64 s2]) ∧ Below w.heap.size w w' := by
  have M1 := Lib.hid m1; have M2 := Lib.hid m2; have M3 := Lib.hid m3
  clear m1 m2 m3
  go_enter Try.func16, Try.ntmps16
  go_wp2_with fail
  refine (M1.out _).mono ?_
  rintro e w1 ⟨rfl, hb⟩
  have ka : Blk w1 w.heap.size #[.int .i64 a, .int .i64 b] := (((Blk.new _ _ _).alloc _).alloc _).call hb
  have kc : Blk w1 (w.heap.size + 1) #[.int .i64 c, .int .i64 d] := ((Blk.newAt (by simp)).alloc _).call hb
  have kr : Blk w1 (w.heap.size + 1 + 1) #[.int .i64 0, .int .i64 0] := (Blk.newAt (by simp)).call hb
  have kw : Below w.heap.size w w1 := ((((Below.refl w.heap.size w).alloc (Nat.le_refl _) _).alloc (by simp) _).alloc (by simp; omega) _).trans (hb.mono (by simp; omega))
  have Ba := Lib.hid ka
  have Bc := Lib.hid kc
  have Br := Lib.hid kr
  have HW1 := Lib.hid kw
  clear hb kw ka kc kr
  have la := Ba.out.lt
  have ca0 : w1.cell? ⟨w.heap.size, 0, none⟩ = some (.int .i64 a) := Ba.out.cell rfl
  have ca1 : w1.cell? ⟨w.heap.size, 1, none⟩ = some (.int .i64 b) := Ba.out.cell rfl
  have lc := Bc.out.lt
  have cc0 : w1.cell? ⟨(w.heap.size + 1), 0, none⟩ = some (.int .i64 c) := Bc.out.cell rfl
  have cc1 : w1.cell? ⟨(w.heap.size + 1), 1, none⟩ = some (.int .i64 d) := Bc.out.cell rfl
  go_wp2_with fail
  refine (M2.out _).mono ?_
  rintro e w2 ⟨rfl, hb⟩
  have kr : Blk w2 (w.heap.size + 1 + 1) #[.int .i64 0, .int .i64 0] := Br.out.call hb
  have kw : Below w.heap.size w w2 := HW1.out.trans (hb.mono HW1.out.size)
  clear la ca0 ca1 lc cc0 cc1 Ba Bc Br HW1
  have Br := Lib.hid kr
  have HW2 := Lib.hid kw
  clear hb kw kr
  go_wp2_with fail
  refine (M3.out _).mono ?_
  rintro e w3 ⟨rfl, hb⟩
  have kr : Blk w3 (w.heap.size + 1 + 1) #[.int .i64 0, .int .i64 0] := Br.out.call hb
  have kw : Below w.heap.size w w3 := HW2.out.trans (hb.mono HW2.out.size)
  clear Br HW2
  have Br := Lib.hid kr
  have HW3 := Lib.hid kw
  clear hb kw kr
  have lr := Br.out.lt
  have cr0 : w3.cell? ⟨(w.heap.size + 1 + 1), 0, none⟩ = some (.int .i64 0) := Br.out.cell rfl
  have fr0 := Br.out.free 0
  have cr1 : w3.cell? ⟨(w.heap.size + 1 + 1), 1, none⟩ = some (.int .i64 0) := Br.out.cell rfl
  have fr1 := Br.out.free 1
  go_wp2_with fail
  exact bodyPost_ret (v := .tuple #[.agg #[.int .i64 s0, .int .i64 s1], .int .i64 s2]) (by simp [results, Try.results16, go_sem, cr0, cr1]) rfl ⟨rfl, ((HW3.out.setCell (p := ⟨(w.heap.size + 1 + 1), 0, none⟩) (by have := Br.out.lt; have := HW3.out.size; (first | (simp; done) | (simp; omega) | omega)) _).setCell (p := ⟨(w.heap.size + 1 + 1), 1, none⟩) (by have := Br.out.lt; have := HW3.out.size; (first | (simp; done) | (simp; omega) | omega)) _)⟩
theorem ra5_any (a b c d : Int) (ha : IsInt a) (hb : IsInt b) (hc : IsInt c) (hd : IsInt d) (w : World) :
    Calls Try.prog 16 #[.agg #[.int .i64 a, .int .i64 b], .agg #[.int .i64 c, .int .i64 d]] w fun en w' => en = .returned (.tuple #[.agg #[.int .i64 (rLo (a + c) (b + d)), .int .i64 (rHi (a + c) (b + d))], .int .i64 (rErr (a + c) (b + d))]) ∧ Below w.heap.size w w' := by
  exact ra5_core a b c d _ _ _ _ _ _ _ w (refadd_any a c ha hc) (refadd_any b d hb hd) (both_any _ _)
theorem rs5_core (a b c d x e y k s0 s1 s2 : Int) (w : World)
    (m1 : ∀ w, Calls Try.prog 37 #[.int .i64 a, .int .i64 d] w fun en w' => en = .returned (.tuple #[.int .i64 x, .int .i64 e]) ∧ Below w.heap.size w w')
    (m2 : ∀ w, Calls Try.prog 37 #[.int .i64 b, .int .i64 c] w fun en w' => en = .returned (.tuple #[.int .i64 y, .int .i64 k]) ∧ Below w.heap.size w w')
    (m3 : ∀ w, Calls Try.prog 36 #[.int .i64 x, .int .i64 e, .int .i64 y, .int .i64 k] w fun en w' => en = .returned (.tuple #[.agg #[.int .i64 s0, .int .i64 s1], .int .i64 s2]) ∧ Below w.heap.size w w') :
    Calls Try.prog 17 #[.agg #[.int .i64 a, .int .i64 b], .agg #[.int .i64 c, .int .i64 d]] w fun en w' => en = .returned (.tuple #[.agg #[.int .i64 s0, .int .i64 s1], .int .i64 s2]) ∧ Below w.heap.size w w' := by
  have M1 := Lib.hid m1; have M2 := Lib.hid m2; have M3 := Lib.hid m3
  clear m1 m2 m3
  go_enter Try.func17, Try.ntmps17
  go_wp2_with fail
  refine (M1.out _).mono ?_
  rintro e w1 ⟨rfl, hb⟩
  have ka : Blk w1 w.heap.size #[.int .i64 a, .int .i64 b] := (((Blk.new _ _ _).alloc _).alloc _).call hb
  have kc : Blk w1 (w.heap.size + 1) #[.int .i64 c, .int .i64 d] := ((Blk.newAt (by simp)).alloc _).call hb
  have kr : Blk w1 (w.heap.size + 1 + 1) #[.int .i64 0, .int .i64 0] := (Blk.newAt (by simp)).call hb
  have kw : Below w.heap.size w w1 := ((((Below.refl w.heap.size w).alloc (Nat.le_refl _) _).alloc (by simp) _).alloc (by simp; omega) _).trans (hb.mono (by simp; omega))
  have Ba := Lib.hid ka
  have Bc := Lib.hid kc
  have Br := Lib.hid kr
  have HW1 := Lib.hid kw
  clear hb kw ka kc kr
  have la := Ba.out.lt
  have ca0 : w1.cell? ⟨w.heap.size, 0, none⟩ = some (.int .i64 a) := Ba.out.cell rfl
  have ca1 : w1.cell? ⟨w.heap.size, 1, none⟩ = some (.int .i64 b) := Ba.out.cell rfl
  have lc := Bc.out.lt
  have cc0 : w1.cell? ⟨(w.heap.size + 1), 0, none⟩ = some (.int .i64 c) := Bc.out.cell rfl
  have cc1 : w1.cell? ⟨(w.heap.size + 1), 1, none⟩ = some (.int .i64 d) := Bc.out.cell rfl
  go_wp2_with fail
  refine (M2.out _).mono ?_
  rintro e w2 ⟨rfl, hb⟩
  have kr : Blk w2 (w.heap.size + 1 + 1) #[.int .i64 0, .int .i64 0] := Br.out.call hb
  have kw : Below w.heap.size w w2 := HW1.out.trans (hb.mono HW1.out.size)
  clear la ca0 ca1 lc cc0 cc1 Ba Bc Br HW1
  have Br := Lib.hid kr
  have HW2 := Lib.hid kw
  clear hb kw kr
  go_wp2_with fail
  refine (M3.out _).mono ?_
  rintro e w3 ⟨rfl, hb⟩
  have kr : Blk w3 (w.heap.size + 1 + 1) #[.int .i64 0, .int .i64 0] := Br.out.call hb
  have kw : Below w.heap.size w w3 := HW2.out.trans (hb.mono HW2.out.size)
  clear Br HW2
  have Br := Lib.hid kr
  have HW3 := Lib.hid kw
  clear hb kw kr
  have lr := Br.out.lt
  have cr0 : w3.cell? ⟨(w.heap.size + 1 + 1), 0, none⟩ = some (.int .i64 0) := Br.out.cell rfl
  have fr0 := Br.out.free 0
  have cr1 : w3.cell? ⟨(w.heap.size + 1 + 1), 1, none⟩ = some (.int .i64 0) := Br.out.cell rfl
  have fr1 := Br.out.free 1
  go_wp2_with fail
  exact bodyPost_ret (v := .tuple #[.agg #[.int .i64 s0, .int .i64 s1], .int .i64 s2]) (by simp [results, Try.results17, go_sem, cr0, cr1]) rfl ⟨rfl, ((HW3.out.setCell (p := ⟨(w.heap.size + 1 + 1), 0, none⟩) (by have := Br.out.lt; have := HW3.out.size; (first | (simp; done) | (simp; omega) | omega)) _).setCell (p := ⟨(w.heap.size + 1 + 1), 1, none⟩) (by have := Br.out.lt; have := HW3.out.size; (first | (simp; done) | (simp; omega) | omega)) _)⟩
theorem rs5_any (a b c d : Int) (ha : IsInt a) (hb : IsInt b) (hc : IsInt c) (hd : IsInt d) (w : World) :
    Calls Try.prog 17 #[.agg #[.int .i64 a, .int .i64 b], .agg #[.int .i64 c, .int .i64 d]] w fun en w' => en = .returned (.tuple #[.agg #[.int .i64 (rLo (a - d) (b - c)), .int .i64 (rHi (a - d) (b - c))], .int .i64 (rErr (a - d) (b - c))]) ∧ Below w.heap.size w w' := by
  exact rs5_core a b c d _ _ _ _ _ _ _ w (refsub_any a d ha hd) (refsub_any b c hb hc) (both_any _ _)
theorem rjoin_any (a b c d : Int) (w : World) :
    Calls Try.prog 18 #[.agg #[.int .i64 a, .int .i64 b], .agg #[.int .i64 c, .int .i64 d]] w fun en w' => en = .returned (.agg #[.int .i64 (min a c), .int .i64 (max b d)]) ∧ Below w.heap.size w w' := by
  go_enter Try.func18, Try.ntmps18
  go_wp2_with fail
  exact bodyPost_ret (v := .agg #[.int .i64 (min a c), .int .i64 (max b d)]) (by simp [results, Try.results18, go_sem]) rfl ⟨rfl, (((Below.refl _ _).alloc (Nat.le_refl _) _).alloc (by simp) _).alloc (by simp; omega) _⟩
theorem pairs_any (a b c d : Int) (w : World) :
    Calls Try.prog 46 #[.agg #[.int .i64 a, .int .i64 b], .agg #[.int .i64 c, .int .i64 d]] w fun en w' => ∃ g, en = .returned (.slice (some ⟨g, 0, none⟩) 4 4) ∧ w.heap.size ≤ g ∧ Blk w' g #[.int .i64 a, .int .i64 c, .int .i64 a, .int .i64 d, .int .i64 b, .int .i64 c, .int .i64 b, .int .i64 d] ∧ Below w.heap.size w w' := by
  go_enter Try.func46, Try.ntmps46
  go_wp2_with fail
  go_ret
  exact ⟨_, rfl, by omega, Blk.newAt (by simp), (((Below.refl _ _).alloc (Nat.le_refl _) _).alloc (by simp) _).alloc (by simp; omega) _⟩
end Go.Proofs.Ytacnaencmbnjpaa

/- The reference of stage 5: Mul, Div: the least and the greatest of four corners, or the first that is refused. -/
namespace Go.Proofs.Ytacnaencmbnjpaa
open Go.RowKit

/-- The first, then whichever is less; or greater. -/
def fLo (z : Nat → Int) : Nat → Int
  | 0 => 0
  | k + 1 => if k = 0 ∨ z k < fLo z k then z k else fLo z k
def fHi (z : Nat → Int) : Nat → Int
  | 0 => 0
  | k + 1 => if k = 0 ∨ fHi z k < z k then z k else fHi z k
theorem fLo_four (z : Nat → Int) : fLo z 4 = min4 (z 0) (z 1) (z 2) (z 3) := by
  simp only [fLo, min4]
  simp
  omega
theorem fHi_four (z : Nat → Int) : fHi z 4 = max4 (z 0) (z 1) (z 2) (z 3) := by
  simp only [fHi, max4]
  simp
  omega
/-- What the loop carries. -/
structure RInv (w wr : World) (g B3 : Nat) (vs : Array Value) (lo hi : Int) : Prop where
  P : Blk wr g vs
  R : Blk wr (w.heap.size + 1 + 1) #[.int .i64 0, .int .i64 0]
  F : Blk wr B3 #[.int .i64 lo, .int .i64 hi]
  low : Below w.heap.size w wr
  lt : w.heap.size + 1 + 1 < B3 ∧ B3 < g
theorem RInv.call {w wr w' : World} {g B3 : Nat} {vs : Array Value} {lo hi : Int} (h : RInv w wr g B3 vs lo hi) (hb : Below wr.heap.size wr w') : RInv w w' g B3 vs lo hi :=
  ⟨h.P.call hb, h.R.call hb, h.F.call hb, h.low.trans (hb.mono h.low.size), h.lt⟩
theorem RInv.alloc {w wr : World} {g B3 : Nat} {vs : Array Value} {lo hi : Int} (h : RInv w wr g B3 vs lo hi) (o : Obj) : RInv w (wr.alloc o) g B3 vs lo hi :=
  h.call ((Below.refl _ _).alloc (Nat.le_refl _) _)
theorem RInv.set0 {w wr : World} {g B3 : Nat} {vs : Array Value} {lo hi : Int} (h : RInv w wr g B3 vs lo hi) (x : Int) : RInv w (wr.setCell ⟨B3, 0, none⟩ (.int .i64 x)) g B3 vs x hi := by
  have hlt := h.lt
  exact ⟨h.P.other (p := ⟨B3, 0, none⟩) (by simp; omega) _, h.R.other (p := ⟨B3, 0, none⟩) (by simp; omega) _, h.F.set 0 (.int .i64 x), h.low.setCell (p := ⟨B3, 0, none⟩) (by simp; omega) _, h.lt⟩
theorem RInv.set1 {w wr : World} {g B3 : Nat} {vs : Array Value} {lo hi : Int} (h : RInv w wr g B3 vs lo hi) (x : Int) : RInv w (wr.setCell ⟨B3, 1, none⟩ (.int .i64 x)) g B3 vs lo x := by
  have hlt := h.lt
  exact ⟨h.P.other (p := ⟨B3, 1, none⟩) (by simp; omega) _, h.R.other (p := ⟨B3, 1, none⟩) (by simp; omega) _, h.F.set 1 (.int .i64 x), h.low.setCell (p := ⟨B3, 1, none⟩) (by simp; omega) _, h.lt⟩
theorem RInv.to {w wr : World} {g B3 : Nat} {vs : Array Value} {lo hi lo' hi' : Int} (h : RInv w wr g B3 vs lo hi) (e : lo = lo') (k : hi = hi') : RInv w wr g B3 vs lo' hi' := by subst e k; exact h
set_option maxRecDepth 100000 in
theorem rmul5_core (a b c d : Int) (w : World) (z : Nat → Int)
    (m1 : ∀ i, i < 4 → ∀ w, Calls Try.prog 47 #[.int .i64 (cX a b i), .int .i64 (cY c d i)] w fun en w' => en = .returned (.tuple #[.int .i64 (ans (z i)), .int .i64 (err (z i))]) ∧ Below w.heap.size w w')
    (lo hi er : Int) (hok : (∀ i, i < 4 →  IsInt (z i) ) → lo = fLo z 4 ∧ hi = fHi z 4 ∧ er = 0) (hno : ∀ i, i < 4 → ¬ ( IsInt (z i) ) → lo = 0 ∧ hi = 0 ∧ er = 5) :
    Calls Try.prog 23 #[.agg #[.int .i64 a, .int .i64 b], .agg #[.int .i64 c, .int .i64 d]] w fun en w' => en = .returned (.tuple #[.agg #[.int .i64 lo, .int .i64 hi], .int .i64 er]) ∧ Below w.heap.size w w' := by
  have M1 := Lib.hid m1; have HOK := Lib.hid hok; have HNO := Lib.hid hno
  clear m1 hok hno
  have PR := Lib.hid (fun w => pairs_any a b c d w)
  go_enter Try.func23, Try.ntmps23
  go_wp2_with fail
  refine (PR.out _).mono ?_
  rintro e w1 ⟨g, rfl, hg, hp, hb⟩
  have hlt : w.heap.size + 1 + 1 < w.heap.size + 1 + 1 + 1 ∧ w.heap.size + 1 + 1 + 1 < g := by simp at hg; omega
  have r0 : Blk w1 (w.heap.size + 1 + 1) #[.int .i64 0, .int .i64 0] := ((Blk.newAt (by simp)).alloc _).call hb
  have f0 : Blk w1 (w.heap.size + 1 + 1 + 1) #[.int .i64 0, .int .i64 0] := (Blk.newAt (by simp)).call hb
  have i0 : RInv w w1 g (w.heap.size + 1 + 1 + 1) #[.int .i64 a, .int .i64 c, .int .i64 a, .int .i64 d, .int .i64 b, .int .i64 c, .int .i64 b, .int .i64 d] (fLo z 0) (fHi z 0) :=
    ⟨hp, r0, f0, (((((Below.refl _ _).alloc (Nat.le_refl _) _).alloc (by simp) _).alloc (by simp; omega) _).alloc (by simp; omega) _).trans (hb.mono (by simp; omega)), hlt⟩
  have I0 := Lib.hid i0
  clear hb r0 f0 i0 hp hg hlt PR
  go_wp2_with fail
  go_loopw [16] (fun i wr => ∃ k : Nat, k ≤ 4 ∧ i = .int .i64 k ∧ Hid (∀ i, i < k →  IsInt (z i) ) ∧ Hid (RInv w wr g (w.heap.size + 1 + 1 + 1) #[.int .i64 a, .int .i64 c, .int .i64 a, .int .i64 d, .int .i64 b, .int .i64 c, .int .i64 b, .int .i64 d] (fLo z k) (fHi z k))) (fun i _ => 4 - (intOf i).toNat)
  case atStart => exact ⟨0, Nat.zero_le _, rfl, Lib.hid (fun i hi => by omega), I0⟩
  case round =>
    clear I0
    obtain ⟨k, hk, rfl, Z, I⟩ := hrel
    by_cases hlt : k < 4
    · have d1 : decide ((k : Int) < 4) = true := by simp; omega
      have hx : wr.cell? ⟨g, k * 2, none⟩ = some (.int .i64 (cX a b k)) := by
        rcases (by omega : k = 0 ∨ k = 1 ∨ k = 2 ∨ k = 3) with rfl | rfl | rfl | rfl <;> exact I.out.P.cell rfl
      have hy : wr.cell? ⟨g, k * 2 + 1, none⟩ = some (.int .i64 (cY c d k)) := by
        rcases (by omega : k = 0 ∨ k = 1 ∨ k = 2 ∨ k = 3) with rfl | rfl | rfl | rfl <;> exact I.out.P.cell rfl
      go_wp2_with fail
      refine (M1.out k hlt _).mono ?_
      rintro e w3 ⟨rfl, hb⟩
      have I3 := Lib.hid ((I.out.alloc (.cells #[.int .i64 (cX a b k), .int .i64 (cY c d k)] 61)).call hb)
      clear hb I hx hy
      by_cases hz : IsInt (z k)
      · rw [ans_ok hz, err_ok hz]
        have Zn : Hid (∀ i, i < k + 1 →  IsInt (z i) ) := Lib.hid (fun i hi => by
          by_cases c : i = k
          · rw [c]; exact hz
          · exact Z.out i (by omega))
        clear hz
        have f0 := I3.out.F.cell (i := 0) rfl
        have f1 := I3.out.F.cell (i := 1) rfl
        have g0 := I3.out.F.free 0
        have g1 := I3.out.F.free 1
        by_cases h0 : k = 0
        · have e0 : ((k : Int) == 0) = true := by simp; omega
          have In : Hid (RInv w _ g (w.heap.size + 1 + 1 + 1) #[.int .i64 a, .int .i64 c, .int .i64 a, .int .i64 d, .int .i64 b, .int .i64 c, .int .i64 b, .int .i64 d] (fLo z (k + 1)) (fHi z (k + 1))) := Lib.hid (((I3.out.set0 (z k)).set1 (z k)).to ((if_pos (.inl h0)).symm) ((if_pos (.inl h0)).symm))
          clear I3 Z h0
          generalize fLo z k = m at *
          generalize fHi z k = x at *
          go_wp2_with fail
          go_roundw
          case rel => exact ⟨k + 1, by omega, by go_num, Zn, In⟩
          case measure => simp [intOf]; omega
        · have e0 : ((k : Int) == 0) = false := by simp; omega
          by_cases h1 : z k < fLo z k <;> by_cases h2 : fHi z k < z k
          · have In : Hid (RInv w _ g (w.heap.size + 1 + 1 + 1) #[.int .i64 a, .int .i64 c, .int .i64 a, .int .i64 d, .int .i64 b, .int .i64 c, .int .i64 b, .int .i64 d] (fLo z (k + 1)) (fHi z (k + 1))) := Lib.hid (((I3.out.set0 (z k)).set1 (z k)).to ((if_pos (.inr h1)).symm) ((if_pos (.inr h2)).symm))
            clear I3 Z h0
            generalize fLo z k = m at *
            generalize fHi z k = x at *
            go_wp2_with fail
            go_roundw
            case rel => exact ⟨k + 1, by omega, by go_num, Zn, In⟩
            case measure => simp [intOf]; omega
          · have In : Hid (RInv w _ g (w.heap.size + 1 + 1 + 1) #[.int .i64 a, .int .i64 c, .int .i64 a, .int .i64 d, .int .i64 b, .int .i64 c, .int .i64 b, .int .i64 d] (fLo z (k + 1)) (fHi z (k + 1))) := Lib.hid ((I3.out.set0 (z k)).to ((if_pos (.inr h1)).symm) ((if_neg (fun h => h.elim h0 h2)).symm))
            clear I3 Z h0
            generalize fLo z k = m at *
            generalize fHi z k = x at *
            go_wp2_with fail
            go_roundw
            case rel => exact ⟨k + 1, by omega, by go_num, Zn, In⟩
            case measure => simp [intOf]; omega
          · have In : Hid (RInv w _ g (w.heap.size + 1 + 1 + 1) #[.int .i64 a, .int .i64 c, .int .i64 a, .int .i64 d, .int .i64 b, .int .i64 c, .int .i64 b, .int .i64 d] (fLo z (k + 1)) (fHi z (k + 1))) := Lib.hid ((I3.out.set1 (z k)).to ((if_neg (fun h => h.elim h0 h1)).symm) ((if_pos (.inr h2)).symm))
            clear I3 Z h0
            generalize fLo z k = m at *
            generalize fHi z k = x at *
            go_wp2_with fail
            go_roundw
            case rel => exact ⟨k + 1, by omega, by go_num, Zn, In⟩
            case measure => simp [intOf]; omega
          · have In : Hid (RInv w _ g (w.heap.size + 1 + 1 + 1) #[.int .i64 a, .int .i64 c, .int .i64 a, .int .i64 d, .int .i64 b, .int .i64 c, .int .i64 b, .int .i64 d] (fLo z (k + 1)) (fHi z (k + 1))) := Lib.hid (I3.out.to ((if_neg (fun h => h.elim h0 h1)).symm) ((if_neg (fun h => h.elim h0 h2)).symm))
            clear I3 Z h0
            generalize fLo z k = m at *
            generalize fHi z k = x at *
            go_wp2_with fail
            go_roundw
            case rel => exact ⟨k + 1, by omega, by go_num, Zn, In⟩
            case measure => simp [intOf]; omega
      · have HZ := hz
        rw [ans_no hz, err_no hz]
        clear hz
        obtain ⟨rfl, rfl, rfl⟩ := HNO.out k hlt HZ
        have r0 := I3.out.R.cell (i := 0) rfl
        have r1 := I3.out.R.cell (i := 1) rfl
        have g0 := I3.out.R.free 0
        have g1 := I3.out.R.free 1
        have l3 := I3.out.R.lt
        have low := Lib.hid I3.out.low
        clear I3 Z HZ
        go_wp2_with fail
        refine bodyPost_ret (v := .tuple #[.agg #[.int .i64 0, .int .i64 0], .int .i64 5]) (by simp [results, Try.results23, go_sem, r0, r1]) rfl ⟨rfl, ?_⟩
        exact (low.out.setCell (by simp; omega) _).setCell (by simp; omega) _
    · obtain rfl : k = 4 := by omega
      have d1 : decide (((4 : Nat) : Int) < 4) = false := by decide
      obtain ⟨rfl, rfl, rfl⟩ := HOK.out Z.out
      have r0 := I.out.R.cell (i := 0) rfl
      have r1 := I.out.R.cell (i := 1) rfl
      have g0 := I.out.R.free 0
      have g1 := I.out.R.free 1
      have l3 := I.out.R.lt
      have f0 := I.out.F.cell (i := 0) rfl
      have f1 := I.out.F.cell (i := 1) rfl
      have low := Lib.hid I.out.low
      clear I Z
      go_wp2_with fail
      refine bodyPost_ret (v := .tuple #[.agg #[.int .i64 (fLo z 4), .int .i64 (fHi z 4)], .int .i64 0]) (by simp [results, Try.results23, go_sem, r0, r1]) rfl ⟨rfl, ?_⟩
      exact (low.out.setCell (by simp; omega) _).setCell (by simp; omega) _
set_option maxRecDepth 100000 in
theorem rdiv5_core (a b c d : Int) (w : World) (z y : Nat → Int)
    (m1 : ∀ i, i < 4 → ∀ w, Calls Try.prog 48 #[.int .i64 (cX a b i), .int .i64 1, .int .i64 (cY c d i), .int .i64 0] w fun en w' => en = .returned (.tuple #[.int .i64 (ans (z i)), .int .i64 (err (z i))]) ∧ Below w.heap.size w w')
    (m2 : ∀ i, i < 4 → ∀ w, Calls Try.prog 48 #[.int .i64 (cX a b i), .int .i64 1, .int .i64 (cY c d i), .int .i64 1] w fun en w' => en = .returned (.tuple #[.int .i64 (ans (y i)), .int .i64 (err (y i))]) ∧ Below w.heap.size w w')
    (lo hi er : Int) (hok : (∀ i, i < 4 →  IsInt (z i) ∧ IsInt (y i) ) → lo = fLo z 4 ∧ hi = fHi y 4 ∧ er = 0) (hno : ∀ i, i < 4 → ¬ ( IsInt (z i) ∧ IsInt (y i) ) → lo = 0 ∧ hi = 0 ∧ er = 5) :
    Calls Try.prog 24 #[.agg #[.int .i64 a, .int .i64 b], .agg #[.int .i64 c, .int .i64 d]] w fun en w' => en = .returned (.tuple #[.agg #[.int .i64 lo, .int .i64 hi], .int .i64 er]) ∧ Below w.heap.size w w' := by
  have M1 := Lib.hid m1; have M2 := Lib.hid m2; have HOK := Lib.hid hok; have HNO := Lib.hid hno
  clear m1 m2 hok hno
  have PR := Lib.hid (fun w => pairs_any a b c d w)
  go_enter Try.func24, Try.ntmps24
  go_wp2_with fail
  refine (PR.out _).mono ?_
  rintro e w1 ⟨g, rfl, hg, hp, hb⟩
  have hlt : w.heap.size + 1 + 1 < w.heap.size + 1 + 1 + 1 ∧ w.heap.size + 1 + 1 + 1 < g := by simp at hg; omega
  have r0 : Blk w1 (w.heap.size + 1 + 1) #[.int .i64 0, .int .i64 0] := ((Blk.newAt (by simp)).alloc _).call hb
  have f0 : Blk w1 (w.heap.size + 1 + 1 + 1) #[.int .i64 0, .int .i64 0] := (Blk.newAt (by simp)).call hb
  have i0 : RInv w w1 g (w.heap.size + 1 + 1 + 1) #[.int .i64 a, .int .i64 c, .int .i64 a, .int .i64 d, .int .i64 b, .int .i64 c, .int .i64 b, .int .i64 d] (fLo z 0) (fHi y 0) :=
    ⟨hp, r0, f0, (((((Below.refl _ _).alloc (Nat.le_refl _) _).alloc (by simp) _).alloc (by simp; omega) _).alloc (by simp; omega) _).trans (hb.mono (by simp; omega)), hlt⟩
  have I0 := Lib.hid i0
  clear hb r0 f0 i0 hp hg hlt PR
  go_wp2_with fail
  go_loopw [18] (fun i wr => ∃ k : Nat, k ≤ 4 ∧ i = .int .i64 k ∧ Hid (∀ i, i < k →  IsInt (z i) ∧ IsInt (y i) ) ∧ Hid (RInv w wr g (w.heap.size + 1 + 1 + 1) #[.int .i64 a, .int .i64 c, .int .i64 a, .int .i64 d, .int .i64 b, .int .i64 c, .int .i64 b, .int .i64 d] (fLo z k) (fHi y k))) (fun i _ => 4 - (intOf i).toNat)
  case atStart => exact ⟨0, Nat.zero_le _, rfl, Lib.hid (fun i hi => by omega), I0⟩
  case round =>
    clear I0
    obtain ⟨k, hk, rfl, Z, I⟩ := hrel
    by_cases hlt : k < 4
    · have d1 : decide ((k : Int) < 4) = true := by simp; omega
      have hx : wr.cell? ⟨g, k * 2, none⟩ = some (.int .i64 (cX a b k)) := by
        rcases (by omega : k = 0 ∨ k = 1 ∨ k = 2 ∨ k = 3) with rfl | rfl | rfl | rfl <;> exact I.out.P.cell rfl
      have hy : wr.cell? ⟨g, k * 2 + 1, none⟩ = some (.int .i64 (cY c d k)) := by
        rcases (by omega : k = 0 ∨ k = 1 ∨ k = 2 ∨ k = 3) with rfl | rfl | rfl | rfl <;> exact I.out.P.cell rfl
      go_wp2_with fail
      refine (M1.out k hlt _).mono ?_
      rintro e w2 ⟨rfl, hb⟩
      have I2 := Lib.hid ((I.out.alloc (.cells #[.int .i64 (cX a b k), .int .i64 (cY c d k)] 61)).call hb)
      have bp : Blk w2 wr.heap.size #[.int .i64 (cX a b k), .int .i64 (cY c d k)] := (Blk.new _ _ _).call hb
      have p0 := bp.cell (i := 0) rfl
      have p1 := bp.cell (i := 1) rfl
      clear hb I hx hy bp
      go_wp2_with fail
      refine (M2.out k hlt _).mono ?_
      rintro e w3 ⟨rfl, hb⟩
      have I3 := Lib.hid (I2.out.call hb)
      clear hb I2 p0 p1
      by_cases hz : IsInt (z k)
      · by_cases hy : IsInt (y k)
        · rw [ans_ok hz, err_ok hz, ans_ok hy, err_ok hy]
          have Zn : Hid (∀ i, i < k + 1 →  IsInt (z i) ∧ IsInt (y i) ) := Lib.hid (fun i hi => by
            by_cases c : i = k
            · rw [c]; exact ⟨hz, hy⟩
            · exact Z.out i (by omega))
          clear hz hy
          have f0 := I3.out.F.cell (i := 0) rfl
          have f1 := I3.out.F.cell (i := 1) rfl
          have g0 := I3.out.F.free 0
          have g1 := I3.out.F.free 1
          by_cases h0 : k = 0
          · have e0 : ((k : Int) == 0) = true := by simp; omega
            have In : Hid (RInv w _ g (w.heap.size + 1 + 1 + 1) #[.int .i64 a, .int .i64 c, .int .i64 a, .int .i64 d, .int .i64 b, .int .i64 c, .int .i64 b, .int .i64 d] (fLo z (k + 1)) (fHi y (k + 1))) := Lib.hid (((I3.out.set0 (z k)).set1 (y k)).to ((if_pos (.inl h0)).symm) ((if_pos (.inl h0)).symm))
            clear I3 Z h0
            generalize fLo z k = m at *
            generalize fHi y k = x at *
            go_wp2_with fail
            go_roundw
            case rel => exact ⟨k + 1, by omega, by go_num, Zn, In⟩
            case measure => simp [intOf]; omega
          · have e0 : ((k : Int) == 0) = false := by simp; omega
            by_cases h1 : z k < fLo z k <;> by_cases h2 : fHi y k < y k
            · have In : Hid (RInv w _ g (w.heap.size + 1 + 1 + 1) #[.int .i64 a, .int .i64 c, .int .i64 a, .int .i64 d, .int .i64 b, .int .i64 c, .int .i64 b, .int .i64 d] (fLo z (k + 1)) (fHi y (k + 1))) := Lib.hid (((I3.out.set0 (z k)).set1 (y k)).to ((if_pos (.inr h1)).symm) ((if_pos (.inr h2)).symm))
              clear I3 Z h0
              generalize fLo z k = m at *
              generalize fHi y k = x at *
              go_wp2_with fail
              go_roundw
              case rel => exact ⟨k + 1, by omega, by go_num, Zn, In⟩
              case measure => simp [intOf]; omega
            · have In : Hid (RInv w _ g (w.heap.size + 1 + 1 + 1) #[.int .i64 a, .int .i64 c, .int .i64 a, .int .i64 d, .int .i64 b, .int .i64 c, .int .i64 b, .int .i64 d] (fLo z (k + 1)) (fHi y (k + 1))) := Lib.hid ((I3.out.set0 (z k)).to ((if_pos (.inr h1)).symm) ((if_neg (fun h => h.elim h0 h2)).symm))
              clear I3 Z h0
              generalize fLo z k = m at *
              generalize fHi y k = x at *
              go_wp2_with fail
              go_roundw
              case rel => exact ⟨k + 1, by omega, by go_num, Zn, In⟩
              case measure => simp [intOf]; omega
            · have In : Hid (RInv w _ g (w.heap.size + 1 + 1 + 1) #[.int .i64 a, .int .i64 c, .int .i64 a, .int .i64 d, .int .i64 b, .int .i64 c, .int .i64 b, .int .i64 d] (fLo z (k + 1)) (fHi y (k + 1))) := Lib.hid ((I3.out.set1 (y k)).to ((if_neg (fun h => h.elim h0 h1)).symm) ((if_pos (.inr h2)).symm))
              clear I3 Z h0
              generalize fLo z k = m at *
              generalize fHi y k = x at *
              go_wp2_with fail
              go_roundw
              case rel => exact ⟨k + 1, by omega, by go_num, Zn, In⟩
              case measure => simp [intOf]; omega
            · have In : Hid (RInv w _ g (w.heap.size + 1 + 1 + 1) #[.int .i64 a, .int .i64 c, .int .i64 a, .int .i64 d, .int .i64 b, .int .i64 c, .int .i64 b, .int .i64 d] (fLo z (k + 1)) (fHi y (k + 1))) := Lib.hid (I3.out.to ((if_neg (fun h => h.elim h0 h1)).symm) ((if_neg (fun h => h.elim h0 h2)).symm))
              clear I3 Z h0
              generalize fLo z k = m at *
              generalize fHi y k = x at *
              go_wp2_with fail
              go_roundw
              case rel => exact ⟨k + 1, by omega, by go_num, Zn, In⟩
              case measure => simp [intOf]; omega
        · have HZ : ¬ (IsInt (z k) ∧ IsInt (y k)) := fun h => hy h.2
          rw [ans_ok hz, err_ok hz, ans_no hy, err_no hy]
          clear hz hy
          obtain ⟨rfl, rfl, rfl⟩ := HNO.out k hlt HZ
          have r0 := I3.out.R.cell (i := 0) rfl
          have r1 := I3.out.R.cell (i := 1) rfl
          have g0 := I3.out.R.free 0
          have g1 := I3.out.R.free 1
          have l3 := I3.out.R.lt
          have low := Lib.hid I3.out.low
          clear I3 Z HZ
          go_wp2_with fail
          refine bodyPost_ret (v := .tuple #[.agg #[.int .i64 0, .int .i64 0], .int .i64 5]) (by simp [results, Try.results24, go_sem, r0, r1]) rfl ⟨rfl, ?_⟩
          exact (low.out.setCell (by simp; omega) _).setCell (by simp; omega) _
      · have HZ : ¬ (IsInt (z k) ∧ IsInt (y k)) := fun h => hz h.1
        rw [ans_no hz, err_no hz]
        clear hz
        obtain ⟨rfl, rfl, rfl⟩ := HNO.out k hlt HZ
        have r0 := I3.out.R.cell (i := 0) rfl
        have r1 := I3.out.R.cell (i := 1) rfl
        have g0 := I3.out.R.free 0
        have g1 := I3.out.R.free 1
        have l3 := I3.out.R.lt
        have low := Lib.hid I3.out.low
        clear I3 Z HZ
        go_wp2_with fail
        refine bodyPost_ret (v := .tuple #[.agg #[.int .i64 0, .int .i64 0], .int .i64 5]) (by simp [results, Try.results24, go_sem, r0, r1]) rfl ⟨rfl, ?_⟩
        exact (low.out.setCell (by simp; omega) _).setCell (by simp; omega) _
    · obtain rfl : k = 4 := by omega
      have d1 : decide (((4 : Nat) : Int) < 4) = false := by decide
      obtain ⟨rfl, rfl, rfl⟩ := HOK.out Z.out
      have r0 := I.out.R.cell (i := 0) rfl
      have r1 := I.out.R.cell (i := 1) rfl
      have g0 := I.out.R.free 0
      have g1 := I.out.R.free 1
      have l3 := I.out.R.lt
      have f0 := I.out.F.cell (i := 0) rfl
      have f1 := I.out.F.cell (i := 1) rfl
      have low := Lib.hid I.out.low
      clear I Z
      go_wp2_with fail
      refine bodyPost_ret (v := .tuple #[.agg #[.int .i64 (fLo z 4), .int .i64 (fHi y 4)], .int .i64 0]) (by simp [results, Try.results24, go_sem, r0, r1]) rfl ⟨rfl, ?_⟩
      exact (low.out.setCell (by simp; omega) _).setCell (by simp; omega) _
theorem four_ints (z y : Nat → Int) (hzy : ∀ i, z i ≤ y i) : (∀ i, i < 4 → IsInt (z i) ∧ IsInt (y i)) ↔ IsInt (min4 (z 0) (z 1) (z 2) (z 3)) ∧ IsInt (max4 (y 0) (y 1) (y 2) (y 3)) := by
  have k := min4_le (z 0) (z 1) (z 2) (z 3)
  have j := le_max4 (y 0) (y 1) (y 2) (y 3)
  constructor
  · intro h
    have h0 := h 0 (by omega); have h1 := h 1 (by omega); have h2 := h 2 (by omega); have h3 := h 3 (by omega)
    constructor
    · rcases min4_is (z 0) (z 1) (z 2) (z 3) with e | e | e | e <;> rw [e]
      · exact h0.1
      · exact h1.1
      · exact h2.1
      · exact h3.1
    · rcases max4_is (y 0) (y 1) (y 2) (y 3) with e | e | e | e <;> rw [e]
      · exact h0.2
      · exact h1.2
      · exact h2.2
      · exact h3.2
  · intro h
    have m0 := hzy 0; have m1 := hzy 1; have m2 := hzy 2; have m3 := hzy 3
    exact four ⟨⟨isInt_between h (by omega) (by omega), isInt_between h (by omega) (by omega)⟩, ⟨isInt_between h (by omega) (by omega), isInt_between h (by omega) (by omega)⟩, ⟨isInt_between h (by omega) (by omega), isInt_between h (by omega) (by omega)⟩, ⟨isInt_between h (by omega) (by omega), isInt_between h (by omega) (by omega)⟩⟩
theorem cX_int {a b : Int} (ha : IsInt a) (hb : IsInt b) (i : Nat) : IsInt (cX a b i) := by unfold cX; split <;> assumption
theorem cY_int {c d : Int} (hc : IsInt c) (hd : IsInt d) (i : Nat) : IsInt (cY c d i) := by unfold cY; split <;> assumption
theorem rmul5_any (a b c d : Int) (ha : IsInt a) (hb : IsInt b) (hc : IsInt c) (hd : IsInt d) (w : World) :
    Calls Try.prog 23 #[.agg #[.int .i64 a, .int .i64 b], .agg #[.int .i64 c, .int .i64 d]] w fun en w' => en = .returned (.tuple #[.agg #[.int .i64 (rLo (pLo a b c d) (pHi a b c d)), .int .i64 (rHi (pLo a b c d) (pHi a b c d))], .int .i64 (rErr (pLo a b c d) (pHi a b c d))]) ∧ Below w.heap.size w w' := by
  have hi : (∀ i, i < 4 → IsInt (cX a b i * cY c d i) ∧ IsInt (cX a b i * cY c d i)) ↔ IsInt (pLo a b c d) ∧ IsInt (pHi a b c d) := four_ints (fun i => cX a b i * cY c d i) (fun i => cX a b i * cY c d i) (fun _ => Int.le_refl _)
  refine rmul5_core a b c d w (fun i => cX a b i * cY c d i) (fun i _ w => refmul_any _ _ (cX_int ha hb i) (cY_int hc hd i) w) _ _ _ (fun h => ?_) (fun i h4 h => ?_)
  · have k := hi.1 (fun i h4 => ⟨h i h4, h i h4⟩)
    rw [fLo_four, fHi_four, rLo_ok k, rHi_ok k, rErr_ok k]
    exact ⟨rfl, rfl, rfl⟩
  · have k : ¬ (IsInt (pLo a b c d) ∧ IsInt (pHi a b c d)) := fun k => h (hi.2 k i h4).1
    exact ⟨rLo_no k, rHi_no k, rErr_no k⟩
theorem rdiv5_any (a b c d : Int) (ha : IsInt a) (hb : IsInt b) (hc : IsInt c) (hd : IsInt d) (h1 : c ≠ 0) (h2 : d ≠ 0) (w : World) :
    Calls Try.prog 24 #[.agg #[.int .i64 a, .int .i64 b], .agg #[.int .i64 c, .int .i64 d]] w fun en w' => en = .returned (.tuple #[.agg #[.int .i64 (rLo (qLo a b c d) (qHi a b c d)), .int .i64 (rHi (qLo a b c d) (qHi a b c d))], .int .i64 (rErr (qLo a b c d) (qHi a b c d))]) ∧ Below w.heap.size w w' := by
  have hi : (∀ i, i < 4 → IsInt (dn (cX a b i) (cY c d i)) ∧ IsInt (up' (cX a b i) (cY c d i))) ↔ IsInt (qLo a b c d) ∧ IsInt (qHi a b c d) := four_ints (fun i => dn (cX a b i) (cY c d i)) (fun i => up' (cX a b i) (cY c d i)) (fun _ => dn_le_up _ _)
  have hy : ∀ i, cY c d i ≠ 0 := fun i => by unfold cY; split <;> assumption
  refine rdiv5_core a b c d w (fun i => dn (cX a b i) (cY c d i)) (fun i => up' (cX a b i) (cY c d i)) (fun i _ w => refmd_any 0 (by decide) _ _ _ (cX_int ha hb i) (by decide) (cY_int hc hd i) (hy i) w) (fun i _ w => refmd_any 1 (by decide) _ _ _ (cX_int ha hb i) (by decide) (cY_int hc hd i) (hy i) w) _ _ _ (fun h => ?_) (fun i h4 h => ?_)
  · have k := hi.1 h
    rw [fLo_four, fHi_four, rLo_ok k, rHi_ok k, rErr_ok k]
    exact ⟨rfl, rfl, rfl⟩
  · have k : ¬ (IsInt (qLo a b c d) ∧ IsInt (qHi a b c d)) := fun k => h (hi.2 k i h4)
    exact ⟨rLo_no k, rHi_no k, rErr_no k⟩
end Go.Proofs.Ytacnaencmbnjpaa
