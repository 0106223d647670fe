/- Two rows of ints of the call's own, each with one more put behind it in a region that draws its order, beside a third one that is read. -/
import Derived.Test.YtjonpcpcokapkaaApI
import Derived.Maps.AppendAt
import Derived.OneCell
namespace Go.Proofs.Ytjonpcpcokapkaa
open Go.RowKit

theorem IRow.grown {B : Nat} {v : Value} {l : List Int} {w w' : World} {row : Option Nat} (h : IRow B v l w) (hg : w.grownBy w' row) (hne : v.ownBlock = none ∨ v.ownBlock ≠ row) : IRow B v l w' := World.ownsRow.kept h hg hne
theorem IRow.setAt {B g n cap : Nat} {l : List Int} {w : World} (h : IRow B (.slice (some ⟨g, 0, none⟩) n cap) l w) (k : Nat) (x : Int) :
    IRow B (.slice (some ⟨g, 0, none⟩) n cap) (l.set k x) (w.setCell ⟨g, k, none⟩ (.int .i64 x)) := by
  obtain ⟨h1, h2⟩ := h
  rcases h2 with ⟨h2, -⟩ | ⟨g', cap', cur, hv, hb, hg, hn, hc, hs, ht⟩
  · cases h2
  · injection hv with e1 e2 e3
    injection e1 with e1
    injection e1 with e1
    subst e1 e2 e3
    refine ⟨by simp, .inr ⟨g, cap, cur.setIfInBounds k (.int .i64 x), by rw [List.length_set], hb, ?_, by rw [List.length_set]; exact hn, hc, by rw [Array.size_setIfInBounds]; exact hs, ?_⟩⟩
    · simp [World.setCell, Array.getElem?_modify, hg]
    · rw [List.length_set, Array.toList_setIfInBounds, List.take_set, ht, List.map_set]
theorem IRow.ptr {B n cap : Nat} {ao : Option Addr} {l : List Int} {w : World} (h : IRow B (.slice ao n cap) l w) (hn : 0 < l.length) : ∃ g, ao = some ⟨g, 0, none⟩ := by
  rcases h.2 with ⟨-, h2⟩ | ⟨g, cap', cur, hv, -⟩
  · omega
  · injection hv with e1
    exact ⟨g, e1⟩
theorem IRow.has {B g n cap : Nat} {l : List Int} {w : World} (h : IRow B (.slice (some ⟨g, 0, none⟩) n cap) l w) : ∃ cs, Has w g cs 3 ∧ ∀ k, k < l.length → cs[k]? = some (.int .i64 (l.getD k 0)) := by
  rcases h.2 with ⟨h2, -⟩ | ⟨g', cap', cur, hv, hb, hg, hn, hc, hs, ht⟩
  · cases h2
  · injection hv with e1 e2 e3
    injection e1 with e1
    injection e1 with e1
    subst e1
    refine ⟨cur.toList, hg, fun k hk => ?_⟩
    have e : cur.toList[k]? = (cur.toList.take (l.length * 1))[k]? := by rw [List.getElem?_take_of_lt (by omega)]
    rw [e, ht, List.getElem?_map, List.getElem?_eq_getElem hk, List.getD_eq_getElem?_getD, List.getElem?_eq_getElem hk]
    rfl
theorem IRow.cellAt {B g n cap : Nat} {l : List Int} {w : World} (h : IRow B (.slice (some ⟨g, 0, none⟩) n cap) l w) {k : Nat} (hk : k < l.length) : w.cell? ⟨g, k, none⟩ = some (.int .i64 (l.getD k 0)) := by
  obtain ⟨cs, h1, h2⟩ := h.has
  rw [h1.cell]
  exact h2 k hk
theorem IRow.thaw {B g n cap : Nat} {l : List Int} {w : World} (h : IRow B (.slice (some ⟨g, 0, none⟩) n cap) l w) (k : Nat) : w.frozen? ⟨g, k, none⟩ = false := by
  obtain ⟨cs, h1, -⟩ := h.has
  exact h1.frozen k
theorem append1_run {B : Nat} {w : World} {v u : Value} {l : List Int} {z : Int} {g : Nat} (ty : TypeId) (h : IRow B v l w) (hu : u = .slice (some ⟨g, 0, none⟩) 1 1) (hz : Has w g [.int .i64 z] 3) (hl : l.length + 1 ≤ 1000000) (hB : B ≤ w.heap.size) :
    ∃ v' w', (Builtin.append_ #[22, 22] ty #[v, u]).run Try.prog w = .ok v' w' ∧ IRow B v' (l ++ [z]) w' ∧ w.grownBy w' v.ownBlock ∧ (v'.ownBlock = v.ownBlock ∨ v'.ownBlock = some w.heap.size) := by
  subst hu
  obtain ⟨i0, hi, hz0, hz1, hz2⟩ := info_parts infoInt
  have h0 : w.ownsRow B 3 1 v l.length (l.map (Value.int .i64)) := h
  have hnews : ∀ (j : Nat) (u : Value), [Value.int .i64 z][j]? = some u → w.cell? ((⟨g, 0, none⟩ : Addr).add j) = some u := fun j u hj => by
    have e : (⟨g, 0, none⟩ : Addr).add j = ⟨g, j, none⟩ := by unfold Addr.add; split <;> simp_all
    rw [e, hz.cell]
    exact hj
  obtain ⟨v', w', h1, h2, h3, -, h5⟩ := run_append_own_at (P := Try.prog) w B 22 ty 3 i0 (.int .i64 0) 1 8 Try.underlying22 hi hz0 hz1 hz2 rfl (by decide) v l.length _ h0 ⟨g, 0, none⟩ 1 1 [.int .i64 z] rfl hnews (by
    intro u hu
    rw [List.mem_singleton] at hu
    subst hu
    rfl) (by unfold maxLen; omega) (by omega) hB
  refine ⟨v', w', h1, ?_, h3, h5⟩
  unfold IRow
  rw [List.map_append, List.length_append]
  exact h2
/-- What holds of the world between the operations: s7, the first one's element has been laid; s8, it has been put behind; s16 and s17, the second one's. -/
structure TwoJ (B : Nat) (W0 : World) (sl M0 G0 : Value) (LL Lm Lg : List Int) (y z : Int) (s7 s8 s16 s17 : Bool) (w : World) (u50 u51 u59 u60 : Value) : Prop where
  bel : Below B W0 w
  hB : B ≤ w.heap.size
  lr : IRow B sl LL w
  mr : IRow B (cond s8 u51 M0) (cond s8 (Lm ++ [y]) Lm) w
  gr : IRow B (cond s17 u60 G0) (cond s17 (Lg ++ [z]) Lg) w
  lm : ∀ k, sl.ownBlock = some k → (cond s8 u51 M0).ownBlock ≠ some k
  lg : ∀ k, sl.ownBlock = some k → (cond s17 u60 G0).ownBlock ≠ some k
  mg : ∀ k, (cond s8 u51 M0).ownBlock = some k → (cond s17 u60 G0).ownBlock ≠ some k
  a7 : s7 = true → s8 = false → ∃ g, u50 = .slice (some ⟨g, 0, none⟩) 1 1 ∧ Has w g [.int .i64 y] 3 ∧ sl.ownBlock ≠ some g ∧ (cond s8 u51 M0).ownBlock ≠ some g ∧ (cond s17 u60 G0).ownBlock ≠ some g
  a16 : s16 = true → s17 = false → ∃ g, u59 = .slice (some ⟨g, 0, none⟩) 1 1 ∧ Has w g [.int .i64 z] 3 ∧ sl.ownBlock ≠ some g ∧ (cond s8 u51 M0).ownBlock ≠ some g ∧ (cond s17 u60 G0).ownBlock ≠ some g
section
variable {B : Nat} {W0 : World} {sl M0 G0 : Value} {LL Lm Lg : List Int} {y z : Int} {s7 s8 s16 s17 : Bool} {w : World} {u50 u51 u59 u60 : Value}
theorem TwoJ.drew (h : TwoJ B W0 sl M0 G0 LL Lm Lg y z s7 s8 s16 s17 w u50 u51 u59 u60) : TwoJ B W0 sl M0 G0 LL Lm Lg y z s7 s8 s16 s17 w.drew u50 u51 u59 u60 :=
  ⟨h.bel.drew, h.hB, h.lr, h.mr, h.gr, h.lm, h.lg, h.mg, h.a7, h.a16⟩
theorem IRow.fresh {B : Nat} {v : Value} {l : List Int} {w : World} (h : IRow B v l w) : v.ownBlock ≠ some w.heap.size := fun e => absurd (h.lt' _ e).2 (Nat.lt_irrefl _)
theorem TwoJ.t7 (h : TwoJ B W0 sl M0 G0 LL Lm Lg y z s7 false s16 s17 w u50 u51 u59 u60) :
    TwoJ B W0 sl M0 G0 LL Lm Lg y z true false s16 s17 (w.alloc (.cells #[.int .i64 y] 3)) (.slice (some ⟨w.heap.size, 0, none⟩) 1 1) u51 u59 u60 :=
  ⟨h.bel.alloc h.hB _, by have := h.hB; simp; omega, h.lr.alloc _, h.mr.alloc _, h.gr.alloc _, h.lm, h.lg, h.mg,
    fun _ _ => ⟨w.heap.size, rfl, Has.new w [.int .i64 y] 3, h.lr.fresh, h.mr.fresh, h.gr.fresh⟩,
    fun a b => by obtain ⟨g, e, k, r⟩ := h.a16 a b; exact ⟨g, e, k.alloc _, r⟩⟩
theorem TwoJ.t16 (h : TwoJ B W0 sl M0 G0 LL Lm Lg y z s7 s8 s16 false w u50 u51 u59 u60) :
    TwoJ B W0 sl M0 G0 LL Lm Lg y z s7 s8 true false (w.alloc (.cells #[.int .i64 z] 3)) u50 u51 (.slice (some ⟨w.heap.size, 0, none⟩) 1 1) u60 :=
  ⟨h.bel.alloc h.hB _, by have := h.hB; simp; omega, h.lr.alloc _, h.mr.alloc _, h.gr.alloc _, h.lm, h.lg, h.mg,
    fun a b => by obtain ⟨g, e, k, r⟩ := h.a7 a b; exact ⟨g, e, k.alloc _, r⟩,
    fun _ _ => ⟨w.heap.size, rfl, Has.new w [.int .i64 z] 3, h.lr.fresh, h.mr.fresh, h.gr.fresh⟩⟩
theorem IRow.unlike {B : Nat} {v v1 v' : Value} {l : List Int} {w : World} (h : IRow B v l w) (hne : ∀ k, v.ownBlock = some k → v1.ownBlock ≠ some k) (hat : v'.ownBlock = v1.ownBlock ∨ v'.ownBlock = some w.heap.size) : ∀ k, v.ownBlock = some k → v'.ownBlock ≠ some k := fun k hk e => by
  rcases hat with c | c
  · exact hne k hk (c ▸ e)
  · rw [c] at e
    injection e with e
    exact h.fresh (e ▸ hk)
theorem IRow.apart {B : Nat} {v v1 : Value} {l : List Int} {w w' : World} (h : IRow B v l w) (hg : w.grownBy w' v1.ownBlock) (hne : ∀ k, v.ownBlock = some k → v1.ownBlock ≠ some k) : IRow B v l w' := by
  refine h.grown hg ?_
  cases e : v.ownBlock with
  | none => exact .inl rfl
  | some k => exact .inr fun c => hne k e c.symm
theorem TwoJ.t8 (ty : TypeId) (h : TwoJ B W0 sl M0 G0 LL Lm Lg y z true false s16 s17 w u50 u51 u59 u60) (hl : Lm.length + 1 ≤ 1000000) :
    ∃ v' w', (Builtin.append_ #[22, 22] ty #[M0, u50]).run Try.prog w = .ok v' w' ∧ TwoJ B W0 sl M0 G0 LL Lm Lg y z true true s16 s17 w' u50 v' u59 u60 := by
  obtain ⟨g, e, hg, g1, g2, g3⟩ := h.a7 rfl rfl
  have hm : IRow B M0 Lm w := h.mr
  obtain ⟨v', w', hr, h1, h2, h3⟩ := append1_run ty hm e hg hl h.hB
  refine ⟨v', w', hr, h.bel.grown h2 h.hB (fun k hk => (hm.lt' k hk).1), Nat.le_trans h.hB h2.size, h.lr.apart h2 h.lm, h1, h.gr.apart h2 (fun k hk c => h.mg k c hk), h.lr.unlike h.lm h3, h.lg, ?_, fun _ c => (by cases c), fun a b => ?_⟩
  · intro k hk c
    exact h.gr.unlike (v1 := M0) (fun k hk c => h.mg k c hk) h3 k c hk
  · obtain ⟨g', e', k', r1, r2, r3⟩ := h.a16 a b
    refine ⟨g', e', k'.grown h2 r2, r1, ?_, r3⟩
    show v'.ownBlock ≠ some g'
    rcases h3 with c | c
    · rw [c]; exact r2
    · rw [c]
      intro c2
      injection c2 with c2
      have := k'.lt
      omega
theorem TwoJ.t17 (ty : TypeId) (h : TwoJ B W0 sl M0 G0 LL Lm Lg y z s7 s8 true false w u50 u51 u59 u60) (hl : Lg.length + 1 ≤ 1000000) :
    ∃ v' w', (Builtin.append_ #[22, 22] ty #[G0, u59]).run Try.prog w = .ok v' w' ∧ TwoJ B W0 sl M0 G0 LL Lm Lg y z s7 s8 true true w' u50 u51 u59 v' := by
  obtain ⟨g, e, hg, g1, g2, g3⟩ := h.a16 rfl rfl
  have hm : IRow B G0 Lg w := h.gr
  obtain ⟨v', w', hr, h1, h2, h3⟩ := append1_run ty hm e hg hl h.hB
  refine ⟨v', w', hr, h.bel.grown h2 h.hB (fun k hk => (hm.lt' k hk).1), Nat.le_trans h.hB h2.size, h.lr.apart h2 h.lg, h.mr.apart h2 h.mg, h1, h.lm, h.lr.unlike h.lg h3, h.mr.unlike h.mg h3, fun a b => ?_, fun _ c => (by cases c)⟩
  obtain ⟨g', e', k', r1, r2, r3⟩ := h.a7 a b
  refine ⟨g', e', k'.grown h2 r3, r1, r2, ?_⟩
  show v'.ownBlock ≠ some g'
  rcases h3 with c | c
  · rw [c]; exact r3
  · rw [c]
    intro c2
    injection c2 with c2
    have := k'.lt
    omega
theorem TwoJ.re {y' z' : Int} {v50 v51 v59 v60 : Value} (h : TwoJ B W0 sl M0 G0 LL Lm Lg y z false false false false w u50 u51 u59 u60) : TwoJ B W0 sl M0 G0 LL Lm Lg y' z' false false false false w v50 v51 v59 v60 :=
  ⟨h.bel, h.hB, h.lr, h.mr, h.gr, h.lm, h.lg, h.mg, fun a => (by cases a), fun a => (by cases a)⟩
theorem TwoJ.fin {y' z' : Int} {v50 v51 v59 v60 : Value} (h : TwoJ B W0 sl M0 G0 LL Lm Lg y z true true true true w u50 u51 u59 u60) : TwoJ B W0 sl u51 u60 LL (Lm ++ [y]) (Lg ++ [z]) y' z' false false false false w v50 v51 v59 v60 :=
  ⟨h.bel, h.hB, h.lr, h.mr, h.gr, h.lm, h.lg, h.mg, fun a => (by cases a), fun a => (by cases a)⟩
theorem TwoJ.setL {g n cap : Nat} (h : TwoJ B W0 (.slice (some ⟨g, 0, none⟩) n cap) M0 G0 LL Lm Lg y z false false false false w u50 u51 u59 u60) (k : Nat) (x : Int) :
    TwoJ B W0 (.slice (some ⟨g, 0, none⟩) n cap) M0 G0 (LL.set k x) Lm Lg y z false false false false (w.setCell ⟨g, k, none⟩ (.int .i64 x)) u50 u51 u59 u60 :=
  ⟨h.bel.setCell (p := ⟨g, k, none⟩) (h.lr.lt' g rfl).1 _, by have := h.hB; simpa [World.setCell] using this, h.lr.setAt k x, ownsRow_setCell_other h.mr (h.lm g rfl) _, ownsRow_setCell_other h.gr (h.lg g rfl) _, h.lm, h.lg, h.mg, fun a => (by cases a), fun a => (by cases a)⟩
end
end Go.Proofs.Ytjonpcpcokapkaa
