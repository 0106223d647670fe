/- The reference's Add. -/
import Derived.Test.YtnpgofkdfckioaaColP
namespace Go.Proofs.Ytnpgofkdfckioaa
open Go.RowKit

theorem Has.grown {w w' : World} {b : Nat} {cs : List Value} {T : TypeId} {row : Option Nat} (h : Has w b cs T) (hg : w.grownBy w' row) (hb : row ≠ some b) : Has w' b cs T := h.of (hg.block b h.lt (fun e => hb e.symm))
theorem IRow.ne {B b : Nat} {v : Value} {l : List Int} {w : World} (h : IRow B v l w) (hb : b < B) : v.ownBlock ≠ some b := fun e => by
  have h0 : w.ownsRow B 3 1 v l.length (l.map (Value.int .i64)) := h
  have := (h0.lt _ e).1
  omega
theorem IRow.lt' {B : Nat} {v : Value} {l : List Int} {w : World} (h : IRow B v l w) : ∀ k, v.ownBlock = some k → B ≤ k ∧ k < w.heap.size := fun k e => by
  have h0 : w.ownsRow B 3 1 v l.length (l.map (Value.int .i64)) := h
  exact h0.lt _ e
theorem IRow.frame {B : Nat} {v : Value} {l : List Int} {w w' : World} (h : IRow B v l w) (hk : ∀ k, B ≤ k → k < w.heap.size → w'.heap[k]? = w.heap[k]?) : IRow B v l w' := by
  refine ⟨h.1, ?_⟩
  rcases h.2 with hn | ⟨g, cap, cur, h3, h4, h5, h6⟩
  · exact .inl hn
  · exact .inr ⟨g, cap, cur, h3, h4, (hk g h4 (Array.getElem?_eq_some_iff.1 h5).1).trans h5, h6⟩
theorem IRow.mono {B B' : Nat} {v : Value} {l : List Int} {w : World} (h : IRow B v l w) (hb : B' ≤ B) : IRow B' v l w := by
  refine ⟨h.1, ?_⟩
  rcases h.2 with hn | ⟨g, cap, cur, h3, h4, h5⟩
  · exact .inl hn
  · exact .inr ⟨g, cap, cur, h3, by omega, h5⟩
/-- Ints of a slice are put behind a row of the call's own. -/
theorem wpList_append_ints {w : World} {ops : Array Oper} {rest : List Oper} {o : Oper} {a : Act} {Q : Exit → Act → World → Prop} (hgd : o.guard = none) (s x : Operand)
    (ho : o.op = .call { callee := .builtin .append, args := #[s, x], argTypes := #[22, 22] }) (B : Nat) (v : Value) (l ys : List Int) (hs : a.eval s = v) (hown : IRow B v l w)
    (ao : Option Addr) (n c : Nat) (hx : a.eval x = .slice ao n c) (hr : ReadsI w (.slice ao n c) ys) (hl : l.length + ys.length ≤ 1000000) (hB : B ≤ w.heap.size)
    (h : ∀ v' w', IRow B v' (l ++ ys) w' → w.grownBy w' v.ownBlock → wpList Try.prog ops Q rest (a.put o.dst v') w') : wpList Try.prog ops Q (o :: rest) a w := by
  obtain ⟨i0, hi, hz0, hz1, hz2⟩ := info_parts infoInt
  have h0 : w.ownsRow B 3 1 v l.length (l.map (Value.int .i64)) := hown
  have hn : n = ys.length := by
    obtain ⟨_, _, e, _⟩ := hr
    injection e
  subst hn
  cases ao with
  | some ad =>
    refine wpList_append_own w hgd s x 22 ho B 3 i0 (.int .i64 0) 1 8 Try.underlying22 hi hz0 hz1 hz2 rfl (by decide) v l.length _ hs h0 ad ys.length c (intsV ys) hx (by rw [intsV_len, Nat.mul_one]) ?_ (intsV_one ys) (by unfold maxLen; omega) (by omega) hB ?_
    · intro j u hj
      have hp : 0 < (intsV ys).length := by
        have := (List.getElem?_eq_some_iff.1 hj).1
        omega
      obtain ⟨ad', e, hc⟩ := hr.src hp
      injection e with e
      subst e
      exact hc j u hj
    · intro v' w' h1 h2 _
      refine h v' w' ?_ h2
      unfold IRow
      rw [List.map_append, List.length_append]
      exact h1
  | none =>
    have hy : ys = [] := by
      cases ys with
      | nil => rfl
      | cons y ys =>
        obtain ⟨_, _, e, _, _, h4⟩ := hr
        injection e with e1 _ _
        obtain ⟨b, off, e2, _⟩ := h4 0 (by simp)
        rw [← e1] at e2
        cases e2
    subst hy
    refine wpList_plain hgd fun K hK => ?_
    have hrun : (Builtin.append_ #[22, 22] o.type #[v, .slice none 0 c]).run Try.prog w = .ok v w := by
      rcases h0.2 with ⟨rfl, _⟩ | ⟨g, cap, cur, rfl, _, _, hnc, _⟩
      · simp [Builtin.append_, run_underlying Try.underlying22, sizeOf, typeInfo, hi, Builtin.lenOf, Builtin.firstCells]
      · simp [Builtin.append_, run_underlying Try.underlying22, sizeOf, typeInfo, hi, Builtin.lenOf, Builtin.firstCells, hnc, storeCells]
    unfold Oper.wp execOp
    simp only [ho, resolve, invoke, builtin, Sem.run_bind, Sem.run_pure, Result.andThen_ok, List.map_toArray, List.map_cons, List.map_nil, hs, hx, List.length_nil, hrun]
    exact hK _ _ (h v w (by rw [List.append_nil]; exact hown) ⟨rfl, rfl, rfl, Nat.le_refl _, fun _ _ _ => rfl⟩)
theorem ReadsI.one (w : World) (x : Int) : ReadsI (w.alloc (.cells #[.int .i64 x] 3)) (.slice (some ⟨w.heap.size, 0, none⟩) 1 1) [x] :=
  (Has.new w [.int .i64 x] 3).readsI (cap := 1) rfl rfl (Nat.le_refl _) (by omega) rfl
set_option maxHeartbeats 1000000 in
set_option maxRecDepth 100000 in
theorem radd10_any (s lo hi x : Int) (xs : List Int) (v : Value) (w : World) (hr : ReadsI w v xs) (hm : xs.length ≤ 100000) :
    Calls Try.prog 17 #[.agg #[.int .i64 s, .int .i64 lo, .int .i64 hi, v], .int .i64 x] w fun e w' => ∃ v' r, e = .returned (.tuple #[.agg #[.int .i64 s, .int .i64 lo, .int .i64 hi, v'], r]) ∧ IRow w.heap.size v' (addG ⟨s, lo, hi, xs⟩ x).xs w' ∧ IRow w.heap.size r (addR ⟨s, lo, hi, xs⟩ x) w' ∧ Below w.heap.size w w' := by
  obtain ⟨ao, cap, rfl, hlc, hcm, -⟩ := id hr
  unfold maxLen at hcm
  obtain ⟨n, hn⟩ : ∃ n, xs.length = n := ⟨_, rfl⟩
  rw [hn] at hlc hr hm ⊢
  obtain ⟨w2, hw2⟩ : ∃ w2, (w.alloc (.cells #[.int .i64 s, .int .i64 lo, .int .i64 hi, .slice ao n cap] 24)).alloc (.cells #[.int .i64 0, .int .i64 0, .int .i64 0, .slice none 0 0] 24) = w2 := ⟨_, rfl⟩
  have hb2 : Below w.heap.size w w2 := by rw [← hw2]; exact ((Below.refl w.heap.size w).alloc (Nat.le_refl _) _).alloc (by simp) _
  have hs2 : w2.heap.size = w.heap.size + 2 := by rw [← hw2]; simp
  have hg : Has w2 w.heap.size [.int .i64 s, .int .i64 lo, .int .i64 hi, .slice ao n cap] 24 := by rw [← hw2]; exact (Has.new w [.int .i64 s, .int .i64 lo, .int .i64 hi, .slice ao n cap] 24).alloc _
  have hz : Has w2 (w.heap.size + 1) [.int .i64 0, .int .i64 0, .int .i64 0, .slice none 0 0] 24 := by
    have := Has.new (w.alloc (.cells #[.int .i64 s, .int .i64 lo, .int .i64 hi, .slice ao n cap] 24)) [.int .i64 0, .int .i64 0, .int .i64 0, .slice none 0 0] 24
    rw [show (w.alloc (.cells #[.int .i64 s, .int .i64 lo, .int .i64 hi, .slice ao n cap] 24)).heap.size = w.heap.size + 1 by simp] at this
    rw [← hw2]; exact this
  have hb3 := hb2.alloc (by omega) (.cells #[] 3)
  have hs3 : (w2.alloc (.cells #[] 3)).heap.size = w.heap.size + 3 := by simp; omega
  have hi3 := IRow.made w2
  rw [hs2] at hi3
  have hr3 := hr.below hb3
  have HG3 := Lib.hid (hg.alloc (.cells #[] 3))
  have HZ3 := Lib.hid (hz.alloc (.cells #[] 3))
  have HB3 := Lib.hid hb3
  have HI3 := Lib.hid hi3
  have HR3 := Lib.hid hr3
  have HN := Lib.hid hn
  have HS3 := Lib.hid hs3
  have HW2 := Lib.hid hw2
  have g3 : w2.cell? ⟨w.heap.size, 3, none⟩ = some (.slice ao n cap) := hg.cell 3
  have hlt : w.heap.size < w2.heap.size := by omega
  clear hr hn hw2 hb2 hg hz hb3 hs3 hi3 hr3
  go_enter Try.func17, Try.ntmps17
  go_upto_region 1 with fail
  rw [HW2.out]
  go_wp2_with (at_builtin; refine wpList_append_ints rfl (.tmp 8) (.tmp 10) rfl (w.heap.size + 2) (.slice (some ⟨w.heap.size + 2, 0, none⟩) 0 0) [] xs rfl HI3.out ao n cap rfl HR3.out (by rw [HN.out]; show 0 + n ≤ _; omega) (by rw [HS3.out]; omega) ?_)
  intro v4 w4 hi4 hg4
  have hs4 := hg4.size
  rw [HS3.out] at hs4
  have hG4 := HG3.out.grown hg4 (by simp [Value.ownBlock])
  have hZ4 := HZ3.out.grown hg4 (by simp [Value.ownBlock])
  have hB4 := HB3.out.grown hg4 (by rw [HS3.out]; omega) (fun k hk => by simp [Value.ownBlock] at hk; omega)
  have HG5 := Lib.hid (hG4.alloc (.cells #[.int .i64 x] 3))
  have HZ5 := Lib.hid (hZ4.alloc (.cells #[.int .i64 x] 3))
  have HB5 := Lib.hid (hB4.alloc (by omega) (.cells #[.int .i64 x] 3))
  have HI5 := Lib.hid (hi4.alloc (.cells #[.int .i64 x] 3))
  have HO5 := Lib.hid (ReadsI.one w4 x)
  have hs5 : (w4.alloc (.cells #[.int .i64 x] 3)).heap.size = w4.heap.size + 1 := by simp
  have HS5 := Lib.hid hs5
  obtain ⟨a4, c4, hv4, -⟩ := hi4.reads
  rw [HN.out] at hv4
  subst hv4
  clear hi4 hg4 hG4 hZ4 hB4 hs5 g3 hlt hs2
  go_wp2_with (at_builtin; refine wpList_append_ints rfl (.tmp 12) (.tmp 14) rfl (w.heap.size + 2) (.slice a4 n c4) xs [x] rfl HI5.out (some ⟨w4.heap.size, 0, none⟩) 1 1 rfl HO5.out (by rw [HN.out]; show n + 1 ≤ _; omega) (by rw [HS5.out]; omega) ?_)
  intro v6 w6 hi6 hg6
  have hs6 := hg6.size
  rw [HS5.out] at hs6
  have gH := HG5.out.grown hg6 (HI5.out.ne (by omega))
  have xH := HZ5.out.grown hg6 (HI5.out.ne (by omega))
  have hb6 := HB5.out.grown hg6 (by rw [HS5.out]; omega) (fun k hk => by have := HI5.out.lt' k hk; omega)
  obtain ⟨a6, c6, hv6, -⟩ := hi6.reads
  have hl6 : (xs ++ [x]).length = n + 1 := by rw [List.length_append, HN.out]; rfl
  rw [hl6] at hv6
  subst hv6
  have g0 : w6.cell? ⟨w.heap.size, 0, none⟩ = some (.int .i64 s) := gH.cell 0
  have g1 : w6.cell? ⟨w.heap.size, 1, none⟩ = some (.int .i64 lo) := gH.cell 1
  have g2 : w6.cell? ⟨w.heap.size, 2, none⟩ = some (.int .i64 hi) := gH.cell 2
  have g3 : w6.cell? ⟨w.heap.size, 3, none⟩ = some (.slice ao n cap) := gH.cell 3
  have gf0 : w6.frozen? ⟨w.heap.size, 0, none⟩ = false := gH.frozen 0
  have gf1 : w6.frozen? ⟨w.heap.size, 1, none⟩ = false := gH.frozen 1
  have gf2 : w6.frozen? ⟨w.heap.size, 2, none⟩ = false := gH.frozen 2
  have gf3 : w6.frozen? ⟨w.heap.size, 3, none⟩ = false := gH.frozen 3
  have x0 : w6.cell? ⟨w.heap.size + 1, 0, none⟩ = some (.int .i64 0) := xH.cell 0
  have x1 : w6.cell? ⟨w.heap.size + 1, 1, none⟩ = some (.int .i64 0) := xH.cell 1
  have x2 : w6.cell? ⟨w.heap.size + 1, 2, none⟩ = some (.int .i64 0) := xH.cell 2
  have x3 : w6.cell? ⟨w.heap.size + 1, 3, none⟩ = some (.slice none 0 0) := xH.cell 3
  have xf0 : w6.frozen? ⟨w.heap.size + 1, 0, none⟩ = false := xH.frozen 0
  have xf1 : w6.frozen? ⟨w.heap.size + 1, 1, none⟩ = false := xH.frozen 1
  have xf2 : w6.frozen? ⟨w.heap.size + 1, 2, none⟩ = false := xH.frozen 2
  have xf3 : w6.frozen? ⟨w.heap.size + 1, 3, none⟩ = false := xH.frozen 3
  by_cases hf : (n : Int) + 1 = s
  · have q1 : ((n : Int) + 1 == s) = true := beq_iff_eq.2 hf
    have hR8 := (xH.other (p := ⟨w.heap.size, 3, none⟩) (by dsimp only; omega) (.slice none 0 0)).put4 (.int .i64 s) (.int .i64 lo) (.int .i64 hi) (.slice none 0 0)
    have hB8 := Below.put4 (b := w.heap.size + 1) (hb6.setCell (p := ⟨w.heap.size, 3, none⟩) (Nat.le_refl _) (.slice none 0 0)) (Nat.le_add_right _ 1) (.int .i64 s) (.int .i64 lo) (.int .i64 hi) (.slice none 0 0)
    have hkk := fun k (hk : k ≠ w.heap.size + 1) (hl : k ≠ w.heap.size) => (put4_block (w6.setCell ⟨w.heap.size, 3, none⟩ (.slice none 0 0)) (w.heap.size + 1) k hk (.int .i64 s) (.int .i64 lo) (.int .i64 hi) (.slice none 0 0)).trans (Below.heap_setCell w6 ⟨w.heap.size, 3, none⟩ (.slice none 0 0) k hl)
    have hV8 := (hi6.frame (w' := (((((w6.setCell ⟨w.heap.size, 3, none⟩ (.slice none 0 0)).setCell ⟨w.heap.size + 1, 0, none⟩ (.int .i64 s)).setCell ⟨w.heap.size + 1, 1, none⟩ (.int .i64 lo)).setCell ⟨w.heap.size + 1, 2, none⟩ (.int .i64 hi)).setCell ⟨w.heap.size + 1, 3, none⟩ (.slice none 0 0))) (fun k hk _ => hkk k (by omega) (by omega))).mono (show w.heap.size ≤ w.heap.size + 2 by omega)

    have HE1 := Lib.hid (show (addG ⟨s, lo, hi, xs⟩ x).xs = [] by unfold addG; dsimp only; rw [HN.out, if_pos hf])
    have HE2 := Lib.hid (show addR ⟨s, lo, hi, xs⟩ x = xs ++ [x] by unfold addR; dsimp only; rw [HN.out, if_pos hf])
    have HR8 := Lib.hid hR8
    have HB8 := Lib.hid hB8
    have HV8 := Lib.hid hV8
    clear hf hi6 hg6 gH xH hb6 hR8 hB8 hkk hV8 hl6
    go_wp2
    (try simp only [Exit.inBlock, Exit.then])
    exact bodyPost_ret (res_cell1 Try.results17 rfl (load4 HR8.out)) rfl ⟨_, _, rfl, by rw [HE1.out]; exact IRow.nil _ _, by rw [HE2.out]; exact HV8.out, HB8.out⟩
  · have q1 : ((n : Int) + 1 == s) = false := beq_false_of_ne hf
    have hR8 := (xH.other (p := ⟨w.heap.size, 3, none⟩) (by dsimp only; omega) (.slice a6 (n + 1) c6)).put4 (.int .i64 s) (.int .i64 lo) (.int .i64 hi) (.slice a6 (n + 1) c6)
    have hB8 := Below.put4 (b := w.heap.size + 1) (hb6.setCell (p := ⟨w.heap.size, 3, none⟩) (Nat.le_refl _) (.slice a6 (n + 1) c6)) (Nat.le_add_right _ 1) (.int .i64 s) (.int .i64 lo) (.int .i64 hi) (.slice a6 (n + 1) c6)
    have hkk := fun k (hk : k ≠ w.heap.size + 1) (hl : k ≠ w.heap.size) => (put4_block (w6.setCell ⟨w.heap.size, 3, none⟩ (.slice a6 (n + 1) c6)) (w.heap.size + 1) k hk (.int .i64 s) (.int .i64 lo) (.int .i64 hi) (.slice a6 (n + 1) c6)).trans (Below.heap_setCell w6 ⟨w.heap.size, 3, none⟩ (.slice a6 (n + 1) c6) k hl)
    have hV8 := (hi6.frame (w' := (((((w6.setCell ⟨w.heap.size, 3, none⟩ (.slice a6 (n + 1) c6)).setCell ⟨w.heap.size + 1, 0, none⟩ (.int .i64 s)).setCell ⟨w.heap.size + 1, 1, none⟩ (.int .i64 lo)).setCell ⟨w.heap.size + 1, 2, none⟩ (.int .i64 hi)).setCell ⟨w.heap.size + 1, 3, none⟩ (.slice a6 (n + 1) c6))) (fun k hk _ => hkk k (by omega) (by omega))).mono (show w.heap.size ≤ w.heap.size + 2 by omega)

    have HE1 := Lib.hid (show (addG ⟨s, lo, hi, xs⟩ x).xs = xs ++ [x] by unfold addG; dsimp only; rw [HN.out, if_neg hf])
    have HE2 := Lib.hid (show addR ⟨s, lo, hi, xs⟩ x = [] by unfold addR; dsimp only; rw [HN.out, if_neg hf])
    have HR8 := Lib.hid hR8
    have HB8 := Lib.hid hB8
    have HV8 := Lib.hid hV8
    clear hf hi6 hg6 gH xH hb6 hR8 hB8 hkk hV8 hl6
    go_wp2
    (try simp only [Exit.inBlock, Exit.then])
    exact bodyPost_ret (res_cell1 Try.results17 rfl (load4 HR8.out)) rfl ⟨_, _, rfl, by rw [HE1.out]; exact HV8.out, by rw [HE2.out]; exact IRow.nil _ _, HB8.out⟩
end Go.Proofs.Ytnpgofkdfckioaa
