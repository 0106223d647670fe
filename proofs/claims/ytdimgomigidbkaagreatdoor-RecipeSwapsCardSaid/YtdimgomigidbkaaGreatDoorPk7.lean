/- Texts of one proof, put together: RcQ, RcR, RcS, RcT, RcH, RcU. -/
import Derived.Test.YtdimgomigidbkaaGreatDoorPk6
import Derived.OwnWalk
import Derived.StillTailTactics
/- Stage 8's code: the map of a channel's fields is made. -/
namespace Go.Proofs.YtdimgomigidbkaaGreatDoor
open Go.RowKit
theorem wpAnyH_listed {P : Program} {ops : Array Oper} {Q : Exit → Act → World → Prop} {md : Region.Mode} {S : World → Prop} {n : Nat} {L L' : Array Bool} {a : Act} {w : World} (h : L = L') (hw : wpAnyH P md ops Q S n L' a w) : wpAnyH P md ops Q S n L a w := h ▸ hw
noncomputable def plOps : Array Oper := match Tryz.f48.body with
  | some (.seq _ (.seq (.region _ ops _) _)) => ops
  | _ => #[]
set_option maxHeartbeats 4000000 in
set_option maxRecDepth 100000 in
theorem places_region (c : Nat) (w : World) (K : Act → World → Prop) (Q : Exit → Act → World → Prop) (hQ : ∀ c (a : Act) d v w, Q (.panic c) (a.put d v) w → Q (.panic c) a w) (a : Act) (ha : a = ⟨#[.pointer (some ⟨c, 0, none⟩), undef, .map none, undef, undef, undef, undef, undef, undef, undef, undef, undef, undef, undef, undef, undef, undef, undef, undef, undef, undef, undef, undef, undef, undef, undef, undef, undef, undef, undef, undef, undef, undef, undef, undef, undef, undef, undef, undef, undef, undef], []⟩) (id : Nat)
    (hK : ∀ a' w' mb D, a'.defers = [] → a'.tmps.getD 2 undef = .map (some mb) → w'.ownsMap Tryz.prog 9 (ptrE c) mb 12 D → PM D (fun _ => true) → w.heap.size ≤ mb → Below w.heap.size w w' → K a' w') :
    (Code.region id plOps true).wp Tryz.prog (Exit.then K Q) a w := by
  subst ha
  refine wp_region_held_drew (S := fun _ => True) (by kernel_rfl) trivial fun _ => ?_
  rw [show plOps.size = 51 from by kernel_rfl]
  refine regTake 1 (some 4) (v := .pointer (some ⟨c, 0, none⟩)) rfl rfl (by kernel_rfl) (by kernel_rfl) (by kernel_rfl) (fun _ _ _ h => hQ _ _ _ _ _ h) (by rfl) trivial (fun w _ => by kernel_rfl) ?_
  simp only [Act.put, List.setIfInBounds_toArray, List.set_cons_zero, List.set_cons_succ]
  refine regTake 2 (some 5) (v := .pointer (some ⟨c, 0, none⟩)) rfl rfl (by kernel_rfl) (by kernel_rfl) (by kernel_rfl) (fun _ _ _ h => hQ _ _ _ _ _ h) (by rfl) trivial (fun w _ => by kernel_rfl) ?_
  simp only [Act.put, List.setIfInBounds_toArray, List.set_cons_zero, List.set_cons_succ]
  refine regTake 3 (some 6) (v := .pointer (some ⟨c, 2, none⟩)) rfl rfl (by kernel_rfl) (by kernel_rfl) (by kernel_rfl) (fun _ _ _ h => hQ _ _ _ _ _ h) (by rfl) trivial (fun w _ => by kernel_rfl) ?_
  simp only [Act.put, List.setIfInBounds_toArray, List.set_cons_zero, List.set_cons_succ]
  refine regTake 5 (some 7) (v := .pointer (some ⟨c, 0, none⟩)) rfl rfl (by kernel_rfl) (by kernel_rfl) (by kernel_rfl) (fun _ _ _ h => hQ _ _ _ _ _ h) (by rfl) trivial (fun w _ => by kernel_rfl) ?_
  simp only [Act.put, List.setIfInBounds_toArray, List.set_cons_zero, List.set_cons_succ]
  refine regTake 6 (some 8) (v := .pointer (some ⟨c, 0, none⟩)) rfl rfl (by kernel_rfl) (by kernel_rfl) (by kernel_rfl) (fun _ _ _ h => hQ _ _ _ _ _ h) (by rfl) trivial (fun w _ => by kernel_rfl) ?_
  simp only [Act.put, List.setIfInBounds_toArray, List.set_cons_zero, List.set_cons_succ]
  refine regTake 7 (some 9) (v := .pointer (some ⟨c, 3, none⟩)) rfl rfl (by kernel_rfl) (by kernel_rfl) (by kernel_rfl) (fun _ _ _ h => hQ _ _ _ _ _ h) (by rfl) trivial (fun w _ => by kernel_rfl) ?_
  simp only [Act.put, List.setIfInBounds_toArray, List.set_cons_zero, List.set_cons_succ]
  refine regTake 9 (some 10) (v := .pointer (some ⟨c, 0, none⟩)) rfl rfl (by kernel_rfl) (by kernel_rfl) (by kernel_rfl) (fun _ _ _ h => hQ _ _ _ _ _ h) (by rfl) trivial (fun w _ => by kernel_rfl) ?_
  simp only [Act.put, List.setIfInBounds_toArray, List.set_cons_zero, List.set_cons_succ]
  refine regTake 10 (some 11) (v := .pointer (some ⟨c, 0, none⟩)) rfl rfl (by kernel_rfl) (by kernel_rfl) (by kernel_rfl) (fun _ _ _ h => hQ _ _ _ _ _ h) (by rfl) trivial (fun w _ => by kernel_rfl) ?_
  simp only [Act.put, List.setIfInBounds_toArray, List.set_cons_zero, List.set_cons_succ]
  refine regTake 11 (some 12) (v := .pointer (some ⟨c, 4, none⟩)) rfl rfl (by kernel_rfl) (by kernel_rfl) (by kernel_rfl) (fun _ _ _ h => hQ _ _ _ _ _ h) (by rfl) trivial (fun w _ => by kernel_rfl) ?_
  simp only [Act.put, List.setIfInBounds_toArray, List.set_cons_zero, List.set_cons_succ]
  refine regTake 13 (some 13) (v := .pointer (some ⟨c, 0, none⟩)) rfl rfl (by kernel_rfl) (by kernel_rfl) (by kernel_rfl) (fun _ _ _ h => hQ _ _ _ _ _ h) (by rfl) trivial (fun w _ => by kernel_rfl) ?_
  simp only [Act.put, List.setIfInBounds_toArray, List.set_cons_zero, List.set_cons_succ]
  refine regTake 14 (some 14) (v := .pointer (some ⟨c, 0, none⟩)) rfl rfl (by kernel_rfl) (by kernel_rfl) (by kernel_rfl) (fun _ _ _ h => hQ _ _ _ _ _ h) (by rfl) trivial (fun w _ => by kernel_rfl) ?_
  simp only [Act.put, List.setIfInBounds_toArray, List.set_cons_zero, List.set_cons_succ]
  refine regTake 15 (some 15) (v := .pointer (some ⟨c, 5, none⟩)) rfl rfl (by kernel_rfl) (by kernel_rfl) (by kernel_rfl) (fun _ _ _ h => hQ _ _ _ _ _ h) (by rfl) trivial (fun w _ => by kernel_rfl) ?_
  simp only [Act.put, List.setIfInBounds_toArray, List.set_cons_zero, List.set_cons_succ]
  refine regTake 17 (some 16) (v := .pointer (some ⟨c, 0, none⟩)) rfl rfl (by kernel_rfl) (by kernel_rfl) (by kernel_rfl) (fun _ _ _ h => hQ _ _ _ _ _ h) (by rfl) trivial (fun w _ => by kernel_rfl) ?_
  simp only [Act.put, List.setIfInBounds_toArray, List.set_cons_zero, List.set_cons_succ]
  refine regTake 18 (some 17) (v := .pointer (some ⟨c, 0, none⟩)) rfl rfl (by kernel_rfl) (by kernel_rfl) (by kernel_rfl) (fun _ _ _ h => hQ _ _ _ _ _ h) (by rfl) trivial (fun w _ => by kernel_rfl) ?_
  simp only [Act.put, List.setIfInBounds_toArray, List.set_cons_zero, List.set_cons_succ]
  refine regTake 19 (some 18) (v := .pointer (some ⟨c, 6, none⟩)) rfl rfl (by kernel_rfl) (by kernel_rfl) (by kernel_rfl) (fun _ _ _ h => hQ _ _ _ _ _ h) (by rfl) trivial (fun w _ => by kernel_rfl) ?_
  simp only [Act.put, List.setIfInBounds_toArray, List.set_cons_zero, List.set_cons_succ]
  refine regTake 21 (some 19) (v := .pointer (some ⟨c, 0, none⟩)) rfl rfl (by kernel_rfl) (by kernel_rfl) (by kernel_rfl) (fun _ _ _ h => hQ _ _ _ _ _ h) (by rfl) trivial (fun w _ => by kernel_rfl) ?_
  simp only [Act.put, List.setIfInBounds_toArray, List.set_cons_zero, List.set_cons_succ]
  refine regTake 22 (some 20) (v := .pointer (some ⟨c, 0, none⟩)) rfl rfl (by kernel_rfl) (by kernel_rfl) (by kernel_rfl) (fun _ _ _ h => hQ _ _ _ _ _ h) (by rfl) trivial (fun w _ => by kernel_rfl) ?_
  simp only [Act.put, List.setIfInBounds_toArray, List.set_cons_zero, List.set_cons_succ]
  refine regTake 23 (some 21) (v := .pointer (some ⟨c, 7, none⟩)) rfl rfl (by kernel_rfl) (by kernel_rfl) (by kernel_rfl) (fun _ _ _ h => hQ _ _ _ _ _ h) (by rfl) trivial (fun w _ => by kernel_rfl) ?_
  simp only [Act.put, List.setIfInBounds_toArray, List.set_cons_zero, List.set_cons_succ]
  refine regTake 25 (some 22) (v := .pointer (some ⟨c, 0, none⟩)) rfl rfl (by kernel_rfl) (by kernel_rfl) (by kernel_rfl) (fun _ _ _ h => hQ _ _ _ _ _ h) (by rfl) trivial (fun w _ => by kernel_rfl) ?_
  simp only [Act.put, List.setIfInBounds_toArray, List.set_cons_zero, List.set_cons_succ]
  refine regTake 26 (some 23) (v := .pointer (some ⟨c, 0, none⟩)) rfl rfl (by kernel_rfl) (by kernel_rfl) (by kernel_rfl) (fun _ _ _ h => hQ _ _ _ _ _ h) (by rfl) trivial (fun w _ => by kernel_rfl) ?_
  simp only [Act.put, List.setIfInBounds_toArray, List.set_cons_zero, List.set_cons_succ]
  refine regTake 27 (some 24) (v := .pointer (some ⟨c, 8, none⟩)) rfl rfl (by kernel_rfl) (by kernel_rfl) (by kernel_rfl) (fun _ _ _ h => hQ _ _ _ _ _ h) (by rfl) trivial (fun w _ => by kernel_rfl) ?_
  simp only [Act.put, List.setIfInBounds_toArray, List.set_cons_zero, List.set_cons_succ]
  refine regTake 29 (some 25) (v := .pointer (some ⟨c, 0, none⟩)) rfl rfl (by kernel_rfl) (by kernel_rfl) (by kernel_rfl) (fun _ _ _ h => hQ _ _ _ _ _ h) (by rfl) trivial (fun w _ => by kernel_rfl) ?_
  simp only [Act.put, List.setIfInBounds_toArray, List.set_cons_zero, List.set_cons_succ]
  refine regTake 30 (some 26) (v := .pointer (some ⟨c, 0, none⟩)) rfl rfl (by kernel_rfl) (by kernel_rfl) (by kernel_rfl) (fun _ _ _ h => hQ _ _ _ _ _ h) (by rfl) trivial (fun w _ => by kernel_rfl) ?_
  simp only [Act.put, List.setIfInBounds_toArray, List.set_cons_zero, List.set_cons_succ]
  refine regTake 31 (some 27) (v := .pointer (some ⟨c, 9, none⟩)) rfl rfl (by kernel_rfl) (by kernel_rfl) (by kernel_rfl) (fun _ _ _ h => hQ _ _ _ _ _ h) (by rfl) trivial (fun w _ => by kernel_rfl) ?_
  simp only [Act.put, List.setIfInBounds_toArray, List.set_cons_zero, List.set_cons_succ]
  refine regTake 33 (some 28) (v := .pointer (some ⟨c, 0, none⟩)) rfl rfl (by kernel_rfl) (by kernel_rfl) (by kernel_rfl) (fun _ _ _ h => hQ _ _ _ _ _ h) (by rfl) trivial (fun w _ => by kernel_rfl) ?_
  simp only [Act.put, List.setIfInBounds_toArray, List.set_cons_zero, List.set_cons_succ]
  refine regTake 34 (some 29) (v := .pointer (some ⟨c, 0, none⟩)) rfl rfl (by kernel_rfl) (by kernel_rfl) (by kernel_rfl) (fun _ _ _ h => hQ _ _ _ _ _ h) (by rfl) trivial (fun w _ => by kernel_rfl) ?_
  simp only [Act.put, List.setIfInBounds_toArray, List.set_cons_zero, List.set_cons_succ]
  refine regTake 35 (some 30) (v := .pointer (some ⟨c, 10, none⟩)) rfl rfl (by kernel_rfl) (by kernel_rfl) (by kernel_rfl) (fun _ _ _ h => hQ _ _ _ _ _ h) (by rfl) trivial (fun w _ => by kernel_rfl) ?_
  simp only [Act.put, List.setIfInBounds_toArray, List.set_cons_zero, List.set_cons_succ]
  refine regTake 37 (some 31) (v := .pointer (some ⟨c, 0, none⟩)) rfl rfl (by kernel_rfl) (by kernel_rfl) (by kernel_rfl) (fun _ _ _ h => hQ _ _ _ _ _ h) (by rfl) trivial (fun w _ => by kernel_rfl) ?_
  simp only [Act.put, List.setIfInBounds_toArray, List.set_cons_zero, List.set_cons_succ]
  refine regTake 38 (some 32) (v := .pointer (some ⟨c, 0, none⟩)) rfl rfl (by kernel_rfl) (by kernel_rfl) (by kernel_rfl) (fun _ _ _ h => hQ _ _ _ _ _ h) (by rfl) trivial (fun w _ => by kernel_rfl) ?_
  simp only [Act.put, List.setIfInBounds_toArray, List.set_cons_zero, List.set_cons_succ]
  refine regTake 39 (some 33) (v := .pointer (some ⟨c, 11, none⟩)) rfl rfl (by kernel_rfl) (by kernel_rfl) (by kernel_rfl) (fun _ _ _ h => hQ _ _ _ _ _ h) (by rfl) trivial (fun w _ => by kernel_rfl) ?_
  simp only [Act.put, List.setIfInBounds_toArray, List.set_cons_zero, List.set_cons_succ]
  refine regTake 41 (some 34) (v := .pointer (some ⟨c, 0, none⟩)) rfl rfl (by kernel_rfl) (by kernel_rfl) (by kernel_rfl) (fun _ _ _ h => hQ _ _ _ _ _ h) (by rfl) trivial (fun w _ => by kernel_rfl) ?_
  simp only [Act.put, List.setIfInBounds_toArray, List.set_cons_zero, List.set_cons_succ]
  refine regTake 42 (some 35) (v := .pointer (some ⟨c, 0, none⟩)) rfl rfl (by kernel_rfl) (by kernel_rfl) (by kernel_rfl) (fun _ _ _ h => hQ _ _ _ _ _ h) (by rfl) trivial (fun w _ => by kernel_rfl) ?_
  simp only [Act.put, List.setIfInBounds_toArray, List.set_cons_zero, List.set_cons_succ]
  refine regTake 43 (some 36) (v := .pointer (some ⟨c, 12, none⟩)) rfl rfl (by kernel_rfl) (by kernel_rfl) (by kernel_rfl) (fun _ _ _ h => hQ _ _ _ _ _ h) (by rfl) trivial (fun w _ => by kernel_rfl) ?_
  simp only [Act.put, List.setIfInBounds_toArray, List.set_cons_zero, List.set_cons_succ]
  refine regTake 45 (some 37) (v := .pointer (some ⟨c, 0, none⟩)) rfl rfl (by kernel_rfl) (by kernel_rfl) (by kernel_rfl) (fun _ _ _ h => hQ _ _ _ _ _ h) (by rfl) trivial (fun w _ => by kernel_rfl) ?_
  simp only [Act.put, List.setIfInBounds_toArray, List.set_cons_zero, List.set_cons_succ]
  refine regTake 46 (some 38) (v := .pointer (some ⟨c, 0, none⟩)) rfl rfl (by kernel_rfl) (by kernel_rfl) (by kernel_rfl) (fun _ _ _ h => hQ _ _ _ _ _ h) (by rfl) trivial (fun w _ => by kernel_rfl) ?_
  simp only [Act.put, List.setIfInBounds_toArray, List.set_cons_zero, List.set_cons_succ]
  refine regTake 47 (some 39) (v := .pointer (some ⟨c, 13, none⟩)) rfl rfl (by kernel_rfl) (by kernel_rfl) (by kernel_rfl) (fun _ _ _ h => hQ _ _ _ _ _ h) (by rfl) trivial (fun w _ => by kernel_rfl) ?_
  simp only [Act.put, List.setIfInBounds_toArray, List.set_cons_zero, List.set_cons_succ]
  refine regDo 0 (some 3) (v := .map (some w.heap.size)) (w' := w.drew.alloc (.map #[] 0)) rfl rfl (by kernel_rfl) (by rfl) (by kernel_rfl) trivial fun _ => ?_
  simp only [Act.put, List.setIfInBounds_toArray, List.set_cons_zero, List.set_cons_succ]
  refine wpAnyH_listed (L' := Lp fun _ => false) (by kernel_rfl) (regFill (c := c) (mb := w.heap.size) (w0 := w) (Nat.le_refl _) (by kernel_rfl) (fun k hk => ?_) (fun W hF => ?_) 12 (fun _ => false) _ rfl ⟨_, World.ownsMap_made w.drew _ _ _, PM.nil, ?_⟩)
  · have h : k = 0 ∨ k = 1 ∨ k = 2 ∨ k = 3 ∨ k = 4 ∨ k = 5 ∨ k = 6 ∨ k = 7 ∨ k = 8 ∨ k = 9 ∨ k = 10 ∨ k = 11 := by omega
    rcases h with rfl | rfl | rfl | rfl | rfl | rfl | rfl | rfl | rfl | rfl | rfl | rfl <;> exact ⟨_, _, _, _, rfl, rfl, rfl, rfl, rfl, rfl, rfl⟩
  · obtain ⟨D, h1, h2, h3⟩ := hF
    refine regTake 49 (some 40) (v := .map (some w.heap.size)) rfl rfl (by kernel_rfl) (by kernel_rfl) (by kernel_rfl) (fun _ _ _ h => hQ _ _ _ _ _ h) (by rfl) trivial (fun w _ => by kernel_rfl) ?_
    simp only [Act.put, List.setIfInBounds_toArray, List.set_cons_zero, List.set_cons_succ]
    refine regTake 50 (some 2) (v := .map (some w.heap.size)) rfl rfl (by kernel_rfl) (by kernel_rfl) (by kernel_rfl) (fun _ _ _ h => hQ _ _ _ _ _ h) (by rfl) trivial (fun w _ => by kernel_rfl) ?_
    simp only [Act.put, List.setIfInBounds_toArray, List.set_cons_zero, List.set_cons_succ]
    exact wpAnyH_done (by kernel_rfl) (hK _ _ _ D rfl rfl h1 h2 (Nat.le_refl _) h3) _
  · exact (Below.refl w.heap.size w).trans ((Below.refl w.drew.heap.size w.drew).alloc (Nat.le_refl _) _ |>.mono (Nat.le_refl _) |> fun h => ⟨h.os, h.tape, h.output, h.size, h.block⟩)
set_option maxHeartbeats 1000000 in
set_option maxRecDepth 100000 in
theorem places_any (c : Nat) (w : World) :
    Calls Tryz.prog 48 #[.pointer (some ⟨c, 0, none⟩)] w fun e w' => ∃ mb D, e = .returned (.map (some mb)) ∧ w'.ownsMap Tryz.prog 9 (ptrE c) mb 12 D ∧ PM D (fun _ => true) ∧ w.heap.size ≤ mb ∧ Below w.heap.size w w' := by
  go_enter Tryz.func48, Tryz.ntmps48
  refine wp_seq_k fun K hK => ?_
  have HK := Lib.hid hK
  clear hK
  go_wp2
  refine HK.out _ _ ?_
  refine wp_seq_k fun K2 hK2 => ?_
  have HK2 := Lib.hid hK2
  clear hK2 HK
  refine places_region c w K2 _ (fun _ _ d _ _ h => by cases d <;> exact h) _ rfl 1 fun a' w' mb D h1 h2 h3 h4 h5 h6 => HK2.out _ _ ?_
  refine wp_ret ?_
  exact bodyPost_ret (results_tmp rfl _ _ _) h1 ⟨mb, D, congrArg Ending.returned h2, h3, h4, h5, h6⟩
end Go.Proofs.YtdimgomigidbkaaGreatDoor
/- Stage 8's code: the ways through a field's reading, by the numbers; what lies low stays. -/
namespace Go.Proofs.YtdimgomigidbkaaGreatDoor
open Go.RowKit

theorem fieldsS_succ (f : Nat) (l : List Tok) (c : Ch) (met : Nat → Bool) : fieldsS (f + 1) l c met =
    if (hd l).kind = 4 then closeS l c met
    else match findW fieldW (wordT (hd l)) with
      | none => .error (l, 8)
      | some k =>
        if mayB c.ch k = false then .error (l, 8)
        else if met k = true then .error (l, 9)
        else if (hd (l.drop 1)).kind ≠ 2 then .error (l.drop 1, 8)
        else if withinB c.ch k (hd (l.drop 1)).num = false then .error (l.drop 1, 3)
        else if (hd (l.drop 2)).kind ≠ 5 then .error (l.drop 2, 8)
        else fieldsS f (l.drop 3) (c.set k (hd (l.drop 1)).num) (put met k) := rfl
theorem nodup_len : ∀ (n : Nat) (l : List Nat), l.Nodup → (∀ x ∈ l, x < n) → l.length ≤ n
  | 0, l, _, h => by
    cases l with
    | nil => exact Nat.le_refl _
    | cons x r => exact absurd (h x List.mem_cons_self) (Nat.not_lt_zero _)
  | n + 1, l, hn, h => by
    have ih := nodup_len n (l.erase n) (hn.erase n) (fun x hx => by
      have h1 := (List.Nodup.mem_erase_iff hn).1 hx
      have := h x h1.2
      have := h1.1
      omega)
    have := (List.le_length_erase (l := l) (a := n))
    omega
theorem fresh_way {cv : Nat → Nat} {n f : Nat} {l : List Tok} {c : Ch} {m : List Nat} (hc : c.ch < 8) (hm : ∀ r ∈ m, r ∈ rowsL c.ch) (ht : ∀ t ∈ l, t.right) (h4 : (hd l).kind ≠ 4) :
    (∃ e, freshV cv (rowsL c.ch) m (tokE n l) = .tuple #[zfV, errV (placeOf n l) e] ∧ fieldsS (f + 1) l c (metOf m) = .error (l, e)) ∨
    (∃ r, r ∈ rowsL c.ch ∧ freshV cv (rowsL c.ch) m (tokE n l) = .tuple #[fldV cv r, .nilIface] ∧ metOf m (rowF r) = false ∧ findW fieldW (wordT (hd l)) = some (rowF r) ∧ mayB c.ch (rowF r) = true) := by
  have hk := tokE_kind n l
  have hw := word_field (hd_right ht)
  unfold freshV
  rw [fieldsS_succ, if_neg h4, hk.2.1, hk.2.2.2, hw]
  cases hf : findW ((rowsL c.ch).map rowW) (hd l).text with
  | none =>
    refine Or.inl ⟨8, rfl, ?_⟩
    cases hg : findW fieldW (hd l).text with
    | none => rfl
    | some k =>
      dsimp only
      rw [if_pos (find_rows_none hc hf hg)]
  | some i =>
    obtain ⟨h1, h2, h3, h5⟩ := find_rows hc hf
    have hr := getD_mem (rowsL c.ch) i h1
    dsimp only
    generalize (rowsL c.ch).getD i 0 = r at *
    have hme : (findW (m.map rowW) (hd l).text).isSome = metOf m (rowF r) := by
      rw [h5]
      exact have_met (fun x hx => rows_lt _ _ (hm x hx)) (rowF_lt _ (rows_lt _ _ hr))
    rw [h2]
    dsimp only
    rw [hme, if_neg (show ¬ mayB c.ch (rowF r) = false from by rw [h3]; decide)]
    cases hb : metOf m (rowF r) with
    | true => exact Or.inl ⟨9, rfl, rfl⟩
    | false => exact Or.inr ⟨r, hr, rfl, hb, rfl, h3⟩
theorem num_way {n f r : Nat} {l : List Tok} {c : Ch} {met : Nat → Bool} (hc : c.ch < 8) (hr : r ∈ rowsL c.ch) (h4 : (hd l).kind ≠ 4) (hmet : met (rowF r) = false) (hf : findW fieldW (wordT (hd l)) = some (rowF r)) (hm : mayB c.ch (rowF r) = true) :
    (∃ e s, numV r (tokE n (l.drop 1)) (tokE n ((l.drop 1).drop 1)) = .tuple #[.int .i64 0, errV (placeOf n s) e] ∧ fieldsS (f + 1) l c met = .error (s, e)) ∨
    (numV r (tokE n (l.drop 1)) (tokE n ((l.drop 1).drop 1)) = .tuple #[.int .i64 (hd (l.drop 1)).num, .nilIface] ∧ (l.drop 1).drop (numN r (tokE n (l.drop 1))) = l.drop 3 ∧ 2 < l.length ∧
      fieldsS (f + 1) l c met = fieldsS f (l.drop 3) (c.set (rowF r) (hd (l.drop 1)).num) (put met (rowF r))) := by
  have k1 := tokE_kind n (l.drop 1)
  have k2 := tokE_kind n ((l.drop 1).drop 1)
  rw [show (l.drop 1).drop 1 = l.drop 2 from by rw [List.drop_drop]] at k2 ⊢
  unfold numV numN
  rw [fieldsS_succ, if_neg h4, hf]
  dsimp only
  rw [if_neg (show ¬ mayB c.ch (rowF r) = false from by rw [hm]; decide), if_neg (show ¬ met (rowF r) = true from by rw [hmet]; decide), k1.1, k1.2.2.1, k1.2.2.2, k2.1, k2.2.2.2, fit_within hc hr]
  by_cases a1 : (hd (l.drop 1)).kind = 2
  · have b1 : ¬ (hd (l.drop 1)).kind ≠ 2 := fun e => e a1
    rw [if_neg b1, if_neg b1, if_neg b1]
    cases a2 : withinB c.ch (rowF r) (hd (l.drop 1)).num with
    | false =>
      rw [if_pos rfl, if_pos rfl, if_pos rfl]
      exact Or.inl ⟨3, _, rfl, rfl⟩
    | true =>
      have b2 : ¬ (true = false) := by decide
      rw [if_neg b2, if_neg b2, if_neg b2]
      by_cases a3 : (hd (l.drop 2)).kind = 5
      · have b3 : ¬ (hd (l.drop 2)).kind ≠ 5 := fun e => e a3
        rw [if_neg b3, if_neg b3]
        exact Or.inr ⟨rfl, by rw [List.drop_drop], hd_drop l 2 (by rw [a3]; decide), rfl⟩
      · rw [if_pos a3, if_pos a3]
        exact Or.inl ⟨8, _, rfl, rfl⟩
  · rw [if_pos a1, if_pos a1]
    exact Or.inl ⟨8, _, rfl, rfl⟩
theorem close_way {n f : Nat} {l : List Tok} {c : Ch} {m : List Nat} (hc : c.ch < 8) (hm : ∀ r ∈ m, r ∈ rowsL c.ch) (h4 : (hd l).kind = 4) :
    (∃ e, closedV c m (tokE n l) = .tuple #[chV ch0, errV (placeOf n l) e] ∧ fieldsS (f + 1) l c (metOf m) = .error (l, e)) ∨
    (closedV c m (tokE n l) = .tuple #[chV c, .nilIface] ∧ fieldsS (f + 1) l c (metOf m) = .ok (c, l.drop 1)) := by
  have k1 := tokE_kind n l
  unfold closedV
  rw [fieldsS_succ, if_pos h4, close_rows hc hm, k1.2.2.2]
  by_cases a1 : lackB c.ch m = true
  · rw [if_pos a1, if_pos a1]
    exact Or.inl ⟨10, rfl, rfl⟩
  · rw [if_neg a1, if_neg a1]
    by_cases a2 : orderB c m = false
    · rw [if_pos a2, if_pos a2]
      exact Or.inl ⟨3, rfl, rfl⟩
    · rw [if_neg a2, if_neg a2]
      exact Or.inr ⟨rfl, rfl⟩
theorem met_len {m : List Nat} (hm : ∀ r ∈ m, r < 13) (hn : (m.map rowF).Nodup) : m.length ≤ 12 := by
  have h1 := nodup_len 12 _ hn fun x hx => by
    obtain ⟨r, hr, rfl⟩ := List.mem_map.1 hx
    exact rowF_lt r (hm r hr)
  rw [List.length_map] at h1
  exact h1
theorem met_snoc {m : List Nat} {r : Nat} (hn : (m.map rowF).Nodup) (h : metOf m (rowF r) = false) : ((m ++ [r]).map rowF).Nodup := by
  rw [List.map_append, List.nodup_append]
  refine ⟨hn, by simp, fun a ha b hb e => ?_⟩
  simp only [List.map_cons, List.map_nil, List.mem_cons, List.not_mem_nil, or_false] at hb
  subst hb
  obtain ⟨x, hx, q⟩ := List.mem_map.1 ha
  have := metOf_iff.2 ⟨x, hx, q.trans e⟩
  rw [h] at this
  cases this
theorem chL_set (c : Ch) (k : Nat) (hk : k < 12) (v : Int) : (chL c).set (k + 2) (.int .i64 v) = chL (c.set k v) := by
  have h : k = 0 ∨ k = 1 ∨ k = 2 ∨ k = 3 ∨ k = 4 ∨ k = 5 ∨ k = 6 ∨ k = 7 ∨ k = 8 ∨ k = 9 ∨ k = 10 ∨ k = 11 := by omega
  rcases h with rfl | rfl | rfl | rfl | rfl | rfl | rfl | rfl | rfl | rfl | rfl | rfl <;> rfl
/-! ### What lies low stays -/
/-- Blocks below B but for one are as they were. -/
def Lows (B b : Nat) (w w' : World) : Prop := ∀ k, k < B → k ≠ b → w'.heap[k]? = w.heap[k]?
theorem Lows.refl (B b : Nat) (w : World) : Lows B b w w := fun _ _ _ => rfl
theorem Lows.trans {B b : Nat} {x y z : World} (h : Lows B b x y) (k : Lows B b y z) : Lows B b x z := fun i hi hb => (k i hi hb).trans (h i hi hb)
theorem Lows.of {B b B' : Nat} {x y : World} (h : Below B' x y) (hB : B ≤ B') : Lows B b x y := fun i hi _ => h.block i (by omega)
theorem Lows.wb {B b : Nat} {x y : World} (h : WB b x y) (hB : B ≤ x.heap.size) : Lows B b x y := fun i hi hb => h.block i (by omega) (by simpa using hb)
theorem Lows.grown {B b : Nat} {x y : World} {row : Option Nat} (h : x.grownBy y row) (hB : B ≤ x.heap.size) (hr : ∀ j, row = some j → B ≤ j) : Lows B b x y := fun i hi _ => h.block i (by omega) (fun e => by have := hr i e.symm; omega)
/-- What filled keeps in blocks below B: the channel, its place for the result, the map of its fields, the fields that may come. -/
structure Low (B b cb rb mb kb : Nat) (cv : Nat → Nat) (L : List Nat) (D : DataW Unit) (c : Ch) (w : World) : Prop where
  ord : b < B ∧ cb < B ∧ rb < B ∧ mb < B ∧ kb < B ∧ b ≠ cb ∧ b ≠ rb ∧ b ≠ mb ∧ b ≠ kb ∧ cb ≠ rb ∧ cb ≠ mb ∧ cb ≠ kb ∧ B ≤ w.heap.size
  ch : Has w cb (chL c) 37
  rs : Has w rb zeroL 37
  mp : w.ownsMap Tryz.prog 9 (ptrE cb) mb 12 D
  fb : FBlk w cv kb L.length (fun i => L.getD i 0)
theorem owns_of {P : Program} {k : TypeId} {R : Value → Option (DataW Unit × List MemPlace)} {mb n : Nat} {D : DataW Unit} {w w' : World} (h : w.ownsMap P k R mb n D) (e : w'.heap[mb]? = w.heap[mb]?) : w'.ownsMap P k R mb n D := by
  obtain ⟨es, clock, hb, r⟩ := h
  exact ⟨es, clock, e.trans hb, r⟩
theorem Low.keep {B b cb rb mb kb : Nat} {cv : Nat → Nat} {L : List Nat} {D : DataW Unit} {c : Ch} {w w' : World} (h : Low B b cb rb mb kb cv L D c w) (hl : Lows B b w w') (hs : w.heap.size ≤ w'.heap.size) : Low B b cb rb mb kb cv L D c w' := by
  obtain ⟨⟨o1, o2, o3, o4, o5, o6, o7, o8, o9, o10, o11, o12, o13⟩, h1, h2, h3, h4⟩ := h
  exact ⟨⟨o1, o2, o3, o4, o5, o6, o7, o8, o9, o10, o11, o12, by omega⟩, h1.of (hl cb o2 (fun e => o6 e.symm)), h2.of (hl rb o3 (fun e => o7 e.symm)), owns_of h3 (hl mb o4 (fun e => o8 e.symm)), h4.of (hl kb o5 (fun e => o9 e.symm))⟩
theorem Low.call {B b cb rb mb kb : Nat} {cv : Nat → Nat} {L : List Nat} {D : DataW Unit} {c : Ch} {w w' : World} (h : Low B b cb rb mb kb cv L D c w) (hb : Below w.heap.size w w') : Low B b cb rb mb kb cv L D c w' :=
  h.keep (Lows.of hb h.ord.2.2.2.2.2.2.2.2.2.2.2.2) hb.size
theorem Low.wb {B b cb rb mb kb : Nat} {cv : Nat → Nat} {L : List Nat} {D : DataW Unit} {c : Ch} {w w' : World} (h : Low B b cb rb mb kb cv L D c w) (hb : WB b w w') : Low B b cb rb mb kb cv L D c w' :=
  h.keep (Lows.wb hb h.ord.2.2.2.2.2.2.2.2.2.2.2.2) hb.size
theorem Low.put {B b cb rb mb kb : Nat} {cv : Nat → Nat} {L : List Nat} {D : DataW Unit} {c : Ch} {w : World} (h : Low B b cb rb mb kb cv L D c w) {k : Nat} (hk : k < 12) (v : Int) : Low B b cb rb mb kb cv L D (c.set k v) (w.setCell ⟨cb, k + 2, none⟩ (.int .i64 v)) := by
  obtain ⟨⟨o1, o2, o3, o4, o5, o6, o7, o8, o9, o10, o11, o12, o13⟩, h1, h2, h3, h4⟩ := h
  have h1' := h1.set (k + 2) (.int .i64 v)
  rw [chL_set c k hk v] at h1'
  exact ⟨⟨o1, o2, o3, o4, o5, o6, o7, o8, o9, o10, o11, o12, by simpa using o13⟩, h1', h2.other (fun e => o10 e.symm) _, owns_of h3 (Below.heap_setCell _ _ _ _ (fun e => o11 e.symm)), h4.of (Below.heap_setCell _ _ _ _ (fun e => o12 e.symm))⟩
theorem Rdr.keep {w w' : World} {b n : Nat} {l : List Tok} (h : Rdr w b n l) (e : ∀ k, k ≤ b → w'.heap[k]? = w.heap[k]?) : Rdr w' b n l := by
  obtain ⟨ao, cap, h1, h2, h3, h4⟩ := h
  refine ⟨ao, cap, h1.of (e b (Nat.le_refl _)), h2, h3, fun i hi => ?_⟩
  obtain ⟨b', off, h5, h6, h7⟩ := h4 i hi
  have far : ∀ o, w'.cell? ⟨b', o, none⟩ = w.cell? ⟨b', o, none⟩ := fun o => World.cell?_of_block (a := ⟨b', o, none⟩) (e b' (by omega))
  exact ⟨b', off, h5, h6, (far _).trans h7.c0, (far _).trans h7.c1, (far _).trans h7.c2, (far _).trans h7.c3⟩
/-- How many tokens the reader has left, read off the world. -/
def rdLen (b : Nat) (w : World) : Nat := match w.cell? ⟨b, 0, none⟩ with
  | some (.slice _ k _) => k
  | _ => 0
theorem Rdr.len {w : World} {b n : Nat} {l : List Tok} (h : Rdr w b n l) : rdLen b w = l.length := by
  obtain ⟨ao, cap, h1, -⟩ := h
  have c0 : w.cell? ⟨b, 0, none⟩ = some (.slice ao l.length cap) := h1.cell 0
  unfold rdLen
  rw [c0]
/-- A field's place in the map. -/
theorem look_at {w : World} {cb mb : Nat} {D : DataW Unit} {p : Nat → Bool} (h : w.ownsMap Tryz.prog 9 (ptrE cb) mb 12 D) (hp : PM D p) {r : Nat} (hr : r < 13) (hpr : p (rowF r) = true) :
    (Instr.lookup 97 (.map (some mb)) (.string (bs (rowW r))) false).run Tryz.prog w = .ok (.pointer (some ⟨cb, rowF r + 2, none⟩)) w := by
  obtain ⟨v, ps, h1, h2⟩ := h.lookup (zd := .nil) (zp := []) lawS Tryz.underlying97 (zeroP w) rfl (key_row r hr)
  rw [hp.at' _ (rowF_lt r hr) hpr] at h2
  rw [h1, ptrE_inv h2]
end Go.Proofs.YtdimgomigidbkaaGreatDoor
/- Stage 8's code: what holds while a channel's fields are read. -/
namespace Go.Proofs.YtdimgomigidbkaaGreatDoor
open Go.RowKit

theorem WB.grow {b : Nat} {x y z : World} {row : Option Nat} (h : WB b x y) (g : y.grownBy z row) (hr : ∀ j, row = some j → x.heap.size ≤ j) : WB b x z :=
  ⟨g.os.trans h.os, g.tape.trans h.tape, g.output.trans h.output, Nat.le_trans h.size g.size, fun k hk hne => (g.block k (by have := h.size; omega) (fun e => by have := hr k e.symm; omega)).trans (h.block k hk hne)⟩
theorem Lows.own4 {B b c : Nat} {x y : World} (h : Lows B b x y) (hc : B ≤ c) (v0 v1 v2 v3 : Value) : Lows B b x ((((y.setCell ⟨c, 0, none⟩ v0).setCell ⟨c, 1, none⟩ v1).setCell ⟨c, 2, none⟩ v2).setCell ⟨c, 3, none⟩ v3) := fun k hk hb => by
  have e : ∀ (w : World) (i : Nat) (v : Value), (w.setCell ⟨c, i, none⟩ v).heap[k]? = w.heap[k]? := fun w i v => Below.heap_setCell _ _ _ _ (by dsimp only; omega)
  rw [e, e, e, e]
  exact h k hk hb
theorem Has.own4 {b : Nat} {cs : List Value} {T : TypeId} {w : World} (h : Has w b cs T) (h4 : cs.length = 4) (t : Tok) : Has ((((w.setCell ⟨b, 0, none⟩ (.int .i64 t.kind)).setCell ⟨b, 1, none⟩ (.string (bs t.text))).setCell ⟨b, 2, none⟩ (.int .i64 t.num)).setCell ⟨b, 3, none⟩ (.int .i64 t.place)) b (tokL t) T := by
  have h2 := (((h.set 0 (.int .i64 t.kind)).set 1 (.string (bs t.text))).set 2 (.int .i64 t.num)).set 3 (.int .i64 t.place)
  match cs, h4 with
  | [_, _, _, _], _ => exact h2
theorem FRow.keep {B : Nat} {cv : Nat → Nat} {v : Value} {l : List Nat} {w w' : World} {row : Option Nat} (h : FRow B cv v l w) (hg : w.grownBy w' row) (hr : ∀ j, row = some j → j < B) : FRow B cv v l w' :=
  h.kept hg (by
    cases hv : v.ownBlock with
    | none => exact Or.inl rfl
    | some k => exact Or.inr fun e => by have := h.lt k hv; have := hr k e.symm; omega)
theorem FRow.own4 {B c : Nat} {cv : Nat → Nat} {v : Value} {l : List Nat} {w : World} (h : FRow B cv v l w) (hne : v.ownBlock ≠ some c) (v0 v1 v2 v3 : Value) : FRow B cv v l ((((w.setCell ⟨c, 0, none⟩ v0).setCell ⟨c, 1, none⟩ v1).setCell ⟨c, 2, none⟩ v2).setCell ⟨c, 3, none⟩ v3) :=
  h.kept ((((WB.set w 0 v0).trans (WB.set _ 1 v1)).trans (WB.set _ 2 v2)).trans (WB.set _ 3 v3)) (Or.inr hne)
/-! ### While the fields are read -/
structure FilP (X : Except (List Tok × Int) (Ch × List Tok)) (ch : Nat) (l : List Tok) (c : Ch) (m : List Nat) (f : Nat) : Prop where
  eq : X = fieldsS f l c (metOf m)
  lf : l.length < f
  lt : ch < 8
  ch1 : c.ch = ch
  ch2 : c.chart = (ch : Int)
  sub : ∀ r ∈ m, r ∈ rowsL ch
  nod : (m.map rowF).Nodup
  rt : ∀ t ∈ l, t.right
def FilRel (X : Except (List Tok × Int) (Ch × List Tok)) (ch b n B cb rb mb kb : Nat) (cv : Nat → Nat) (D : DataW Unit) (w : World) (came tok : Value) (wr : World) : Prop :=
  ∃ l c m f tb, tok = .pointer (some ⟨tb, 0, none⟩) ∧ FilP X ch l c m f ∧ Has wr tb (tokL (tokE n l)) 55 ∧ Rdr wr b n (l.drop 1) ∧ Low B b cb rb mb kb cv (rowsL ch) D c wr ∧ FRow B cv came m wr ∧ came.ownBlock ≠ some tb ∧ B ≤ tb ∧ WB b w wr
def FilEnd (X : Except (List Tok × Int) (Ch × List Tok)) (b n : Nat) (w : World) (e : Ending) (w' : World) : Prop :=
  WB b w w' ∧ match X with
    | .error x => e = .returned (.tuple #[chV ch0, errV (placeOf n x.1) x.2])
    | .ok x => e = .returned (.tuple #[chV x.1, .nilIface]) ∧ Rdr w' b n x.2
theorem FilEnd.err {X : Except (List Tok × Int) (Ch × List Tok)} {b n : Nat} {w w' : World} {s : List Tok} {er : Int} (h : X = .error (s, er)) (k : WB b w w') : FilEnd X b n w (.returned (.tuple #[chV ch0, errV (placeOf n s) er])) w' := by
  subst h
  exact ⟨k, rfl⟩
/-- How the fields end at '}'. -/
theorem FilP.close {X : Except (List Tok × Int) (Ch × List Tok)} {ch b n : Nat} {l : List Tok} {c : Ch} {m : List Nat} {f : Nat} {w : World} (h : FilP X ch l c m f) (h4 : (hd l).kind = 4) :
    ∃ c' E, closedV c m (tokE n l) = .tuple #[chV c', E] ∧ ∀ w', WB b w w' → Rdr w' b n (l.drop 1) → FilEnd X b n w (.returned (.tuple #[chV c', E])) w' := by
  obtain ⟨h1, h2, h3, h5, h6, h7, h8, h9⟩ := h
  obtain ⟨g, rfl⟩ : ∃ g, f = g + 1 := ⟨f - 1, by omega⟩
  subst h5
  rcases close_way (n := n) (f := g) h3 h7 h4 with ⟨e, q1, q2⟩ | ⟨q1, q2⟩
  · exact ⟨ch0, _, q1, fun w' k _ => FilEnd.err (h1.trans q2) k⟩
  · exact ⟨c, _, q1, fun w' k hr => by rw [h1.trans q2]; exact ⟨k, rfl, hr⟩⟩
/-- How a field's word is read. -/
theorem FilP.fresh {X : Except (List Tok × Int) (Ch × List Tok)} {ch b n : Nat} {l : List Tok} {c : Ch} {m : List Nat} {f : Nat} {w : World} (cv : Nat → Nat) (h : FilP X ch l c m f) (h4 : (hd l).kind ≠ 4) :
    (∃ p er, freshV cv (rowsL ch) m (tokE n l) = .tuple #[zfV, errV p er] ∧ ∀ w', WB b w w' → FilEnd X b n w (.returned (.tuple #[chV ch0, errV p er])) w') ∨
    (∃ r, r ∈ rowsL ch ∧ r < 13 ∧ freshV cv (rowsL ch) m (tokE n l) = .tuple #[fldV cv r, .nilIface] ∧
      ((∃ p er, numV r (tokE n (l.drop 1)) (tokE n ((l.drop 1).drop 1)) = .tuple #[.int .i64 0, errV p er] ∧ ∀ w', WB b w w' → FilEnd X b n w (.returned (.tuple #[chV ch0, errV p er])) w') ∨
       (∃ v, numV r (tokE n (l.drop 1)) (tokE n ((l.drop 1).drop 1)) = .tuple #[.int .i64 v, .nilIface] ∧ (l.drop 1).drop (numN r (tokE n (l.drop 1))) = l.drop 3 ∧ 2 < l.length ∧ m.length < 12 ∧
        FilP X ch (l.drop 3) (c.set (rowF r) v) (m ++ [r]) (f - 1)))) := by
  obtain ⟨h1, h2, h3, h5, h6, h7, h8, h9⟩ := h
  obtain ⟨g, rfl⟩ : ∃ g, f = g + 1 := ⟨f - 1, by omega⟩
  subst h5
  rcases fresh_way (cv := cv) (n := n) (f := g) h3 h7 h9 h4 with ⟨e, q1, q2⟩ | ⟨r, q1, q2, q3, q4, q5⟩
  · exact Or.inl ⟨_, e, q1, fun w' k => FilEnd.err (h1.trans q2) k⟩
  · refine Or.inr ⟨r, q1, rows_lt _ _ q1, q2, ?_⟩
    rcases num_way (n := n) (f := g) h3 q1 h4 q3 q4 q5 with ⟨e, s, p1, p2⟩ | ⟨p1, p2, p3, p4⟩
    · exact Or.inl ⟨_, e, p1, fun w' k => FilEnd.err (h1.trans p2) k⟩
    · have hl := met_len (m := m ++ [r]) (fun x hx => rows_lt _ _ (by rcases List.mem_append.1 hx with hx | hx; exact h7 x hx; rw [List.mem_singleton] at hx; rw [hx]; exact q1)) (met_snoc h8 q3)
      rw [List.length_append] at hl
      refine Or.inr ⟨_, p1, p2, p3, (by show m.length + 1 ≤ 12; exact hl), ⟨?_, ?_, h3, rfl, h6, ?_, met_snoc h8 q3, ?_⟩⟩
      · rw [h1, p4, metOf_snoc]
        rfl
      · rw [List.length_drop]; omega
      · intro x hx
        rcases List.mem_append.1 hx with hx | hx
        · exact h7 x hx
        · rw [List.mem_singleton] at hx; rw [hx]; exact q1
      · exact fun t ht => h9 t (List.mem_of_mem_drop ht)
end Go.Proofs.YtdimgomigidbkaaGreatDoor
/- Stage 8's code: a channel's fields, read up to '}'. -/
namespace Go.Proofs.YtdimgomigidbkaaGreatDoor
open Go.RowKit

theorem chL_at (c : Ch) (k : Nat) (hk : k < 12) : (chL c)[k + 2]? = some (.int .i64 (c.f k)) := by
  have h : k = 0 ∨ k = 1 ∨ k = 2 ∨ k = 3 ∨ k = 4 ∨ k = 5 ∨ k = 6 ∨ k = 7 ∨ k = 8 ∨ k = 9 ∨ k = 10 ∨ k = 11 := by omega
  rcases h with rfl | rfl | rfl | rfl | rfl | rfl | rfl | rfl | rfl | rfl | rfl | rfl <;> rfl
set_option maxHeartbeats 0 in
set_option maxRecDepth 100000 in
theorem filled_any (l : List Tok) (b n f : Nat) (c : Ch) (w : World) (h : Rdr w b n l) (hf : l.length < f) (hc : c.chart = (c.ch : Int)) (h8 : c.ch < 8) (hr : ∀ t ∈ l, t.right) :
    Calls Tryz.prog 70 #[.pointer (some ⟨b, 0, none⟩), chV c] w (FilEnd (fieldsS f l c fun _ => false) b n w) := by
  have HP := Lib.hid (show FilP (fieldsS f l c fun _ => false) c.ch l c [] f from ⟨rfl, hf, h8, rfl, hc, fun r hr => absurd hr List.not_mem_nil, List.nodup_nil, hr⟩)
  generalize fieldsS f l c (fun _ => false) = X at HP ⊢
  have hB := ((Below.refl w.heap.size w).alloc (Nat.le_refl _) (.cells #[.string (bs c.name), .int .i64 c.chart, .int .i64 (c.f 0), .int .i64 (c.f 1), .int .i64 (c.f 2), .int .i64 (c.f 3), .int .i64 (c.f 4), .int .i64 (c.f 5), .int .i64 (c.f 6), .int .i64 (c.f 7), .int .i64 (c.f 8), .int .i64 (c.f 9), .int .i64 (c.f 10), .int .i64 (c.f 11)] 37)).alloc (by simp) (.cells #[.string ⟨#[]⟩, .int .i64 0, .int .i64 0, .int .i64 0, .int .i64 0, .int .i64 0, .int .i64 0, .int .i64 0, .int .i64 0, .int .i64 0, .int .i64 0, .int .i64 0, .int .i64 0, .int .i64 0] 37)
  have hx : Has ((w.alloc (.cells #[.string (bs c.name), .int .i64 c.chart, .int .i64 (c.f 0), .int .i64 (c.f 1), .int .i64 (c.f 2), .int .i64 (c.f 3), .int .i64 (c.f 4), .int .i64 (c.f 5), .int .i64 (c.f 6), .int .i64 (c.f 7), .int .i64 (c.f 8), .int .i64 (c.f 9), .int .i64 (c.f 10), .int .i64 (c.f 11)] 37)).alloc (.cells #[.string ⟨#[]⟩, .int .i64 0, .int .i64 0, .int .i64 0, .int .i64 0, .int .i64 0, .int .i64 0, .int .i64 0, .int .i64 0, .int .i64 0, .int .i64 0, .int .i64 0, .int .i64 0, .int .i64 0] 37)) w.heap.size (chL c) 37 := (Has.new w (chL c) 37).alloc _
  have hz : Has ((w.alloc (.cells #[.string (bs c.name), .int .i64 c.chart, .int .i64 (c.f 0), .int .i64 (c.f 1), .int .i64 (c.f 2), .int .i64 (c.f 3), .int .i64 (c.f 4), .int .i64 (c.f 5), .int .i64 (c.f 6), .int .i64 (c.f 7), .int .i64 (c.f 8), .int .i64 (c.f 9), .int .i64 (c.f 10), .int .i64 (c.f 11)] 37)).alloc (.cells #[.string ⟨#[]⟩, .int .i64 0, .int .i64 0, .int .i64 0, .int .i64 0, .int .i64 0, .int .i64 0, .int .i64 0, .int .i64 0, .int .i64 0, .int .i64 0, .int .i64 0, .int .i64 0, .int .i64 0] 37)) (w.alloc (.cells #[.string (bs c.name), .int .i64 c.chart, .int .i64 (c.f 0), .int .i64 (c.f 1), .int .i64 (c.f 2), .int .i64 (c.f 3), .int .i64 (c.f 4), .int .i64 (c.f 5), .int .i64 (c.f 6), .int .i64 (c.f 7), .int .i64 (c.f 8), .int .i64 (c.f 9), .int .i64 (c.f 10), .int .i64 (c.f 11)] 37)).heap.size zeroL 37 := Has.new _ zeroL 37
  have hfo := fieldsOf_any c.ch ((w.alloc (.cells #[.string (bs c.name), .int .i64 c.chart, .int .i64 (c.f 0), .int .i64 (c.f 1), .int .i64 (c.f 2), .int .i64 (c.f 3), .int .i64 (c.f 4), .int .i64 (c.f 5), .int .i64 (c.f 6), .int .i64 (c.f 7), .int .i64 (c.f 8), .int .i64 (c.f 9), .int .i64 (c.f 10), .int .i64 (c.f 11)] 37)).alloc (.cells #[.string ⟨#[]⟩, .int .i64 0, .int .i64 0, .int .i64 0, .int .i64 0, .int .i64 0, .int .i64 0, .int .i64 0, .int .i64 0, .int .i64 0, .int .i64 0, .int .i64 0, .int .i64 0, .int .i64 0] 37))
  have h1 := h.call hB
  have hlt := h.lt
  rw [show (w.alloc (.cells #[.string (bs c.name), .int .i64 c.chart, .int .i64 (c.f 0), .int .i64 (c.f 1), .int .i64 (c.f 2), .int .i64 (c.f 3), .int .i64 (c.f 4), .int .i64 (c.f 5), .int .i64 (c.f 6), .int .i64 (c.f 7), .int .i64 (c.f 8), .int .i64 (c.f 9), .int .i64 (c.f 10), .int .i64 (c.f 11)] 37)).heap.size = w.heap.size + 1 by simp] at hz
  rw [show ((w.alloc (.cells #[.string (bs c.name), .int .i64 c.chart, .int .i64 (c.f 0), .int .i64 (c.f 1), .int .i64 (c.f 2), .int .i64 (c.f 3), .int .i64 (c.f 4), .int .i64 (c.f 5), .int .i64 (c.f 6), .int .i64 (c.f 7), .int .i64 (c.f 8), .int .i64 (c.f 9), .int .i64 (c.f 10), .int .i64 (c.f 11)] 37)).alloc (.cells #[.string ⟨#[]⟩, .int .i64 0, .int .i64 0, .int .i64 0, .int .i64 0, .int .i64 0, .int .i64 0, .int .i64 0, .int .i64 0, .int .i64 0, .int .i64 0, .int .i64 0, .int .i64 0, .int .i64 0] 37)).heap.size = w.heap.size + 2 by simp] at hfo
  rw [← hc] at hfo
  clear h hf hc hr
  unfold chV
  go_enter Tryz.func70, Tryz.ntmps70
  go_wp2_with fail
  refine hfo.mono ?_
  rintro e w2 ⟨v, rfl, hof, k2⟩
  obtain ⟨cv, kb, cap, rfl, ql, qc, hfb, hkb⟩ := hof
  have hs2 := k2.size
  have hx2 := hx.of (k2.block w.heap.size (by omega))
  have hz2 := hz.of (k2.block (w.heap.size + 1) (by omega))
  have hB2 := hB.trans (k2.mono (by omega))
  have hr2 := Rdr.keep h1 (fun k hk => k2.block k (by omega))
  have hpl := places_any w.heap.size w2
  clear hfo hx hz hB k2 h1
  go_wp2_with fail
  refine hpl.mono ?_
  rintro e w3 ⟨mb, D, rfl, hmp, hPM, hmb, k3⟩
  have hs3 := k3.size
  have hkl := hfb.lt
  have hml : mb < w3.heap.size := by
    obtain ⟨es, clock, hb, -⟩ := hmp
    exact (Array.getElem?_eq_some_iff.1 hb).1
  have hB3 := WB.of (hB2.trans (k3.mono hB2.size)) (b := b)
  have hr3 := hr2.call k3
  have hL3 : Low w3.heap.size b w.heap.size (w.heap.size + 1) mb kb cv (rowsL c.ch) D c w3 := ⟨⟨by omega, by omega, by omega, hml, by omega, by omega, by omega, by omega, by omega, by omega, by omega, by omega, Nat.le_refl _⟩, hx2.call k3, hz2.call k3, hmp, hfb.call k3⟩
  have hnx := rnext_any l b n w3 hr3
  clear hpl hx2 hz2 hB2 hr2 hr3 hfb hmp k3
  go_wp2_with fail
  refine hnx.mono ?_
  rintro e w4 ⟨rfl, h4, k4⟩
  have hB4 := hB3.trans k4
  have hL4 := hL3.wb k4
  have hs4 := k4.size
  have hrb : w.heap.size ≤ w.heap.size + 1 := by omega
  have hcb : w.heap.size ≤ w.heap.size := Nat.le_refl _
  clear hnx hL3 hB3 k4
  unfold tokA
  have hT5 := Has.new w4 (tokL (tokE n l)) 55
  have hB5 := hB4.alloc (.cells (tokL (tokE n l)).toArray 55)
  have hb5 := (Below.refl w4.heap.size w4).alloc (Nat.le_refl _) (.cells (tokL (tokE n l)).toArray 55)
  have hL5 := hL4.call hb5
  have hR5 := h4.call hb5
  clear hb5 hL4 hB4 h4
  generalize hB' : w3.heap.size = B at *
  generalize hcbe : w.heap.size = cb at *
  generalize hrbe : cb + 1 = rb at *
  go_wp2
  go_loopw [8, 9] (FilRel X c.ch b n B cb rb mb kb cv D w) (fun _ _ W => rdLen b W)
  case atStart => exact ⟨l, c, [], f, w4.heap.size, rfl, HP.out, hT5, hR5, hL5, FRow.nil _ _ _, by simp [Value.ownBlock], hs4, hB5⟩
  case round =>
    obtain ⟨lx, cx, m, fx, tb, rfl, HQ, ht, hR, hL, hF, hne, hBt, hWB⟩ := hrel
    clear HP hT5 hB5 hL5 hR5
    have hml3 := met_len (fun r hr => rows_lt _ _ (HQ.sub r hr)) HQ.nod
    have hmr : ∀ r ∈ m, r < 13 := fun r hr => rows_lt _ _ (HQ.sub r hr)
    obtain ⟨o1, o2, o3, o4, o5, o6, o7, o8, o9, o10, o11, o12, o13⟩ := hL.ord
    have hk := (tokE_kind n lx).1
    by_cases h4 : (hd lx).kind = 4
    · obtain ⟨c', E, hcv, hEnd⟩ := HQ.close (n := n) (b := b) (w := w) h4
      have HE := Lib.hid hEnd
      have hcl := closed_any cx m cv u8 (tokE n lx) wr hF.reads (by omega) hmr (HQ.ch2.trans (by rw [HQ.ch1]))
      rw [hcv] at hcl
      rw [h4] at hk
      clear hEnd hcv HQ hF h4
      generalize tokE n lx = t at *
      unfold tokA at hcl
      unfold tokL at ht
      obtain ⟨kx, tx, nx, px⟩ := t
      dsimp only at hk ht hcl
      subst hk
      have hRg := hL.ch.range
      have c0 : wr.cell? ⟨tb, 0, none⟩ = some (.int .i64 4) := ht.cell 0
      have c1 : wr.cell? ⟨tb, 1, none⟩ = some (.string (bs tx)) := ht.cell 1
      have c2 : wr.cell? ⟨tb, 2, none⟩ = some (.int .i64 nx) := ht.cell 2
      have c3 : wr.cell? ⟨tb, 3, none⟩ = some (.int .i64 px) := ht.cell 3
      have hrs := hL.rs
      clear ht hL
      go_wp2_with (refine wpList_load_mid rfl 37 _ rfl cb 0 rfl (chL cx) _ hRg Tryz.underlying37 rfl size14 ?_)
      go_wp2_with fail
      refine hcl.mono ?_
      rintro e w5 ⟨rfl, k5⟩
      have hrs5 := hrs.call k5
      have hH := hrs5.sets (chL c') rfl
      have hT := hrs5.there
      have hW5 := (hWB.call k5).ownSets (c := rb) (by omega) 0 (chL c')
      have hR5 := (hR.call k5).sets (c := rb) (by omega) (chL c') 0
      clear hcl hRg hrs hrs5 k5 hWB hR c0 c1 c2 c3
      unfold chV
      go_wp2_with (refine wpList_store_mid rfl 37 _ _ rfl rb 0 _ rfl rfl hT size14 (by simp [Value.oneCell']) ?_)
      (try simp only [Exit.inBlock, Exit.then])
      exact bodyPost_ret (results_cell_tmp Tryz.results70 rfl (load14 (c := c') hH)) rfl (HE.out _ hW5 hR5)
    · have hk4 : ((tokE n lx).kind == 4) = false := beq_false_of_ne (by rw [hk]; exact h4)
      have HF := HQ.fresh (n := n) (b := b) (w := w) cv h4
      have hfr := fresh_any cv (rowsL c.ch) m (.slice (some ⟨kb, 0, none⟩) (rowsL c.ch).length cap) u8 (tokE n lx) wr (hL.fb.reads (Nat.le_refl _) ql qc) hF.reads (Nat.le_trans (rows_13 _) (by omega)) (by omega) (fun r hr => rows_lt _ _ hr) hmr
      have hrs := hL.rs
      clear HQ h4 hk hmr
      rcases HF with ⟨p, er, q1, hEnd⟩ | ⟨r, hrL, hr13, q1, ⟨p, er, q4, hEnd⟩ | ⟨v, q4, q5, q6, q7, HN⟩⟩
      · have HE := Lib.hid hEnd
        rw [q1] at hfr
        clear q1 hEnd hL hF hR
        generalize tokE n lx = t at *
        unfold tokA zfV errV at hfr
        unfold tokL at ht
        obtain ⟨kx, tx, nx, px⟩ := t
        dsimp only at hk4 ht hfr
        have c0 : wr.cell? ⟨tb, 0, none⟩ = some (.int .i64 kx) := ht.cell 0
        have c1 : wr.cell? ⟨tb, 1, none⟩ = some (.string (bs tx)) := ht.cell 1
        have c2 : wr.cell? ⟨tb, 2, none⟩ = some (.int .i64 nx) := ht.cell 2
        have c3 : wr.cell? ⟨tb, 3, none⟩ = some (.int .i64 px) := ht.cell 3
        clear ht
        go_wp2_with fail
        refine hfr.mono ?_
        rintro e w5 ⟨rfl, k5⟩
        have hrs5 := (hrs.call k5).alloc (.cells #[.string ⟨#[]⟩, .int .i64 0, .int .i64 0, .slice none 0 0, .bool false] 104)
        have hH := hrs5.sets zeroL rfl
        have hT := hrs5.there
        have hW5 := ((hWB.call k5).alloc (.cells #[.string ⟨#[]⟩, .int .i64 0, .int .i64 0, .slice none 0 0, .bool false] 104)).ownSets (c := rb) (by omega) 0 zeroL
        clear hfr hrs hrs5 k5 hWB c0 c1 c2 c3
        go_wp2_with (refine wpList_store_mid rfl 37 _ _ rfl rb 0 _ rfl rfl hT size14 (by simp [Value.oneCell']) ?_)
        (try simp only [Exit.inBlock, Exit.then])
        exact bodyPost_ret (results_cell_tmp Tryz.results70 rfl (load14 (c := ch0) hH)) rfl (HE.out _ hW5)
      · have HE := Lib.hid hEnd
        rw [q1] at hfr
        have hnm := fun W => fnum_any (lx.drop 1) b n cv r W
        simp only [q4] at hnm
        clear q1 q4 hEnd hL hF
        generalize tokE n lx = t at *
        unfold tokA fldV at hfr
        unfold fldV errV at hnm
        unfold tokL at ht
        obtain ⟨kx, tx, nx, px⟩ := t
        dsimp only at hk4 ht hfr
        have c0 : wr.cell? ⟨tb, 0, none⟩ = some (.int .i64 kx) := ht.cell 0
        have c1 : wr.cell? ⟨tb, 1, none⟩ = some (.string (bs tx)) := ht.cell 1
        have c2 : wr.cell? ⟨tb, 2, none⟩ = some (.int .i64 nx) := ht.cell 2
        have c3 : wr.cell? ⟨tb, 3, none⟩ = some (.int .i64 px) := ht.cell 3
        clear ht
        go_wp2_with fail
        refine hfr.mono ?_
        rintro e w5 ⟨rfl, k5⟩
        have hb5 := (Below.refl w5.heap.size w5).alloc (Nat.le_refl _) (.cells #[.string (bs (rowW r)), .int .i64 (rLo r), .int .i64 (rHi r), .slice (some ⟨cv r, 0, none⟩) (nCh r) (nCh r), .bool (rNeed r)] 104)
        have hR5 := (hR.call k5).call hb5
        have hrs5 := (hrs.call k5).call hb5
        have hW5 := (hWB.call k5).call hb5
        have hn5 := hnm _ hR5
        clear hfr hrs k5 hWB c0 c1 c2 c3 hb5 hnm hR hR5
        go_wp2_with fail
        refine hn5.mono ?_
        rintro e w6 ⟨rfl, k6, k7⟩
        have hrs6 := k7.has (show rb ≠ b by omega) hrs5
        have hH := hrs6.sets zeroL rfl
        have hT := hrs6.there
        have hW6 := (hW5.trans k7).ownSets (c := rb) (by omega) 0 zeroL
        clear hn5 hrs5 hrs6 hW5 k6 k7
        go_wp2_with (refine wpList_store_mid rfl 37 _ _ rfl rb 0 _ rfl rfl hT size14 (by simp [Value.oneCell']) ?_)
        (try simp only [Exit.inBlock, Exit.then])
        exact bodyPost_ret (results_cell_tmp Tryz.results70 rfl (load14 (c := ch0) hH)) rfl (HE.out _ hW6)
      · have HN2 := Lib.hid HN
        rw [q1] at hfr
        have hnm := fun W => fnum_any (lx.drop 1) b n cv r W
        simp only [q4, q5] at hnm
        have hlk := fun (W : World) (hW : W.ownsMap Tryz.prog 9 (ptrE cb) mb 12 D) => look_at hW hPM hr13 rfl
        have hM := Lib.hid (show ∀ W W' : World, Rdr wr b n (lx.drop 1) → Rdr W' b n ((lx.drop 3).drop 1) → rdLen b W' < rdLen b wr from fun _ W' k1 k2 => by rw [k1.len, k2.len, List.length_drop, List.length_drop, List.length_drop]; omega)
        have hMM := hM.out wr
        have HM := Lib.hid (fun W' k => hMM W' hR k)
        have hrf := rowF_lt r hr13
        have hrs0 := hrs
        clear q1 q4 q5 q6 HN hM hMM hrs hrs0
        generalize tokE n lx = t at *
        unfold tokA fldV at hfr
        unfold fldV at hnm
        unfold tokL at ht
        obtain ⟨kx, tx, nx, px⟩ := t
        dsimp only at hk4 ht hfr
        have c0 : wr.cell? ⟨tb, 0, none⟩ = some (.int .i64 kx) := ht.cell 0
        have c1 : wr.cell? ⟨tb, 1, none⟩ = some (.string (bs tx)) := ht.cell 1
        have c2 : wr.cell? ⟨tb, 2, none⟩ = some (.int .i64 nx) := ht.cell 2
        have c3 : wr.cell? ⟨tb, 3, none⟩ = some (.int .i64 px) := ht.cell 3
        go_wp2_with fail
        refine hfr.mono ?_
        rintro e w5 ⟨rfl, k5⟩
        have hb5 := (Below.refl w5.heap.size w5).alloc (Nat.le_refl _) (.cells #[.string (bs (rowW r)), .int .i64 (rLo r), .int .i64 (rHi r), .slice (some ⟨cv r, 0, none⟩) (nCh r) (nCh r), .bool (rNeed r)] 104)
        have hs5 := k5.size
        have hR5 := (hR.call k5).call hb5
        have hL5 := (hL.call k5).call hb5
        have hF5 := (hF.below k5).below hb5
        have ht5 := (ht.call k5).call hb5
        have htl := ht.lt
        have hW5 := (hWB.call k5).call hb5
        have hf5 := Has.new w5 [.string (bs (rowW r)), .int .i64 (rLo r), .int .i64 (rHi r), .slice (some ⟨cv r, 0, none⟩) (nCh r) (nCh r), .bool (rNeed r)] 104
        have hn5 := hnm _ hR5
        clear hfr k5 hWB c0 c1 c2 c3 hb5 hnm hR hR5 hL hF ht
        go_wp2_with fail
        refine hn5.mono ?_
        rintro e w6 ⟨rfl, k6, k7⟩
        have hs6 := k7.size
        rw [show (w5.alloc (.cells #[.string (bs (rowW r)), .int .i64 (rLo r), .int .i64 (rHi r), .slice (some ⟨cv r, 0, none⟩) (nCh r) (nCh r), .bool (rNeed r)] 104)).heap.size = w5.heap.size + 1 by simp] at hs6
        have hL6 := hL5.wb k7
        have ht6 := k7.has (show tb ≠ b by omega) ht5
        have hF6 := hF5.keep k7 (fun j e => by cases e; exact o1)
        have hf6 := k7.has (show w5.heap.size ≠ b by omega) hf5
        have hlk6 := hlk w6 hL6.mp
        have hc6 : w6.cell? ⟨cb, rowF r + 2, none⟩ = some (.int .i64 (cx.f (rowF r))) := (hL6.ch.cell _).trans (chL_at cx (rowF r) hrf)
        have hz6 : w6.frozen? ⟨cb, rowF r + 2, none⟩ = false := hL6.ch.frozen _
        have hW6 := (hW5.trans k7).own (c := cb) (by omega) (rowF r + 2) (.int .i64 v)
        have hL7 := hL6.put hrf v
        have hR7 := k6.set (c := cb) (by omega) (rowF r + 2) (.int .i64 v)
        have ht7 := ht6.other (p := ⟨cb, rowF r + 2, none⟩) (by dsimp only; omega) (.int .i64 v)
        have hf7 := hf6.other (p := ⟨cb, rowF r + 2, none⟩) (by dsimp only; omega) (.int .i64 v)
        have hF7 := hF6.keep (WB.set (b := cb) w6 (rowF r + 2) (.int .i64 v)) (fun j e => by cases e; exact o2)
        have d0 : w6.cell? ⟨w5.heap.size, 0, none⟩ = some (.string (bs (rowW r))) := hf6.cell 0
        have d1 : w6.cell? ⟨w5.heap.size, 1, none⟩ = some (.int .i64 (rLo r)) := hf6.cell 1
        have d2 : w6.cell? ⟨w5.heap.size, 2, none⟩ = some (.int .i64 (rHi r)) := hf6.cell 2
        have d3 : w6.cell? ⟨w5.heap.size, 3, none⟩ = some (.slice (some ⟨cv r, 0, none⟩) (nCh r) (nCh r)) := hf6.cell 3
        have d4 : w6.cell? ⟨w5.heap.size, 4, none⟩ = some (.bool (rNeed r)) := hf6.cell 4
        have e0 : (w6.setCell ⟨cb, rowF r + 2, none⟩ (.int .i64 v)).cell? ⟨w5.heap.size, 0, none⟩ = some (.string (bs (rowW r))) := hf7.cell 0
        have e1 : (w6.setCell ⟨cb, rowF r + 2, none⟩ (.int .i64 v)).cell? ⟨w5.heap.size, 1, none⟩ = some (.int .i64 (rLo r)) := hf7.cell 1
        have e2 : (w6.setCell ⟨cb, rowF r + 2, none⟩ (.int .i64 v)).cell? ⟨w5.heap.size, 2, none⟩ = some (.int .i64 (rHi r)) := hf7.cell 2
        have e3 : (w6.setCell ⟨cb, rowF r + 2, none⟩ (.int .i64 v)).cell? ⟨w5.heap.size, 3, none⟩ = some (.slice (some ⟨cv r, 0, none⟩) (nCh r) (nCh r)) := hf7.cell 3
        have e4 : (w6.setCell ⟨cb, rowF r + 2, none⟩ (.int .i64 v)).cell? ⟨w5.heap.size, 4, none⟩ = some (.bool (rNeed r)) := hf7.cell 4
        have hne1 : (cb == w5.heap.size) = false := beq_false_of_ne (by omega)
        have hne2 : (w5.heap.size == cb) = false := beq_false_of_ne (by omega)
        have hb7 := (Below.refl w6.heap.size (w6.setCell ⟨cb, rowF r + 2, none⟩ (.int .i64 v))).alloc (by simp) (.cells #[.string (bs (rowW r)), .int .i64 (rLo r), .int .i64 (rHi r), .slice (some ⟨cv r, 0, none⟩) (nCh r) (nCh r), .bool (rNeed r)] 104)
        have hb7' : Below ((w6.setCell ⟨cb, rowF r + 2, none⟩ (.int .i64 v))).heap.size (w6.setCell ⟨cb, rowF r + 2, none⟩ (.int .i64 v)) (((w6.setCell ⟨cb, rowF r + 2, none⟩ (.int .i64 v))).alloc (.cells #[.string (bs (rowW r)), .int .i64 (rLo r), .int .i64 (rHi r), .slice (some ⟨cv r, 0, none⟩) (nCh r) (nCh r), .bool (rNeed r)] 104)) := by simpa using hb7
        have hF8 := hF7.below hb7'
        have hL8 := hL7.call hb7'
        have hR8 := hR7.call hb7'
        have ht8 := ht7.call hb7'
        have hW8 := hW6.call hb7'
        clear hn5 hL5 hF5 ht5 hW5 hf5 hL6 ht6 hF6 hf6 k7 k6 hlk hW6 hL7 hR7 ht7 hf7 hF7 hb7 hb7'
        have hs8 : (((w6.setCell ⟨cb, rowF r + 2, none⟩ (.int .i64 v))).alloc (.cells #[.string (bs (rowW r)), .int .i64 (rLo r), .int .i64 (rHi r), .slice (some ⟨cv r, 0, none⟩) (nCh r) (nCh r), .bool (rNeed r)] 104)).heap.size = w6.heap.size + 1 := by simp
        obtain ⟨i0, hi, hz0, hz1, hz2⟩ := info_parts infoFld
        go_wp2_with (at_builtin; refine wpList_append_own _ rfl _ _ 100 rfl B 104 i0 (.agg #[.string ⟨#[]⟩, .int .i64 0, .int .i64 0, .slice none 0 0, .bool false]) 5 64 Tryz.underlying100 hi hz0 hz1 hz2 rfl (by decide) _ _ _ rfl hF8 ⟨w6.heap.size, 0, none⟩ 1 1 (fldL cv r) rfl rfl ?c1 ?c2 ?c3 ?c4 ?c5 ?_)
        case c1 => exact fun j u hj => fld_at _ cv r (by simp) j u hj
        case c2 => exact fldL_one cv r
        case c3 => unfold maxLen; omega
        case c4 => omega
        case c5 => omega
        intro v2 w8 hown hgrow _
        have hr8 : ∀ j, u8.ownBlock = some j → B ≤ j := fun j hj => (World.ownsRow.lt hF8 j hj).1
        have hs9 := hgrow.size
        rw [hs8] at hs9
        have hL9 := hL8.keep (Lows.grown hgrow (by omega) hr8) hgrow.size
        have ht9 := ht8.of (hgrow.block tb (by omega) (fun e => hne e.symm))
        have hR9 := hR8.keep (fun k hk => hgrow.block k (by omega) (fun e => by have := hr8 k e.symm; omega))
        have hW9 := hW8.grow hgrow (fun j hj => by have := hr8 j hj; omega)
        have hF9 := FRow.snoc hown
        have hnl := fun j hj => (World.ownsRow.lt hF9 j hj).2
        have g0 : w8.cell? ⟨tb, 0, none⟩ = some (.int .i64 kx) := ht9.cell 0
        have g1 : w8.cell? ⟨tb, 1, none⟩ = some (.string (bs tx)) := ht9.cell 1
        have g2 : w8.cell? ⟨tb, 2, none⟩ = some (.int .i64 nx) := ht9.cell 2
        have g3 : w8.cell? ⟨tb, 3, none⟩ = some (.int .i64 px) := ht9.cell 3
        have hb9 := (Below.refl w8.heap.size w8).alloc (Nat.le_refl _) (.cells #[.int .i64 kx, .string (bs tx), .int .i64 nx, .int .i64 px] 55)
        have hT9 := Has.new w8 [.int .i64 kx, .string (bs tx), .int .i64 nx, .int .i64 px] 55
        have hL10 := hL9.call hb9
        have hR10 := hR9.call hb9
        have hF10 := hF9.below hb9
        have hW10 := hW9.call hb9
        have hnx := rnext_any (lx.drop 3) b n _ hR10
        clear hown hgrow hF8 hL8 hR8 ht8 hW8 hL9 ht9 hR9 hW9 hF9 hb9 hlk6 hc6 hz6 d0 d1 d2 d3 d4 e0 e1 e2 e3 e4
        unfold tokA at hnx
        go_wp2_with fail
        refine hnx.mono ?_
        rintro e w9 ⟨rfl, h9, k9⟩
        have hs10 := k9.size
        rw [show (w8.alloc (.cells #[.int .i64 kx, .string (bs tx), .int .i64 nx, .int .i64 px] 55)).heap.size = w8.heap.size + 1 by simp] at hs10
        have hT10 := k9.has (show w8.heap.size ≠ b by omega) hT9
        have hL11 := hL10.wb k9
        have hF11 := hF10.keep k9 (fun j e => by cases e; exact o1)
        have hW11 := hW10.trans k9
        have y0 : w9.cell? ⟨w8.heap.size, 0, none⟩ = some (.int .i64 kx) := hT10.cell 0
        have y1 : w9.cell? ⟨w8.heap.size, 1, none⟩ = some (.string (bs tx)) := hT10.cell 1
        have y2 : w9.cell? ⟨w8.heap.size, 2, none⟩ = some (.int .i64 nx) := hT10.cell 2
        have y3 : w9.cell? ⟨w8.heap.size, 3, none⟩ = some (.int .i64 px) := hT10.cell 3
        have z0 : w9.frozen? ⟨w8.heap.size, 0, none⟩ = false := hT10.frozen 0
        have z1 : w9.frozen? ⟨w8.heap.size, 1, none⟩ = false := hT10.frozen 1
        have z2 : w9.frozen? ⟨w8.heap.size, 2, none⟩ = false := hT10.frozen 2
        have z3 : w9.frozen? ⟨w8.heap.size, 3, none⟩ = false := hT10.frozen 3
        clear hnx hL10 hR10 hF10 hW10 k9 hT9 g0 g1 g2 g3
        have hne3 : v2.ownBlock ≠ some w8.heap.size := fun e => by have := hnl _ e; omega
        have HR := Lib.hid (show FilRel X c.ch b n B cb rb mb kb cv D w v2 (.pointer (some ⟨w8.heap.size, 0, none⟩)) _ from
          ⟨lx.drop 3, cx.set (rowF r) v, m ++ [r], fx - 1, w8.heap.size, rfl, HN2.out, Has.own4 hT10 rfl (tokE n (lx.drop 3)), Rdr.set4 h9 (by omega) _ _ _ _, hL11.keep (Lows.own4 (Lows.refl _ _ _) (by omega) _ _ _ _) (by simp), FRow.own4 hF11 hne3 _ _ _ _, hne3, by omega, WB.own4 hW11 (by omega) _ _ _ _⟩)
        have HS := Lib.hid (HM.out _ (Rdr.set4 h9 (show b < w8.heap.size by omega) (.int .i64 (tokE n (lx.drop 3)).kind) (.string (bs (tokE n (lx.drop 3)).text)) (.int .i64 (tokE n (lx.drop 3)).num) (.int .i64 (tokE n (lx.drop 3)).place)))
        clear h9 hL11 hF11 hW11 hT10 HN2 HM hnl
        go_wp2
        go_roundw
        case rel => exact HR.out
        case measure => exact HS.out
end Go.Proofs.YtdimgomigidbkaaGreatDoor
/- Stage 8's code: a channel's name and its chart, read. -/
namespace Go.Proofs.YtdimgomigidbkaaGreatDoor
open Go.RowKit

theorem ChAt.of {w w' : World} {b o : Nat} {c : Ch} (h : ChAt w b o c) (e : w'.heap[b]? = w.heap[b]?) : ChAt w' b o c := by
  have far : ∀ i, w'.cell? ⟨b, i, none⟩ = w.cell? ⟨b, i, none⟩ := fun i => World.cell?_of_block (a := ⟨b, i, none⟩) e
  exact ⟨(far _).trans h.c0, (far _).trans h.c1, (far _).trans h.c2, (far _).trans h.c3, (far _).trans h.c4, (far _).trans h.c5, (far _).trans h.c6, (far _).trans h.c7, (far _).trans h.c8, (far _).trans h.c9, (far _).trans h.c10, (far _).trans h.c11, (far _).trans h.c12, (far _).trans h.c13⟩
theorem ReadsC.kept {w w' : World} {v : Value} {l : List Ch} {b : Nat} (h : ReadsC w v l) (hb : WB b w w') (hne : v.ownBlock ≠ some b) : ReadsC w' v l := by
  obtain ⟨ao, cap, rfl, h2, h3, h4⟩ := h
  refine ⟨ao, cap, rfl, h2, h3, fun i hi => ?_⟩
  obtain ⟨c, off, rfl, h6, h7⟩ := h4 i hi
  have hcb : c ≠ b := fun e => hne (by rw [e]; rfl)
  exact ⟨c, off, rfl, Nat.lt_of_lt_of_le h6 hb.size, h7.of (hb.block c h6 (by simpa using hcb))⟩
theorem nthC_take (l : List Ch) (k i : Nat) (h : i < k) : nthC (l.take k) i = nthC l i := by
  unfold nthC
  rw [List.getD_eq_getElem?_getD, List.getD_eq_getElem?_getD, List.getElem?_take_of_lt h]
theorem ReadsC.take {w : World} {ao : Option Addr} {n cap : Nat} {l : List Ch} (h : ReadsC w (.slice ao n cap) l) (k : Nat) (hk : k ≤ n) : ReadsC w (.slice ao k cap) (l.take k) := by
  obtain ⟨a, p, e, h2, h3, h4⟩ := h
  injection e with e1 e2 e3
  subst e1 e2 e3
  have hl : (l.take k).length = k := by rw [List.length_take]; omega
  refine ⟨ao, cap, by rw [hl], by omega, h3, fun i hi => ?_⟩
  rw [hl] at hi
  obtain ⟨c, off, h5, h6, h7⟩ := h4 i (by omega)
  exact ⟨c, off, h5, h6, by rw [nthC_take l k i hi]; exact h7⟩
def NamedRel (l : List Ch) (s : List UInt8) (n : Nat) (w : World) (i : Value) (wr : World) : Prop :=
  ∃ k : Nat, k ≤ n ∧ i = .int .i64 (k : Nat) ∧ (∀ j, j < k → (nthC l j).name ≠ s) ∧ Below w.heap.size w wr
theorem named_at {l : List Ch} {s : List UInt8} {k : Nat} (hk : k < l.length) (h : (nthC l k).name = s) : decide (s ∈ l.map Ch.name) = true := by
  rw [nthC_get l k hk] at h
  exact decide_eq_true (List.mem_map.2 ⟨_, List.getElem_mem hk, h⟩)
theorem named_none {l : List Ch} {s : List UInt8} (h : ∀ j, j < l.length → (nthC l j).name ≠ s) : decide (s ∈ l.map Ch.name) = false := by
  refine decide_eq_false fun e => ?_
  obtain ⟨c, hc, rfl⟩ := List.mem_map.1 e
  obtain ⟨j, hj, rfl⟩ := List.getElem_of_mem hc
  exact h j hj (by rw [nthC_get l j hj])
theorem tx_eq (a b : List UInt8) (h : a = b) : ((bs a).toList == (bs b).toList) = true := by rw [h]; exact beq_self_eq_true _
theorem tx_ne (a b : List UInt8) (h : a ≠ b) : ((bs a).toList == (bs b).toList) = false := by rw [bs_toList, bs_toList]; exact beq_false_of_ne h
set_option maxHeartbeats 1000000 in
set_option maxRecDepth 100000 in
theorem named_any (l : List Ch) (v : Value) (s : List UInt8) (w : World) (hm : l.length ≤ 100000) (hr : ReadsC w v l) :
    Calls Tryz.prog 26 #[v, .string (bs s)] w fun e w' => e = .returned (.bool (decide (s ∈ l.map Ch.name))) ∧ Below w.heap.size w w' := by
  obtain ⟨ao, cap, rfl, hlc, hcm, hc⟩ := hr
  unfold maxLen at hcm
  have HC := Lib.hid hc
  obtain ⟨n, hn⟩ : ∃ n, l.length = n := ⟨_, rfl⟩
  have HN := Lib.hid hn
  rw [hn] at hm hlc ⊢
  obtain ⟨R, hR⟩ : ∃ R, decide (s ∈ l.map Ch.name) = R := ⟨_, rfl⟩
  have HR := Lib.hid hR
  rw [hR]
  clear hn hc hR
  go_enter Tryz.func26, Tryz.ntmps26
  go_wp2
  go_loopw [9] (NamedRel l s n w) (fun i _ => n - (intOf i).toNat)
  case atStart => exact ⟨0, Nat.zero_le _, rfl, fun j hj => absurd hj (Nat.not_lt_zero _), Below.refl _ _⟩
  case round =>
    obtain ⟨k, hk, rfl, hno, hb⟩ := hrel
    have HNO := Lib.hid hno
    clear hno
    by_cases hl : k < n
    · obtain ⟨b, o, rfl, hlt, hd⟩ := HC.out k (by rw [HN.out]; exact hl)
      obtain ⟨x0, x1, x2, x3, x4, x5, x6, x7, x8, x9, x10, x11, x12, x13⟩ := hd.below hb hlt
      have hlw : b < wr.heap.size := Nat.lt_of_lt_of_le hlt hb.size
      have hbn := hb.alloc hb.size (.cells (chL (nthC l k)).toArray 37)
      by_cases he : (nthC l k).name = s
      · have h1 := named_at (by rw [HN.out]; exact hl) he
        have h2 : R = true := by rw [← HR.out]; exact h1
        have HX := Lib.hid h2
        have q := tx_eq _ _ he
        clear hd h1 h2 he
        go_wp2
        go_ret
        exact ⟨(congrArg (fun z => Ending.returned (.bool z)) HX.out).symm, hbn⟩
      · have HNO2 := Lib.hid (show ∀ j, j < k + 1 → (nthC l j).name ≠ s from fun j hj => by
          by_cases c : j = k
          · rw [c]; exact he
          · exact HNO.out j (by omega))
        have q := tx_ne _ _ he
        clear hd he
        go_wp2
        go_roundw
        case rel => exact ⟨k + 1, hl, by go_num, HNO2.out, hbn⟩
        case measure => simp [intOf]; omega
    · have h1 := named_none (l := l) (s := s) fun j hj => HNO.out j (by rw [HN.out] at hj; omega)
      have h2 : R = false := by rw [← HR.out]; exact h1
      have HX := Lib.hid h2
      clear h1 h2
      go_wp2
      go_ret
      exact ⟨(congrArg (fun z => Ending.returned (.bool z)) HX.out).symm, hb⟩
def nameV (l : List Ch) (t : Tok) : Value :=
  if t.kind ≠ 1 then .tuple #[.string ⟨#[]⟩, errV t.place 8] else if t.text ∈ l.map Ch.name then .tuple #[.string ⟨#[]⟩, errV t.place 9] else .tuple #[.string (bs t.text), .nilIface]
set_option maxHeartbeats 1000000 in
theorem name_any (l : List Tok) (b n : Nat) (cs : List Ch) (v : Value) (w : World) (h : Rdr w b n l) (hc : ReadsC w v cs) (hm : cs.length ≤ 100000) (hv : v.ownBlock ≠ some b) :
    Calls Tryz.prog 67 #[.pointer (some ⟨b, 0, none⟩), v] w fun e w' => e = .returned (nameV cs (tokE n l)) ∧ Rdr w' b n (l.drop 1) ∧ WB b w w' := by
  have hn := take_any l b n 1 w h
  have hwr := wrongAt_any (tokE n l) 9
  unfold nameV
  generalize tokE n l = t at *
  unfold takeT takeE tokA at hn
  unfold tokA at hwr
  by_cases hk : t.kind = 1
  · rw [if_neg (fun e => e hk)]
    rw [if_pos hk, if_pos hk] at hn
    obtain ⟨kx, tx, nx, px⟩ := t
    clear hk
    dsimp only at hn hwr ⊢
    have hnm := fun W (hW : ReadsC W v cs) => named_any cs v tx W hm hW
    by_cases hx : tx ∈ cs.map Ch.name
    · rw [if_pos hx]
      simp only [decide_eq_true hx] at hnm
      clear hx
      generalize errV px 9 = ev at *
      go_enter Tryz.func67, Tryz.ntmps67
      go_wp2_with fail
      refine hn.mono ?_
      rintro e w2 ⟨rfl, k1, k2⟩
      have k3 := k1.call ((Below.refl w2.heap.size w2).alloc (Nat.le_refl _) (.cells #[.int .i64 kx, .string (bs tx), .int .i64 nx, .int .i64 px] 55))
      have hB3 := k2.alloc (.cells #[.int .i64 kx, .string (bs tx), .int .i64 nx, .int .i64 px] 55)
      have hx3 := Has.new w2 [.int .i64 kx, .string (bs tx), .int .i64 nx, .int .i64 px] 55
      have hcall := hnm _ ((hc.kept k2 hv).below ((Below.refl w2.heap.size w2).alloc (Nat.le_refl _) (.cells #[.int .i64 kx, .string (bs tx), .int .i64 nx, .int .i64 px] 55)))
      clear hn hnm k1 k2 hc
      go_wp2_with fail
      refine hcall.mono ?_
      rintro e w4 ⟨rfl, k4⟩
      have k5 := k3.call k4
      have hB5 := hB3.call k4
      have hx5 := hx3.call k4
      have c0 : w4.cell? ⟨w2.heap.size, 0, none⟩ = some (.int .i64 kx) := hx5.cell 0
      have c1 : w4.cell? ⟨w2.heap.size, 1, none⟩ = some (.string (bs tx)) := hx5.cell 1
      have c2 : w4.cell? ⟨w2.heap.size, 2, none⟩ = some (.int .i64 nx) := hx5.cell 2
      have c3 : w4.cell? ⟨w2.heap.size, 3, none⟩ = some (.int .i64 px) := hx5.cell 3
      have hw := hwr w4
      clear hwr hcall k4 k3 hB3 hx3 hx5
      go_wp2_with fail
      refine hw.mono ?_
      rintro e w6 ⟨rfl, k6⟩
      go_wp2
      go_ret2
      exact ⟨rfl, k5.call k6, hB5.call k6⟩
    · rw [if_neg hx]
      simp only [decide_eq_false hx] at hnm
      clear hx hwr
      go_enter Tryz.func67, Tryz.ntmps67
      go_wp2_with fail
      refine hn.mono ?_
      rintro e w2 ⟨rfl, k1, k2⟩
      have k3 := k1.call ((Below.refl w2.heap.size w2).alloc (Nat.le_refl _) (.cells #[.int .i64 kx, .string (bs tx), .int .i64 nx, .int .i64 px] 55))
      have hB3 := k2.alloc (.cells #[.int .i64 kx, .string (bs tx), .int .i64 nx, .int .i64 px] 55)
      have hx3 := Has.new w2 [.int .i64 kx, .string (bs tx), .int .i64 nx, .int .i64 px] 55
      have hcall := hnm _ ((hc.kept k2 hv).below ((Below.refl w2.heap.size w2).alloc (Nat.le_refl _) (.cells #[.int .i64 kx, .string (bs tx), .int .i64 nx, .int .i64 px] 55)))
      clear hn hnm k1 k2 hc
      go_wp2_with fail
      refine hcall.mono ?_
      rintro e w4 ⟨rfl, k4⟩
      have hx5 := hx3.call k4
      have c1 : w4.cell? ⟨w2.heap.size, 1, none⟩ = some (.string (bs tx)) := hx5.cell 1
      have k5 := k3.call k4
      have hB5 := hB3.call k4
      clear hcall k4 k3 hB3 hx3 hx5
      go_wp2
      go_ret2
      exact ⟨rfl, k5, hB5⟩
  · rw [if_pos hk]
    rw [if_neg hk, if_neg hk] at hn
    unfold errV at hn ⊢
    clear hwr
    go_enter Tryz.func67, Tryz.ntmps67
    go_wp2_with fail
    refine hn.mono ?_
    rintro e w2 ⟨rfl, k1, k2⟩
    have k3 := k1.call ((Below.refl w2.heap.size w2).alloc (Nat.le_refl _) (.cells #[.int .i64 tok0.kind, .string (bs tok0.text), .int .i64 tok0.num, .int .i64 tok0.place] 55))
    have hB3 := k2.alloc (.cells #[.int .i64 tok0.kind, .string (bs tok0.text), .int .i64 tok0.num, .int .i64 tok0.place] 55)
    clear hn k1 k2
    go_wp2
    go_ret2
    exact ⟨rfl, k3, hB3⟩
theorem slice8 (b : Nat) (W : World) : (Instr.sliceAt 95 (.pointer (some ⟨b, 0, none⟩)) none none none).run Tryz.prog W = .ok (.slice (some ⟨b, 0, none⟩) 8 8) W := by kernel_rfl
def chartV (t : Tok) : Value := match findW chartW t.text with
  | none => .tuple #[.int .i64 0, errV t.place 8]
  | some k => .tuple #[.int .i64 (k : Nat), .nilIface]
def wordsL : List Value := chartW.map fun x => Value.string (bs x)
theorem chartWords_any (w : World) : Calls Tryz.prog 47 #[] w fun e w' => e = .returned (.agg #[.string ⟨#[120, 98, 97, 114]⟩, .string ⟨#[115, 105, 110, 103, 108, 101]⟩, .string ⟨#[112]⟩, .string ⟨#[110, 112]⟩, .string ⟨#[99]⟩, .string ⟨#[117]⟩, .string ⟨#[99, 117, 115, 117, 109]⟩, .string ⟨#[101, 119, 109, 97]⟩]) ∧ Below w.heap.size w w' := by
  have hB := (Below.refl w.heap.size w).alloc (Nat.le_refl _) (.cells #[.string ⟨#[120, 98, 97, 114]⟩, .string ⟨#[115, 105, 110, 103, 108, 101]⟩, .string ⟨#[112]⟩, .string ⟨#[110, 112]⟩, .string ⟨#[99]⟩, .string ⟨#[117]⟩, .string ⟨#[99, 117, 115, 117, 109]⟩, .string ⟨#[101, 119, 109, 97]⟩] 95)
  go_enter Tryz.func47, Tryz.ntmps47
  go_wp2
  refine bodyPost_ret (v := .agg #[.string ⟨#[120, 98, 97, 114]⟩, .string ⟨#[115, 105, 110, 103, 108, 101]⟩, .string ⟨#[112]⟩, .string ⟨#[110, 112]⟩, .string ⟨#[99]⟩, .string ⟨#[117]⟩, .string ⟨#[99, 117, 115, 117, 109]⟩, .string ⟨#[101, 119, 109, 97]⟩]) (by simp [results, Tryz.results47, go_sem]) rfl ⟨rfl, hB⟩
set_option maxHeartbeats 1000000 in
set_option maxRecDepth 100000 in
theorem chart_any (l : List Tok) (b n : Nat) (w : World) (h : Rdr w b n l) :
    Calls Tryz.prog 68 #[.pointer (some ⟨b, 0, none⟩)] w fun e w' => e = .returned (chartV (tokE n l)) ∧ Rdr w' b n (l.drop 1) ∧ WB b w w' := by
  have hn := rnext_any l b n w h
  have hwr := wrongAt_any (tokE n l) 8
  unfold chartV
  generalize tokE n l = t at *
  unfold tokA at hn hwr
  obtain ⟨kx, tx, nx, px⟩ := t
  dsimp only at hn hwr ⊢
  have hwd := chartWords_any
  have hsl := slice8
  cases hf : findW chartW tx with
  | none =>
    dsimp only
    generalize errV px 8 = ev at *
    go_enter Tryz.func68, Tryz.ntmps68
    go_wp2_with fail
    refine hn.mono ?_
    rintro e w2 ⟨rfl, k1, k2⟩
    have k3 := k1.call ((Below.refl w2.heap.size w2).alloc (Nat.le_refl _) (.cells #[.int .i64 kx, .string (bs tx), .int .i64 nx, .int .i64 px] 55))
    have hB3 := k2.alloc (.cells #[.int .i64 kx, .string (bs tx), .int .i64 nx, .int .i64 px] 55)
    have hx3 := Has.new w2 [.int .i64 kx, .string (bs tx), .int .i64 nx, .int .i64 px] 55
    clear hn k1 k2
    go_wp2_with fail
    refine (hwd _).mono ?_
    rintro e w4 ⟨rfl, k4⟩
    have k5 := (k3.call k4).call ((Below.refl w4.heap.size w4).alloc (Nat.le_refl _) (.cells #[.string ⟨#[120, 98, 97, 114]⟩, .string ⟨#[115, 105, 110, 103, 108, 101]⟩, .string ⟨#[112]⟩, .string ⟨#[110, 112]⟩, .string ⟨#[99]⟩, .string ⟨#[117]⟩, .string ⟨#[99, 117, 115, 117, 109]⟩, .string ⟨#[101, 119, 109, 97]⟩] 95))
    have hB5 := (hB3.call k4).alloc (.cells #[.string ⟨#[120, 98, 97, 114]⟩, .string ⟨#[115, 105, 110, 103, 108, 101]⟩, .string ⟨#[112]⟩, .string ⟨#[110, 112]⟩, .string ⟨#[99]⟩, .string ⟨#[117]⟩, .string ⟨#[99, 117, 115, 117, 109]⟩, .string ⟨#[101, 119, 109, 97]⟩] 95)
    have hx5 := (hx3.call k4).alloc (.cells #[.string ⟨#[120, 98, 97, 114]⟩, .string ⟨#[115, 105, 110, 103, 108, 101]⟩, .string ⟨#[112]⟩, .string ⟨#[110, 112]⟩, .string ⟨#[99]⟩, .string ⟨#[117]⟩, .string ⟨#[99, 117, 115, 117, 109]⟩, .string ⟨#[101, 119, 109, 97]⟩] 95)
    have hrd : ReadsS (w4.alloc (.cells #[.string ⟨#[120, 98, 97, 114]⟩, .string ⟨#[115, 105, 110, 103, 108, 101]⟩, .string ⟨#[112]⟩, .string ⟨#[110, 112]⟩, .string ⟨#[99]⟩, .string ⟨#[117]⟩, .string ⟨#[99, 117, 115, 117, 109]⟩, .string ⟨#[101, 119, 109, 97]⟩] 95)) (.slice (some ⟨w4.heap.size, 0, none⟩) 8 8) chartW := ReadsS.lit chartW 95 w4 (by decide)
    clear k4 k3 hB3 hx3 hwd
    go_wp2
    generalize w4.alloc (.cells #[.string ⟨#[120, 98, 97, 114]⟩, .string ⟨#[115, 105, 110, 103, 108, 101]⟩, .string ⟨#[112]⟩, .string ⟨#[110, 112]⟩, .string ⟨#[99]⟩, .string ⟨#[117]⟩, .string ⟨#[99, 117, 115, 117, 109]⟩, .string ⟨#[101, 119, 109, 97]⟩] 95) = w5 at *
    have c1 : w5.cell? ⟨w2.heap.size, 1, none⟩ = some (.string (bs tx)) := hx5.cell 1
    go_still_tail 3, (by kernel_rfl)
    change wpList _ _ _ _ _ w5.drew
    have hD : Below w5.heap.size w5 w5.drew := ⟨rfl, rfl, rfl, Nat.le_refl _, fun _ _ => rfl⟩
    have k6 := k5.call hD
    have hB6 := hB5.call hD
    have hx6 := hx5.call hD
    have hrd6 := hrd.below hD
    generalize w5.drew = w6 at *
    have hcall := indexS_any chartW _ tx w6 hrd6 (by decide)
    rw [hf, show found none = -1 from rfl] at hcall
    clear hD k5 hB5 hx5 hrd hrd6 c1 hf
    go_wp2_with fail
    refine hcall.mono ?_
    rintro e w7 ⟨rfl, rfl⟩
    have c0 : w6.cell? ⟨w2.heap.size, 0, none⟩ = some (.int .i64 kx) := hx6.cell 0
    have c1 : w6.cell? ⟨w2.heap.size, 1, none⟩ = some (.string (bs tx)) := hx6.cell 1
    have c2 : w6.cell? ⟨w2.heap.size, 2, none⟩ = some (.int .i64 nx) := hx6.cell 2
    have c3 : w6.cell? ⟨w2.heap.size, 3, none⟩ = some (.int .i64 px) := hx6.cell 3
    have hw := hwr w6
    clear hcall hwr hx6
    go_wp2_with fail
    refine hw.mono ?_
    rintro e w8 ⟨rfl, k8⟩
    go_wp2
    go_ret2
    exact ⟨rfl, k6.call k8, hB6.call k8⟩
  | some k =>
    dsimp only
    clear hwr
    go_enter Tryz.func68, Tryz.ntmps68
    go_wp2_with fail
    refine hn.mono ?_
    rintro e w2 ⟨rfl, k1, k2⟩
    have k3 := k1.call ((Below.refl w2.heap.size w2).alloc (Nat.le_refl _) (.cells #[.int .i64 kx, .string (bs tx), .int .i64 nx, .int .i64 px] 55))
    have hB3 := k2.alloc (.cells #[.int .i64 kx, .string (bs tx), .int .i64 nx, .int .i64 px] 55)
    have hx3 := Has.new w2 [.int .i64 kx, .string (bs tx), .int .i64 nx, .int .i64 px] 55
    clear hn k1 k2
    go_wp2_with fail
    refine (hwd _).mono ?_
    rintro e w4 ⟨rfl, k4⟩
    have k5 := (k3.call k4).call ((Below.refl w4.heap.size w4).alloc (Nat.le_refl _) (.cells #[.string ⟨#[120, 98, 97, 114]⟩, .string ⟨#[115, 105, 110, 103, 108, 101]⟩, .string ⟨#[112]⟩, .string ⟨#[110, 112]⟩, .string ⟨#[99]⟩, .string ⟨#[117]⟩, .string ⟨#[99, 117, 115, 117, 109]⟩, .string ⟨#[101, 119, 109, 97]⟩] 95))
    have hB5 := (hB3.call k4).alloc (.cells #[.string ⟨#[120, 98, 97, 114]⟩, .string ⟨#[115, 105, 110, 103, 108, 101]⟩, .string ⟨#[112]⟩, .string ⟨#[110, 112]⟩, .string ⟨#[99]⟩, .string ⟨#[117]⟩, .string ⟨#[99, 117, 115, 117, 109]⟩, .string ⟨#[101, 119, 109, 97]⟩] 95)
    have hx5 := (hx3.call k4).alloc (.cells #[.string ⟨#[120, 98, 97, 114]⟩, .string ⟨#[115, 105, 110, 103, 108, 101]⟩, .string ⟨#[112]⟩, .string ⟨#[110, 112]⟩, .string ⟨#[99]⟩, .string ⟨#[117]⟩, .string ⟨#[99, 117, 115, 117, 109]⟩, .string ⟨#[101, 119, 109, 97]⟩] 95)
    have hrd : ReadsS (w4.alloc (.cells #[.string ⟨#[120, 98, 97, 114]⟩, .string ⟨#[115, 105, 110, 103, 108, 101]⟩, .string ⟨#[112]⟩, .string ⟨#[110, 112]⟩, .string ⟨#[99]⟩, .string ⟨#[117]⟩, .string ⟨#[99, 117, 115, 117, 109]⟩, .string ⟨#[101, 119, 109, 97]⟩] 95)) (.slice (some ⟨w4.heap.size, 0, none⟩) 8 8) chartW := ReadsS.lit chartW 95 w4 (by decide)
    clear k4 k3 hB3 hx3 hwd
    go_wp2
    generalize w4.alloc (.cells #[.string ⟨#[120, 98, 97, 114]⟩, .string ⟨#[115, 105, 110, 103, 108, 101]⟩, .string ⟨#[112]⟩, .string ⟨#[110, 112]⟩, .string ⟨#[99]⟩, .string ⟨#[117]⟩, .string ⟨#[99, 117, 115, 117, 109]⟩, .string ⟨#[101, 119, 109, 97]⟩] 95) = w5 at *
    have c1 : w5.cell? ⟨w2.heap.size, 1, none⟩ = some (.string (bs tx)) := hx5.cell 1
    go_still_tail 3, (by kernel_rfl)
    change wpList _ _ _ _ _ w5.drew
    have hD : Below w5.heap.size w5 w5.drew := ⟨rfl, rfl, rfl, Nat.le_refl _, fun _ _ => rfl⟩
    have k6 := k5.call hD
    have hB6 := hB5.call hD
    have hx6 := hx5.call hD
    have hrd6 := hrd.below hD
    generalize w5.drew = w6 at *
    have hcall := indexS_any chartW _ tx w6 hrd6 (by decide)
    rw [hf, show found (some k) = (k : Int) from rfl] at hcall
    clear hD k5 hB5 hx5 hrd hrd6 c1 hf
    go_wp2_with fail
    refine hcall.mono ?_
    rintro e w7 ⟨rfl, rfl⟩
    go_wp2
    go_ret2
    exact ⟨rfl, k6, hB6⟩
end Go.Proofs.YtdimgomigidbkaaGreatDoor
/- Stage 8's code: a channel, read. -/
namespace Go.Proofs.YtdimgomigidbkaaGreatDoor
open Go.RowKit

def EndAt (X : Except (List Tok × Int) (Ch × List Tok)) (b n : Nat) (w : World) (p er : Int) : Prop := ∀ w', WB b w w' → FilEnd X b n w (.returned (.tuple #[chV ch0, errV p er])) w'
theorem EndAt.mk {X : Except (List Tok × Int) (Ch × List Tok)} {b n : Nat} {w : World} {s : List Tok} {er : Int} (h : X = .error (s, er)) : EndAt X b n w (placeOf n s) er := fun _ k => FilEnd.err h k
theorem hd_right_drop {l : List Tok} (hr : ∀ t ∈ l, t.right) (k : Nat) : (hd (l.drop k)).right ∨ hd (l.drop k) = tok0 := hd_right fun t ht => hr t (List.mem_of_mem_drop ht)
theorem chart_lt {s : List UInt8} {k : Nat} (h : findW chartW s = some k) : k < 8 := by
  have := (findW_some h).1
  have e : chartW.length = 8 := rfl
  omega
/-- All ways through a channel's head. -/
theorem chan_ways (X : Except (List Tok × Int) (Ch × List Tok)) (b n : Nat) (w : World) (l : List Tok) (cs : List Ch) (hX : X = channelS l cs) (hr : ∀ t ∈ l, t.right) :
    (∃ p er, beginE cs.length (tokE n l) = errV p er ∧ EndAt X b n w p er) ∨
    (beginE cs.length (tokE n l) = .nilIface ∧
      ((∃ p er, nameV cs (tokE n (l.drop 1)) = .tuple #[.string ⟨#[]⟩, errV p er] ∧ EndAt X b n w p er) ∨
       (∃ nm, nameV cs (tokE n (l.drop 1)) = .tuple #[.string (bs nm), .nilIface] ∧
        ((∃ p er, chartV (tokE n (l.drop 2)) = .tuple #[.int .i64 0, errV p er] ∧ EndAt X b n w p er) ∨
         (∃ k, chartV (tokE n (l.drop 2)) = .tuple #[.int .i64 (k : Nat), .nilIface] ∧ k < 8 ∧
          ((∃ p er, takeE 3 (tokE n (l.drop 3)) = errV p er ∧ EndAt X b n w p er) ∨
           (takeE 3 (tokE n (l.drop 3)) = .nilIface ∧ 3 < l.length ∧ X = fieldsS l.length (l.drop 4) (chan0 nm k) fun _ => false))))))) := by
  unfold channelS at hX
  have t0 := tokE_kind n l
  have t1 := tokE_kind n (l.drop 1)
  have t2 := tokE_kind n (l.drop 2)
  have t3 := tokE_kind n (l.drop 3)
  have r0 := word_chan (hd_right hr)
  have r2 := word_chart (hd_right_drop hr 2)
  unfold beginE nameV chartV takeE
  rw [t0.2.1, t0.2.2.2, t1.1, t1.2.1, t1.2.2.2, t2.2.1, t2.2.2.2, t3.1, t3.2.2.2]
  rw [r2] at hX
  by_cases a0 : (hd l).text = chanW
  · have a0' : ¬ (hd l).text ≠ chanW := fun e => e a0
    rw [if_neg a0']
    rw [if_neg (show ¬ wordT (hd l) ≠ chanW from fun e => e (r0.2 a0))] at hX
    by_cases a1 : cs.length = 4
    · rw [if_pos a1] at hX ⊢
      exact Or.inl ⟨_, _, rfl, EndAt.mk hX⟩
    · rw [if_neg a1] at hX
      rw [if_neg a1]
      refine Or.inr ⟨rfl, ?_⟩
      by_cases a2 : (hd (l.drop 1)).kind = 1
      · have a2' : ¬ (hd (l.drop 1)).kind ≠ 1 := fun e => e a2
        rw [if_neg a2'] at hX
        rw [if_neg a2']
        by_cases a3 : (hd (l.drop 1)).text ∈ cs.map Ch.name
        · rw [if_pos a3] at hX ⊢
          exact Or.inl ⟨_, _, rfl, EndAt.mk hX⟩
        · rw [if_neg a3] at hX ⊢
          refine Or.inr ⟨_, rfl, ?_⟩
          cases a4 : findW chartW (hd (l.drop 2)).text with
          | none =>
            rw [a4] at hX
            exact Or.inl ⟨_, _, rfl, EndAt.mk hX⟩
          | some k =>
            rw [a4] at hX
            dsimp only at hX ⊢
            refine Or.inr ⟨k, rfl, chart_lt a4, ?_⟩
            by_cases a5 : (hd (l.drop 3)).kind = 3
            · have a5' : ¬ (hd (l.drop 3)).kind ≠ 3 := fun e => e a5
              rw [if_neg a5'] at hX
              rw [if_pos a5]
              exact Or.inr ⟨rfl, hd_drop l 3 (by rw [a5]; decide), hX⟩
            · rw [if_pos a5] at hX
              rw [if_neg a5]
              exact Or.inl ⟨_, _, rfl, EndAt.mk hX⟩
      · rw [if_pos a2] at hX ⊢
        exact Or.inl ⟨_, _, rfl, EndAt.mk hX⟩
  · rw [if_pos a0]
    rw [if_pos (show wordT (hd l) ≠ chanW from fun e => a0 (r0.1 e))] at hX
    exact Or.inl ⟨_, _, rfl, EndAt.mk hX⟩
theorem FilEnd.out {X : Except (List Tok × Int) (Ch × List Tok)} {b n : Nat} {w w' : World} {e : Ending} (h : FilEnd X b n w e w') :
    ∃ c' E, e = .returned (.tuple #[chV c', E]) ∧ ∀ w0 W, WB b w0 W → (∀ r, Rdr w' b n r → Rdr W b n r) → FilEnd X b n w0 e W := by
  obtain ⟨k, h⟩ := h
  cases X with
  | error x => exact ⟨_, _, h, fun w0 W hW _ => ⟨hW, h⟩⟩
  | ok x => exact ⟨_, _, h.1, fun w0 W hW hr => ⟨hW, h.1, hr _ h.2⟩⟩
set_option maxHeartbeats 0 in
set_option maxRecDepth 100000 in
theorem channel_any (l : List Tok) (b n : Nat) (cs : List Ch) (v : Value) (w : World) (h : Rdr w b n l) (hc : ReadsC w v cs) (hm : cs.length ≤ 4) (hv : v.ownBlock ≠ some b) (hr : ∀ t ∈ l, t.right) :
    Calls Tryz.prog 35 #[.pointer (some ⟨b, 0, none⟩), v] w (FilEnd (channelS l cs) b n w) := by
  obtain ⟨X, hX⟩ : ∃ X, X = channelS l cs := ⟨_, rfl⟩
  have HW := chan_ways X b n w l cs hX hr
  rw [← hX]
  clear hX
  have hB := (Below.refl w.heap.size w).alloc (Nat.le_refl _) (.cells #[.string ⟨#[]⟩, .int .i64 0, .int .i64 0, .int .i64 0, .int .i64 0, .int .i64 0, .int .i64 0, .int .i64 0, .int .i64 0, .int .i64 0, .int .i64 0, .int .i64 0, .int .i64 0, .int .i64 0] 37)
  have hW := (WB.refl b w).alloc (.cells #[.string ⟨#[]⟩, .int .i64 0, .int .i64 0, .int .i64 0, .int .i64 0, .int .i64 0, .int .i64 0, .int .i64 0, .int .i64 0, .int .i64 0, .int .i64 0, .int .i64 0, .int .i64 0, .int .i64 0] 37)
  have hz : Has (w.alloc (.cells #[.string ⟨#[]⟩, .int .i64 0, .int .i64 0, .int .i64 0, .int .i64 0, .int .i64 0, .int .i64 0, .int .i64 0, .int .i64 0, .int .i64 0, .int .i64 0, .int .i64 0, .int .i64 0, .int .i64 0] 37)) w.heap.size zeroL 37 := Has.new _ zeroL 37
  have hlt := h.lt
  have h1 := h.call hB
  have hc1 := hc.below hB
  have hbg := begin_any l b n cs.length _ h1
  have hnm := fun W (h : Rdr W b n (l.drop 1)) (hc : ReadsC W v cs) => name_any (l.drop 1) b n cs v W h hc (by omega) hv
  have hch := fun W (h : Rdr W b n (l.drop 2)) => chart_any (l.drop 2) b n W h
  have htk := fun W (h : Rdr W b n (l.drop 3)) => take_any (l.drop 3) b n 3 W h
  simp only [List.drop_drop, Nat.reduceAdd] at hnm hch htk
  have hne : w.heap.size ≠ b := by omega
  have hcc := hc1
  obtain ⟨ao, cap, rfl, hlc, hcm, -⟩ := hcc
  unfold maxLen at hcm
  clear hc h hB
  rcases HW with ⟨p, er, q0, HE⟩ | ⟨q0, ⟨p, er, q1, HE⟩ | ⟨nm, q1, ⟨p, er, q2, HE⟩ | ⟨k, q2, hk, ⟨p, er, q3, HE⟩ | ⟨q3, hl, hX⟩⟩⟩⟩
  · have HE := Lib.hid HE
    rw [q0] at hbg
    clear q0 hnm hch htk
    unfold errV at hbg
    go_enter Tryz.func35, Tryz.ntmps35
    go_wp2_with fail
    refine hbg.mono ?_
    rintro e w2 ⟨rfl, h2, k2⟩
    have hz2 := k2.has hne hz
    have hW2 := hW.trans k2
    have hc2 := hc1.kept k2 hv
    clear hbg k2 hz hW hc1 h1
    clear h2 hc2
    have hH := hz2.sets zeroL rfl
    have hT := hz2.there
    have hWf := (hW2).ownSets (c := w.heap.size) (Nat.le_refl _) 0 zeroL
    clear hz2 hW2
    go_wp2_with (refine wpList_store_mid rfl 37 _ _ rfl w.heap.size 0 _ rfl rfl hT size14 (by simp [Value.oneCell']) ?_)
    (try simp only [Exit.inBlock, Exit.then])
    exact bodyPost_ret (results_cell_tmp Tryz.results35 rfl (load14 (c := ch0) hH)) rfl (HE.out _ hWf)
  · have HE := Lib.hid HE
    rw [q0] at hbg
    simp only [q1] at hnm
    clear q0 q1 hch htk
    unfold errV at hnm
    go_enter Tryz.func35, Tryz.ntmps35
    go_wp2_with fail
    refine hbg.mono ?_
    rintro e w2 ⟨rfl, h2, k2⟩
    have hz2 := k2.has hne hz
    have hW2 := hW.trans k2
    have hc2 := hc1.kept k2 hv
    clear hbg k2 hz hW hc1 h1
    have hn3 := hnm w2 h2 hc2
    go_wp2_with fail
    refine hn3.mono ?_
    rintro e w3 ⟨rfl, h3, k3⟩
    have hz3 := k3.has hne hz2
    have hW3 := hW2.trans k3
    clear hn3 hnm k3 hz2 hW2 hc2 h2
    clear h3
    have hH := hz3.sets zeroL rfl
    have hT := hz3.there
    have hWf := (hW3).ownSets (c := w.heap.size) (Nat.le_refl _) 0 zeroL
    clear hz3 hW3
    go_wp2_with (refine wpList_store_mid rfl 37 _ _ rfl w.heap.size 0 _ rfl rfl hT size14 (by simp [Value.oneCell']) ?_)
    (try simp only [Exit.inBlock, Exit.then])
    exact bodyPost_ret (results_cell_tmp Tryz.results35 rfl (load14 (c := ch0) hH)) rfl (HE.out _ hWf)
  · have HE := Lib.hid HE
    rw [q0] at hbg
    simp only [q1] at hnm
    simp only [q2] at hch
    clear q0 q1 q2 htk
    unfold errV at hch
    go_enter Tryz.func35, Tryz.ntmps35
    go_wp2_with fail
    refine hbg.mono ?_
    rintro e w2 ⟨rfl, h2, k2⟩
    have hz2 := k2.has hne hz
    have hW2 := hW.trans k2
    have hc2 := hc1.kept k2 hv
    clear hbg k2 hz hW hc1 h1
    have hn3 := hnm w2 h2 hc2
    go_wp2_with fail
    refine hn3.mono ?_
    rintro e w3 ⟨rfl, h3, k3⟩
    have hz3 := k3.has hne hz2
    have hW3 := hW2.trans k3
    clear hn3 hnm k3 hz2 hW2 hc2 h2
    have hn4 := hch w3 h3
    go_wp2_with fail
    refine hn4.mono ?_
    rintro e w4 ⟨rfl, h4, k4⟩
    have hz4 := k4.has hne hz3
    have hW4 := hW3.trans k4
    clear hn4 hch k4 hz3 hW3 h3
    clear h4
    have hH := hz4.sets zeroL rfl
    have hT := hz4.there
    have hWf := (hW4).ownSets (c := w.heap.size) (Nat.le_refl _) 0 zeroL
    clear hz4 hW4
    go_wp2_with (refine wpList_store_mid rfl 37 _ _ rfl w.heap.size 0 _ rfl rfl hT size14 (by simp [Value.oneCell']) ?_)
    (try simp only [Exit.inBlock, Exit.then])
    exact bodyPost_ret (results_cell_tmp Tryz.results35 rfl (load14 (c := ch0) hH)) rfl (HE.out _ hWf)
  · have HE := Lib.hid HE
    rw [q0] at hbg
    simp only [q1] at hnm
    simp only [q2] at hch
    simp only [q3] at htk
    clear q0 q1 q2 q3
    unfold errV at htk
    generalize takeT 3 (tokE n (l.drop 3)) = tt at htk
    unfold tokA at htk
    go_enter Tryz.func35, Tryz.ntmps35
    go_wp2_with fail
    refine hbg.mono ?_
    rintro e w2 ⟨rfl, h2, k2⟩
    have hz2 := k2.has hne hz
    have hW2 := hW.trans k2
    have hc2 := hc1.kept k2 hv
    clear hbg k2 hz hW hc1 h1
    have hn3 := hnm w2 h2 hc2
    go_wp2_with fail
    refine hn3.mono ?_
    rintro e w3 ⟨rfl, h3, k3⟩
    have hz3 := k3.has hne hz2
    have hW3 := hW2.trans k3
    clear hn3 hnm k3 hz2 hW2 hc2 h2
    have hn4 := hch w3 h3
    go_wp2_with fail
    refine hn4.mono ?_
    rintro e w4 ⟨rfl, h4, k4⟩
    have hz4 := k4.has hne hz3
    have hW4 := hW3.trans k4
    clear hn4 hch k4 hz3 hW3 h3
    have hn5 := htk w4 h4
    go_wp2_with fail
    refine hn5.mono ?_
    rintro e w5 ⟨rfl, h5, k5⟩
    have hz5 := (k5.has hne hz4).alloc (.cells #[.int .i64 tt.kind, .string (bs tt.text), .int .i64 tt.num, .int .i64 tt.place] 55)
    have hW5 := (hW4.trans k5).alloc (.cells #[.int .i64 tt.kind, .string (bs tt.text), .int .i64 tt.num, .int .i64 tt.place] 55)
    have h6 := h5.call ((Below.refl w5.heap.size w5).alloc (Nat.le_refl _) (.cells #[.int .i64 tt.kind, .string (bs tt.text), .int .i64 tt.num, .int .i64 tt.place] 55))
    clear hn5 htk k5 hz4 hW4 h4 h5
    clear h6
    have hH := hz5.sets zeroL rfl
    have hT := hz5.there
    have hWf := (hW5).ownSets (c := w.heap.size) (Nat.le_refl _) 0 zeroL
    clear hz5 hW5
    go_wp2_with (refine wpList_store_mid rfl 37 _ _ rfl w.heap.size 0 _ rfl rfl hT size14 (by simp [Value.oneCell']) ?_)
    (try simp only [Exit.inBlock, Exit.then])
    exact bodyPost_ret (results_cell_tmp Tryz.results35 rfl (load14 (c := ch0) hH)) rfl (HE.out _ hWf)
  · subst hX
    rw [q0] at hbg
    simp only [q1] at hnm
    simp only [q2] at hch
    simp only [q3] at htk
    clear q0 q1 q2 q3
    generalize takeT 3 (tokE n (l.drop 3)) = tt at htk
    unfold tokA at htk
    have hfl := fun W (h : Rdr W b n (l.drop 4)) => filled_any (l.drop 4) b n l.length (chan0 nm k) W h (by rw [List.length_drop]; omega) rfl hk (fun t ht => hr t (List.mem_of_mem_drop ht))
    unfold chV chan0 at hfl
    dsimp only at hfl
    go_enter Tryz.func35, Tryz.ntmps35
    go_wp2_with fail
    refine hbg.mono ?_
    rintro e w2 ⟨rfl, h2, k2⟩
    have hz2 := k2.has hne hz
    have hW2 := hW.trans k2
    have hc2 := hc1.kept k2 hv
    clear hbg k2 hz hW hc1 h1
    have hn3 := hnm w2 h2 hc2
    go_wp2_with fail
    refine hn3.mono ?_
    rintro e w3 ⟨rfl, h3, k3⟩
    have hz3 := k3.has hne hz2
    have hW3 := hW2.trans k3
    clear hn3 hnm k3 hz2 hW2 hc2 h2
    have hn4 := hch w3 h3
    go_wp2_with fail
    refine hn4.mono ?_
    rintro e w4 ⟨rfl, h4, k4⟩
    have hz4 := k4.has hne hz3
    have hW4 := hW3.trans k4
    clear hn4 hch k4 hz3 hW3 h3
    have hn5 := htk w4 h4
    go_wp2_with fail
    refine hn5.mono ?_
    rintro e w5 ⟨rfl, h5, k5⟩
    have hz5 := (k5.has hne hz4).alloc (.cells #[.int .i64 tt.kind, .string (bs tt.text), .int .i64 tt.num, .int .i64 tt.place] 55)
    have hW5 := (hW4.trans k5).alloc (.cells #[.int .i64 tt.kind, .string (bs tt.text), .int .i64 tt.num, .int .i64 tt.place] 55)
    have h6 := h5.call ((Below.refl w5.heap.size w5).alloc (Nat.le_refl _) (.cells #[.int .i64 tt.kind, .string (bs tt.text), .int .i64 tt.num, .int .i64 tt.place] 55))
    clear hn5 htk k5 hz4 hW4 h4 h5
    have hn7 := hfl _ h6
    clear hfl h6
    go_wp2_with fail
    refine hn7.mono ?_
    rintro e w7 k7
    have hz7 := k7.1.has hne hz5
    have hW7 := hW5.trans k7.1
    have HX := k7.out
    clear k7 hn7 hz5 hW5
    obtain ⟨c', E, rfl, HX⟩ := HX
    have HE := Lib.hid HX
    have hH := hz7.sets (chL c') rfl
    have hT := hz7.there
    have hWf := hW7.ownSets (c := w.heap.size) (Nat.le_refl _) 0 (chL c')
    clear HX hz7 hW7
    unfold chV
    go_wp2_with (refine wpList_store_mid rfl 37 _ _ rfl w.heap.size 0 _ rfl rfl hT size14 (by simp [Value.oneCell']) ?_)
    (try simp only [Exit.inBlock, Exit.then])
    exact bodyPost_ret (results_cell_tmp Tryz.results35 rfl (load14 (c := c') hH)) rfl (HE.out _ _ hWf (fun r hr => hr.sets (c := w.heap.size) hlt _ _))
end Go.Proofs.YtdimgomigidbkaaGreatDoor
