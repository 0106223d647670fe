/- Texts of one proof, put together: RcV, RcW, RcX, RcLa, TokRw, TokR, RcY, RecF. -/
import Derived.Test.YtdimgomigidbkaaGreatDoorPk7
import Derived.LaidEql
import Derived.Stop.Asserts
/- Stage 8's code: all channels, read. -/
namespace Go.Proofs.YtdimgomigidbkaaGreatDoor
open Go.RowKit

structure ChsP (X : Except (List Tok × Int) (List Ch)) (l : List Tok) (cs : List Ch) (f : Nat) : Prop where
  eq : X = parseS f l cs
  lf : l.length < f
  l4 : cs.length ≤ 4
  rt : ∀ t ∈ l, t.right
def ChsRel (X : Except (List Tok × Int) (List Ch)) (b n : Nat) (w : World) (v : Value) (wr : World) : Prop :=
  ∃ l cs f, ChsP X l cs f ∧ Rdr wr b n l ∧ CRow w.heap.size v cs wr ∧ WB b w wr
def ChsEnd (X : Except (List Tok × Int) (List Ch)) (b n : Nat) (w : World) (e : Ending) (w' : World) : Prop :=
  WB b w w' ∧ match X with
    | .error x => e = .returned (.tuple #[.slice none 0 0, errV (placeOf n x.1) x.2])
    | .ok cs => ∃ v, e = .returned (.tuple #[v, .nilIface]) ∧ CRow w.heap.size v cs w'
theorem ChsP.done {X : Except (List Tok × Int) (List Ch)} {cs : List Ch} {f : Nat} (h : ChsP X [] cs f) (hc : cs ≠ []) : X = .ok cs := by
  obtain ⟨g, rfl⟩ : ∃ g, f = g + 1 := ⟨f - 1, by have := h.lf; omega⟩
  rw [h.eq]
  unfold parseS
  rw [if_pos ⟨rfl, hc⟩]
theorem ChsP.step {X : Except (List Tok × Int) (List Ch)} {l : List Tok} {cs : List Ch} {f : Nat} (h : ChsP X l cs f) (hc : ¬ (l = [] ∧ cs ≠ [])) :
    (∃ s er, channelS l cs = .error (s, er) ∧ X = .error (s, er)) ∨ (∃ c r, channelS l cs = .ok (c, r) ∧ r.length < l.length ∧ ChsP X r (cs ++ [c]) (f - 1)) := by
  obtain ⟨g, rfl⟩ : ∃ g, f = g + 1 := ⟨f - 1, by have := h.lf; omega⟩
  have e := h.eq
  unfold parseS at e
  rw [if_neg hc] at e
  cases q : channelS l cs with
  | error x =>
    obtain ⟨s, er⟩ := x
    rw [q] at e
    exact Or.inl ⟨s, er, rfl, e⟩
  | ok x =>
    obtain ⟨c, r⟩ := x
    rw [q] at e
    obtain ⟨-, -, -, i4, j, i5, i6, rfl⟩ := channel_may q h.rt
    have h4 := h.l4
    have hf := h.lf
    refine Or.inr ⟨c, _, rfl, by rw [List.length_drop]; omega, ⟨e, by rw [List.length_drop]; omega, by rw [List.length_append]; simp; omega, fun t ht => h.rt t (List.mem_of_mem_drop ht)⟩⟩
theorem CRow.kept {B b : Nat} {v : Value} {l : List Ch} {w w' : World} (h : CRow B v l w) (hb : WB b w w') (hlt : b < B) : CRow B v l w' :=
  World.ownsRow.kept h hb (by
    cases hv : v.ownBlock with
    | none => exact Or.inl rfl
    | some k => exact Or.inr fun e => by have := World.ownsRow.lt h k hv; cases e; omega)
theorem CRow.ne {B b : Nat} {v : Value} {l : List Ch} {w : World} (h : CRow B v l w) (hlt : b < B) : v.ownBlock ≠ some b := fun e => by have := World.ownsRow.lt h b e; omega
set_option maxHeartbeats 0 in
set_option maxRecDepth 100000 in
theorem channels_any (l : List Tok) (b n f : Nat) (w : World) (h : Rdr w b n l) (hf : l.length < f) (hr : ∀ t ∈ l, t.right) :
    Calls Tryz.prog 18 #[.pointer (some ⟨b, 0, none⟩)] w (ChsEnd (parseS f l []) b n w) := by
  have HP := Lib.hid (show ChsP (parseS f l []) l [] f from ⟨rfl, hf, Nat.zero_le _, hr⟩)
  generalize parseS f l [] = X at HP ⊢
  have hlt := h.lt
  clear hf hr
  go_enter Tryz.func18, Tryz.ntmps18
  go_wp2
  go_loopw [4] (ChsRel X b n w) (fun _ W => rdLen b W)
  case atStart => exact ⟨l, [], f, HP.out, h, CRow.nil _ _, WB.refl _ _⟩
  case round =>
    obtain ⟨lx, cs, fx, HQ, hR, hC, hW⟩ := hrel
    clear HP h
    have hle := hC.reads
    have hne := hC.ne hlt
    have hch := channel_any lx b n cs u4 wr hR hle HQ.l4 hne HQ.rt
    have hl4 := HQ.l4
    have hRl := hR.len
    have hR0 := hR
    obtain ⟨ao, cap, hRh, q1, q2, -⟩ := hR0
    have c0 : wr.cell? ⟨b, 0, none⟩ = some (.slice ao lx.length cap) := hRh.cell 0
    obtain ⟨a2, cap2, hv4, q3, q4, -⟩ := hle
    unfold maxLen at q2 q4
    by_cases hc : lx = [] ∧ cs ≠ []
    · obtain ⟨rfl, hc2⟩ := hc
      have HX := HQ.done hc2
      subst HX
      have hp : 0 < cs.length := List.length_pos_iff.2 hc2
      have HE := Lib.hid (show ChsEnd (.ok cs) b n w (.returned (.tuple #[u4, .nilIface])) wr from ⟨hW, u4, rfl, hC⟩)
      have hce : (((cs.length : Nat) : Int) == 0) = false := beq_false_of_ne (by omega)
      clear HQ hch hR hC hW hRh hc2 hRl
      subst hv4
      go_wp2
      (try simp only [Exit.inBlock, Exit.then])
      go_ret2
      exact HE.out
    · have hcase : (((cs.length : Nat) : Int) == 0) = true ∨ ((((cs.length : Nat) : Int) == 0) = false ∧ (0 < lx.length)) := by
        by_cases hcs : cs.length = 0
        · exact Or.inl (by rw [hcs]; rfl)
        · refine Or.inr ⟨beq_false_of_ne (by omega), ?_⟩
          cases lx with
          | nil => exact absurd ⟨rfl, fun e => hcs (by rw [e]; rfl)⟩ hc
          | cons t r => simp
      rcases HQ.step hc with ⟨s, er, q5, q6⟩ | ⟨c, r, q5, q6, q7⟩
      · have HE := Lib.hid (show ∀ w', WB b w w' → ChsEnd X b n w (.returned (.tuple #[.slice none 0 0, errV (placeOf n s) er])) w' from fun w' k => by subst q6; exact ⟨k, rfl⟩)
        rw [q5] at hch
        have hch2 : Calls Tryz.prog 35 #[.pointer (some ⟨b, 0, none⟩), u4] wr (fun e w' => WB b wr w' ∧ e = .returned (.tuple #[chV ch0, errV (placeOf n s) er])) := hch
        clear HQ hch hR hC hRh hc q5 q6 hRl hne
        subst hv4
        unfold errV chV at hch2
        rcases hcase with hce | ⟨hce, hpl⟩
        · go_wp2_with fail
          refine hch2.mono ?_
          rintro e w2 ⟨k2, rfl⟩
          have HE2 := Lib.hid (HE.out _ ((hW.trans k2).alloc (.cells #[.string (bs ch0.name), .int .i64 ch0.chart, .int .i64 (ch0.f 0), .int .i64 (ch0.f 1), .int .i64 (ch0.f 2), .int .i64 (ch0.f 3), .int .i64 (ch0.f 4), .int .i64 (ch0.f 5), .int .i64 (ch0.f 6), .int .i64 (ch0.f 7), .int .i64 (ch0.f 8), .int .i64 (ch0.f 9), .int .i64 (ch0.f 10), .int .i64 (ch0.f 11)] 37)))
          clear HE hW hch2 k2 c0
          go_wp2
          (try simp only [Exit.inBlock, Exit.then])
          go_ret2
          exact HE2.out
        · go_wp2_with fail
          refine hch2.mono ?_
          rintro e w2 ⟨k2, rfl⟩
          have HE2 := Lib.hid (HE.out _ ((hW.trans k2).alloc (.cells #[.string (bs ch0.name), .int .i64 ch0.chart, .int .i64 (ch0.f 0), .int .i64 (ch0.f 1), .int .i64 (ch0.f 2), .int .i64 (ch0.f 3), .int .i64 (ch0.f 4), .int .i64 (ch0.f 5), .int .i64 (ch0.f 6), .int .i64 (ch0.f 7), .int .i64 (ch0.f 8), .int .i64 (ch0.f 9), .int .i64 (ch0.f 10), .int .i64 (ch0.f 11)] 37)))
          clear HE hW hch2 k2 c0
          go_wp2
          (try simp only [Exit.inBlock, Exit.then])
          go_ret2
          exact HE2.out
      · have HN := Lib.hid q7
        rw [q5] at hch
        have hch2 : Calls Tryz.prog 35 #[.pointer (some ⟨b, 0, none⟩), u4] wr (fun e w' => WB b wr w' ∧ e = .returned (.tuple #[chV c, .nilIface]) ∧ Rdr w' b n r) := hch
        have HM := Lib.hid (show ∀ W' : World, Rdr W' b n r → rdLen b W' < rdLen b wr from fun W' k2 => by rw [hRl, k2.len]; exact q6)
        clear HQ hch hR hRh hc q5 q6 q7 hRl
        unfold chV at hch2
        rcases hcase with hce | ⟨hce, hpl⟩
        · have hvv := hv4
          subst hvv
          go_wp2_with fail
          refine hch2.mono ?_
          rintro e w2 ⟨k2, rfl, h2⟩
          have hs2 := k2.size
          have hb2 := ((Below.refl w2.heap.size w2).alloc (Nat.le_refl _) (.cells #[.string (bs c.name), .int .i64 c.chart, .int .i64 (c.f 0), .int .i64 (c.f 1), .int .i64 (c.f 2), .int .i64 (c.f 3), .int .i64 (c.f 4), .int .i64 (c.f 5), .int .i64 (c.f 6), .int .i64 (c.f 7), .int .i64 (c.f 8), .int .i64 (c.f 9), .int .i64 (c.f 10), .int .i64 (c.f 11)] 37)).alloc (by simp) (.cells #[.string (bs c.name), .int .i64 c.chart, .int .i64 (c.f 0), .int .i64 (c.f 1), .int .i64 (c.f 2), .int .i64 (c.f 3), .int .i64 (c.f 4), .int .i64 (c.f 5), .int .i64 (c.f 6), .int .i64 (c.f 7), .int .i64 (c.f 8), .int .i64 (c.f 9), .int .i64 (c.f 10), .int .i64 (c.f 11)] 37)
          have hC2 := hC.kept k2 hlt
          have hC3 := hC2.below hb2
          have hW3 := (hW.trans k2).call hb2
          have hR3 := h2.call hb2
          have hs3 : ((w2.alloc (.cells #[.string (bs c.name), .int .i64 c.chart, .int .i64 (c.f 0), .int .i64 (c.f 1), .int .i64 (c.f 2), .int .i64 (c.f 3), .int .i64 (c.f 4), .int .i64 (c.f 5), .int .i64 (c.f 6), .int .i64 (c.f 7), .int .i64 (c.f 8), .int .i64 (c.f 9), .int .i64 (c.f 10), .int .i64 (c.f 11)] 37)).alloc (.cells #[.string (bs c.name), .int .i64 c.chart, .int .i64 (c.f 0), .int .i64 (c.f 1), .int .i64 (c.f 2), .int .i64 (c.f 3), .int .i64 (c.f 4), .int .i64 (c.f 5), .int .i64 (c.f 6), .int .i64 (c.f 7), .int .i64 (c.f 8), .int .i64 (c.f 9), .int .i64 (c.f 10), .int .i64 (c.f 11)] 37)).heap.size = w2.heap.size + 2 := by simp
          have hsW := hW.size
          obtain ⟨i0, hi, hz0, hz1, hz2⟩ := info_parts infoChan
          clear hch2 hC hC2 h2 k2 hb2 hW c0
          go_wp2_with (at_builtin; refine wpList_append_own _ rfl _ _ 22 rfl w.heap.size 37 i0 (.agg zeroL.toArray) 14 120 Tryz.underlying22 hi hz0 hz1 hz2 rfl (by decide) _ _ _ rfl hC3 ⟨w2.heap.size + 1, 0, none⟩ 1 1 (chL c) rfl rfl ?c1 ?c2 ?c3 ?c4 ?c5 ?_)
          case c1 => exact fun j u hj => ch_at _ c (by simp) 37 j u hj
          case c2 => exact chL_ones c
          case c3 => unfold maxLen; omega
          case c4 => omega
          case c5 => rw [hs3]; omega
          intro v2 w8 hown hgrow _
          have hr8 := fun j hj => (World.ownsRow.lt hC3 j hj).1
          have hW8 := hW3.grow hgrow hr8
          have hR8 := hR3.keep (fun k hk => hgrow.block k (by rw [hs3]; omega) (fun e => by have := hr8 k e.symm; omega))
          have hC8 := CRow.snoc hown
          have HR := Lib.hid (show ChsRel X b n w v2 w8 from ⟨r, cs ++ [c], fx - 1, HN.out, hR8, hC8, hW8⟩)
          have HS := Lib.hid (HM.out _ hR8)
          clear hown hgrow hC3 hW3 hR3 HN HM hr8 hW8 hR8 hC8
          go_wp2
          go_roundw
          case rel => exact HR.out
          case measure => exact HS.out
        · have hvv := hv4
          subst hvv
          go_wp2_with fail
          refine hch2.mono ?_
          rintro e w2 ⟨k2, rfl, h2⟩
          have hs2 := k2.size
          have hb2 := ((Below.refl w2.heap.size w2).alloc (Nat.le_refl _) (.cells #[.string (bs c.name), .int .i64 c.chart, .int .i64 (c.f 0), .int .i64 (c.f 1), .int .i64 (c.f 2), .int .i64 (c.f 3), .int .i64 (c.f 4), .int .i64 (c.f 5), .int .i64 (c.f 6), .int .i64 (c.f 7), .int .i64 (c.f 8), .int .i64 (c.f 9), .int .i64 (c.f 10), .int .i64 (c.f 11)] 37)).alloc (by simp) (.cells #[.string (bs c.name), .int .i64 c.chart, .int .i64 (c.f 0), .int .i64 (c.f 1), .int .i64 (c.f 2), .int .i64 (c.f 3), .int .i64 (c.f 4), .int .i64 (c.f 5), .int .i64 (c.f 6), .int .i64 (c.f 7), .int .i64 (c.f 8), .int .i64 (c.f 9), .int .i64 (c.f 10), .int .i64 (c.f 11)] 37)
          have hC2 := hC.kept k2 hlt
          have hC3 := hC2.below hb2
          have hW3 := (hW.trans k2).call hb2
          have hR3 := h2.call hb2
          have hs3 : ((w2.alloc (.cells #[.string (bs c.name), .int .i64 c.chart, .int .i64 (c.f 0), .int .i64 (c.f 1), .int .i64 (c.f 2), .int .i64 (c.f 3), .int .i64 (c.f 4), .int .i64 (c.f 5), .int .i64 (c.f 6), .int .i64 (c.f 7), .int .i64 (c.f 8), .int .i64 (c.f 9), .int .i64 (c.f 10), .int .i64 (c.f 11)] 37)).alloc (.cells #[.string (bs c.name), .int .i64 c.chart, .int .i64 (c.f 0), .int .i64 (c.f 1), .int .i64 (c.f 2), .int .i64 (c.f 3), .int .i64 (c.f 4), .int .i64 (c.f 5), .int .i64 (c.f 6), .int .i64 (c.f 7), .int .i64 (c.f 8), .int .i64 (c.f 9), .int .i64 (c.f 10), .int .i64 (c.f 11)] 37)).heap.size = w2.heap.size + 2 := by simp
          have hsW := hW.size
          obtain ⟨i0, hi, hz0, hz1, hz2⟩ := info_parts infoChan
          clear hch2 hC hC2 h2 k2 hb2 hW c0
          go_wp2_with (at_builtin; refine wpList_append_own _ rfl _ _ 22 rfl w.heap.size 37 i0 (.agg zeroL.toArray) 14 120 Tryz.underlying22 hi hz0 hz1 hz2 rfl (by decide) _ _ _ rfl hC3 ⟨w2.heap.size + 1, 0, none⟩ 1 1 (chL c) rfl rfl ?c1 ?c2 ?c3 ?c4 ?c5 ?_)
          case c1 => exact fun j u hj => ch_at _ c (by simp) 37 j u hj
          case c2 => exact chL_ones c
          case c3 => unfold maxLen; omega
          case c4 => omega
          case c5 => rw [hs3]; omega
          intro v2 w8 hown hgrow _
          have hr8 := fun j hj => (World.ownsRow.lt hC3 j hj).1
          have hW8 := hW3.grow hgrow hr8
          have hR8 := hR3.keep (fun k hk => hgrow.block k (by rw [hs3]; omega) (fun e => by have := hr8 k e.symm; omega))
          have hC8 := CRow.snoc hown
          have HR := Lib.hid (show ChsRel X b n w v2 w8 from ⟨r, cs ++ [c], fx - 1, HN.out, hR8, hC8, hW8⟩)
          have HS := Lib.hid (HM.out _ hR8)
          clear hown hgrow hC3 hW3 hR3 HN HM hr8 hW8 hR8 hC8
          go_wp2
          go_roundw
          case rel => exact HR.out
          case measure => exact HS.out
end Go.Proofs.YtdimgomigidbkaaGreatDoor
/- Stage 8's code: errors.As, asked for what a reader tells. -/
namespace Go.Proofs.YtdimgomigidbkaaGreatDoor
open Go.RowKit Go.Extern.Stop Go.Stop Go.Extern

/-- No error. -/
theorem as_nil (t : Value) (w : World) :
    Calls Tryz.prog 19 #[.nilIface, t] w fun e w' => e = .returned (.bool false) ∧ w' = w := by
  go_enter Tryz.func19, Tryz.ntmps19
  go_wp2
  go_ret
  exact ⟨rfl, rfl⟩
theorem as_valueOf (t : Addr) (w : World) : (ReflectliteValue.unpack (.iface 51 (.pointer (some t)))).run Tryz.prog w
    = .ok (.agg #[.pointer (some ⟨6, 51, none⟩), .pointer (some ⟨w.heap.size, 0, none⟩), .int .u64 150]) (w.alloc (.cells #[.pointer (some t)] 51)) := by kernel_rfl
theorem as_type (a : Addr) (w : World) : (ReflectliteValue.methodAny (ReflectliteValue.valueError "reflectlite.Value.Type" 0) (fun t _ _ _ => ReflectliteType.toType t) #[.agg #[.pointer (some ⟨6, 51, none⟩), .pointer (some a), .int .u64 150]]).run Tryz.prog w
    = .ok (.iface 125 (.agg #[.pointer (some ⟨6, 51, none⟩)])) w := by kernel_rfl
theorem as_types : (Tryz.prog).types.size = 227 := by kernel_rfl
theorem as_mKind (h : Value) (w : World) : (Go.method 327 125 (.agg #[h]) "Kind").run Tryz.prog w = .ok (141, h) w := by kernel_rfl
theorem as_kindP (w : World) : ((ReflectliteType.abiMethod fun t => (fun a : Nat => Value.int IntKind.u8 (a : Int)) <$> Rtype.kind t) #[.pointer (some ⟨6, 51, none⟩)]).run Tryz.prog w = .ok (.int .u8 22) w := by kernel_rfl
theorem as_kindW (w : World) : ((ReflectliteType.abiMethod fun t => (fun a : Nat => Value.int IntKind.u8 (a : Int)) <$> Rtype.kind t) #[.pointer (some ⟨6, 49, none⟩)]).run Tryz.prog w = .ok (.int .u8 25) w := by kernel_rfl
theorem as_rlm (z : Sem Value) (f : TypeId → Addr → Nat → Nat → Sem Value) (v : Value) :
    ReflectliteValue.method z f #[v] = (do match ← ReflectliteValue.parts v with | none => z | some (t, a, fl) => f t a fl (fl % 32)) := rfl
theorem as_partsP (a : Addr) (w : World) : (ReflectliteValue.parts (.agg #[.pointer (some ⟨6, 51, none⟩), .pointer (some a), .int .u64 150])).run Tryz.prog w = .ok (some (51, a, 150)) w := by kernel_rfl
theorem as_isNil (a p : Addr) (W : World) (ha : W.cell? a = some (.pointer (some p))) :
    (ReflectliteValue.method (ReflectliteValue.valueError "reflectlite.Value.IsNil" 0) ReflectliteValue.isNil #[.agg #[.pointer (some ⟨6, 51, none⟩), .pointer (some a), .int .u64 150]]).run Tryz.prog W = .ok (.bool false) W := by
  rw [as_rlm]
  simp only [Sem.run_bind, as_partsP, Result.andThen]
  simp [ReflectliteValue.isNil, loadVar, isAgg, underlying, Tryz.underlying51, ha, Result.andThen]
theorem as_mElem (h : Value) (w : World) : (Go.method 327 125 (.agg #[h]) "Elem").run Tryz.prog w = .ok (152, .agg #[h]) w := by kernel_rfl
theorem as_mImpl (h : Value) (w : World) : (Go.method 327 125 (.agg #[h]) "Implements").run Tryz.prog w = .ok (153, .agg #[h]) w := by kernel_rfl
theorem as_mAssign (h : Value) (w : World) : (Go.method 327 125 (.agg #[h]) "AssignableTo").run Tryz.prog w = .ok (150, .agg #[h]) w := by kernel_rfl
theorem as_elemP (w : World) : (ReflectliteType.method ReflectliteType.elem #[.agg #[.pointer (some ⟨6, 51, none⟩)]]).run Tryz.prog w = .ok (.iface 125 (.agg #[.pointer (some ⟨6, 49, none⟩)])) w := by kernel_rfl
theorem as_implW (w : World) : (ReflectliteType.relation "Implements" ReflectliteType.implements_ #[.agg #[.pointer (some ⟨6, 49, none⟩)], .iface 125 (.agg #[.pointer (some ⟨6, 45, none⟩)])]).run Tryz.prog w = .ok (.bool true) w := by kernel_rfl
theorem as_typeOf (v : Value) (w : World) : (ReflectliteType.typeOf #[.iface 49 v]).run Tryz.prog w = .ok (.iface 125 (.agg #[.pointer (some ⟨6, 49, none⟩)])) w := by kernel_rfl
theorem as_assign (w : World) : (ReflectliteType.relation "AssignableTo" ReflectliteType.assignableTo #[.agg #[.pointer (some ⟨6, 49, none⟩)], .iface 125 (.agg #[.pointer (some ⟨6, 49, none⟩)])]).run Tryz.prog w = .ok (.bool true) w := by kernel_rfl
theorem as_valueW (p e : Int) (w : World) : (ReflectliteValue.unpack (.iface 49 (.agg #[.int .i64 p, .int .i64 e]))).run Tryz.prog w
    = .ok (.agg #[.pointer (some ⟨6, 49, none⟩), .pointer (some ⟨w.heap.size, 0, none⟩), .int .u64 153]) (w.alloc (.cells #[.int .i64 p, .int .i64 e] 49)) := by kernel_rfl
theorem as_elemT (w : World) : (Rtype.elem? 51).run Tryz.prog w = .ok (some 49) w := by kernel_rfl
theorem as_mk (p : Addr) (w : World) : (ReflectliteValue.mk 49 p ReflectliteValue.flagAddr).run Tryz.prog w = .ok (.agg #[.pointer (some ⟨6, 49, none⟩), .pointer (some p), .int .u64 409]) w := by kernel_rfl
theorem as_elemV (a p : Addr) (W : World) (ha : W.cell? a = some (.pointer (some p))) :
    (ReflectliteValue.method (ReflectliteValue.valueError "reflectlite.Value.Elem" 0) ReflectliteValue.elem #[.agg #[.pointer (some ⟨6, 51, none⟩), .pointer (some a), .int .u64 150]]).run Tryz.prog W
      = .ok (.agg #[.pointer (some ⟨6, 49, none⟩), .pointer (some p), .int .u64 409]) W := by
  rw [as_rlm]
  simp only [Sem.run_bind, as_partsP, Result.andThen]
  simp [ReflectliteValue.elem, loadVar, isAgg, underlying, Tryz.underlying51, ha, Result.andThen, as_elemT, as_mk]
theorem as_rls (v x : Value) : ReflectliteValue.set #[v, x] = (do
    let (some (dst, a, fl), some (src, b, _)) := (← ReflectliteValue.parts v, ← ReflectliteValue.parts x)
      | unsupported (.noEntry "extern/(internal/reflectlite.Value).Set.zeroValue")
    if fl / ReflectliteValue.flagAddr % 2 == 0 then unsupported (.noEntry "extern/(internal/reflectlite.Value).Set.unaddressable")
    let val ← loadVar src b
    if ← Rtype.directlyAssignable dst src then storeVar dst a val
    else if ← Rtype.implements dst src then
      if (← Rtype.kind src) == 20 then
        match val with
        | .nilIface => unsupported (.noEntry "extern/reflectlite: a nil value of one interface type handed on as a value of another")
        | _ => storeVar dst a val
      else storeVar dst a (.iface src val)
    else panicString ("reflectlite.Set: value of type " ++ (← Rtype.spelt src) ++ " is not assignable to type " ++ (← Rtype.spelt dst))
    pure (.tuple #[])) := rfl
theorem as_partsA (a : Addr) (w : World) : (ReflectliteValue.parts (.agg #[.pointer (some ⟨6, 49, none⟩), .pointer (some a), .int .u64 409])).run Tryz.prog w = .ok (some (49, a, 409)) w := by kernel_rfl
theorem as_partsW (a : Addr) (w : World) : (ReflectliteValue.parts (.agg #[.pointer (some ⟨6, 49, none⟩), .pointer (some a), .int .u64 153])).run Tryz.prog w = .ok (some (49, a, 153)) w := by kernel_rfl
theorem as_direct (w : World) : (Rtype.directlyAssignable 49 49).run Tryz.prog w = .ok true w := by kernel_rfl
theorem as_size2 : ((Tryz.prog).info? 49).map (·.size) = some 2 := by kernel_rfl
theorem as_set (t b : Nat) (p e : Int) (W : World) (hb : W.rangeAt b 0 [.int .i64 p, .int .i64 e]) (ht : W.there t 0 2) :
    (ReflectliteValue.set #[.agg #[.pointer (some ⟨6, 49, none⟩), .pointer (some ⟨t, 0, none⟩), .int .u64 409], .agg #[.pointer (some ⟨6, 49, none⟩), .pointer (some ⟨b, 0, none⟩), .int .u64 153]]).run Tryz.prog W
      = .ok (.tuple #[]) (W.setCells t 0 [.int .i64 p, .int .i64 e]) := by
  have hl := run_loadVar_mid (P := Tryz.prog) W b 0 49 [.int .i64 p, .int .i64 e] _ hb Tryz.underlying49 rfl as_size2
  have hs := run_storeVar_mid (P := Tryz.prog) W t 0 49 #[.int .i64 p, .int .i64 e] ht as_size2 (by simp [Value.oneCell'])
  rw [as_rls]
  simp only [Sem.run_bind, as_partsA, as_partsW, Result.andThen]
  simp [ReflectliteValue.flagAddr, hl, Result.andThen, as_direct, hs]
set_option maxHeartbeats 4000000 in
theorem as_hit (p e : Int) (t : Nat) (o0 o1 : Value) (w : World) (hg : w.cell? ⟨0, 0, none⟩ = some (.iface 125 (.agg #[.pointer (some ⟨6, 45, none⟩)]))) (ht0 : Has w t [o0, o1] 49) :
    Calls Tryz.prog 19 #[errV p e, .iface 51 (.pointer (some ⟨t, 0, none⟩))] w fun ev w' => ev = .returned (.bool true) ∧ Has w' t [.int .i64 p, .int .i64 e] 49 ∧ WB t w w' := by
  unfold errV
  have h6 := @run_callFunc_extern Tryz.prog 36 _ (fun args => ReflectliteValue.unpack (args.getD 0 (.tuple #[]))) Tryz.func36 (by kernel_rfl) (by kernel_rfl) (by kernel_rfl) (by kernel_rfl)
  have h7 := @run_callFunc_extern Tryz.prog 37 _ (ReflectliteValue.methodAny (ReflectliteValue.valueError "reflectlite.Value.Type" 0) (fun t _ _ _ => ReflectliteType.toType t)) Tryz.func37 (by kernel_rfl) (by kernel_rfl) (by kernel_rfl) (by kernel_rfl)
  have h8 := @run_callFunc_extern Tryz.prog 38 _ (ReflectliteValue.method (ReflectliteValue.valueError "reflectlite.Value.IsNil" 0) ReflectliteValue.isNil) Tryz.func38 (by kernel_rfl) (by kernel_rfl) (by kernel_rfl) (by kernel_rfl)
  have h27 := @run_callFunc_extern Tryz.prog 141 _ (ReflectliteType.abiMethod fun t => do pure (.int .u8 (← Rtype.kind t))) Tryz.func141 (by kernel_rfl) (by kernel_rfl) (by kernel_rfl) (by kernel_rfl)
  have h37 := @run_callFunc_extern Tryz.prog 152 _ (ReflectliteType.method ReflectliteType.elem) Tryz.func152 (by kernel_rfl) (by kernel_rfl) (by kernel_rfl) (by kernel_rfl)
  have h38 := @run_callFunc_extern Tryz.prog 153 _ (ReflectliteType.relation "Implements" ReflectliteType.implements_) Tryz.func153 (by kernel_rfl) (by kernel_rfl) (by kernel_rfl) (by kernel_rfl)
  have h10 := @run_callFunc_extern Tryz.prog 71 _ ReflectliteType.typeOf Tryz.func71 (by kernel_rfl) (by kernel_rfl) (by kernel_rfl) (by kernel_rfl)
  have h35 := @run_callFunc_extern Tryz.prog 150 _ (ReflectliteType.relation "AssignableTo" ReflectliteType.assignableTo) Tryz.func150 (by kernel_rfl) (by kernel_rfl) (by kernel_rfl) (by kernel_rfl)
  have h11 := @run_callFunc_extern Tryz.prog 72 _ (ReflectliteValue.method (ReflectliteValue.valueError "reflectlite.Value.Elem" 0) ReflectliteValue.elem) Tryz.func72 (by kernel_rfl) (by kernel_rfl) (by kernel_rfl) (by kernel_rfl)
  have h12 := @run_callFunc_extern Tryz.prog 73 _ ReflectliteValue.set Tryz.func73 (by kernel_rfl) (by kernel_rfl) (by kernel_rfl) (by kernel_rfl)
  have tO := as_typeOf
  have mA := as_mAssign
  have a25 := as_assign
  have v25 := as_valueW p e
  have f6 := as_valueOf
  have f7 := as_type
  have mK := as_mKind
  have mE := as_mElem
  have mI := as_mImpl
  have k27 := as_kindP
  have k25 := as_kindW
  have e27 := as_elemP
  have i25 := as_implW
  have hlt : 0 < w.heap.size := by have := ht0.lt; omega
  have n8 := as_isNil ⟨w.heap.size, 0, none⟩ ⟨t, 0, none⟩ ((w.alloc (.cells #[.pointer (some ⟨t, 0, none⟩)] 51)).alloc (.cells #[.pointer (some ⟨6, 51, none⟩), .pointer (some ⟨w.heap.size, 0, none⟩), .int .u64 150] 80)) (by simp)
  have hg2 : ((w.alloc (.cells #[.pointer (some ⟨t, 0, none⟩)] 51)).alloc (.cells #[.pointer (some ⟨6, 51, none⟩), .pointer (some ⟨w.heap.size, 0, none⟩), .int .u64 150] 80)).cell? ⟨0, 0, none⟩ = some (.iface 125 (.agg #[.pointer (some ⟨6, 45, none⟩)])) := by
    rw [World.cell?_alloc_lt _ _ ⟨0, 0, none⟩ (by simp), World.cell?_alloc_lt _ _ ⟨0, 0, none⟩ hlt]; exact hg
  have htl := ht0.lt
  have el := as_elemV ⟨w.heap.size, 0, none⟩ ⟨t, 0, none⟩ (((w.alloc (.cells #[.pointer (some ⟨t, 0, none⟩)] 51)).alloc (.cells #[.pointer (some ⟨6, 51, none⟩), .pointer (some ⟨w.heap.size, 0, none⟩), .int .u64 150] 80)).alloc (.cells #[.pointer (some ⟨6, 51, none⟩), .pointer (some ⟨w.heap.size, 0, none⟩), .int .u64 150] 80)) (by rw [World.cell?_alloc_lt _ _ ⟨w.heap.size, 0, none⟩ (by simp; omega), World.cell?_alloc_lt _ _ ⟨w.heap.size, 0, none⟩ (by simp), World.cell?_alloc_at _ _ _ _ rfl]; rfl)
  have hT4 : Has ((((w.alloc (.cells #[.pointer (some ⟨t, 0, none⟩)] 51)).alloc (.cells #[.pointer (some ⟨6, 51, none⟩), .pointer (some ⟨w.heap.size, 0, none⟩), .int .u64 150] 80)).alloc (.cells #[.pointer (some ⟨6, 51, none⟩), .pointer (some ⟨w.heap.size, 0, none⟩), .int .u64 150] 80)).alloc (.cells #[.int .i64 p, .int .i64 e] 49)) t [o0, o1] 49 := (((ht0.alloc _).alloc _).alloc _).alloc _
  have hB4 : WB t w ((((w.alloc (.cells #[.pointer (some ⟨t, 0, none⟩)] 51)).alloc (.cells #[.pointer (some ⟨6, 51, none⟩), .pointer (some ⟨w.heap.size, 0, none⟩), .int .u64 150] 80)).alloc (.cells #[.pointer (some ⟨6, 51, none⟩), .pointer (some ⟨w.heap.size, 0, none⟩), .int .u64 150] 80)).alloc (.cells #[.int .i64 p, .int .i64 e] 49)) := ((((WB.refl t w).alloc _).alloc _).alloc _).alloc _
  have hE4 : Has ((((w.alloc (.cells #[.pointer (some ⟨t, 0, none⟩)] 51)).alloc (.cells #[.pointer (some ⟨6, 51, none⟩), .pointer (some ⟨w.heap.size, 0, none⟩), .int .u64 150] 80)).alloc (.cells #[.pointer (some ⟨6, 51, none⟩), .pointer (some ⟨w.heap.size, 0, none⟩), .int .u64 150] 80)).alloc (.cells #[.int .i64 p, .int .i64 e] 49)) (((w.alloc (.cells #[.pointer (some ⟨t, 0, none⟩)] 51)).alloc (.cells #[.pointer (some ⟨6, 51, none⟩), .pointer (some ⟨w.heap.size, 0, none⟩), .int .u64 150] 80)).alloc (.cells #[.pointer (some ⟨6, 51, none⟩), .pointer (some ⟨w.heap.size, 0, none⟩), .int .u64 150] 80)).heap.size [.int .i64 p, .int .i64 e] 49 := Has.new _ _ _
  rw [show (((w.alloc (.cells #[.pointer (some ⟨t, 0, none⟩)] 51)).alloc (.cells #[.pointer (some ⟨6, 51, none⟩), .pointer (some ⟨w.heap.size, 0, none⟩), .int .u64 150] 80)).alloc (.cells #[.pointer (some ⟨6, 51, none⟩), .pointer (some ⟨w.heap.size, 0, none⟩), .int .u64 150] 80)).heap.size = w.heap.size + 1 + 1 + 1 by simp] at hE4
  have st := as_set t (w.heap.size + 1 + 1 + 1) p e ((((w.alloc (.cells #[.pointer (some ⟨t, 0, none⟩)] 51)).alloc (.cells #[.pointer (some ⟨6, 51, none⟩), .pointer (some ⟨w.heap.size, 0, none⟩), .int .u64 150] 80)).alloc (.cells #[.pointer (some ⟨6, 51, none⟩), .pointer (some ⟨w.heap.size, 0, none⟩), .int .u64 150] 80)).alloc (.cells #[.int .i64 p, .int .i64 e] 49)) hE4.range hT4.there
  have HT := Lib.hid (hT4.sets [.int .i64 p, .int .i64 e] rfl)
  have HB := Lib.hid (hB4.sets 0 [.int .i64 p, .int .i64 e])
  clear hT4 hB4 hE4 ht0
  go_enter Tryz.func19, Tryz.ntmps19
  go_wp2
  refine wp_loop_rounds 1 ?_
  rw [rounds_succ]
  go_wp2
  go_ret
  exact ⟨rfl, HT.out, HB.out⟩
end Go.Proofs.YtdimgomigidbkaaGreatDoor
/- Stage 8's code: Parse. -/
namespace Go.Proofs.YtdimgomigidbkaaGreatDoor
open Go.RowKit

/-- What the library's variables hold. -/
def EnvR (W : World) : Prop := Env W ∧ W.cell? ⟨0, 0, none⟩ = some (.iface 125 (.agg #[.pointer (some ⟨6, 45, none⟩)]))
theorem cell_lt {w : World} {b o : Nat} {v : Value} (h : w.cell? ⟨b, o, none⟩ = some v) : b < w.heap.size := by
  rcases Nat.lt_or_ge b w.heap.size with q | q
  · exact q
  · simp [World.cell?, Array.getElem?_eq_none q] at h
theorem EnvR.below {w w' : World} (h : EnvR w) (hb : Below w.heap.size w w') : EnvR w' :=
  ⟨h.1.below hb, (hb.cell (cell_lt h.2)).trans h.2⟩
def ParseEnd (l : List UInt8) (w : World) (e : Ending) (w' : World) : Prop :=
  ∃ v, e = .returned (.tuple #[.agg #[v], .int .i64 (parseAns l).1, .int .i64 (parseAns l).2.1]) ∧ CRow w.heap.size v (parseAns l).2.2 w' ∧ Below w.heap.size w w'
theorem Reads.rdr {w : World} {v : Value} {l : List Tok} (h : Reads w v l) (n : Nat) : Rdr (w.alloc (.cells #[v, .int .i64 (n : Nat)] 43)) w.heap.size n l := by
  have hb := (Below.refl w.heap.size w).alloc (Nat.le_refl _) (.cells #[v, .int .i64 (n : Nat)] 43)
  obtain ⟨ao, cap, rfl, h2, h3, h4⟩ := h
  refine ⟨ao, cap, Has.new w _ _, h2, h3, fun i hi => ?_⟩
  obtain ⟨b', off, h5, h6, h7⟩ := h4 i hi
  exact ⟨b', off, h5, h6, h7.below hb h6⟩
theorem Below.wb {B b : Nat} {x y z : World} (h : Below B x y) (k : WB b y z) (hy : B ≤ y.heap.size) (hb : B ≤ b) : Below B x z :=
  ⟨k.os.trans h.os, k.tape.trans h.tape, k.output.trans h.output, Nat.le_trans h.size k.size, fun i hi => (k.block i (by omega) (by simp; omega)).trans (h.block i hi)⟩
theorem CRow.weak {B B' : Nat} {v : Value} {l : List Ch} {w : World} (h : CRow B v l w) (hb : B' ≤ B) : CRow B' v l w := by
  refine ⟨h.1, ?_⟩
  rcases h.2 with hn | ⟨g, cap, cur, rfl, h1, r⟩
  · exact .inl hn
  · exact .inr ⟨g, cap, cur, rfl, by omega, r⟩
theorem size1 : ((Tryz.prog).info? 24).map (·.size) = some 1 := by kernel_rfl
theorem results_cell_tmp2 {P : Program} {fn : Func} {tmps : Array Value} {w : World} {a e f : Nat} {t : TypeId} {ad : Addr} {v : Value} (h : fn.results = #[.cell a t, .tmp e, .tmp f]) (ha : tmps.getD a undef = .pointer (some ad)) (hl : (loadVar t ad).run P w = .ok v w) :
    (results fn tmps).run P w = .ok (.tuple #[v, tmps.getD e undef, tmps.getD f undef]) w := by
  have ha' : tmps[a]?.getD undef = .pointer (some ad) := by simpa using ha
  simp [results, h, ha', hl, asAddr]
theorem load1 {w : World} {b : Nat} {v : Value} (h : Has w b [v] 24) : (loadVar 24 ⟨b, 0, none⟩).run Tryz.prog w = .ok (.agg #[v]) w :=
  run_loadVar_mid w b 0 24 [v] _ h.range Tryz.underlying24 rfl size1
theorem parse_scan {l : List UInt8} (h : (scanAns l).2.1 ≠ 0) : parseAns l = ((((scanAns l).1 : Nat) : Int), (scanAns l).2.1, []) := by
  unfold parseAns
  rw [if_pos h]
theorem parse_err {l : List UInt8} {s : List Tok} {er : Int} (h : (scanAns l).2.1 = 0) (e : parseS ((scanAns l).2.2.length + 1) (scanAns l).2.2 [] = .error (s, er)) : parseAns l = (placeOf l.length s, er, []) := by
  unfold parseAns
  rw [if_neg (fun q => q h), e]
theorem parse_fine {l : List UInt8} {cs : List Ch} (h : (scanAns l).2.1 = 0) (e : parseS ((scanAns l).2.2.length + 1) (scanAns l).2.2 [] = .ok cs) : parseAns l = (0, 0, cs) := by
  unfold parseAns
  rw [if_neg (fun q => q h), e]
set_option maxHeartbeats 0 in
set_option maxRecDepth 100000 in
theorem parse_any (l : List UInt8) (w : World) (hE : EnvR w) : Calls Tryz.prog 8 #[.string (bs l)] w (ParseEnd l w) := by
  have hs := bs_size l
  have hz := Has.new w [.slice none 0 0] 24
  have hB := (Below.refl w.heap.size w).alloc (Nat.le_refl _) (.cells #[.slice none 0 0] 24)
  have hE1 := hE.below hB
  have hsc := scan_ans l _ hE1.1
  have hst := (scan_ans_told l).2
  unfold ParseEnd
  by_cases hc : (scanAns l).2.1 ≠ 0
  · rw [parse_scan hc]
    unfold Ans at hsc
    have hc2 : ((scanAns l).2.1 != 0) = true := bne_iff_ne.2 hc
    generalize (scanAns l).2.1 = er at *
    generalize (scanAns l).1 = pl at *
    clear hst hE1 hE hc
    go_enter Tryz.func8, Tryz.ntmps8
    go_wp2_with fail
    refine hsc.mono ?_
    rintro e w2 ⟨v, rfl, hrd, k2⟩
    have hz2 := hz.call k2
    have hB2 := hB.trans (k2.mono hB.size)
    have c0 : w2.cell? ⟨w.heap.size, 0, none⟩ = some (.slice none 0 0) := hz2.cell 0
    have f0 : w2.frozen? ⟨w.heap.size, 0, none⟩ = false := hz2.frozen 0
    have hz3 := hz2.set 0 (.slice none 0 0)
    have hB3 := hB2.setCell (p := ⟨w.heap.size, 0, none⟩) (Nat.le_refl _) (.slice none 0 0)
    clear hsc hrd k2 hz hB hz2 hB2
    go_wp2
    exact bodyPost_ret (results_cell_tmp2 Tryz.results8 rfl (load1 hz3)) rfl ⟨_, rfl, CRow.nil _ _, hB3⟩
  · have hc0 : (scanAns l).2.1 = 0 := Decidable.of_not_not hc
    obtain ⟨-, -, hrt⟩ := hst hc0
    have hchs := fun b W (hR : Rdr W b l.length (scanAns l).2.2) => channels_any (scanAns l).2.2 b l.length ((scanAns l).2.2.length + 1) W hR (Nat.lt_succ_self _) (fun t ht => (hrt t ht).1)
    have hPe := fun s er => parse_err (s := s) (er := er) hc0
    have hPf := fun cs => parse_fine (cs := cs) hc0
    unfold Ans at hsc
    rw [hc0] at hsc
    generalize parseS ((scanAns l).2.2.length + 1) (scanAns l).2.2 [] = X at *
    generalize (scanAns l).2.2 = ts at *
    generalize (scanAns l).1 = pl at *
    clear hst hc hc0 hrt
    cases X with
    | error x =>
      obtain ⟨s, er⟩ := x
      rw [hPe s er rfl]
      have hch : ∀ b W, Rdr W b l.length ts → Calls Tryz.prog 18 #[.pointer (some ⟨b, 0, none⟩)] W (fun e w' => WB b W w' ∧ e = .returned (.tuple #[.slice none 0 0, errV (placeOf l.length s) er])) := hchs
      generalize placeOf l.length s = p at *
      have has := as_hit p er
      unfold errV at hch has
      clear hchs hPe hPf hE
      go_enter Tryz.func8, Tryz.ntmps8
      go_wp2_with fail
      refine hsc.mono ?_
      rintro e w2 ⟨v, rfl, hrd, k2⟩
      have hz2 := hz.call k2
      have hE2 := hE1.below k2
      have hs2 := k2.size
      rw [show (w.alloc (.cells #[.slice none 0 0] 24)).heap.size = w.heap.size + 1 by simp] at hs2
      have hB2 := hB.trans (k2.mono hB.size)
      have hR2 := hrd.rdr l.length
      have hb3 := (Below.refl w2.heap.size w2).alloc (Nat.le_refl _) (.cells #[v, .int .i64 (l.length : Nat)] 43)
      have hz3 := hz2.call hb3
      have hE3 := (hE2.below hb3).2
      have hg2 := fun (W : World) (hW : W.heap[(0 : Nat)]? = _) => (World.cell?_of_block (a := ⟨0, 0, none⟩) hW).trans hE3
      have hB3 := hB2.trans (hb3.mono hB2.size)
      have hn3 := hch _ _ hR2
      obtain ⟨ao, cap, rfl, -⟩ := hrd
      clear hsc hz hB k2 hz2 hE2 hB2 hR2 hb3 hch
      go_wp2_with fail
      refine hn3.mono ?_
      rintro e w4 ⟨k4, rfl⟩
      have hs4 := k4.size
      rw [show (w2.alloc (.cells #[.slice ao ts.length cap, .int .i64 (l.length : Nat)] 43)).heap.size = w2.heap.size + 1 by simp] at hs4
      have hz4 := k4.has (show w.heap.size ≠ w2.heap.size by omega) hz3
      have hE4 := hg2 w4 (k4.block _ (by simp) (by simp; omega))
      have hB4 := (Below.wb hB3 k4 (by simp; omega) (by omega)).alloc (by omega) (.cells #[.int .i64 0, .int .i64 0] 49)
      have hF4 := Has.new w4 [.int .i64 0, .int .i64 0] 49
      have hz5 := hz4.alloc (.cells #[.int .i64 0, .int .i64 0] 49)
      have hg5 := (((Below.refl w4.heap.size w4).alloc (Nat.le_refl _) (.cells #[.int .i64 0, .int .i64 0] 49)).cell (cell_lt hE4)).trans hE4
      have hn5 := has _ _ _ _ hg5 hF4
      clear hn3 hz3 hE3 hB3 k4 hg2 hE4 hg5 hF4 has hz4
      go_wp2_with fail
      refine hn5.mono ?_
      rintro e w6 ⟨rfl, hF6, k6⟩
      have hz6 := k6.has (show w.heap.size ≠ w4.heap.size by omega) hz5
      have hB6 := Below.wb hB4 k6 (by simp; omega) (by omega)
      have c0 : w6.cell? ⟨w.heap.size, 0, none⟩ = some (.slice none 0 0) := hz6.cell 0
      have f0 : w6.frozen? ⟨w.heap.size, 0, none⟩ = false := hz6.frozen 0
      have d0 : w6.cell? ⟨w4.heap.size, 0, none⟩ = some (.int .i64 p) := hF6.cell 0
      have d1 : w6.cell? ⟨w4.heap.size, 1, none⟩ = some (.int .i64 er) := hF6.cell 1
      have hz7 := hz6.set 0 (.slice none 0 0)
      have hB7 := hB6.setCell (p := ⟨w.heap.size, 0, none⟩) (Nat.le_refl _) (.slice none 0 0)
      have hne : (w.heap.size == w4.heap.size) = false := beq_false_of_ne (by omega)
      have hne2 : (w4.heap.size == w.heap.size) = false := beq_false_of_ne (by omega)
      clear hn5 hz5 hB4 k6 hF6 hz6 hB6
      go_wp2
      go_region
      go_wp2
      exact bodyPost_ret (results_cell_tmp2 Tryz.results8 rfl (load1 hz7)) rfl ⟨_, rfl, CRow.nil _ _, hB7.drew⟩
    | ok cs =>
      rw [hPf cs rfl]
      have hch : ∀ b W, Rdr W b l.length ts → Calls Tryz.prog 18 #[.pointer (some ⟨b, 0, none⟩)] W (fun e w' => WB b W w' ∧ ∃ v, e = .returned (.tuple #[v, .nilIface]) ∧ CRow W.heap.size v cs w') := hchs
      clear hchs hPe hPf hE
      go_enter Tryz.func8, Tryz.ntmps8
      go_wp2_with fail
      refine hsc.mono ?_
      rintro e w2 ⟨v, rfl, hrd, k2⟩
      have hz2 := hz.call k2
      have hE2 := hE1.below k2
      have hs2 := k2.size
      rw [show (w.alloc (.cells #[.slice none 0 0] 24)).heap.size = w.heap.size + 1 by simp] at hs2
      have hB2 := hB.trans (k2.mono hB.size)
      have hR2 := hrd.rdr l.length
      have hb3 := (Below.refl w2.heap.size w2).alloc (Nat.le_refl _) (.cells #[v, .int .i64 (l.length : Nat)] 43)
      have hz3 := hz2.call hb3
      have hE3 := (hE2.below hb3).2
      have hg2 := fun (W : World) (hW : W.heap[(0 : Nat)]? = _) => (World.cell?_of_block (a := ⟨0, 0, none⟩) hW).trans hE3
      have hB3 := hB2.trans (hb3.mono hB2.size)
      have hn3 := hch _ _ hR2
      obtain ⟨ao, cap, rfl, -⟩ := hrd
      clear hsc hz hB k2 hz2 hE2 hB2 hR2 hb3 hch
      go_wp2_with fail
      refine hn3.mono ?_
      rintro e w4 ⟨k4, v2, rfl, hC4⟩
      have hs4 := k4.size
      rw [show (w2.alloc (.cells #[.slice ao ts.length cap, .int .i64 (l.length : Nat)] 43)).heap.size = w2.heap.size + 1 by simp] at hs4
      have hz4 := k4.has (show w.heap.size ≠ w2.heap.size by omega) hz3
      have hE4 := hg2 w4 (k4.block _ (by simp) (by simp; omega))
      have hB4 := (Below.wb hB3 k4 (by simp; omega) (by omega)).alloc (by omega) (.cells #[.int .i64 0, .int .i64 0] 49)
      have hz5 := hz4.alloc (.cells #[.int .i64 0, .int .i64 0] 49)
      have hC5 := hC4.below ((Below.refl w4.heap.size w4).alloc (Nat.le_refl _) (.cells #[.int .i64 0, .int .i64 0] 49))
      have hn5 := fun t => as_nil t (w4.alloc (.cells #[.int .i64 0, .int .i64 0] 49))
      have c0 : (w4.alloc (.cells #[.int .i64 0, .int .i64 0] 49)).cell? ⟨w.heap.size, 0, none⟩ = some (.slice none 0 0) := hz5.cell 0
      have f0 : (w4.alloc (.cells #[.int .i64 0, .int .i64 0] 49)).frozen? ⟨w.heap.size, 0, none⟩ = false := hz5.frozen 0
      obtain ⟨ao2, cap2, rfl, -⟩ := hC4.reads
      have hz7 := hz5.set 0 (.slice ao2 cs.length cap2)
      have hB7 := hB4.setCell (p := ⟨w.heap.size, 0, none⟩) (Nat.le_refl _) (.slice ao2 cs.length cap2)
      have hC7 := CRow.kept (B := w2.heap.size + 1) (by simpa using hC5) (WB.set (b := w.heap.size) _ 0 (.slice ao2 cs.length cap2)) (by omega)
      have hC8 := hC7.weak (show w.heap.size ≤ w2.heap.size + 1 by omega)
      generalize hw5 : w4.alloc (.cells #[.int .i64 0, .int .i64 0] 49) = w5 at *
      clear hn3 hz3 hE3 hB3 k4 hg2 hE4 hz4 hz5 hB4 hC4 hC5 hC7
      go_wp2_with fail
      refine (hn5 _).mono ?_
      rintro e w6 ⟨rfl, rfl⟩
      go_wp2
      exact bodyPost_ret (results_cell_tmp2 Tryz.results8 rfl (load1 hz7)) rfl ⟨_, rfl, hC8, hB7⟩
end Go.Proofs.YtdimgomigidbkaaGreatDoor
/- datumlaw08: alive, few. -/
namespace Go.Proofs.YtdimgomigidbkaaGreatDoor
open Go.RowKit

def aliveT : List UInt8 := [99, 104, 97, 110, 110, 101, 108, 32, 97, 32, 99, 32, 123, 32, 98, 97, 115, 101, 32, 53, 59, 32, 99, 97, 112, 32, 57, 59, 32, 125]
theorem alive_parse : (parseAns aliveT).1 = 0 ∧ (parseAns aliveT).2.1 = 0 ∧ (parseAns aliveT).2.2.length = 1 ∧ (nthC (parseAns aliveT).2.2 0).chart = 4 ∧ (nthC (parseAns aliveT).2.2 0).f 3 = 5 ∧ (nthC (parseAns aliveT).2.2 0).f 4 = 9 :=
  ⟨by kernel_rfl, by kernel_rfl, by kernel_rfl, by kernel_rfl, by kernel_rfl, by kernel_rfl⟩
set_option maxRecDepth 100000 in
theorem alive8_any (w : World) (hE : EnvR w) : Calls Tryz.prog 10 #[] w fun e w' => e = .returned (.bool true) ∧ Below w.heap.size w w' := by
  have hp := parse_any aliveT w hE
  unfold ParseEnd at hp
  obtain ⟨e1, e2, e3, e4, e5, e6⟩ := alive_parse
  rw [e1, e2] at hp
  have hp2 : Calls Tryz.prog 8 #[.string (bs aliveT)] w fun e w' => ∃ v g o cap, v = .slice (some ⟨g, o, none⟩) 1 cap ∧ 1 ≤ cap ∧ cap ≤ 9223372036854775807 ∧ g < w'.heap.size ∧ e = .returned (.tuple #[.agg #[v], .int .i64 0, .int .i64 0]) ∧ (w'.cell? ⟨g, o + 1, none⟩ = some (.int .i64 4) ∧ w'.cell? ⟨g, o + 5, none⟩ = some (.int .i64 5) ∧ w'.cell? ⟨g, o + 6, none⟩ = some (.int .i64 9)) ∧ Below w.heap.size w w' :=
    hp.mono fun e w' ⟨v, he, hc, hb⟩ => by
      obtain ⟨ao, cap, hv, hlc, hcm, hd⟩ := hc.reads
      rw [e3] at hv hlc hd
      obtain ⟨g, o, rfl, hlt, hch⟩ := hd 0 (by decide)
      have k1 := hch.c1
      have k5 := hch.c5
      have k6 := hch.c6
      rw [Nat.zero_mul, Nat.add_zero] at k1 k5 k6
      rw [e4] at k1
      rw [e5] at k5
      rw [e6] at k6
      exact ⟨v, g, o, cap, hv, hlc, by unfold maxLen at hcm; omega, hlt, he, ⟨k1, k5, k6⟩, hb⟩
  clear hp e1 e2 e3 e4 e5 e6
  unfold aliveT at hp2
  go_enter Tryz.func10, Tryz.ntmps10
  go_wp2_with fail
  refine hp2.mono ?_
  rintro e w2 ⟨v, g, o, cap, rfl, hc1, hcm, hlt, rfl, ⟨k1, k5, k6⟩, hb⟩
  have hne : (g == w2.heap.size) = false := beq_false_of_ne (by omega)
  have hB := hb.alloc hb.size (.cells #[.slice (some ⟨g, o, none⟩) 1 cap] 24)
  clear hp2 hb
  go_wp2
  go_ret
  exact ⟨rfl, hB⟩
/-! ### few -/
def cutC (c : Ch) : Ch := ⟨c.name.take 20, c.chart, c.f⟩
def fewC (l : List Ch) : List Ch := (l.take 6).map cutC
theorem fewC_len (l : List Ch) : (fewC l).length ≤ 6 := by unfold fewC; rw [List.length_map, List.length_take]; omega
theorem fewC_mem (l : List Ch) (c : Ch) (h : c ∈ fewC l) : c.name.length ≤ 20 := by
  obtain ⟨u, _, rfl⟩ := List.mem_map.1 h
  unfold cutC
  rw [List.length_take]
  omega
theorem fewC_name (l : List Ch) (i : Nat) (hi : i < (fewC l).length) : (nthC (fewC l) i).name.length ≤ 20 := by
  rw [nthC_get _ i hi]
  exact fewC_mem l _ (List.getElem_mem hi)
def F8Rel (l : List Ch) (m ob : Nat) (w : World) (i : Value) (wr : World) : Prop := ∃ (k : Nat) (v : Value), k ≤ m ∧ i = .int .i64 (k : Nat) ∧ CRow (w.heap.size + 3) v ((l.take k).map cutC) wr ∧ Has wr ob [v] 24 ∧ Has wr (w.heap.size + 1) [.slice none 0 0] 24 ∧ Below w.heap.size w wr ∧ w.heap.size + 3 ≤ wr.heap.size
theorem fewC_snoc (l : List Ch) (k : Nat) (hk : k < l.length) : (l.take (k + 1)).map cutC = (l.take k).map cutC ++ [cutC (nthC l k)] := by
  rw [List.take_add_one, List.getElem?_eq_getElem hk, List.map_append, nthC_get l k hk]
  rfl
theorem results_cell1 {P : Program} {fn : Func} {tmps : Array Value} {w : World} {a : Nat} {t : TypeId} {ad : Addr} {v : Value} (h : fn.results = #[.cell a t]) (ha : tmps.getD a undef = .pointer (some ad)) (hl : (loadVar t ad).run P w = .ok v w) :
    (results fn tmps).run P w = .ok v w := by
  have ha' : tmps[a]?.getD undef = .pointer (some ad) := by simpa using ha
  simp [results, h, ha', hl, asAddr]
set_option linter.unusedSimpArgs false in
set_option maxHeartbeats 0 in
set_option maxRecDepth 100000 in
theorem few8_any (l : List Ch) (va : Value) (w : World) (ht : ∀ i, i < l.length → (nthC l i).name.length ≤ 9223372036854775807) (ha : ReadsC w va l) :
    Calls Tryz.prog 12 #[.agg #[va]] w fun e w' => ∃ v, e = .returned (.agg #[v]) ∧ CRow w.heap.size v (fewC l) w' ∧ Below w.heap.size w w' := by
  obtain ⟨i0, hi, hz0, hz1, hz2⟩ := info_parts infoChan
  obtain ⟨a1, p1, rfl, hlc, hcm, hc1⟩ := ha
  have HA := Lib.hid hc1
  have HT := Lib.hid ht
  clear hc1 ht
  obtain ⟨n, hn⟩ : ∃ n, l.length = n := ⟨_, rfl⟩
  have HN := Lib.hid hn
  rw [hn] at hlc ⊢
  unfold maxLen at hcm
  obtain ⟨m, hmm⟩ : ∃ m, min n 6 = m := ⟨_, rfl⟩
  have hmn : m ≤ n := by omega
  have hm4 : m ≤ 6 := by omega
  have hmi : min (n : Int) 6 = (m : Int) := by omega
  have HM := Lib.hid (show fewC l = (l.take m).map cutC by
    unfold fewC
    congr 1
    rw [← hmm, ← hn, Nat.min_comm, ← List.take_eq_take_min])
  clear hn hmm
  have hB0 := (((Below.refl w.heap.size w).alloc (Nat.le_refl _) (.cells #[.slice a1 n p1] 24)).alloc (by simp) (.cells #[.slice none 0 0] 24)).alloc (by simp; omega) (.cells #[.slice none 0 0] 24)
  have hR0 : Has (((w.alloc (.cells #[.slice a1 n p1] 24)).alloc (.cells #[.slice none 0 0] 24)).alloc (.cells #[.slice none 0 0] 24)) (w.heap.size + 1) [.slice none 0 0] 24 := by
    have := (Has.new (w.alloc (.cells #[.slice a1 n p1] 24)) [.slice none 0 0] 24).alloc (.cells #[.slice none 0 0] 24)
    rw [show (w.alloc (.cells #[.slice a1 n p1] 24)).heap.size = w.heap.size + 1 by simp] at this
    exact this
  have hO0 : Has (((w.alloc (.cells #[.slice a1 n p1] 24)).alloc (.cells #[.slice none 0 0] 24)).alloc (.cells #[.slice none 0 0] 24)) (w.heap.size + 2) [.slice none 0 0] 24 := by
    have := Has.new ((w.alloc (.cells #[.slice a1 n p1] 24)).alloc (.cells #[.slice none 0 0] 24)) [.slice none 0 0] 24
    rw [show ((w.alloc (.cells #[.slice a1 n p1] 24)).alloc (.cells #[.slice none 0 0] 24)).heap.size = w.heap.size + 2 by simp] at this
    exact this
  go_enter Tryz.func12, Tryz.ntmps12
  go_wp2
  generalize hob : w.heap.size + 2 = ob at *
  go_loopw [15] (F8Rel l m ob w) (fun i _ => m - (intOf i).toNat)
  case atStart => exact ⟨0, _, Nat.zero_le _, rfl, CRow.nil _ _, hO0, hR0, hB0, by simp⟩
  case round =>
    obtain ⟨k, v, hk, rfl, hrow, hO, hR, hb, hs3⟩ := hrel
    clear hB0 hR0 hO0
    obtain ⟨ao3, cap3, hv3, -⟩ := hrow.reads
    subst hv3
    by_cases hl : k < m
    · obtain ⟨b1, o1, rfl, hlt1, hd1⟩ := HA.out k (by rw [HN.out]; omega)
      obtain ⟨x0, x1, x2, x3, x4, x5, x6, x7, x8, x9, x10, x11, x12, x13⟩ := hd1.below hb hlt1
      have htl := HT.out k (by rw [HN.out]; omega)
      have hsn := fewC_snoc l k (by rw [HN.out]; omega)
      have hkl : ((l.take k).map cutC).length ≤ 6 := by rw [List.length_map, List.length_take]; omega
      clear hd1
      generalize nthC l k = c at x0 x1 x2 x3 x4 x5 x6 x7 x8 x9 x10 x11 x12 x13 htl hsn
      obtain ⟨tt, q, f⟩ := c
      have hct : cutC ⟨tt, q, f⟩ = ⟨tt.take 20, q, f⟩ := rfl
      rw [hct] at hsn
      dsimp only at x0 x1 x2 x3 x4 x5 x6 x7 x8 x9 x10 x11 x12 x13 htl
      have hz := bs_size tt
      have hcut : ∀ w, (Instr.slice 9 (.string (bs tt)) none (some (.int .i64 (min (tt.length : Int) 20))) none).run Tryz.prog w = .ok (.string (bs (tt.take 20))) w := fun w => by
        have := run_slice_hi (P := Tryz.prog) w 9 tt .i64 (min tt.length 20) Tryz.underlying9 (Nat.min_le_left _ _)
        rw [show ((min tt.length 20 : Nat) : Int) = min (tt.length : Int) 20 by omega, Nat.min_comm, ← List.take_eq_take_min] at this
        exact this
      generalize tt.take 20 = u at hcut hsn
      have HSN := Lib.hid hsn
      generalize (l.take k).map cutC = acc at hrow hkl hO HSN
      have hb1 := ((Below.refl wr.heap.size wr).alloc (Nat.le_refl _) (.cells #[.string (bs u), .int .i64 q, .int .i64 (f 0), .int .i64 (f 1), .int .i64 (f 2), .int .i64 (f 3), .int .i64 (f 4), .int .i64 (f 5), .int .i64 (f 6), .int .i64 (f 7), .int .i64 (f 8), .int .i64 (f 9), .int .i64 (f 10), .int .i64 (f 11)] 37)).alloc (by simp) (.cells #[.string (bs u), .int .i64 q, .int .i64 (f 0), .int .i64 (f 1), .int .i64 (f 2), .int .i64 (f 3), .int .i64 (f 4), .int .i64 (f 5), .int .i64 (f 6), .int .i64 (f 7), .int .i64 (f 8), .int .i64 (f 9), .int .i64 (f 10), .int .i64 (f 11)] 37)
      have hr3 := hrow.below hb1
      have hO3 := hO.call hb1
      have hR3 := hR.call hb1
      have hb3 := hb.trans (hb1.mono hb.size)
      have hob2 : ob < wr.heap.size := by omega
      have d0 : wr.cell? ⟨ob, 0, none⟩ = some (.slice ao3 acc.length cap3) := hO.cell 0
      have hne : (ob == wr.heap.size) = false := beq_false_of_ne (by omega)
      have hsb : ((wr.alloc (.cells #[.string (bs u), .int .i64 q, .int .i64 (f 0), .int .i64 (f 1), .int .i64 (f 2), .int .i64 (f 3), .int .i64 (f 4), .int .i64 (f 5), .int .i64 (f 6), .int .i64 (f 7), .int .i64 (f 8), .int .i64 (f 9), .int .i64 (f 10), .int .i64 (f 11)] 37)).alloc (.cells #[.string (bs u), .int .i64 q, .int .i64 (f 0), .int .i64 (f 1), .int .i64 (f 2), .int .i64 (f 3), .int .i64 (f 4), .int .i64 (f 5), .int .i64 (f 6), .int .i64 (f 7), .int .i64 (f 8), .int .i64 (f 9), .int .i64 (f 10), .int .i64 (f 11)] 37)).heap.size = wr.heap.size + 2 := by simp
      have hcat := fun (j : Nat) (x : Value) (hj : (chL ⟨u, q, f⟩)[j]? = some x) => ch_at (wr.alloc (.cells #[.string (bs u), .int .i64 q, .int .i64 (f 0), .int .i64 (f 1), .int .i64 (f 2), .int .i64 (f 3), .int .i64 (f 4), .int .i64 (f 5), .int .i64 (f 6), .int .i64 (f 7), .int .i64 (f 8), .int .i64 (f 9), .int .i64 (f 10), .int .i64 (f 11)] 37)) ⟨u, q, f⟩ (b := wr.heap.size + 1) (by simp) 37 j x hj
      have HCAT := Lib.hid hcat
      clear hsn hct hrow hb hO hR hb1 hcat
      go_wp2_with (at_builtin; refine wpList_append_own _ rfl _ _ 22 rfl (w.heap.size + 3) 37 i0 (.agg zeroL.toArray) 14 120 Tryz.underlying22 hi hz0 hz1 hz2 rfl (by decide) _ _ _ rfl hr3 ⟨wr.heap.size + 1, 0, none⟩ 1 1 (chL ⟨u, q, f⟩) rfl rfl ?c1 ?c2 ?c3 ?c4 ?c5 ?_)
      case c1 => exact fun j x hj => HCAT.out j x hj
      case c2 => exact chL_ones _
      case c3 => unfold maxLen; omega
      case c4 => omega
      case c5 => rw [hsb]; omega
      intro v2 w4 hown hgrow _
      have hr8 := fun j hj => (World.ownsRow.lt hr3 j hj).1
      have hs4 := hgrow.size
      rw [hsb] at hs4
      have hO4 := hO3.of (hgrow.block ob (by rw [hsb]; omega) (fun e => by have := hr8 ob e.symm; omega))
      have hR4 := hR3.of (hgrow.block _ (by rw [hsb]; omega) (fun e => by have := hr8 _ e.symm; omega))
      have hb4 := hb3.grown hgrow hb3.size (fun j hj => by have := hr8 j hj; omega)
      have hr4 := CRow.snoc hown
      rw [← HSN.out] at hr4
      obtain ⟨ao4, cap4, hv4, -⟩ := hr4.reads
      subst hv4
      generalize ((l.take (k + 1)).map cutC).length = L4 at *
      have e0 : w4.cell? ⟨ob, 0, none⟩ = some (.slice ao3 acc.length cap3) := hO4.cell 0
      have f0 : w4.frozen? ⟨ob, 0, none⟩ = false := hO4.frozen 0
      have HR := Lib.hid (show F8Rel l m ob w (.int .i64 ((k : Int) + 1)) (w4.setCell ⟨ob, 0, none⟩ (.slice ao4 L4 cap4)) from ⟨k + 1, _, by omega, by go_num, CRow.kept hr4 (WB.set (b := ob) w4 0 _) (by omega), hO4.set 0 _, hR4.other (p := ⟨ob, 0, none⟩) (by dsimp only; omega) _, hb4.setCell (p := ⟨ob, 0, none⟩) (by show w.heap.size ≤ ob; omega) _, by simpa using (by omega : w.heap.size + 3 ≤ w4.heap.size)⟩)
      clear hown hgrow hr3 hO3 hR3 hb3 hO4 hR4 hb4 hr4 HCAT
      go_wp2
      go_roundw
      case rel => exact HR.out
      case measure => simp [intOf]; omega
    · obtain rfl : k = m := by omega
      rw [← HM.out] at hrow hO
      have d0 : wr.cell? ⟨ob, 0, none⟩ = some (.slice ao3 (fewC l).length cap3) := hO.cell 0
      have e0 : wr.cell? ⟨w.heap.size + 1, 0, none⟩ = some (.slice none 0 0) := hR.cell 0
      have f0 : wr.frozen? ⟨w.heap.size + 1, 0, none⟩ = false := hR.frozen 0
      have hR5 := hR.set 0 (.slice ao3 (fewC l).length cap3)
      have hC5 := (CRow.kept hrow (WB.set (b := w.heap.size + 1) wr 0 (.slice ao3 (fewC l).length cap3)) (by omega)).weak (show w.heap.size ≤ w.heap.size + 3 by omega)
      have hB5 := hb.setCell (p := ⟨w.heap.size + 1, 0, none⟩) (by show w.heap.size ≤ w.heap.size + 1; omega) (.slice ao3 (fewC l).length cap3)
      clear hrow hb hO hR
      go_wp2
      (try simp only [Exit.inBlock, Exit.then])
      exact bodyPost_ret (results_cell1 Tryz.results12 rfl (load1 hR5)) rfl ⟨_, rfl, hC5, hB5⟩
end Go.Proofs.YtdimgomigidbkaaGreatDoor
/- token.Right at a word. -/
namespace Go.Proofs.YtdimgomigidbkaaGreatDoor
open Go.RowKit

theorem tok_new (w : World) (k v p : Int) (t : List UInt8) : TokAt (w.alloc (.cells #[.int .i64 k, .string (bs t), .int .i64 v, .int .i64 p] 55)) w.heap.size 0 ⟨k, t, v, p⟩ :=
  have h := Has.new w [.int .i64 k, .string (bs t), .int .i64 v, .int .i64 p] 55
  ⟨h.cell 0, h.cell 1, h.cell 2, h.cell 3⟩
theorem box_drawn {w w2 : World} {cs : Array Value} {T : TypeId} (h2 : Below (w.alloc (.cells cs T)).drew.heap.size (w.alloc (.cells cs T)).drew w2) : Has w2 w.heap.size cs.toList T ∧ Below w.heap.size w w2 := by
  have h : Below (w.alloc (.cells cs T)).heap.size (w.alloc (.cells cs T)) w2 := ⟨h2.os, h2.tape, h2.output, h2.size, h2.block⟩
  exact ⟨(Has.new w cs.toList T).call h, ((Below.refl _ w).alloc (Nat.le_refl _) _).trans (h.mono (by simp))⟩
set_option maxHeartbeats 1000000 in
theorem right_w (t : List UInt8) (v p : Int) (w : World) (ht : t.length ≤ 100000) :
    Calls Tryz.prog 51 #[tokV 1 t v p] w fun e w' => e = .returned (.bool (rightB 1 t v)) ∧ Below w.heap.size w w' := by
  rw [right_word]
  obtain ⟨c0, c1, c2, c3⟩ := tok_new w 1 v p t
  have hs := bs_size t
  have hb := (Below.refl w.heap.size w).alloc (Nat.le_refl _) (.cells #[.int .i64 1, .string (bs t), .int .i64 v, .int .i64 p] 55)
  have hlet := letters_any t
  have hsl := spanLen_le isLetter t
  obtain ⟨n, hn⟩ : ∃ n, spanLen isLetter t = n := ⟨_, rfl⟩
  rw [hn] at hlet hsl ⊢
  clear hn
  unfold tokV
  by_cases h1 : v = 0
  · subst h1
    rw [decide_eq_true (rfl : (0 : Int) = 0)]
    by_cases h2 : 1 ≤ t.length
    · by_cases h3 : t.length ≤ 12
      · rw [decide_eq_true h2, decide_eq_true h3]
        have h2b : decide ((1 : Int) ≤ (t.length : Int)) = true := decide_eq_true (by omega)
        have h3b : decide ((t.length : Int) ≤ 12) = true := decide_eq_true (by omega)
        by_cases hq : n = t.length
        · have hqb : ((n : Int) == (t.length : Int)) = true := beq_iff_eq.2 (by omega)
          rw [decide_eq_true hq]
          clear hq
          go_enter Tryz.func51, Tryz.ntmps51
          go_wp2
          go_region_held3 (fun w' => w'.cell? ⟨w.heap.size, 1, none⟩ = some (.string (bs t)) ∧ w'.cell? ⟨w.heap.size, 2, none⟩ = some (.int .i64 0)) (simp [go_sem, *]) ((go_at_call 61; refine (hlet _).mono ?_; rintro e w2 ⟨rfl, h2⟩; obtain ⟨hH, hb2⟩ := box_drawn h2; have d1 := hH.cell 1; have d2 := hH.cell 2; simp only [List.getElem?_cons_succ, List.getElem?_cons_zero] at d1 d2))
          all_goals go_wp2
          all_goals go_ret
          all_goals exact ⟨by simp, hb2⟩
        · have hqb : ((n : Int) == (t.length : Int)) = false := beq_false_of_ne (by omega)
          rw [decide_eq_false hq]
          clear hq
          go_enter Tryz.func51, Tryz.ntmps51
          go_wp2
          go_region_held3 (fun w' => w'.cell? ⟨w.heap.size, 1, none⟩ = some (.string (bs t)) ∧ w'.cell? ⟨w.heap.size, 2, none⟩ = some (.int .i64 0)) (simp [go_sem, *]) ((go_at_call 61; refine (hlet _).mono ?_; rintro e w2 ⟨rfl, h2⟩; obtain ⟨hH, hb2⟩ := box_drawn h2; have d1 := hH.cell 1; have d2 := hH.cell 2; simp only [List.getElem?_cons_succ, List.getElem?_cons_zero] at d1 d2))
          all_goals go_wp2
          all_goals go_ret
          all_goals exact ⟨by simp, hb2⟩
      · rw [decide_eq_true h2, decide_eq_false h3]
        have h2b : decide ((1 : Int) ≤ (t.length : Int)) = true := decide_eq_true (by omega)
        have h3b : decide ((t.length : Int) ≤ 12) = false := decide_eq_false (by omega)
        have h3c : 12 < t.length := by omega
        clear h3
        go_enter Tryz.func51, Tryz.ntmps51
        go_wp2
        go_quiet (fail)
        go_wp2
        go_ret
        exact ⟨by simp, hb.trans ⟨rfl, rfl, rfl, Nat.le_refl _, fun _ _ => rfl⟩⟩
    · rw [decide_eq_false h2]
      have h2' : t.length < 1 := by omega
      have h2b : decide ((1 : Int) ≤ (t.length : Int)) = false := decide_eq_false (by omega)
      clear h2
      go_enter Tryz.func51, Tryz.ntmps51
      go_wp2
      go_quiet (fail)
      go_wp2
      go_ret
      exact ⟨by simp, hb.trans ⟨rfl, rfl, rfl, Nat.le_refl _, fun _ _ => rfl⟩⟩
  · rw [decide_eq_false h1]
    have h1b : (v == 0) = false := beq_false_of_ne h1
    clear h1
    go_enter Tryz.func51, Tryz.ntmps51
    go_wp2
    go_quiet (fail)
    go_wp2
    go_ret
    exact ⟨by simp, hb.trans ⟨rfl, rfl, rfl, Nat.le_refl _, fun _ _ => rfl⟩⟩

end Go.Proofs.YtdimgomigidbkaaGreatDoor
/- token.Right and the reference's: which tokens may be. -/
namespace Go.Proofs.YtdimgomigidbkaaGreatDoor
open Go.RowKit

theorem right_n (t : List UInt8) (v p : Int) (w : World) :
    Calls Tryz.prog 51 #[tokV 2 t v p] w fun e w' => e = .returned (.bool (rightB 2 t v)) ∧ Below w.heap.size w w' := by
  rw [right_num]
  obtain ⟨c0, c1, c2, c3⟩ := tok_new w 2 v p t
  have hs := bs_size t
  have hq := bs_toList t
  have hb := (Below.refl w.heap.size w).alloc (Nat.le_refl _) (.cells #[.int .i64 2, .string (bs t), .int .i64 v, .int .i64 p] 55)
  unfold tokV
  by_cases h1 : t = []
  · subst h1
    rw [decide_eq_true (rfl : ([] : List UInt8) = [])]
    have hq1 : (([] : List UInt8) == []) = true := rfl
    by_cases h2 : -1000000000 ≤ v
    · rw [decide_eq_true h2]
      by_cases h3 : v ≤ 1000000000
      · rw [decide_eq_true h3]
        go_enter Tryz.func51, Tryz.ntmps51
        go_wp2
        go_ret
        exact ⟨by simp, hb⟩
      · rw [decide_eq_false h3]
        have h3b : decide (v ≤ 1000000000) = false := decide_eq_false h3
        have h3c : 1000000000 < v := by omega
        clear h3
        go_enter Tryz.func51, Tryz.ntmps51
        go_wp2
        go_ret
        exact ⟨by simp, hb⟩
    · rw [decide_eq_false h2]
      have h2b : decide (-1000000000 ≤ v) = false := decide_eq_false h2
      have h2c : v < -1000000000 := by omega
      clear h2
      go_enter Tryz.func51, Tryz.ntmps51
      go_wp2
      go_ret
      exact ⟨by simp, hb⟩
  · rw [decide_eq_false h1]
    have hq2 : (t == []) = false := by
      cases t with
      | nil => exact absurd rfl h1
      | cons a b => rfl
    have hq3 : t.isEmpty = false := by
      cases t with
      | nil => exact absurd rfl h1
      | cons a b => rfl
    clear h1
    go_enter Tryz.func51, Tryz.ntmps51
    go_wp2
    go_ret
    exact ⟨by simp, hb⟩
theorem right_m (k : Int) (hk : k = 3 ∨ k = 4 ∨ k = 5) (t : List UInt8) (v p : Int) (w : World) :
    Calls Tryz.prog 51 #[tokV k t v p] w fun e w' => e = .returned (.bool (rightB k t v)) ∧ Below w.heap.size w w' := by
  rw [right_mark k t v (by omega) (by omega), decide_eq_true (show 3 ≤ k by omega), decide_eq_true (show k ≤ 5 by omega)]
  rcases hk with rfl | rfl | rfl
  · obtain ⟨c0, c1, c2, c3⟩ := tok_new w 3 v p t
    have hs := bs_size t
    have hq := bs_toList t
    have hb := (Below.refl w.heap.size w).alloc (Nat.le_refl _) (.cells #[.int .i64 3, .string (bs t), .int .i64 v, .int .i64 p] 55)
    unfold tokV
    by_cases h1 : t = []
    · subst h1
      rw [decide_eq_true (rfl : ([] : List UInt8) = [])]
      have hq1 : (([] : List UInt8) == []) = true := rfl
      by_cases h2 : v = 0
      · subst h2
        rw [decide_eq_true (rfl : (0 : Int) = 0)]
        go_enter Tryz.func51, Tryz.ntmps51
        go_wp2
        go_ret
        exact ⟨by simp, hb⟩
      · rw [decide_eq_false h2]
        have h2b : (v == 0) = false := beq_false_of_ne h2
        clear h2
        go_enter Tryz.func51, Tryz.ntmps51
        go_wp2
        go_ret
        exact ⟨by simp, hb⟩
    · rw [decide_eq_false h1]
      have hq2 : (t == []) = false := by
        cases t with
        | nil => exact absurd rfl h1
        | cons a b => rfl
      have hq3 : t.isEmpty = false := by
        cases t with
        | nil => exact absurd rfl h1
        | cons a b => rfl
      clear h1
      go_enter Tryz.func51, Tryz.ntmps51
      go_wp2
      go_ret
      exact ⟨by simp, hb⟩
  · obtain ⟨c0, c1, c2, c3⟩ := tok_new w 4 v p t
    have hs := bs_size t
    have hq := bs_toList t
    have hb := (Below.refl w.heap.size w).alloc (Nat.le_refl _) (.cells #[.int .i64 4, .string (bs t), .int .i64 v, .int .i64 p] 55)
    unfold tokV
    by_cases h1 : t = []
    · subst h1
      rw [decide_eq_true (rfl : ([] : List UInt8) = [])]
      have hq1 : (([] : List UInt8) == []) = true := rfl
      by_cases h2 : v = 0
      · subst h2
        rw [decide_eq_true (rfl : (0 : Int) = 0)]
        go_enter Tryz.func51, Tryz.ntmps51
        go_wp2
        go_ret
        exact ⟨by simp, hb⟩
      · rw [decide_eq_false h2]
        have h2b : (v == 0) = false := beq_false_of_ne h2
        clear h2
        go_enter Tryz.func51, Tryz.ntmps51
        go_wp2
        go_ret
        exact ⟨by simp, hb⟩
    · rw [decide_eq_false h1]
      have hq2 : (t == []) = false := by
        cases t with
        | nil => exact absurd rfl h1
        | cons a b => rfl
      have hq3 : t.isEmpty = false := by
        cases t with
        | nil => exact absurd rfl h1
        | cons a b => rfl
      clear h1
      go_enter Tryz.func51, Tryz.ntmps51
      go_wp2
      go_ret
      exact ⟨by simp, hb⟩
  · obtain ⟨c0, c1, c2, c3⟩ := tok_new w 5 v p t
    have hs := bs_size t
    have hq := bs_toList t
    have hb := (Below.refl w.heap.size w).alloc (Nat.le_refl _) (.cells #[.int .i64 5, .string (bs t), .int .i64 v, .int .i64 p] 55)
    unfold tokV
    by_cases h1 : t = []
    · subst h1
      rw [decide_eq_true (rfl : ([] : List UInt8) = [])]
      have hq1 : (([] : List UInt8) == []) = true := rfl
      by_cases h2 : v = 0
      · subst h2
        rw [decide_eq_true (rfl : (0 : Int) = 0)]
        go_enter Tryz.func51, Tryz.ntmps51
        go_wp2
        go_ret
        exact ⟨by simp, hb⟩
      · rw [decide_eq_false h2]
        have h2b : (v == 0) = false := beq_false_of_ne h2
        clear h2
        go_enter Tryz.func51, Tryz.ntmps51
        go_wp2
        go_ret
        exact ⟨by simp, hb⟩
    · rw [decide_eq_false h1]
      have hq2 : (t == []) = false := by
        cases t with
        | nil => exact absurd rfl h1
        | cons a b => rfl
      have hq3 : t.isEmpty = false := by
        cases t with
        | nil => exact absurd rfl h1
        | cons a b => rfl
      clear h1
      go_enter Tryz.func51, Tryz.ntmps51
      go_wp2
      go_ret
      exact ⟨by simp, hb⟩
theorem right_x (k : Int) (h1 : k ≠ 1) (h2 : k ≠ 2) (h3 : k ≠ 3) (h4 : k ≠ 4) (h5 : k ≠ 5) (t : List UInt8) (v p : Int) (w : World) :
    Calls Tryz.prog 51 #[tokV k t v p] w fun e w' => e = .returned (.bool (rightB k t v)) ∧ Below w.heap.size w w' := by
  have e : rightB k t v = false := by
    rw [right_mark k t v h1 h2]
    by_cases c : 3 ≤ k
    · rw [decide_eq_false (show ¬ k ≤ 5 by omega)]; simp
    · rw [decide_eq_false c]; simp
  rw [e]
  clear e
  obtain ⟨c0, c1, c2, c3⟩ := tok_new w k v p t
  have hs := bs_size t
  have hq := bs_toList t
  have hb := (Below.refl w.heap.size w).alloc (Nat.le_refl _) (.cells #[.int .i64 k, .string (bs t), .int .i64 v, .int .i64 p] 55)
  unfold tokV
  have b1 : (k == 1) = false := beq_false_of_ne h1
  have b2 : (k == 2) = false := beq_false_of_ne h2
  have b3 : (k == 3) = false := beq_false_of_ne h3
  have b4 : (k == 4) = false := beq_false_of_ne h4
  have b5 : (k == 5) = false := beq_false_of_ne h5
  clear h1 h2 h3 h4 h5
  go_enter Tryz.func51, Tryz.ntmps51
  go_wp2
  go_ret
  exact ⟨rfl, hb⟩
theorem right_any (k : Int) (t : List UInt8) (v p : Int) (w : World) (ht : t.length ≤ 100000) :
    Calls Tryz.prog 51 #[tokV k t v p] w fun e w' => e = .returned (.bool (rightB k t v)) ∧ Below w.heap.size w w' := by
  by_cases h1 : k = 1
  · subst h1; exact right_w t v p w ht
  by_cases h2 : k = 2
  · subst h2; exact right_n t v p w
  by_cases h3 : k = 3 ∨ k = 4 ∨ k = 5
  · exact right_m k h3 t v p w
  · exact right_x k h1 h2 (by omega) (by omega) (by omega) t v p w
end Go.Proofs.YtdimgomigidbkaaGreatDoor
/- Stage 8's code: whether a channel may be. -/
namespace Go.Proofs.YtdimgomigidbkaaGreatDoor
open Go.RowKit

theorem told_nodup (c : Ch) (h : c.ch < 8) : ((toldL c).map rowF).Nodup := by
  unfold toldL
  exact List.Nodup.sublist (List.filter_sublist.map _) (rows_nodup c.ch h)
theorem told_lt (c : Ch) : ∀ r ∈ toldL c, r < 13 := fun _ hr => rows_lt _ _ (told_rows hr)
theorem told_len (c : Ch) : (toldL c).length ≤ 13 := Nat.le_trans (List.length_filter_le _ _) (rows_13 _)
theorem take_fresh {T : List Nat} (hn : (T.map rowF).Nodup) {i : Nat} (hi : i < T.length) : metOf (T.take i) (rowF (T.getD i 0)) = false := by
  cases h : metOf (T.take i) (rowF (T.getD i 0)) with
  | false => rfl
  | true =>
    obtain ⟨r, hr, e⟩ := metOf_iff.1 h
    obtain ⟨j, hj, rfl⟩ := List.getElem_of_mem hr
    rw [List.length_take] at hj
    rw [List.getElem_take] at e
    have e2 : T.getD i 0 = T[i] := by rw [List.getD_eq_getElem?_getD, List.getElem?_eq_getElem hi]; rfl
    rw [e2] at e
    have hp := (List.pairwise_iff_getElem.1 hn) j i (by simp; omega) (by simpa using hi) (by omega)
    simp only [List.getElem_map] at hp
    exact absurd e hp
theorem take_met (T : List Nat) {i : Nat} (hi : i < T.length) : (fun k => !metOf (T.take (i + 1)) k) = cut (fun k => !metOf (T.take i) k) (rowF (T.getD i 0)) := by
  have e2 : T.getD i 0 = T[i] := by rw [List.getD_eq_getElem?_getD, List.getElem?_eq_getElem hi]; rfl
  funext k
  have e3 : metOf (T.take (i + 1)) = put (metOf (T.take i)) (rowF (T.getD i 0)) := by
    rw [← metOf_snoc, e2, ← List.take_append_getElem hi]
  rw [e3]
  unfold cut put
  rw [Bool.not_or, Bool.and_comm]
def FitRel (T : List Nat) (c : Ch) (cb kb mb : Nat) (cv : Nat → Nat) (w : World) (v : Value) (wr : World) : Prop :=
  ∃ (i : Nat) (D : DataW Unit), v = .int .i64 (i : Nat) ∧ i ≤ T.length ∧ PM D (fun k => !metOf (T.take i) k) ∧ wr.ownsMap Tryz.prog 9 (ptrE cb) mb 12 D ∧
    (∀ j, j < i → rowFit (T.getD j 0) (c.f (rowF (T.getD j 0))) = true) ∧ Has wr cb (chL c) 37 ∧ FBlk wr cv kb T.length (fun i => T.getD i 0) ∧ Below w.heap.size w wr
def RestRel (p : Nat → Bool) (T : List Nat) (c : Ch) (cb kb mb it : Nat) (cv : Nat → Nat) (D : DataW Unit) (w wr : World) : Prop :=
  ∃ left cnt, wr.ranges Tryz.prog 9 (ptrE cb) mb it 12 D left cnt ∧ (∀ kl, left kl = true → Maps.has D kl = true) ∧ (∀ k, k < 12 → p k = true → left (kf k) = true ∨ c.f k = 0) ∧
    Has wr cb (chL c) 37 ∧ FBlk wr cv kb T.length (fun i => T.getD i 0) ∧ Below w.heap.size w wr
theorem chB_name {c : Ch} (h : rightB 1 c.name 0 = false) : chB c = false := by unfold chB; rw [h]; rfl
theorem chB_chart {c : Ch} (h : ¬ (0 ≤ c.chart ∧ c.chart ≤ 7)) : chB c = false := by
  unfold chB
  by_cases h1 : 0 ≤ c.chart
  · rw [decide_eq_false (show ¬ c.chart ≤ 7 from fun q => h ⟨h1, q⟩)]; simp
  · rw [decide_eq_false h1]; simp
set_option linter.unusedSimpArgs false in
set_option maxHeartbeats 0 in
set_option maxRecDepth 100000 in
theorem mayBe_any (c : Ch) (w : World) (hn : c.name.length ≤ 100000) :
    Calls Tryz.prog 25 #[chV c] w fun e w' => e = .returned (.bool (chB c)) ∧ Below w.heap.size w w' := by
  have hB := ((Below.refl w.heap.size w).alloc (Nat.le_refl _) (.cells #[.string (bs c.name), .int .i64 c.chart, .int .i64 (c.f 0), .int .i64 (c.f 1), .int .i64 (c.f 2), .int .i64 (c.f 3), .int .i64 (c.f 4), .int .i64 (c.f 5), .int .i64 (c.f 6), .int .i64 (c.f 7), .int .i64 (c.f 8), .int .i64 (c.f 9), .int .i64 (c.f 10), .int .i64 (c.f 11)] 37)).alloc (by simp) (.cells #[.int .i64 1, .string (bs c.name), .int .i64 0, .int .i64 0] 55)
  have hx : Has ((w.alloc (.cells #[.string (bs c.name), .int .i64 c.chart, .int .i64 (c.f 0), .int .i64 (c.f 1), .int .i64 (c.f 2), .int .i64 (c.f 3), .int .i64 (c.f 4), .int .i64 (c.f 5), .int .i64 (c.f 6), .int .i64 (c.f 7), .int .i64 (c.f 8), .int .i64 (c.f 9), .int .i64 (c.f 10), .int .i64 (c.f 11)] 37)).alloc (.cells #[.int .i64 1, .string (bs c.name), .int .i64 0, .int .i64 0] 55)) w.heap.size (chL c) 37 := (Has.new w (chL c) 37).alloc _
  have hrt := right_any 1 c.name 0 0 ((w.alloc (.cells #[.string (bs c.name), .int .i64 c.chart, .int .i64 (c.f 0), .int .i64 (c.f 1), .int .i64 (c.f 2), .int .i64 (c.f 3), .int .i64 (c.f 4), .int .i64 (c.f 5), .int .i64 (c.f 6), .int .i64 (c.f 7), .int .i64 (c.f 8), .int .i64 (c.f 9), .int .i64 (c.f 10), .int .i64 (c.f 11)] 37)).alloc (.cells #[.int .i64 1, .string (bs c.name), .int .i64 0, .int .i64 0] 55)) hn
  unfold tokV at hrt
  unfold chV
  have hs1 : ((w.alloc (.cells #[.string (bs c.name), .int .i64 c.chart, .int .i64 (c.f 0), .int .i64 (c.f 1), .int .i64 (c.f 2), .int .i64 (c.f 3), .int .i64 (c.f 4), .int .i64 (c.f 5), .int .i64 (c.f 6), .int .i64 (c.f 7), .int .i64 (c.f 8), .int .i64 (c.f 9), .int .i64 (c.f 10), .int .i64 (c.f 11)] 37)).alloc (.cells #[.int .i64 1, .string (bs c.name), .int .i64 0, .int .i64 0] 55)).heap.size = w.heap.size + 2 := by simp
  by_cases h1 : rightB 1 c.name 0 = true
  · by_cases h2 : 0 ≤ c.chart
    · by_cases h3 : c.chart ≤ 7
      · have h8 : c.ch < 8 := by unfold Ch.ch; omega
        have hcc : c.chart = (c.ch : Int) := by unfold Ch.ch; omega
        have hrow := ch_rows c (of_decide_eq_true h1) h2 h3
        have HROW := Lib.hid hrow
        have hpl := places_any w.heap.size
        have htd := fun W => told_any c W hcc
        unfold chV at htd
        rw [h1] at hrt
        clear hcc hrow h1
        go_enter Tryz.func25, Tryz.ntmps25
        go_wp2_with fail
        refine hrt.mono ?_
        rintro e w2 ⟨rfl, k2⟩
        have hx2 := hx.call k2
        have hB2 := hB.trans (k2.mono hB.size)
        have c1 : w2.cell? ⟨w.heap.size, 1, none⟩ = some (.int .i64 c.chart) := hx2.cell 1
        have hs2 := k2.size
        rw [hs1] at hs2
        clear hrt hx hB k2 hs1
        go_upto_region 4 with fail
        refine wp_region_held_drew (S := fun w' => Hid (Has w' w.heap.size (chL c) 37)) (by kernel_rfl) (Lib.hid (hx2.of rfl)) (fun hHeld => ?_)
        refine wpAnyH_take (i := 1) rfl (by kernel_rfl) (by kernel_rfl) (by kernel_rfl) (fun _ _ _ h => h) (yieldsIf_load_mid (by rfl) 37 _ rfl w.heap.size 0 rfl (chL c) _ (fun W hW => (Has.range hW.out)) Tryz.underlying37 rfl size14) hHeld ?_
        simp only [Act.put, List.setIfInBounds_toArray, List.set_cons_zero, List.set_cons_succ]
        refine regCall 0 (some 26) (f := 48) (args := ?_) rfl rfl (by kernel_rfl) (by rfl) ?_ ?_
        rotate_left 1
        · (go_simp; try with_reducible rfl)
        refine (hpl _).mono ?_
        rintro e wx0 ⟨mb, D, rfl, hmp, hPM, hmb, k3⟩
        refine ⟨_, rfl, Lib.hid (hHeld.out.call k3), fun hHeld => ?_⟩
        simp only [Act.put, List.setIfInBounds_toArray, List.set_cons_zero, List.set_cons_succ]
        refine regCall 2 (some 28) (f := 49) (args := ?_) rfl rfl (by kernel_rfl) (by rfl) ?_ ?_
        rotate_left 1
        · (go_simp; try with_reducible rfl)
        refine (htd _).mono ?_
        rintro e wx2 ⟨v, rfl, hof, k4⟩
        refine ⟨_, rfl, Lib.hid (hHeld.out.call k4), fun hHeld => ?_⟩
        simp only [Act.put, List.setIfInBounds_toArray, List.set_cons_zero, List.set_cons_succ]
        refine regTake 3 (some 4) (v := ?_) rfl rfl (by kernel_rfl) (by kernel_rfl) (by kernel_rfl) (fun _ _ _ h => h) (by rfl) hHeld ?_ ?_
        rotate_left 1
        · (intro w hSw; (try dsimp only at hSw); go_simp; try with_reducible rfl)
        simp only [Act.put, List.setIfInBounds_toArray, List.set_cons_zero, List.set_cons_succ]
        refine regTake 4 (some 5) (v := ?_) rfl rfl (by kernel_rfl) (by kernel_rfl) (by kernel_rfl) (fun _ _ _ h => h) (by rfl) hHeld ?_ ?_
        rotate_left 1
        · (intro w hSw; (try dsimp only at hSw); go_simp; try with_reducible rfl)
        simp only [Act.put, List.setIfInBounds_toArray, List.set_cons_zero, List.set_cons_succ]
        refine wpAnyH_done (by kernel_rfl) ?_ _
        obtain ⟨cv, kb, cap, rfl, ql, qc, hfb, hkb⟩ := hof
        have hml : mb < wx0.heap.size := by
          obtain ⟨es, clock, hb, -⟩ := hmp
          exact (Array.getElem?_eq_some_iff.1 hb).1
        have hs3 := k3.size
        have hs4 := k4.size
        have hkl := hfb.lt
        have hds : w2.drew.heap.size = w2.heap.size := rfl
        have hx4 := hHeld.out
        have hmp4 := owns_of hmp (k4.block mb hml)
        have hB4 := (hB2.drew.trans (k3.mono (by omega))).trans (k4.mono (by omega))
        have hTn := told_nodup c h8
        have hT13 := told_lt c
        have hTl := told_len c
        clear hHeld hx2 hB2 hpl htd k3 k4 hmp
        generalize toldL c = T at *
        generalize hcbe : w.heap.size = cb at *
        go_wp2
        go_loopw [31] (FitRel T c cb kb mb cv w) (fun v _ => T.length - (intOf v).toNat)
        case atStart => exact ⟨0, D, rfl, Nat.zero_le _, hPM, hmp4, fun j hj => absurd hj (Nat.not_lt_zero _), hx4, hfb, by rw [hcbe]; exact hB4⟩
        case round =>
          obtain ⟨i, D2, rfl, hiT, hPM2, hmp, hfit, hx, hF, hBw⟩ := hrel
          have hsw := hBw.size
          have hFl := hF.lt
          clear hPM hmp4 hx4 hfb hB4 c1
          by_cases hi : i < T.length
          · obtain ⟨x0, x1, x2, x3, x4⟩ := hF.at' i hi
            have hr13 := hT13 _ (getD_mem T i hi)
            have hrF := rowF_lt _ hr13
            have hlk := fun (W : World) (hW : W.ownsMap Tryz.prog 9 (ptrE cb) mb 12 D2) => look_at hW hPM2 hr13 (show (fun k => !metOf (T.take i) k) (rowF (T.getD i 0)) = true by dsimp only; rw [take_fresh hTn hi]; rfl)
            have HPM := Lib.hid (show PM (D2.del (kf (rowF (T.getD i 0)))) (fun k => !metOf (T.take (i + 1)) k) by rw [take_met T hi]; exact hPM2.del hrF)
            have HFIT := Lib.hid (show rowFit (T.getD i 0) (c.f (rowF (T.getD i 0))) = true → ∀ j, j < i + 1 → rowFit (T.getD j 0) (c.f (rowF (T.getD j 0))) = true from fun q j hj => by
              by_cases e : j = i
              · rw [e]; exact q
              · exact hfit j (by omega))
            have HNO := Lib.hid (show rowFit (T.getD i 0) (c.f (rowF (T.getD i 0))) = false → chB c = false from fun q => by
              cases e : chB c with
              | false => rfl
              | true =>
                have := (HROW.out.1 e).1 _ (getD_mem T i hi)
                rw [q] at this
                cases this)
            clear hfit hPM2
            generalize T.getD i 0 = r at *
            have hcx := chL_at c (rowF r) hrF
            have hfi := fits_any cv r (c.f (rowF r))
            generalize c.f (rowF r) = x at *
            obtain ⟨y, hy⟩ : ∃ y, rowFit r x = y := ⟨_, rfl⟩
            rw [hy] at hfi HFIT HNO
            unfold fldV at hfi
            have hb8 := (Below.refl wr.heap.size wr).alloc (Nat.le_refl _) (.cells #[.string (bs (rowW r)), .int .i64 (rLo r), .int .i64 (rHi r), .slice (some ⟨cv r, 0, none⟩) (nCh r) (nCh r), .bool (rNeed r)] 104)
            have hs8 : (wr.alloc (.cells #[.string (bs (rowW r)), .int .i64 (rLo r), .int .i64 (rHi r), .slice (some ⟨cv r, 0, none⟩) (nCh r) (nCh r), .bool (rNeed r)] 104)).heap.size = wr.heap.size + 1 := by simp
            have hml2 : mb < wr.heap.size := by
              obtain ⟨es, clock, hb, -⟩ := hmp
              exact (Array.getElem?_eq_some_iff.1 hb).1
            have hf8 : Has (wr.alloc (.cells #[.string (bs (rowW r)), .int .i64 (rLo r), .int .i64 (rHi r), .slice (some ⟨cv r, 0, none⟩) (nCh r) (nCh r), .bool (rNeed r)] 104)) wr.heap.size (fldL cv r) 104 := Has.new wr (fldL cv r) 104
            have hx8 := hx.call hb8
            have hmp8 := owns_of hmp (hb8.block mb hml2)
            have hSS : ∀ W, Below (wr.heap.size + 1) (wr.alloc (.cells #[.string (bs (rowW r)), .int .i64 (rLo r), .int .i64 (rHi r), .slice (some ⟨cv r, 0, none⟩) (nCh r) (nCh r), .bool (rNeed r)] 104)) W → (fun w' : World => w'.cell? ⟨wr.heap.size, 0, none⟩ = some (.string (bs (rowW r))) ∧ w'.cell? ⟨wr.heap.size, 1, none⟩ = some (.int .i64 (rLo r)) ∧ w'.cell? ⟨wr.heap.size, 2, none⟩ = some (.int .i64 (rHi r)) ∧ w'.cell? ⟨wr.heap.size, 3, none⟩ = some (.slice (some ⟨cv r, 0, none⟩) (nCh r) (nCh r)) ∧ w'.cell? ⟨wr.heap.size, 4, none⟩ = some (.bool (rNeed r)) ∧ w'.cell? ⟨cb, rowF r + 2, none⟩ = some (.int .i64 x) ∧ (Instr.lookup 97 (.map (some mb)) (.string (bs (rowW r))) false).run Tryz.prog w' = .ok (.pointer (some ⟨cb, rowF r + 2, none⟩)) w') W := fun W hW =>
              ⟨(hf8.of (hW.block _ (by omega))).cell 0, (hf8.of (hW.block _ (by omega))).cell 1, (hf8.of (hW.block _ (by omega))).cell 2, (hf8.of (hW.block _ (by omega))).cell 3, (hf8.of (hW.block _ (by omega))).cell 4, ((hx8.of (hW.block _ (by have := hx.lt; omega))).cell _).trans hcx, hlk W (owns_of hmp8 (hW.block mb (by omega)))⟩
            have HSS := Lib.hid hSS
            have HF8 := Lib.hid (hF.call hb8)
            have HX8 := Lib.hid hx8
            have HM8 := Lib.hid hmp8
            have HB8 := Lib.hid (hBw.trans (hb8.mono (by omega)))
            clear hSS hf8 hx8 hmp8 hlk hx hF hmp hBw hb8
            go_upto_region 8 with fail
            refine wp_region_held_drew (S := (fun w' : World => w'.cell? ⟨wr.heap.size, 0, none⟩ = some (.string (bs (rowW r))) ∧ w'.cell? ⟨wr.heap.size, 1, none⟩ = some (.int .i64 (rLo r)) ∧ w'.cell? ⟨wr.heap.size, 2, none⟩ = some (.int .i64 (rHi r)) ∧ w'.cell? ⟨wr.heap.size, 3, none⟩ = some (.slice (some ⟨cv r, 0, none⟩) (nCh r) (nCh r)) ∧ w'.cell? ⟨wr.heap.size, 4, none⟩ = some (.bool (rNeed r)) ∧ w'.cell? ⟨cb, rowF r + 2, none⟩ = some (.int .i64 x) ∧ (Instr.lookup 97 (.map (some mb)) (.string (bs (rowW r))) false).run Tryz.prog w' = .ok (.pointer (some ⟨cb, rowF r + 2, none⟩)) w')) (by kernel_rfl) (HSS.out _ (Below.refl _ _).drew) (fun hHeld => ?_)
            refine regTake 0 (some 35) (v := ?_) rfl rfl (by kernel_rfl) (by kernel_rfl) (by kernel_rfl) (fun _ _ _ h => h) (by rfl) hHeld ?_ ?_
            rotate_left 1
            · (intro w hSw; (try dsimp only at hSw); go_simp; try with_reducible rfl)
            simp only [Act.put, List.setIfInBounds_toArray, List.set_cons_zero, List.set_cons_succ]
            refine regTake 1 (some 36) (v := ?_) rfl rfl (by kernel_rfl) (by kernel_rfl) (by kernel_rfl) (fun _ _ _ h => h) (by rfl) hHeld ?_ ?_
            rotate_left 1
            · (intro w hSw; (try dsimp only at hSw); go_simp; try with_reducible rfl)
            simp only [Act.put, List.setIfInBounds_toArray, List.set_cons_zero, List.set_cons_succ]
            refine regTake 2 (some 37) (v := ?_) rfl rfl (by kernel_rfl) (by kernel_rfl) (by kernel_rfl) (fun _ _ _ h => h) (by rfl) hHeld ?_ ?_
            rotate_left 1
            · (intro w hSw; (try dsimp only at hSw); go_simp; try with_reducible rfl)
            simp only [Act.put, List.setIfInBounds_toArray, List.set_cons_zero, List.set_cons_succ]
            refine regTake 3 (some 38) (v := ?_) rfl rfl (by kernel_rfl) (by kernel_rfl) (by kernel_rfl) (fun _ _ _ h => h) (by rfl) hHeld ?_ ?_
            rotate_left 1
            · (intro w hSw; (try dsimp only at hSw); go_simp; try with_reducible rfl)
            simp only [Act.put, List.setIfInBounds_toArray, List.set_cons_zero, List.set_cons_succ]
            refine regDo 4 (some 39) (v := ?_) (w' := ?_) rfl rfl (by kernel_rfl) (by rfl) ?_ ?_ (fun hHeld => ?_)
            rotate_left 2
            · (go_simp; refine ⟨?_, ?_⟩ <;> with_reducible rfl)
            · exact hHeld
            simp only [Act.put, List.setIfInBounds_toArray, List.set_cons_zero, List.set_cons_succ]
            refine regTake 5 (some 40) (v := ?_) rfl rfl (by kernel_rfl) (by kernel_rfl) (by kernel_rfl) (fun _ _ _ h => h) (by rfl) hHeld ?_ ?_
            rotate_left 1
            · (intro w hSw; (try dsimp only at hSw); go_simp; try with_reducible rfl)
            simp only [Act.put, List.setIfInBounds_toArray, List.set_cons_zero, List.set_cons_succ]
            refine regTake 6 (some 41) (v := ?_) rfl rfl (by kernel_rfl) (by kernel_rfl) (by kernel_rfl) (fun _ _ _ h => h) (by rfl) hHeld ?_ ?_
            rotate_left 1
            · (intro w hSw; (try dsimp only at hSw); go_simp; try with_reducible rfl)
            simp only [Act.put, List.setIfInBounds_toArray, List.set_cons_zero, List.set_cons_succ]
            refine regCall 7 (some 42) (f := 52) (args := ?_) rfl rfl (by kernel_rfl) (by rfl) ?_ ?_
            rotate_left 1
            · (go_simp; try with_reducible rfl)
            refine (hfi _).mono ?_
            rintro e wx7 ⟨rfl, k7⟩
            refine ⟨_, rfl, HSS.out _ (((Below.refl _ _).drew).trans (k7.mono (show wr.heap.size + 1 ≤ (wr.alloc (.cells #[.string (bs (rowW r)), .int .i64 (rLo r), .int .i64 (rHi r), .slice (some ⟨cv r, 0, none⟩) (nCh r) (nCh r), .bool (rNeed r)] 104)).heap.size by omega))), fun hHeld => ?_⟩
            simp only [Act.put, List.setIfInBounds_toArray, List.set_cons_zero, List.set_cons_succ]
            refine regTake 8 (some 43) (v := ?_) rfl rfl (by kernel_rfl) (by kernel_rfl) (by kernel_rfl) (fun _ _ _ h => h) (by rfl) hHeld ?_ ?_
            rotate_left 1
            · (intro w hSw; (try dsimp only at hSw); go_simp; try with_reducible rfl)
            simp only [Act.put, List.setIfInBounds_toArray, List.set_cons_zero, List.set_cons_succ]
            refine wpAnyH_done (by kernel_rfl) ?_ _
            obtain ⟨d0, d1, d2, d3, d4, -, -⟩ := hHeld
            have hk9 := ((Below.refl (wr.heap.size + 1) (wr.alloc (.cells #[.string (bs (rowW r)), .int .i64 (rLo r), .int .i64 (rHi r), .slice (some ⟨cv r, 0, none⟩) (nCh r) (nCh r), .bool (rNeed r)] 104))).drew).trans (k7.mono (show wr.heap.size + 1 ≤ (wr.alloc (.cells #[.string (bs (rowW r)), .int .i64 (rLo r), .int .i64 (rHi r), .slice (some ⟨cv r, 0, none⟩) (nCh r) (nCh r), .bool (rNeed r)] 104)).heap.size by omega))
            have hx9 := HX8.out.of (hk9.block _ (by have := HX8.out.lt; omega))
            have hF9 := HF8.out.of (hk9.block _ (by have := HF8.out.lt; omega))
            have hM9 := owns_of HM8.out (hk9.block mb (by omega))
            have hB9 := HB8.out.trans (hk9.mono (by omega))
            have hs9 := hk9.size
            clear hHeld HSS HF8 HX8 HM8 HB8 hk9 k7 hfi x0 x1 x2 x3 x4
            cases y with
            | false =>
              have hch := HNO.out rfl
              go_wp2
              (try simp only [Exit.inBlock, Exit.then])
              go_ret
              exact ⟨rfl, hcbe ▸ hB9⟩
            | true =>
              have hkey := key_row r hr13
              have hfit2 := HFIT.out rfl
              go_wp2_with (at_delete; refine wpList_delete_own _ rfl _ _ 97 9 rfl 105 lawS Tryz.underlying97 (ptrE cb) mb 12 D2 rfl hM9 (.string (bs (rowW r))) (kf (rowF r)) rfl hkey ?_)
              intro w10 hM10 hturn
              have hg := hturn.grown
              have hx10 := hx9.of (hg.block cb (by have := hx9.lt; omega) (by simp; omega))
              have hF10 := hF9.of (hg.block kb (by have := hF9.lt; omega) (by simp; omega))
              have hB10 := hB9.trans (WB.low hg (by omega) (by omega))
              have HR := Lib.hid (show FitRel T c cb kb mb cv w (.int .i64 ((i + 1 : Nat) : Int)) w10 from ⟨i + 1, _, rfl, hi, HPM.out, hM10, hfit2, hx10, hF10, hB10⟩)
              clear hM9 hM10 hturn hg hx9 hF9 hB9 hx10 hF10 hB10 HPM HFIT HNO hfit2
              go_wp2
              go_roundw
              case rel => exact HR.out
              case measure => simp [intOf]; omega
          · have hiE : i = T.length := by omega
            subst hiE
            rw [List.take_length] at hPM2
            have HFA := Lib.hid (show ∀ r ∈ T, rowFit r (c.f (rowF r)) = true from fun r hr => by
              obtain ⟨j, hj, rfl⟩ := List.getElem_of_mem hr
              have := hfit j hj
              rw [List.getD_eq_getElem?_getD, List.getElem?_eq_getElem hj] at this
              exact this)
            have HP := Lib.hid hPM2
            clear hfit hi hiT
            go_wp2_with (at_range; refine wpList_range_own _ rfl _ 97 rfl 9 105 lawS Tryz.underlying97 (ptrE cb) mb 12 D2 rfl hmp ?_; intro w0 hrg0 hg0 hs0)
            have hit : cb ≤ wr.heap.size := by omega
            have hxl := hx.lt
            have hx0 := hx.of (hg0.block cb hxl (by simp))
            have hF0 := hF.of (hg0.block kb hFl (by simp))
            have hB0 := hBw.trans (WB.low (b := wr.heap.size) ⟨hg0.os, hg0.tape, hg0.output, hg0.size, fun k hk _ => hg0.block k hk (by simp)⟩ (by omega) (by omega))
            generalize hite : wr.heap.size = it at *
            clear hx hF hmp hBw hg0 hPM2
            go_frame
            go_loopw [9] (fun _ W => RestRel (fun k => !metOf T k) T c cb kb mb it cv D2 w W) (fun _ W => W.rangeLeft mb it)
            case atStart => exact ⟨_, _, hrg0, fun kl h => h, fun k hk hp => Or.inl (HP.out.has hk hp), hx0, hF0, hB0⟩
            case round =>
              obtain ⟨left, cnt, hrg, hsub, hz, hx3, hF3, hB3⟩ := hrel
              have HZ := Lib.hid hz
              have HSUB := Lib.hid hsub
              clear hrg0 hx0 hF0 hB0 hs0 hz hsub
              have hxl3 := hx3.lt
              have hFl3 := hF3.lt
              go_wp2_with (at_next; refine wpList_next_ranges _ rfl _ rfl 9 lawS (ptrE cb) Value.string Value.pointer (fun key kl h => key_inv h) (fun v y h => ptrE_shape h) mb it 12 D2 left cnt rfl hrg ?_ ?_)
              · intro hc0 hl0
                have hch : chB c = orderB c T := by
                  have hB : ∀ k, k < 12 → metOf T k = false → c.f k = 0 := fun k hk hm => by
                    rcases HZ.out k hk (show (!metOf T k) = true by rw [hm]; rfl) with h | h
                    · rw [hl0] at h; cases h
                    · exact h
                  have := HROW.out
                  cases e : orderB c T with
                  | true => exact this.2 ⟨HFA.out, hB, e⟩
                  | false =>
                    cases e2 : chB c with
                    | false => rfl
                    | true => exact absurd (this.1 e2).2.2 (by rw [e]; decide)
                have hRg := hx3.range
                have hio := inOrder_any c T cv (.slice (some ⟨kb, 0, none⟩) T.length cap) wr (hF3.reads (Nat.le_refl _) ql qc) (by omega) hT13
                have HCH := Lib.hid hch
                clear hrg hch hx3 hF3
                generalize orderB c T = od at *
                go_wp2_with (refine wpList_load_mid rfl 37 _ rfl cb 0 rfl (chL c) _ hRg Tryz.underlying37 rfl size14 ?_)
                go_wp2_with fail
                refine hio.mono ?_
                rintro e w5 ⟨rfl, k5⟩
                have hB5 := hB3.trans (k5.mono hB3.size)
                go_wp2
                (try simp only [Exit.inBlock, Exit.then])
                go_ret
                refine ⟨?_, hcbe ▸ hB5⟩
                rw [HCH.out]
                rfl
              · intro x a kl y1 ps w4 cnt4 hkey hlk hv hat hrg4 hlt hgr hsz hen
                obtain ⟨k, hk12, hpk, rfl⟩ := HP.out.out kl (HSUB.out kl hlk)
                have hy := (hat .nil).symm.trans (HP.out.at' k hk12 hpk .nil)
                subst hy
                have ha := ptrE_inv hv
                injection ha with ha
                subst ha
                have hx4 := hx3.of (hgr.block cb hxl3 (by simp; omega))
                have hF4 := hF3.of (hgr.block kb hFl3 (by simp; omega))
                have hB4 := hB3.trans (WB.low hgr (by omega) (by omega))
                have hcx : w4.cell? ⟨cb, k + 2, none⟩ = some (.int .i64 (c.f k)) := (hx4.cell _).trans (chL_at c k hk12)
                have HLT := Lib.hid (show w4.rangeLeft mb it < wr.rangeLeft mb it by rw [hrg4.left_eq, hrg.left_eq]; exact hlt)
                clear hrg hx3 hF3 hB3 hkey hlk hv hat hlt hgr
                by_cases hzk : c.f k = 0
                · have HR := Lib.hid (show RestRel (fun k => !metOf T k) T c cb kb mb it cv D2 w w4 from ⟨_, _, hrg4, fun kl h => HSUB.out kl (by simp at h; exact h.1), fun j hj hp => by
                    rcases HZ.out j hj hp with h | h
                    · by_cases e : j = k
                      · exact Or.inr (by rw [e]; exact hzk)
                      · refine Or.inl ?_
                        rw [h, Bool.true_and, Bool.not_eq_true']
                        cases q : (kf j).sameKey (kf k) with
                        | false => rfl
                        | true => exact absurd (kf_inj hj hk12 (WideAt.sameKey_eq q)) e
                    · exact Or.inr h, hx4, hF4, hB4⟩)
                  rw [hzk] at hcx
                  clear hrg4 hx4 hF4 hB4 HZ HSUB
                  go_wp2
                  go_roundw
                  case rel => exact HR.out
                  case measure => exact HLT.out
                · have hch : chB c = false := by
                    cases e : chB c with
                    | false => rfl
                    | true =>
                      refine absurd ((HROW.out.1 e).2.1 k hk12 ?_) hzk
                      simpa using hpk
                  have HCH := Lib.hid hch
                  have hzb : (c.f k != 0) = true := bne_iff_ne.2 hzk
                  clear hrg4 hx4 hF4 HZ HSUB hch
                  go_wp2
                  (try simp only [Exit.inBlock, Exit.then])
                  go_ret
                  refine ⟨?_, hcbe ▸ hB4⟩
                  rw [HCH.out]
                  rfl
      · have hch := chB_chart (c := c) (by omega)
        rw [hch]
        rw [h1] at hrt
        go_enter Tryz.func25, Tryz.ntmps25
        go_wp2_with fail
        refine hrt.mono ?_
        rintro e w2 ⟨rfl, k2⟩
        have hx2 := hx.call k2
        have hB2 := hB.trans (k2.mono hB.size)
        have c1 : w2.cell? ⟨w.heap.size, 1, none⟩ = some (.int .i64 c.chart) := hx2.cell 1
        clear hrt hx hB k2 hx2
        go_wp2
        go_ret
        exact ⟨rfl, hB2⟩
    · have hch := chB_chart (c := c) (by omega)
      rw [hch]
      rw [h1] at hrt
      go_enter Tryz.func25, Tryz.ntmps25
      go_wp2_with fail
      refine hrt.mono ?_
      rintro e w2 ⟨rfl, k2⟩
      have hx2 := hx.call k2
      have hB2 := hB.trans (k2.mono hB.size)
      have c1 : w2.cell? ⟨w.heap.size, 1, none⟩ = some (.int .i64 c.chart) := hx2.cell 1
      clear hrt hx hB k2 hx2
      go_wp2
      go_ret
      exact ⟨rfl, hB2⟩
  · have h1' : rightB 1 c.name 0 = false := by simpa using h1
    rw [chB_name h1']
    rw [h1'] at hrt
    go_enter Tryz.func25, Tryz.ntmps25
    go_wp2_with fail
    refine hrt.mono ?_
    rintro e w2 ⟨rfl, k2⟩
    have hx2 := hx.call k2
    have hB2 := hB.trans (k2.mono hB.size)
    have c1 : w2.cell? ⟨w.heap.size, 1, none⟩ = some (.int .i64 c.chart) := hx2.cell 1
    clear hrt hx hB k2 hx2
    go_wp2
    go_ret
    exact ⟨rfl, hB2⟩
end Go.Proofs.YtdimgomigidbkaaGreatDoor
/- The reference of stage 8: may a recipe be? -/
namespace Go.Proofs.YtdimgomigidbkaaGreatDoor
open Go.RowKit

theorem rec_bad {l : List Ch} {k : Nat} (hk : k < l.length) (h : chB (nthC l k) = false) : recB l = false := by
  cases e : recB l with
  | false => rfl
  | true =>
    have := (recB_iff l).1 e
    have h2 := (chB_iff _).2 (this.2.1 _ (List.getElem_mem hk))
    rw [nthC_get l k hk, h2] at h
    cases h
theorem rec_twice {l : List Ch} {j k : Nat} (hjk : j < k) (hk : k < l.length) (h : (nthC l j).name = (nthC l k).name) : recB l = false := by
  cases e : recB l with
  | false => rfl
  | true =>
    have := ((recB_iff l).1 e).2.2
    unfold List.Nodup at this
    rw [List.pairwise_iff_getElem] at this
    refine absurd ?_ (this j k (by rw [List.length_map]; omega) (by rw [List.length_map]; exact hk) hjk)
    rw [List.getElem_map, List.getElem_map, ← nthC_get l j (by omega), ← nthC_get l k hk]
    exact h
theorem rec_end {l : List Ch} (h1 : ∀ j, j < l.length → chB (nthC l j) = true) (h2 : ∀ i j, i < j → j < l.length → (nthC l i).name ≠ (nthC l j).name) : recB l = (decide (1 ≤ l.length) && decide (l.length ≤ 4)) := by
  unfold recB
  have a : l.all chB = true := by
    rw [List.all_eq_true]
    intro c hc
    obtain ⟨j, hj, rfl⟩ := List.getElem_of_mem hc
    have := h1 j hj
    rwa [nthC_get l j hj] at this
  have b : (l.map Ch.name).Nodup := by
    unfold List.Nodup
    rw [List.pairwise_iff_getElem]
    intro i j hi hj hij
    rw [List.length_map] at hi hj
    rw [List.getElem_map, List.getElem_map, ← nthC_get l i hi, ← nthC_get l j hj]
    exact h2 i j hij hj
  rw [a, decide_eq_true b, Bool.and_true, Bool.and_true]
def RRel (l : List Ch) (n : Nat) (w : World) (v : Value) (i : Value) (wr : World) : Prop :=
  ∃ k : Nat, k ≤ n ∧ i = .int .i64 (k : Nat) ∧ ((∀ j, j < k → chB (nthC l j) = true) ∧ (∀ i j, i < j → j < k → (nthC l i).name ≠ (nthC l j).name)) ∧ Below w.heap.size w wr ∧ Has wr w.heap.size [v] 24
def RRel2 (l : List Ch) (k : Nat) (w : World) (v : Value) (b4 : Nat) (i : Value) (wr : World) : Prop :=
  ∃ j : Nat, j ≤ k ∧ i = .int .i64 (j : Nat) ∧ (∀ i, i < j → (nthC l i).name ≠ (nthC l k).name) ∧ Below w.heap.size w wr ∧ Has wr w.heap.size [v] 24 ∧ Has wr b4 (chL (nthC l k)) 37
theorem name_eq (a b : List UInt8) (h : a = b) : ((bs a).toList == (bs b).toList) = true := by rw [h]; exact beq_self_eq_true _
theorem name_ne (a b : List UInt8) (h : a ≠ b) : ((bs a).toList == (bs b).toList) = false := by rw [bs_toList, bs_toList]; exact beq_false_of_ne h
set_option maxHeartbeats 4000000 in
set_option maxRecDepth 100000 in
theorem rrec_any (l : List Ch) (v : Value) (w : World) (hm : l.length ≤ 100000) (hr : ReadsC w v l) (hn : ∀ i, i < l.length → (nthC l i).name.length ≤ 100000) :
    Calls Tryz.prog 15 #[.agg #[v]] w fun e w' => e = .returned (.bool (recB l)) ∧ Below w.heap.size w w' := by
  obtain ⟨ao, cap, rfl, hlc, hcm, hc⟩ := hr
  unfold maxLen at hcm
  have HC := Lib.hid hc
  have HNM := Lib.hid hn
  clear hc hn
  obtain ⟨n, hn⟩ : ∃ n, l.length = n := ⟨_, rfl⟩
  have HN := Lib.hid hn
  rw [hn] at hm hlc ⊢
  clear hn
  obtain ⟨X, hX⟩ : ∃ X, recB l = X := ⟨_, rfl⟩
  rw [hX]
  have HX := Lib.hid hX
  clear hX
  have h0 := Has.new w [.slice ao n cap] 24
  have hB := (Below.refl w.heap.size w).alloc (Nat.le_refl _) (.cells #[.slice ao n cap] 24)
  go_enter Tryz.func15, Tryz.ntmps15
  go_wp2
  go_loopw [10] (RRel l n w (.slice ao n cap)) (fun i _ => n - (intOf i).toNat)
  case atStart => exact ⟨0, Nat.zero_le _, rfl, ⟨fun j hj => absurd hj (Nat.not_lt_zero _), fun i j _ hj => absurd hj (Nat.not_lt_zero _)⟩, hB, h0⟩
  case round =>
    obtain ⟨k, hk, rfl, hgood, hb, hx⟩ := hrel
    clear h0 hB
    have d0 : wr.cell? ⟨w.heap.size, 0, none⟩ = some (.slice ao n cap) := hx.cell 0
    have HG := Lib.hid hgood
    clear hgood
    by_cases hl : k < n
    · obtain ⟨b, o, rfl, hlt, hd⟩ := HC.out k (by rw [HN.out]; exact hl)
      obtain ⟨x0, x1, x2, x3, x4, x5, x6, x7, x8, x9, x10, x11, x12, x13⟩ := hd.below hb hlt
      have hnm := HNM.out k (by rw [HN.out]; exact hl)
      have hch := fun W => chan_any (nthC l k) W hnm
      obtain ⟨y, hy⟩ : ∃ y, chB (nthC l k) = y := ⟨_, rfl⟩
      rw [hy] at hch
      have HY := Lib.hid hy
      clear hd hnm hy
      unfold chV at hch
      obtain ⟨wo, rfl⟩ : ∃ wo : World, wo = wr := ⟨_, rfl⟩
      have hbn := hb.alloc hb.size (.cells (chL (nthC l k)).toArray 37)
      have hxn := hx.alloc (.cells (chL (nthC l k)).toArray 37)
      have hcn := Has.new wo (chL (nthC l k)) 37
      have hws := hb.size
      cases y
      · have hX : X = false := by rw [← HX.out]; exact rec_bad (by rw [HN.out]; exact hl) HY.out
        have HX2 := Lib.hid hX
        clear hX
        go_wp2_with fail
        refine (hch _).mono ?_
        rintro e w2 ⟨rfl, h2⟩
        go_wp2
        go_ret
        exact ⟨(congrArg (fun z => Ending.returned (.bool z)) HX2.out).symm, hbn.trans (h2.mono hbn.size)⟩
      · go_wp2_with fail
        refine (hch _).mono ?_
        rintro e w2 ⟨rfl, h2⟩
        have hb2 := hbn.trans (h2.mono hbn.size)
        have hx2 := hxn.call h2
        have hc2 := hcn.call h2
        have e0 : w2.cell? ⟨w.heap.size, 0, none⟩ = some (.slice (some ⟨b, o, none⟩) n cap) := hx2.cell 0
        clear hbn hxn hcn hb hx h2 hch x0 x1 x2 x3 x4 x5 x6 x7 x8 x9 x10 x11 x12 x13 d0
        have hcapk : k ≤ cap := by omega
        go_wp2
        go_loopw [23] (RRel2 l k w (.slice (some ⟨b, o, none⟩) n cap) wo.heap.size) (fun i _ => k - (intOf i).toNat)
        case atStart => exact ⟨0, Nat.zero_le _, rfl, fun i hi => absurd hi (Nat.not_lt_zero _), hb2, hx2, hc2⟩
        case round =>
          obtain ⟨j, hj, rfl, hne, hb, hx, hcc⟩ := hrel
          clear hb2 hx2 hc2 e0
          have HNE := Lib.hid hne
          clear hne
          have f0 : wr.cell? ⟨wo.heap.size, 0, none⟩ = some (.string (bs (nthC l k).name)) := hcc.cell 0
          have hbs := hb.size
          by_cases hlj : j < k
          · obtain ⟨b', o', e1, hlt', hd⟩ := HC.out j (by rw [HN.out]; omega)
            injection e1 with e1
            injection e1 with e1 e2 _
            subst e1 e2
            obtain ⟨y0, y1, y2, y3, y4, y5, y6, y7, y8, y9, y10, y11, y12, y13⟩ := hd.below hb hlt'
            clear hd
            have hltc := hcc.lt
            have hbn := hb.alloc hbs (.cells (chL (nthC l j)).toArray 37)
            have hxn := hx.alloc (.cells (chL (nthC l j)).toArray 37)
            have hccn := hcc.alloc (.cells (chL (nthC l j)).toArray 37)
            have hq : (wo.heap.size == wr.heap.size) = false := beq_false_of_ne (by omega)
            by_cases he : (nthC l j).name = (nthC l k).name
            · have hX : X = false := by rw [← HX.out]; exact rec_twice hlj (by rw [HN.out]; exact hl) he
              have HX2 := Lib.hid hX
              have q := name_eq _ _ he.symm
              clear hX he
              generalize (nthC l k).name = nk at f0 q
              go_wp2
              go_ret
              exact ⟨(congrArg (fun z => Ending.returned (.bool z)) HX2.out).symm, hbn⟩
            · have HNE2 := Lib.hid (show ∀ i, i < j + 1 → (nthC l i).name ≠ (nthC l k).name from fun i hi => by
                by_cases c : i = j
                · rw [c]; exact he
                · exact HNE.out i (by omega))
              have q := name_ne _ _ (fun e => he e.symm)
              clear he
              generalize (nthC l k).name = nk at f0 q
              go_wp2
              go_roundw
              case rel => exact ⟨j + 1, hlj, by go_num, HNE2.out, hbn, hxn, hccn⟩
              case measure => simp [intOf]; omega
          · obtain rfl : j = k := by omega
            have HG2 := Lib.hid (show (∀ i, i < j + 1 → chB (nthC l i) = true) ∧ (∀ i i', i < i' → i' < j + 1 → (nthC l i).name ≠ (nthC l i').name) from
              ⟨fun i hi => by
                by_cases c : i = j
                · rw [c]; exact HY.out
                · exact HG.out.1 i (by omega), fun i i' h1 h2 => by
                by_cases c : i' = j
                · rw [c] at h1 ⊢; exact HNE.out i h1
                · exact HG.out.2 i i' h1 (by omega)⟩)
            clear HC
            go_wp2
            go_roundw
            case rel => exact ⟨j + 1, hl, by go_num, HG2.out, hb, hx⟩
            case measure => simp [intOf]; omega
    · obtain rfl : k = n := by omega
      have hE := rec_end (l := l) (fun j hj => HG.out.1 j (by rw [HN.out] at hj; exact hj)) (fun i j h1 h2 => HG.out.2 i j h1 (by rw [HN.out] at h2; exact h2))
      rw [HX.out, HN.out] at hE
      by_cases h1 : 1 ≤ k
      · by_cases h4 : k ≤ 4
        · rw [decide_eq_true h1, decide_eq_true h4] at hE
          have HX2 := Lib.hid (show X = true from hE)
          have q1 : decide (1 ≤ (k : Int)) = true := decide_eq_true (by omega)
          have q2 : decide ((k : Int) ≤ 4) = true := decide_eq_true (by omega)
          clear hE
          go_wp2
          go_ret
          exact ⟨(congrArg (fun z => Ending.returned (.bool z)) HX2.out).symm, hb⟩
        · rw [decide_eq_true h1, decide_eq_false h4] at hE
          have HX2 := Lib.hid (show X = false from hE)
          have q1 : decide (1 ≤ (k : Int)) = true := decide_eq_true (by omega)
          have q2 : decide ((k : Int) ≤ 4) = false := decide_eq_false (by omega)
          clear hE
          go_wp2
          go_ret
          exact ⟨(congrArg (fun z => Ending.returned (.bool z)) HX2.out).symm, hb⟩
      · rw [decide_eq_false h1] at hE
        have HX2 := Lib.hid (show X = false from hE)
        have q1 : decide (1 ≤ (k : Int)) = false := decide_eq_false (by omega)
        clear hE
        go_wp2
        go_ret
        exact ⟨(congrArg (fun z => Ending.returned (.bool z)) HX2.out).symm, hb⟩
end Go.Proofs.YtdimgomigidbkaaGreatDoor
