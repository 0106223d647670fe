/- RecipeParses: for every text: its recipe, or its first token that is wrong, and why, are as the reference has them. No condition but that the library's variables that the row lists hold what the program's own text lays in them (the card ties that). -/
import Derived.Test.YtdimgomigidbkaaGreatDoorPk9
import Derived.Test.YtdimgomigidbkaaGreatDoorCards
import Derived.Test.YtdimgomigidbkaaGreatDoorTie
/- The reference of stage 8: the fields of a channel. -/
namespace Go.Proofs.YtdimgomigidbkaaGreatDoor
open Go.RowKit

/-- What a reading by places answers, beside what a reading of the rest does. -/
def FOut (l : List Tok) (R : Except (List Tok × Int) (Ch × List Tok)) (c : Ch) (k : Nat) (er : Int) : Prop :=
  k ≤ l.length ∧ match R with
  | .error x => er = x.2 ∧ x.1 = l.drop k
  | .ok x => er = 0 ∧ c = x.1 ∧ x.2 = l.drop k
def metL (met : Nat → Bool) : List Value := (List.range 12).map fun j => .bool (met j)
theorem metL_get (met : Nat → Bool) (j : Nat) (hj : j < 12) : (metL met)[j]? = some (.bool (met j)) := by
  unfold metL
  rw [List.getElem?_map, List.getElem?_range hj]
  rfl
theorem metL_put (met : Nat → Bool) (k : Nat) : (metL met).set k (.bool true) = metL (put met k) := by
  apply List.ext_getElem?
  intro j
  unfold metL put
  rw [List.getElem?_set]
  simp only [List.length_map, List.length_range, List.getElem?_map]
  by_cases h : k = j
  · subst h
    by_cases hk : k < 12
    · rw [if_pos rfl, if_pos hk, List.getElem?_range hk]
      simp
    · rw [if_pos rfl, if_neg hk, List.getElem?_eq_none (by simp; omega)]
      rfl
  · rw [if_neg h]
    by_cases hj : j < 12
    · rw [List.getElem?_range hj]
      simp [Ne.symm h]
    · rw [List.getElem?_eq_none (by simp; omega)]
      rfl
structure FSt (w : World) (L : List Value) (met : Nat → Bool) (wr : World) : Prop where
  below : Below w.heap.size w wr
  box : Has wr w.heap.size L 37
  out : Has wr (w.heap.size + 1) zeroL 37
  met : Has wr (w.heap.size + 2) (metL met) 140
theorem FSt.call {w : World} {L : List Value} {met : Nat → Bool} {wr wn : World} (h : FSt w L met wr) (hb : Below wr.heap.size wr wn) : FSt w L met wn :=
  ⟨h.below.trans (hb.mono h.below.size), h.box.call hb, h.out.call hb, h.met.call hb⟩
theorem FSt.alloc {w : World} {L : List Value} {met : Nat → Bool} {wr : World} (h : FSt w L met wr) (o : Obj) : FSt w L met (wr.alloc o) := h.call ((Below.refl _ _).alloc (Nat.le_refl _) o)
theorem FSt.cell {w : World} {L : List Value} {met : Nat → Bool} {wr : World} (h : FSt w L met wr) (j : Nat) (hj : j < 12) : wr.cell? ⟨w.heap.size + 2, j, none⟩ = some (.bool (met j)) := (h.met.cell j).trans (metL_get met j hj)
theorem FSt.mark {w : World} {L : List Value} {met : Nat → Bool} {wr : World} (h : FSt w L met wr) (k : Nat) : FSt w L (put met k) (wr.setCell ⟨w.heap.size + 2, k, none⟩ (.bool true)) :=
  ⟨h.below.setCell (p := ⟨w.heap.size + 2, k, none⟩) (by show w.heap.size ≤ w.heap.size + 2; omega) _, h.box.other (by show w.heap.size ≠ w.heap.size + 2; omega) _, h.out.other (by show w.heap.size + 1 ≠ w.heap.size + 2; omega) _, metL_put met k ▸ h.met.set k _⟩
theorem FSt.put {w : World} {L : List Value} {met : Nat → Bool} {wr : World} (h : FSt w L met wr) (M : List Value) (hl : L.length = M.length) : FSt w M met (wr.setCells w.heap.size 0 M) :=
  ⟨Below.sets h.below (Nat.le_refl _) 0 M, h.box.sets M hl, h.out.setsO (by omega) 0 M, h.met.setsO (by omega) 0 M⟩
/-- What is stored at the end. -/
theorem FSt.fin {w : World} {L : List Value} {met : Nat → Bool} {wr : World} (h : FSt w L met wr) (hl : L.length = 14) : Has (wr.setCells (w.heap.size + 1) 0 L) (w.heap.size + 1) L 37 ∧ Below w.heap.size w (wr.setCells (w.heap.size + 1) 0 L) :=
  ⟨h.out.sets L (by rw [hl]; rfl), Below.sets h.below (Nat.le_succ _) 0 L⟩
theorem chL_c1 {c : Ch} {a : Nat} (h : c.chart = (a : Int)) : (chL c)[1]? = some (.int .i64 (a : Int)) := by rw [← h]; rfl
theorem loadL {w : World} {b : Nat} {L : List Value} (h : Has w b L 37) (hl : L.length = 14) : (loadVar 37 ⟨b, 0, none⟩).run Tryz.prog w = .ok (.agg L.toArray) w :=
  run_loadVar_mid w b 0 37 L _ h.range Tryz.underlying37 rfl (by rw [hl]; exact size14)
def FLoop (l : List Tok) (R : Except (List Tok × Int) (Ch × List Tok)) (a : Nat) (w : World) (i : Value) (wr : World) : Prop :=
  ∃ (n k : Nat) (c : Ch) (met : Nat → Bool), i = .int .i64 (k : Nat) ∧ fieldsS n (l.drop k) c met = R ∧ l.length - k < n ∧ k ≤ l.length ∧ c.chart = (a : Int) ∧ FSt w (chL c) met wr
def FLoop2 (a : Nat) (w : World) (L : List Value) (met : Nat → Bool) (i : Value) (wr : World) : Prop :=
  ∃ j : Nat, j ≤ 10 ∧ i = .int .i64 (j : Nat) ∧ (∀ i, i < j → (needB a i && !met i) = false) ∧ FSt w L met wr
theorem cS_lack {l : List Tok} {c : Ch} {met : Nat → Bool} {j : Nat} (hj : j < 10) (h : (needB c.ch j && !met j) = true) : closeS l c met = .error (l, 10) := by
  unfold closeS
  rw [if_pos (List.any_eq_true.2 ⟨j, List.mem_range.2 hj, h⟩)]
theorem cS_any {c : Ch} {met : Nat → Bool} (h : ∀ i, i < 10 → (needB c.ch i && !met i) = false) : ¬ ((List.range 10).any fun k => needB c.ch k && !met k) = true := fun q => by
  obtain ⟨j, hj, h2⟩ := List.any_eq_true.1 q
  rw [h j (List.mem_range.1 hj)] at h2
  cases h2
theorem cS_half {l : List Tok} {c : Ch} {met : Nat → Bool} (h : ∀ i, i < 10 → (needB c.ch i && !met i) = false) (h2 : met 10 ≠ met 11) : closeS l c met = .error (l, 10) := by
  unfold closeS
  rw [if_neg (cS_any h), if_pos h2]
theorem cS_order {l : List Tok} {c : Ch} {met : Nat → Bool} (h : ∀ i, i < 10 → (needB c.ch i && !met i) = false) (h2 : met 10 = met 11) (h3 : ((needB c.ch 1 && decide (c.f 2 ≤ c.f 1)) || (met 10 && decide (c.f 11 ≤ c.f 10))) = true) : closeS l c met = .error (l, 3) := by
  unfold closeS
  rw [if_neg (cS_any h), if_neg (fun q => q h2), if_pos h3]
theorem cS_ok {l : List Tok} {c : Ch} {met : Nat → Bool} (h : ∀ i, i < 10 → (needB c.ch i && !met i) = false) (h2 : met 10 = met 11) (h3 : ((needB c.ch 1 && decide (c.f 2 ≤ c.f 1)) || (met 10 && decide (c.f 11 ≤ c.f 10))) = false) : closeS l c met = .ok (c, l.drop 1) := by
  unfold closeS
  rw [if_neg (cS_any h), if_neg (fun q => q h2), if_neg (by rw [h3]; decide)]
theorem hdk (l : List Tok) (k j : Nat) : hd ((l.drop k).drop j) = nth l (k + j) := by rw [List.drop_drop, hd_nth]
section
variable {l : List Tok} {k n : Nat} {c : Ch} {met : Nat → Bool}
theorem fS_close (h : (nth l k).kind = 4) : fieldsS (n + 1) (l.drop k) c met = closeS (l.drop k) c met := by
  unfold fieldsS
  rw [hd_nth, if_pos h]
theorem fS_none (h : (nth l k).kind ≠ 4) (hf : findW fieldW (wordT (nth l k)) = none) : fieldsS (n + 1) (l.drop k) c met = .error (l.drop k, 8) := by
  unfold fieldsS
  rw [hd_nth, if_neg h, hf]
theorem fS_may {f : Nat} (h : (nth l k).kind ≠ 4) (hf : findW fieldW (wordT (nth l k)) = some f) (hm : mayB c.ch f = false) : fieldsS (n + 1) (l.drop k) c met = .error (l.drop k, 8) := by
  unfold fieldsS
  rw [hd_nth, if_neg h, hf]
  dsimp only
  rw [if_pos hm]
theorem fS_twice {f : Nat} (h : (nth l k).kind ≠ 4) (hf : findW fieldW (wordT (nth l k)) = some f) (hm : mayB c.ch f = true) (ht : met f = true) : fieldsS (n + 1) (l.drop k) c met = .error (l.drop k, 9) := by
  unfold fieldsS
  rw [hd_nth, if_neg h, hf]
  dsimp only
  rw [if_neg (by rw [hm]; decide), if_pos ht]
theorem fS_num {f : Nat} (h : (nth l k).kind ≠ 4) (hf : findW fieldW (wordT (nth l k)) = some f) (hm : mayB c.ch f = true) (ht : met f = false) (h2 : (nth l (k + 1)).kind ≠ 2) : fieldsS (n + 1) (l.drop k) c met = .error (l.drop (k + 1), 8) := by
  unfold fieldsS
  rw [hd_nth, if_neg h, hf]
  dsimp only
  rw [if_neg (by rw [hm]; decide), if_neg (by rw [ht]; decide), hdk, if_pos h2, List.drop_drop]
theorem fS_range {f : Nat} (h : (nth l k).kind ≠ 4) (hf : findW fieldW (wordT (nth l k)) = some f) (hm : mayB c.ch f = true) (ht : met f = false) (h2 : (nth l (k + 1)).kind = 2) (hw : withinB c.ch f (nth l (k + 1)).num = false) : fieldsS (n + 1) (l.drop k) c met = .error (l.drop (k + 1), 3) := by
  unfold fieldsS
  rw [hd_nth, if_neg h, hf]
  dsimp only
  rw [if_neg (by rw [hm]; decide), if_neg (by rw [ht]; decide), hdk, if_neg (fun q => q h2), if_pos hw, List.drop_drop]
theorem fS_end {f : Nat} (h : (nth l k).kind ≠ 4) (hf : findW fieldW (wordT (nth l k)) = some f) (hm : mayB c.ch f = true) (ht : met f = false) (h2 : (nth l (k + 1)).kind = 2) (hw : withinB c.ch f (nth l (k + 1)).num = true) (h5 : (nth l (k + 2)).kind ≠ 5) : fieldsS (n + 1) (l.drop k) c met = .error (l.drop (k + 2), 8) := by
  unfold fieldsS
  rw [hd_nth, if_neg h, hf]
  dsimp only
  rw [if_neg (by rw [hm]; decide), if_neg (by rw [ht]; decide), hdk, if_neg (fun q => q h2), if_neg (by rw [hw]; decide), hdk, if_pos h5, List.drop_drop]
theorem fS_next {f : Nat} (h : (nth l k).kind ≠ 4) (hf : findW fieldW (wordT (nth l k)) = some f) (hm : mayB c.ch f = true) (ht : met f = false) (h2 : (nth l (k + 1)).kind = 2) (hw : withinB c.ch f (nth l (k + 1)).num = true) (h5 : (nth l (k + 2)).kind = 5) : fieldsS (n + 1) (l.drop k) c met = fieldsS n (l.drop (k + 3)) (c.set f (nth l (k + 1)).num) (put met f) := by
  conv => lhs; unfold fieldsS
  rw [hd_nth, if_neg h, hf]
  dsimp only
  rw [if_neg (by rw [hm]; decide), if_neg (by rw [ht]; decide), hdk, if_neg (fun q => q h2), if_neg (by rw [hw]; decide), hdk, if_neg (fun q => q h5), List.drop_drop]
theorem tok_kind (t : Tok) (w : World) : (Instr.field 55 (.agg #[.int .i64 t.kind, .string (bs t.text), .int .i64 t.num, .int .i64 t.place]) 0).run Tryz.prog w = .ok (.int .i64 t.kind) w := by kernel_rfl
theorem nth_len (h : (nth l k).kind ≠ 0) : k < l.length := by
  rcases Nat.lt_or_ge k l.length with q | q
  · exact q
  · unfold nth at h
    rw [List.getD_eq_getElem?_getD, List.getElem?_eq_none q] at h
    exact absurd rfl h
theorem nth_word {f : Nat} (hf : findW fieldW (wordT (nth l k)) = some f) : k < l.length := by
  refine nth_len fun e => ?_
  unfold wordT at hf
  rw [if_neg (by rw [e]; decide), none_q] at hf
  cases hf
end
set_option linter.unusedSimpArgs false in
set_option maxHeartbeats 0 in
set_option maxRecDepth 100000 in
theorem rfields_any (l : List Tok) (v : Value) (k0 n0 a : Nat) (c0 : Ch) (w : World) (hm : l.length ≤ 100000) (hr : Reads w v l) (ha : a < 8) (hca0 : c0.chart = (a : Int)) (hk0 : k0 ≤ l.length) (hn0 : l.length - k0 < n0) :
    Calls Tryz.prog 45 #[v, .int .i64 (k0 : Nat), chV c0] w fun e w' => ∃ c k er, e = .returned (.tuple #[chV c, .int .i64 (k : Nat), .int .i64 er]) ∧ FOut l (fieldsS n0 (l.drop k0) c0 (fun _ => false)) c k er ∧ Below w.heap.size w w' := by
  have hget := fun j W (hW : Below w.heap.size w W) => rget_any l v j W (hr.below hW)
  have HG := Lib.hid hget
  obtain ⟨R, hR⟩ : ∃ R, fieldsS n0 (l.drop k0) c0 (fun _ => false) = R := ⟨_, rfl⟩
  have hst : FSt w (chL c0) (fun _ => false) (((w.alloc (.cells (chL c0).toArray 37)).alloc (.cells zeroL.toArray 37)).alloc (.cells (metL fun _ => false).toArray 140)) := by
    have h0 := Has.new w (chL c0) 37
    have h1 := Has.new (w.alloc (.cells (chL c0).toArray 37)) zeroL 37
    have h2 := Has.new ((w.alloc (.cells (chL c0).toArray 37)).alloc (.cells zeroL.toArray 37)) (metL fun _ => false) 140
    rw [show (w.alloc (.cells (chL c0).toArray 37)).heap.size = w.heap.size + 1 by simp] at h1
    rw [show ((w.alloc (.cells (chL c0).toArray 37)).alloc (.cells zeroL.toArray 37)).heap.size = w.heap.size + 2 by simp] at h2
    exact ⟨(((Below.refl _ w).alloc (Nat.le_refl _) _).alloc (by simp) _).alloc (by simp; omega) _, (h0.alloc _).alloc _, h1.alloc _, h2⟩
  have hstart : FLoop l R a w (.int .i64 (k0 : Nat)) _ := ⟨n0, k0, c0, _, rfl, hR, hn0, hk0, hca0, hst⟩
  rw [hR]
  clear hget hR hst
  have hz0 : (metL fun _ => false) = [.bool false, .bool false, .bool false, .bool false, .bool false, .bool false, .bool false, .bool false, .bool false, .bool false, .bool false, .bool false] := rfl
  rw [hz0] at hstart
  unfold chL at hstart
  rw [show chV c0 = .agg #[.string (bs c0.name), .int .i64 c0.chart, .int .i64 (c0.f 0), .int .i64 (c0.f 1), .int .i64 (c0.f 2), .int .i64 (c0.f 3), .int .i64 (c0.f 4), .int .i64 (c0.f 5), .int .i64 (c0.f 6), .int .i64 (c0.f 7), .int .i64 (c0.f 8), .int .i64 (c0.f 9), .int .i64 (c0.f 10), .int .i64 (c0.f 11)] from rfl]
  clear hz0 hca0 hk0 hn0
  go_enter Tryz.func45, Tryz.ntmps45
  go_wp2
  go_loopw [1] (FLoop l R a w) (fun i _ => l.length - (intOf i).toNat)
  case atStart => exact hstart
  case round =>
    obtain ⟨n, k, c, met, rfl, hRk, hnk, hkl, hca, st⟩ := hrel
    clear hstart
    have hch : c.ch = a := by unfold Ch.ch; rw [hca]; rfl
    obtain ⟨m, rfl⟩ : ∃ m, n = m + 1 := ⟨n - 1, by omega⟩
    have hg := HG.out k wr st.below
    have HCA := Lib.hid hca
    have HRK := Lib.hid hRk
    have HCH := Lib.hid hch
    have HC1 := Lib.hid (chL_c1 hca)
    have HSET := Lib.hid (show ∀ (f : Nat) (z : Int) (W : World), Calls Tryz.prog 77 #[.agg (chL c).toArray, .int .i64 (f : Nat), .int .i64 z] W fun e w' => e = .returned (.agg (chL (c.set f z)).toArray) ∧ Below W.heap.size W w' from fun f z W => set_any c f z W)
    have HCL := Lib.hid (show chV c = .agg (chL c).toArray from rfl)
    have HL14 := Lib.hid (chL_len c)
    have HO1 := Lib.hid (chL_one c)
    have HFC := Lib.hid (show ∀ k, (chL c)[k + 2]? = if k < 12 then some (.int .i64 (c.f k)) else none from fun k => by
      by_cases h : k < 12
      · rw [if_pos h]; exact chL_at c k h
      · rw [if_neg h]; exact List.getElem?_eq_none (by rw [chL_len]; omega))
    clear hca hRk hch
    by_cases k4 : (nth l k).kind = 4
    · have HR := Lib.hid ((fS_close k4).symm.trans HRK.out)
      have hkn := nth_len (l := l) (k := k) (by rw [k4]; decide)
      have q4 : ((nth l k).kind != 4) = false := by rw [k4]; rfl
      generalize hL : chL c = L at *
      have HS14 := Lib.hid (show ((Tryz.prog).info? 37).map (·.size) = some L.toArray.size by rw [List.size_toArray, HL14.out]; exact size14)
      clear hL k4
      have hfd := tok_kind (nth l k)
      unfold tokA at hg
      go_wp2_with fail
      refine (hg).mono ?_
      rintro e w1 ⟨rfl, hw1⟩
      have s1 := st.call hw1
      clear hw1
      have hst2 : FLoop2 a w L met (.int .i64 0) w1 := ⟨0, Nat.zero_le _, rfl, fun i hi => absurd hi (Nat.not_lt_zero _), s1⟩
      clear s1 hg
      obtain ⟨w0, hw0⟩ : ∃ w0 : World, w0 = w1 := ⟨_, rfl⟩
      subst hw0
      go_wp2
      go_loopw [12] (FLoop2 a w L met) (fun i _ => 10 - (intOf i).toNat)
      case atStart => exact hst2
      case round =>
        obtain ⟨j, hj, rfl, hno, st⟩ := hrel
        clear hst2
        have HNO := Lib.hid hno
        clear hno
        have x1 := (st.box.cell 1).trans HC1.out
        by_cases hl : j < 10
        · have hnd := need_any a j ha (by omega) wr
          have hjI : (j : Int) < 12 := by omega
          obtain ⟨y, hy⟩ : ∃ y, needB a j = y := ⟨_, rfl⟩
          rw [hy] at hnd
          go_wp2_with fail
          refine hnd.mono ?_
          rintro e w6 ⟨rfl, hw6⟩
          have s6 := st.call hw6
          have d6 := s6.cell j (by omega)
          clear hnd hw6 st x1
          obtain ⟨z, hz⟩ : ∃ z, met j = z := ⟨_, rfl⟩
          rw [hz] at d6
          have HYZ := Lib.hid (show (needB a j && !met j) = (y && !z) by rw [hy, hz])
          clear hy hz
          cases y
          · have HR2 := Lib.hid (show FLoop2 a w L met (.int .i64 ((j + 1 : Nat) : Int)) w6 from ⟨j + 1, hl, rfl, fun i hi => by
                by_cases e : i = j
                · subst e; exact HYZ.out
                · exact HNO.out i (by omega), s6⟩)
            clear s6 HYZ
            go_wp2
            go_roundw
            case rel => exact HR2.out
            case measure => simp [intOf]; omega
          · cases z
            · have HF := Lib.hid (show FOut l R c k 10 from ⟨hkl, by rw [← HR.out, cS_lack hl (by rw [HCH.out]; exact HYZ.out)]; exact ⟨rfl, rfl⟩⟩)
              have x1 := (s6.box.cell 1).trans HC1.out
              have hRg := s6.box.range
              have hT := s6.out.there
              obtain ⟨hH, hbF⟩ := s6.fin HL14.out
              have hS14 := HS14.out
              have hO1 := HO1.out
              rw [show zeroL.length = L.toArray.size from by rw [List.size_toArray, HL14.out]; rfl] at hT
              clear s6 x1
              go_wp2_with (first | (refine wpList_load_mid rfl 37 _ rfl w.heap.size 0 rfl L _ hRg Tryz.underlying37 rfl hS14 ?_) | (refine wpList_store_mid rfl 37 _ _ rfl (w.heap.size + 1) 0 _ rfl rfl hT hS14 hO1 ?_))
              (try simp only [Exit.inBlock, Exit.then])
              exact bodyPost_ret (results_cell_tmp2 Tryz.results45 rfl (loadL hH HL14.out)) rfl ⟨c, _, _, by rw [HCL.out]; rfl, HF.out, hbF⟩
            · have HR2 := Lib.hid (show FLoop2 a w L met (.int .i64 ((j + 1 : Nat) : Int)) w6 from ⟨j + 1, hl, rfl, fun i hi => by
                  by_cases e : i = j
                  · subst e; exact HYZ.out
                  · exact HNO.out i (by omega), s6⟩)
              clear s6 HYZ
              go_wp2
              go_roundw
              case rel => exact HR2.out
              case measure => simp [intOf]; omega
        · obtain rfl : j = 10 := by omega
          have HNO := Lib.hid (fun i hi => show (needB c.ch i && !met i) = false from by rw [HCH.out]; exact HNO.out i hi)
          have d10 := st.cell 10 (by decide)
          have d11 := st.cell 11 (by decide)
          obtain ⟨y, hy⟩ : ∃ y, met 10 = y := ⟨_, rfl⟩
          obtain ⟨z, hz⟩ : ∃ z, met 11 = z := ⟨_, rfl⟩
          rw [hy] at d10
          rw [hz] at d11
          have HY := Lib.hid hy
          have HZ := Lib.hid hz
          clear hy hz
          by_cases hyz : y = z
          · subst hyz
            have e3 : wr.cell? ⟨w.heap.size, 3, none⟩ = some (.int .i64 (c.f 1)) := (st.box.cell 3).trans (by rw [HFC.out 1, if_pos (by decide)])
            have e4 : wr.cell? ⟨w.heap.size, 4, none⟩ = some (.int .i64 (c.f 2)) := (st.box.cell 4).trans (by rw [HFC.out 2, if_pos (by decide)])
            have hnd := need_any a 1 ha (by decide) wr
            rw [show (((1 : Nat)) : Int) = 1 from rfl] at hnd
            obtain ⟨x, hx⟩ : ∃ x, needB a 1 = x := ⟨_, rfl⟩
            rw [hx] at hnd
            have HXX := Lib.hid (show needB c.ch 1 = x by rw [HCH.out]; exact hx)
            clear hx e3 e4
            have qyy : (y == y) = true := beq_self_eq_true _
            go_wp2_with fail
            refine hnd.mono ?_
            rintro e w6 ⟨rfl, hw6⟩
            have s6 := st.call hw6
            clear hnd hw6 st x1 d10 d11
            have e3 : w6.cell? ⟨w.heap.size, 3, none⟩ = some (.int .i64 (c.f 1)) := (s6.box.cell 3).trans (by rw [HFC.out 1, if_pos (by decide)])
            have e4 : w6.cell? ⟨w.heap.size, 4, none⟩ = some (.int .i64 (c.f 2)) := (s6.box.cell 4).trans (by rw [HFC.out 2, if_pos (by decide)])
            have e12 : w6.cell? ⟨w.heap.size, 12, none⟩ = some (.int .i64 (c.f 10)) := (s6.box.cell 12).trans (by rw [HFC.out 10, if_pos (by decide)])
            have e13 : w6.cell? ⟨w.heap.size, 13, none⟩ = some (.int .i64 (c.f 11)) := (s6.box.cell 13).trans (by rw [HFC.out 11, if_pos (by decide)])
            have d10 := s6.cell 10 (by decide)
            rw [HY.out] at d10
            have hEq := HY.out.trans HZ.out.symm
            cases x
            · skip
              cases y
              · have HF := Lib.hid (show FOut l R c (k + 1) 0 from ⟨hkn, by rw [← HR.out, cS_ok HNO.out hEq (by rw [HXX.out, HY.out]; first | (simp only [Bool.false_and, Bool.false_and]; done) | (simp only [Bool.false_and, Bool.false_and]; rfl))]; exact ⟨rfl, rfl, by rw [List.drop_drop]⟩⟩)
                clear hEq
                have x1 := (s6.box.cell 1).trans HC1.out
                have hRg := s6.box.range
                have hT := s6.out.there
                obtain ⟨hH, hbF⟩ := s6.fin HL14.out
                have hS14 := HS14.out
                have hO1 := HO1.out
                rw [show zeroL.length = L.toArray.size from by rw [List.size_toArray, HL14.out]; rfl] at hT
                clear s6 x1
                go_upto_region 27 with fail
                go_wp2_with (first | (refine wpList_load_mid rfl 37 _ rfl w.heap.size 0 rfl L _ hRg Tryz.underlying37 rfl hS14 ?_) | (refine wpList_store_mid rfl 37 _ _ rfl (w.heap.size + 1) 0 _ rfl rfl hT hS14 hO1 ?_))
                (try simp only [Exit.inBlock, Exit.then])
                exact bodyPost_ret (results_cell_tmp2 Tryz.results45 rfl (loadL hH HL14.out)) rfl ⟨c, _, _, by rw [HCL.out]; rfl, HF.out, hbF⟩
              · by_cases h2 : c.f 11 ≤ c.f 10
                · have g2 : decide (c.f 11 ≤ c.f 10) = true := decide_eq_true h2
                  clear h2
                  have HF := Lib.hid (show FOut l R c k 3 from ⟨hkl, by rw [← HR.out, cS_order HNO.out hEq (by rw [HXX.out, HY.out]; first | (simp only [Bool.false_and, g2, Bool.or_true, Bool.true_and]; done) | (simp only [Bool.false_and, g2, Bool.or_true, Bool.true_and]; rfl))]; exact ⟨rfl, rfl⟩⟩)
                  clear hEq
                  have x1 := (s6.box.cell 1).trans HC1.out
                  have hRg := s6.box.range
                  have hT := s6.out.there
                  obtain ⟨hH, hbF⟩ := s6.fin HL14.out
                  have hS14 := HS14.out
                  have hO1 := HO1.out
                  rw [show zeroL.length = L.toArray.size from by rw [List.size_toArray, HL14.out]; rfl] at hT
                  clear s6 x1
                  go_upto_region 26 with fail
                  go_wp2_with (first | (refine wpList_load_mid rfl 37 _ rfl w.heap.size 0 rfl L _ hRg Tryz.underlying37 rfl hS14 ?_) | (refine wpList_store_mid rfl 37 _ _ rfl (w.heap.size + 1) 0 _ rfl rfl hT hS14 hO1 ?_))
                  (try simp only [Exit.inBlock, Exit.then])
                  exact bodyPost_ret (results_cell_tmp2 Tryz.results45 rfl (loadL hH HL14.out)) rfl ⟨c, _, _, by rw [HCL.out]; rfl, HF.out, hbF⟩
                · have g2 : decide (c.f 11 ≤ c.f 10) = false := decide_eq_false h2
                  clear h2
                  have HF := Lib.hid (show FOut l R c (k + 1) 0 from ⟨hkn, by rw [← HR.out, cS_ok HNO.out hEq (by rw [HXX.out, HY.out]; first | (simp only [Bool.false_and, g2]; done) | (simp only [Bool.false_and, g2]; rfl))]; exact ⟨rfl, rfl, by rw [List.drop_drop]⟩⟩)
                  clear hEq
                  have x1 := (s6.box.cell 1).trans HC1.out
                  have hRg := s6.box.range
                  have hT := s6.out.there
                  obtain ⟨hH, hbF⟩ := s6.fin HL14.out
                  have hS14 := HS14.out
                  have hO1 := HO1.out
                  rw [show zeroL.length = L.toArray.size from by rw [List.size_toArray, HL14.out]; rfl] at hT
                  clear s6 x1
                  go_upto_region 27 with fail
                  go_wp2_with (first | (refine wpList_load_mid rfl 37 _ rfl w.heap.size 0 rfl L _ hRg Tryz.underlying37 rfl hS14 ?_) | (refine wpList_store_mid rfl 37 _ _ rfl (w.heap.size + 1) 0 _ rfl rfl hT hS14 hO1 ?_))
                  (try simp only [Exit.inBlock, Exit.then])
                  exact bodyPost_ret (results_cell_tmp2 Tryz.results45 rfl (loadL hH HL14.out)) rfl ⟨c, _, _, by rw [HCL.out]; rfl, HF.out, hbF⟩
            · by_cases h1 : c.f 2 ≤ c.f 1
              · have g1 : decide (c.f 2 ≤ c.f 1) = true := decide_eq_true h1
                clear h1
                have HF := Lib.hid (show FOut l R c k 3 from ⟨hkl, by rw [← HR.out, cS_order HNO.out hEq (by rw [HXX.out, HY.out]; first | (simp only [g1, Bool.true_and, Bool.true_or]; done) | (simp only [g1, Bool.true_and, Bool.true_or]; rfl))]; exact ⟨rfl, rfl⟩⟩)
                clear hEq
                have x1 := (s6.box.cell 1).trans HC1.out
                have hRg := s6.box.range
                have hT := s6.out.there
                obtain ⟨hH, hbF⟩ := s6.fin HL14.out
                have hS14 := HS14.out
                have hO1 := HO1.out
                rw [show zeroL.length = L.toArray.size from by rw [List.size_toArray, HL14.out]; rfl] at hT
                clear s6 x1
                go_upto_region 26 with fail
                go_wp2_with (first | (refine wpList_load_mid rfl 37 _ rfl w.heap.size 0 rfl L _ hRg Tryz.underlying37 rfl hS14 ?_) | (refine wpList_store_mid rfl 37 _ _ rfl (w.heap.size + 1) 0 _ rfl rfl hT hS14 hO1 ?_))
                (try simp only [Exit.inBlock, Exit.then])
                exact bodyPost_ret (results_cell_tmp2 Tryz.results45 rfl (loadL hH HL14.out)) rfl ⟨c, _, _, by rw [HCL.out]; rfl, HF.out, hbF⟩
              · have g1 : decide (c.f 2 ≤ c.f 1) = false := decide_eq_false h1
                clear h1
                cases y
                · have HF := Lib.hid (show FOut l R c (k + 1) 0 from ⟨hkn, by rw [← HR.out, cS_ok HNO.out hEq (by rw [HXX.out, HY.out]; first | (simp only [g1, Bool.false_and]; done) | (simp only [g1, Bool.false_and]; rfl))]; exact ⟨rfl, rfl, by rw [List.drop_drop]⟩⟩)
                  clear hEq
                  have x1 := (s6.box.cell 1).trans HC1.out
                  have hRg := s6.box.range
                  have hT := s6.out.there
                  obtain ⟨hH, hbF⟩ := s6.fin HL14.out
                  have hS14 := HS14.out
                  have hO1 := HO1.out
                  rw [show zeroL.length = L.toArray.size from by rw [List.size_toArray, HL14.out]; rfl] at hT
                  clear s6 x1
                  go_upto_region 27 with fail
                  go_wp2_with (first | (refine wpList_load_mid rfl 37 _ rfl w.heap.size 0 rfl L _ hRg Tryz.underlying37 rfl hS14 ?_) | (refine wpList_store_mid rfl 37 _ _ rfl (w.heap.size + 1) 0 _ rfl rfl hT hS14 hO1 ?_))
                  (try simp only [Exit.inBlock, Exit.then])
                  exact bodyPost_ret (results_cell_tmp2 Tryz.results45 rfl (loadL hH HL14.out)) rfl ⟨c, _, _, by rw [HCL.out]; rfl, HF.out, hbF⟩
                · by_cases h2 : c.f 11 ≤ c.f 10
                  · have g2 : decide (c.f 11 ≤ c.f 10) = true := decide_eq_true h2
                    clear h2
                    have HF := Lib.hid (show FOut l R c k 3 from ⟨hkl, by rw [← HR.out, cS_order HNO.out hEq (by rw [HXX.out, HY.out]; first | (simp only [g1, g2, Bool.or_true, Bool.true_and]; done) | (simp only [g1, g2, Bool.or_true, Bool.true_and]; rfl))]; exact ⟨rfl, rfl⟩⟩)
                    clear hEq
                    have x1 := (s6.box.cell 1).trans HC1.out
                    have hRg := s6.box.range
                    have hT := s6.out.there
                    obtain ⟨hH, hbF⟩ := s6.fin HL14.out
                    have hS14 := HS14.out
                    have hO1 := HO1.out
                    rw [show zeroL.length = L.toArray.size from by rw [List.size_toArray, HL14.out]; rfl] at hT
                    clear s6 x1
                    go_upto_region 26 with fail
                    go_wp2_with (first | (refine wpList_load_mid rfl 37 _ rfl w.heap.size 0 rfl L _ hRg Tryz.underlying37 rfl hS14 ?_) | (refine wpList_store_mid rfl 37 _ _ rfl (w.heap.size + 1) 0 _ rfl rfl hT hS14 hO1 ?_))
                    (try simp only [Exit.inBlock, Exit.then])
                    exact bodyPost_ret (results_cell_tmp2 Tryz.results45 rfl (loadL hH HL14.out)) rfl ⟨c, _, _, by rw [HCL.out]; rfl, HF.out, hbF⟩
                  · have g2 : decide (c.f 11 ≤ c.f 10) = false := decide_eq_false h2
                    clear h2
                    have HF := Lib.hid (show FOut l R c (k + 1) 0 from ⟨hkn, by rw [← HR.out, cS_ok HNO.out hEq (by rw [HXX.out, HY.out]; first | (simp only [g1, g2]; done) | (simp only [g1, g2]; rfl))]; exact ⟨rfl, rfl, by rw [List.drop_drop]⟩⟩)
                    clear hEq
                    have x1 := (s6.box.cell 1).trans HC1.out
                    have hRg := s6.box.range
                    have hT := s6.out.there
                    obtain ⟨hH, hbF⟩ := s6.fin HL14.out
                    have hS14 := HS14.out
                    have hO1 := HO1.out
                    rw [show zeroL.length = L.toArray.size from by rw [List.size_toArray, HL14.out]; rfl] at hT
                    clear s6 x1
                    go_upto_region 27 with fail
                    go_wp2_with (first | (refine wpList_load_mid rfl 37 _ rfl w.heap.size 0 rfl L _ hRg Tryz.underlying37 rfl hS14 ?_) | (refine wpList_store_mid rfl 37 _ _ rfl (w.heap.size + 1) 0 _ rfl rfl hT hS14 hO1 ?_))
                    (try simp only [Exit.inBlock, Exit.then])
                    exact bodyPost_ret (results_cell_tmp2 Tryz.results45 rfl (loadL hH HL14.out)) rfl ⟨c, _, _, by rw [HCL.out]; rfl, HF.out, hbF⟩
          · have HF := Lib.hid (show FOut l R c k 10 from ⟨hkl, by rw [← HR.out, cS_half HNO.out (by rw [HY.out, HZ.out]; exact hyz)]; exact ⟨rfl, rfl⟩⟩)
            have qyz : (y == z) = false := beq_false_of_ne hyz
            clear hyz
            have hRg := st.box.range
            have hT := st.out.there
            obtain ⟨hH, hbF⟩ := st.fin HL14.out
            have hS14 := HS14.out
            have hO1 := HO1.out
            rw [show zeroL.length = L.toArray.size from by rw [List.size_toArray, HL14.out]; rfl] at hT
            clear st x1
            go_wp2_with (first | (refine wpList_load_mid rfl 37 _ rfl w.heap.size 0 rfl L _ hRg Tryz.underlying37 rfl hS14 ?_) | (refine wpList_store_mid rfl 37 _ _ rfl (w.heap.size + 1) 0 _ rfl rfl hT hS14 hO1 ?_))
            (try simp only [Exit.inBlock, Exit.then])
            exact bodyPost_ret (results_cell_tmp2 Tryz.results45 rfl (loadL hH HL14.out)) rfl ⟨c, _, _, by rw [HCL.out]; rfl, HF.out, hbF⟩
    · have q4 : ((nth l k).kind != 4) = true := bne_iff_ne.2 k4
      generalize hL : chL c = L at *
      have HS14 := Lib.hid (show ((Tryz.prog).info? 37).map (·.size) = some L.toArray.size by rw [List.size_toArray, HL14.out]; exact size14)
      clear hL
      cases hfw : findW fieldW (wordT (nth l k)) with
      | none =>
        have HF := Lib.hid (show FOut l R c k 8 from ⟨hkl, by rw [← HRK.out, fS_none k4 hfw]; exact ⟨rfl, rfl⟩⟩)
        have HFW := Lib.hid hfw
        clear hfw k4
        have hfd := tok_kind (nth l k)
        unfold tokA at hg
        go_wp2_with fail
        refine (hg).mono ?_
        rintro e w1 ⟨rfl, hw1⟩
        have s1 := st.call hw1
        clear hw1
        go_wp2_with fail
        refine (words_any w1).mono ?_
        rintro e w2 ⟨vw, rfl, hvw, hw2⟩
        have s2 := s1.call hw2
        have hg2 := HG.out k w2 s2.below
        unfold tokA at hg2
        clear hw2 hg
        go_wp2_with fail
        refine hg2.mono ?_
        rintro e w3 ⟨rfl, hw3⟩
        have s3 := s2.call hw3
        have hvw3 := hvw.below hw3
        have hwt := rwordt_any (nth l k) w3
        unfold tokA at hwt
        clear hw3 hg2 hvw
        go_wp2_with fail
        refine hwt.mono ?_
        rintro e w4 ⟨rfl, hw4⟩
        have s4 := s3.call hw4
        have hfi := find_any fieldW vw (wordT (nth l k)) w4 (hvw3.below hw4) (by decide)
        rw [HFW.out] at hfi
        rw [show found none = -1 from rfl] at hfi
        clear hw4 hvw3 hwt s1 s2 s3
        go_wp2_with fail
        refine hfi.mono ?_
        rintro e w5 ⟨rfl, rfl⟩
        clear hfi
        have x1 := (s4.box.cell 1).trans HC1.out
        have hRg := s4.box.range
        have hT := s4.out.there
        obtain ⟨hH, hbF⟩ := s4.fin HL14.out
        have hS14 := HS14.out
        have hO1 := HO1.out
        rw [show zeroL.length = L.toArray.size from by rw [List.size_toArray, HL14.out]; rfl] at hT
        clear s4 x1
        go_wp2_with (first | (refine wpList_load_mid rfl 37 _ rfl w.heap.size 0 rfl L _ hRg Tryz.underlying37 rfl hS14 ?_) | (refine wpList_store_mid rfl 37 _ _ rfl (w.heap.size + 1) 0 _ rfl rfl hT hS14 hO1 ?_))
        (try simp only [Exit.inBlock, Exit.then])
        exact bodyPost_ret (results_cell_tmp2 Tryz.results45 rfl (loadL hH HL14.out)) rfl ⟨c, _, _, by rw [HCL.out]; rfl, HF.out, hbF⟩
      | some f =>
        have hkn := nth_word hfw
        have hf12 : f < 12 := (findW_some hfw).1
        have HFW := Lib.hid hfw
        have HK4 := Lib.hid k4
        have hma := fun W => may_any a f ha hf12 W
        obtain ⟨y, hy⟩ : ∃ y, mayB a f = y := ⟨_, rfl⟩
        rw [hy] at hma
        have HY := Lib.hid (show mayB c.ch f = y from by rw [HCH.out]; exact hy)
        have qn : decide ((f : Int) < 0) = false := decide_eq_false (by omega)
        clear hfw k4 hy
        have hfd := tok_kind (nth l k)
        unfold tokA at hg
        go_wp2_with fail
        refine (hg).mono ?_
        rintro e w1 ⟨rfl, hw1⟩
        have s1 := st.call hw1
        clear hw1
        go_wp2_with fail
        refine (words_any w1).mono ?_
        rintro e w2 ⟨vw, rfl, hvw, hw2⟩
        have s2 := s1.call hw2
        have hg2 := HG.out k w2 s2.below
        unfold tokA at hg2
        clear hw2 hg
        go_wp2_with fail
        refine hg2.mono ?_
        rintro e w3 ⟨rfl, hw3⟩
        have s3 := s2.call hw3
        have hvw3 := hvw.below hw3
        have hwt := rwordt_any (nth l k) w3
        unfold tokA at hwt
        clear hw3 hg2 hvw
        go_wp2_with fail
        refine hwt.mono ?_
        rintro e w4 ⟨rfl, hw4⟩
        have s4 := s3.call hw4
        have hfi := find_any fieldW vw (wordT (nth l k)) w4 (hvw3.below hw4) (by decide)
        rw [HFW.out] at hfi
        rw [show found (some f) = (f : Int) from rfl] at hfi
        clear hw4 hvw3 hwt s1 s2 s3
        go_wp2_with fail
        refine hfi.mono ?_
        rintro e w5 ⟨rfl, rfl⟩
        clear hfi
        have x1 := (s4.box.cell 1).trans HC1.out
        cases y
        · have HF := Lib.hid (show FOut l R c k 8 from ⟨hkl, by rw [← HRK.out, fS_may HK4.out HFW.out HY.out]; exact ⟨rfl, rfl⟩⟩)
          go_wp2_with fail
          refine (hma w4).mono ?_
          rintro e w6 ⟨rfl, hw6⟩
          have s6 := s4.call hw6
          clear hw6 hma s4 x1
          have x1 := (s6.box.cell 1).trans HC1.out
          have hRg := s6.box.range
          have hT := s6.out.there
          obtain ⟨hH, hbF⟩ := s6.fin HL14.out
          have hS14 := HS14.out
          have hO1 := HO1.out
          rw [show zeroL.length = L.toArray.size from by rw [List.size_toArray, HL14.out]; rfl] at hT
          clear s6 x1
          go_wp2_with (first | (refine wpList_load_mid rfl 37 _ rfl w.heap.size 0 rfl L _ hRg Tryz.underlying37 rfl hS14 ?_) | (refine wpList_store_mid rfl 37 _ _ rfl (w.heap.size + 1) 0 _ rfl rfl hT hS14 hO1 ?_))
          (try simp only [Exit.inBlock, Exit.then])
          exact bodyPost_ret (results_cell_tmp2 Tryz.results45 rfl (loadL hH HL14.out)) rfl ⟨c, _, _, by rw [HCL.out]; rfl, HF.out, hbF⟩
        · cases hmt : met f
          · have HMT := Lib.hid hmt
            go_wp2_with fail
            refine (hma w4).mono ?_
            rintro e w6 ⟨rfl, hw6⟩
            have s6 := s4.call hw6
            clear hw6 hma s4 x1
            have d9 := s6.cell f hf12
            rw [HMT.out] at d9
            have d9f := s6.met.frozen f
            have s7 := s6.mark f
            have hg1 := HG.out (k + 1) _ s7.below
            rw [show (((k + 1 : Nat)) : Int) = (k : Int) + 1 from rfl] at hg1
            unfold tokA at hg1
            clear hmt
            go_wp2_with fail
            refine hg1.mono ?_
            rintro e w8 ⟨rfl, hw8⟩
            have s8 := s7.call hw8
            clear hg1 hw8 s6 s7 d9 d9f
            have n8 := Has.new w8 [.int .i64 (nth l (k + 1)).kind, .string (bs (nth l (k + 1)).text), .int .i64 (nth l (k + 1)).num, .int .i64 (nth l (k + 1)).place] 55
            have s8a := s8.alloc (.cells #[.int .i64 (nth l (k + 1)).kind, .string (bs (nth l (k + 1)).text), .int .i64 (nth l (k + 1)).num, .int .i64 (nth l (k + 1)).place] 55)
            by_cases h2 : (nth l (k + 1)).kind = 2
            · have HK2 := Lib.hid h2
              have q2 : ((nth l (k + 1)).kind != 2) = false := by rw [h2]; rfl
              have hwi := fun W => within_any a f ha hf12 (nth l (k + 1)).num W
              obtain ⟨y, hy⟩ : ∃ y, withinB a f (nth l (k + 1)).num = y := ⟨_, rfl⟩
              rw [hy] at hwi
              have HW := Lib.hid (show withinB c.ch f (nth l (k + 1)).num = y from by rw [HCH.out]; exact hy)
              clear h2 hy
              have x1 := (s8a.box.cell 1).trans HC1.out
              cases y
              · have HF := Lib.hid (show FOut l R c (k + 1) 3 from ⟨by omega, by rw [← HRK.out, fS_range HK4.out HFW.out HY.out HMT.out HK2.out HW.out]; exact ⟨rfl, rfl⟩⟩)
                go_wp2_with fail
                refine (hwi _).mono ?_
                rintro e w9 ⟨rfl, hw9⟩
                have s9 := s8a.call hw9
                have n9 := n8.call hw9
                clear hw9 hwi s8 s8a n8 x1
                have x1 := (s9.box.cell 1).trans HC1.out
                have hRg := s9.box.range
                have hT := s9.out.there
                obtain ⟨hH, hbF⟩ := s9.fin HL14.out
                have hS14 := HS14.out
                have hO1 := HO1.out
                rw [show zeroL.length = L.toArray.size from by rw [List.size_toArray, HL14.out]; rfl] at hT
                clear s9 x1
                go_wp2_with (first | (refine wpList_load_mid rfl 37 _ rfl w.heap.size 0 rfl L _ hRg Tryz.underlying37 rfl hS14 ?_) | (refine wpList_store_mid rfl 37 _ _ rfl (w.heap.size + 1) 0 _ rfl rfl hT hS14 hO1 ?_))
                (try simp only [Exit.inBlock, Exit.then])
                exact bodyPost_ret (results_cell_tmp2 Tryz.results45 rfl (loadL hH HL14.out)) rfl ⟨c, _, _, by rw [HCL.out]; rfl, HF.out, hbF⟩
              · go_wp2_with fail
                refine (hwi _).mono ?_
                rintro e w9 ⟨rfl, hw9⟩
                have s9 := s8a.call hw9
                have n9 := n8.call hw9
                clear hw9 hwi s8 s8a n8 x1
                have hg2 := HG.out (k + 2) w9 s9.below
                rw [show (((k + 2 : Nat)) : Int) = (k : Int) + 2 from rfl] at hg2
                unfold tokA at hg2
                have hk1 : k + 1 < l.length := nth_len (by rw [HK2.out]; decide)
                have hfd2 := tok_kind (nth l (k + 2))
                go_wp2_with fail
                refine hg2.mono ?_
                rintro e w10 ⟨rfl, hw10⟩
                have s10 := s9.call hw10
                have n10 := n9.call hw10
                clear hg2 hw10 s9 n9
                by_cases h5 : (nth l (k + 2)).kind = 5
                · have q5 : ((nth l (k + 2)).kind != 5) = false := by rw [h5]; rfl
                  have hk2 : k + 2 < l.length := nth_len (by rw [h5]; decide)
                  have HN := Lib.hid (show fieldsS m (l.drop (k + 3)) (c.set f (nth l (k + 1)).num) (put met f) = R from by rw [← fS_next HK4.out HFW.out HY.out HMT.out HK2.out HW.out h5]; exact HRK.out)
                  have hse := HSET.out f (nth l (k + 1)).num w10
                  have e2 : w10.cell? ⟨w8.heap.size, 2, none⟩ = some (.int .i64 (nth l (k + 1)).num) := n10.cell 2
                  have hRg := s10.box.range
                  have hS14 := HS14.out
                  clear h5
                  go_wp2_with (refine wpList_load_mid rfl 37 _ rfl w.heap.size 0 rfl L _ hRg Tryz.underlying37 rfl hS14 ?_)
                  go_wp2_with fail
                  refine hse.mono ?_
                  rintro e w11 ⟨rfl, hw11⟩
                  have s11 := s10.call hw11
                  clear hse hw11 s10 n10 e2 hRg
                  have hLM := s11.put (chL (c.set f (nth l (k + 1)).num)) (by rw [HL14.out]; rfl)
                  have hT := s11.box.there
                  rw [show L.length = (chL (c.set f (nth l (k + 1)).num)).toArray.size from by rw [HL14.out]; rfl] at hT
                  have hO1 := chL_one (c.set f (nth l (k + 1)).num)
                  have hS14' : ((Tryz.prog).info? 37).map (·.size) = some (chL (c.set f (nth l (k + 1)).num)).toArray.size := size14
                  have HRL := Lib.hid (show FLoop l R a w (.int .i64 ((k : Int) + 3)) _ from ⟨m, k + 3, c.set f (nth l (k + 1)).num, put met f, by go_num, HN.out, by omega, by omega, HCA.out, hLM⟩)
                  generalize chL (c.set f (nth l (k + 1)).num) = M at *
                  clear s11 hLM
                  go_wp2_with (refine wpList_store_mid rfl 37 _ _ rfl w.heap.size 0 _ rfl rfl hT hS14' hO1 ?_)
                  go_wp2
                  go_roundw
                  case rel => exact HRL.out
                  case measure => simp [intOf]; omega
                · have q5 : ((nth l (k + 2)).kind != 5) = true := bne_iff_ne.2 h5
                  have HF := Lib.hid (show FOut l R c (k + 2) 8 from ⟨by omega, by rw [← HRK.out, fS_end HK4.out HFW.out HY.out HMT.out HK2.out HW.out h5]; exact ⟨rfl, rfl⟩⟩)
                  clear h5
                  have x1 := (s10.box.cell 1).trans HC1.out
                  have hRg := s10.box.range
                  have hT := s10.out.there
                  obtain ⟨hH, hbF⟩ := s10.fin HL14.out
                  have hS14 := HS14.out
                  have hO1 := HO1.out
                  rw [show zeroL.length = L.toArray.size from by rw [List.size_toArray, HL14.out]; rfl] at hT
                  clear s10 x1
                  go_wp2_with (first | (refine wpList_load_mid rfl 37 _ rfl w.heap.size 0 rfl L _ hRg Tryz.underlying37 rfl hS14 ?_) | (refine wpList_store_mid rfl 37 _ _ rfl (w.heap.size + 1) 0 _ rfl rfl hT hS14 hO1 ?_))
                  (try simp only [Exit.inBlock, Exit.then])
                  exact bodyPost_ret (results_cell_tmp2 Tryz.results45 rfl (loadL hH HL14.out)) rfl ⟨c, _, _, by rw [HCL.out]; rfl, HF.out, hbF⟩
            · have q2 : ((nth l (k + 1)).kind != 2) = true := bne_iff_ne.2 h2
              have HF := Lib.hid (show FOut l R c (k + 1) 8 from ⟨by omega, by rw [← HRK.out, fS_num HK4.out HFW.out HY.out HMT.out h2]; exact ⟨rfl, rfl⟩⟩)
              clear h2 s8 n8
              have x1 := (s8a.box.cell 1).trans HC1.out
              have hRg := s8a.box.range
              have hT := s8a.out.there
              obtain ⟨hH, hbF⟩ := s8a.fin HL14.out
              have hS14 := HS14.out
              have hO1 := HO1.out
              rw [show zeroL.length = L.toArray.size from by rw [List.size_toArray, HL14.out]; rfl] at hT
              clear s8a x1
              go_wp2_with (first | (refine wpList_load_mid rfl 37 _ rfl w.heap.size 0 rfl L _ hRg Tryz.underlying37 rfl hS14 ?_) | (refine wpList_store_mid rfl 37 _ _ rfl (w.heap.size + 1) 0 _ rfl rfl hT hS14 hO1 ?_))
              (try simp only [Exit.inBlock, Exit.then])
              exact bodyPost_ret (results_cell_tmp2 Tryz.results45 rfl (loadL hH HL14.out)) rfl ⟨c, _, _, by rw [HCL.out]; rfl, HF.out, hbF⟩
          · have HF := Lib.hid (show FOut l R c k 9 from ⟨hkl, by rw [← HRK.out, fS_twice HK4.out HFW.out HY.out hmt]; exact ⟨rfl, rfl⟩⟩)
            have HMT := Lib.hid hmt
            clear hmt
            go_wp2_with fail
            refine (hma w4).mono ?_
            rintro e w6 ⟨rfl, hw6⟩
            have s6 := s4.call hw6
            clear hw6 hma s4 x1
            have d9 := s6.cell f hf12
            rw [HMT.out] at d9
            have x1 := (s6.box.cell 1).trans HC1.out
            have hRg := s6.box.range
            have hT := s6.out.there
            obtain ⟨hH, hbF⟩ := s6.fin HL14.out
            have hS14 := HS14.out
            have hO1 := HO1.out
            rw [show zeroL.length = L.toArray.size from by rw [List.size_toArray, HL14.out]; rfl] at hT
            clear s6 x1
            go_wp2_with (first | (refine wpList_load_mid rfl 37 _ rfl w.heap.size 0 rfl L _ hRg Tryz.underlying37 rfl hS14 ?_) | (refine wpList_store_mid rfl 37 _ _ rfl (w.heap.size + 1) 0 _ rfl rfl hT hS14 hO1 ?_))
            (try simp only [Exit.inBlock, Exit.then])
            exact bodyPost_ret (results_cell_tmp2 Tryz.results45 rfl (loadL hH HL14.out)) rfl ⟨c, _, _, by rw [HCL.out]; rfl, HF.out, hbF⟩
end Go.Proofs.YtdimgomigidbkaaGreatDoor
/- The reference of stage 8: a channel, read. -/
namespace Go.Proofs.YtdimgomigidbkaaGreatDoor
open Go.RowKit

structure CSt (w : World) (L : List Value) (wr : World) : Prop where
  below : Below w.heap.size w wr
  out : Has wr w.heap.size zeroL 37
  box : Has wr (w.heap.size + 1) L 37
theorem CSt.call {w : World} {L : List Value} {wr wn : World} (h : CSt w L wr) (hb : Below wr.heap.size wr wn) : CSt w L wn :=
  ⟨h.below.trans (hb.mono h.below.size), h.out.call hb, h.box.call hb⟩
theorem CSt.alloc {w : World} {L : List Value} {wr : World} (h : CSt w L wr) (o : Obj) : CSt w L (wr.alloc o) := h.call ((Below.refl _ _).alloc (Nat.le_refl _) o)
theorem CSt.set {w : World} {L : List Value} {wr : World} (h : CSt w L wr) (j : Nat) (v : Value) : CSt w (L.set j v) (wr.setCell ⟨w.heap.size + 1, j, none⟩ v) :=
  ⟨h.below.setCell (p := ⟨w.heap.size + 1, j, none⟩) (Nat.le_succ _) _, h.out.other (by show w.heap.size ≠ w.heap.size + 1; omega) _, h.box.set j v⟩
theorem CSt.fin {w : World} {L M : List Value} {wr : World} (h : CSt w L wr) (hl : M.length = 14) : Has (wr.setCells w.heap.size 0 M) w.heap.size M 37 ∧ Below w.heap.size w (wr.setCells w.heap.size 0 M) :=
  ⟨h.out.sets M (by rw [hl]; rfl), Below.sets h.below (Nat.le_refl _) 0 M⟩
def CRel (cs : List Ch) (nm : List UInt8) (w : World) (L : List Value) (i : Value) (wr : World) : Prop :=
  ∃ j : Nat, j ≤ cs.length ∧ i = .int .i64 (j : Nat) ∧ (∀ i, i < j → (nthC cs i).name ≠ nm) ∧ CSt w L wr
section
variable {l : List Tok} {k : Nat} {cs : List Ch}
theorem cnS_word (h : wordT (nth l k) ≠ chanW) : channelS (l.drop k) cs = .error (l.drop k, 8) := by
  unfold channelS
  rw [hd_nth, if_pos h]
theorem cnS_four (h : wordT (nth l k) = chanW) (h4 : cs.length = 4) : channelS (l.drop k) cs = .error (l.drop k, 2) := by
  unfold channelS
  rw [hd_nth, if_neg (fun q => q h), if_pos h4]
theorem cnS_kind (h : wordT (nth l k) = chanW) (h4 : cs.length ≠ 4) (h1 : (nth l (k + 1)).kind ≠ 1) : channelS (l.drop k) cs = .error (l.drop (k + 1), 8) := by
  unfold channelS
  rw [hd_nth, if_neg (fun q => q h), if_neg h4, hdk, if_pos h1, List.drop_drop]
theorem cnS_twice (h : wordT (nth l k) = chanW) (h4 : cs.length ≠ 4) (h1 : (nth l (k + 1)).kind = 1) (h2 : (nth l (k + 1)).text ∈ cs.map Ch.name) : channelS (l.drop k) cs = .error (l.drop (k + 1), 9) := by
  unfold channelS
  rw [hd_nth, if_neg (fun q => q h), if_neg h4, hdk, if_neg (fun q => q h1), if_pos h2, List.drop_drop]
theorem cnS_chart (h : wordT (nth l k) = chanW) (h4 : cs.length ≠ 4) (h1 : (nth l (k + 1)).kind = 1) (h2 : (nth l (k + 1)).text ∉ cs.map Ch.name) (h3 : findW chartW (wordT (nth l (k + 2))) = none) : channelS (l.drop k) cs = .error (l.drop (k + 2), 8) := by
  unfold channelS
  rw [hd_nth, if_neg (fun q => q h), if_neg h4, hdk, if_neg (fun q => q h1), if_neg h2, hdk, h3, List.drop_drop]
theorem cnS_open {n : Nat} (h : wordT (nth l k) = chanW) (h4 : cs.length ≠ 4) (h1 : (nth l (k + 1)).kind = 1) (h2 : (nth l (k + 1)).text ∉ cs.map Ch.name) (h3 : findW chartW (wordT (nth l (k + 2))) = some n) (h5 : (nth l (k + 3)).kind ≠ 3) : channelS (l.drop k) cs = .error (l.drop (k + 3), 8) := by
  unfold channelS
  rw [hd_nth, if_neg (fun q => q h), if_neg h4, hdk, if_neg (fun q => q h1), if_neg h2, hdk, h3]
  dsimp only
  rw [hdk, if_pos h5, List.drop_drop]
theorem cnS_fields {n : Nat} (h : wordT (nth l k) = chanW) (h4 : cs.length ≠ 4) (h1 : (nth l (k + 1)).kind = 1) (h2 : (nth l (k + 1)).text ∉ cs.map Ch.name) (h3 : findW chartW (wordT (nth l (k + 2))) = some n) (h5 : (nth l (k + 3)).kind = 3) : channelS (l.drop k) cs = fieldsS (l.drop k).length (l.drop (k + 4)) (chan0 (nth l (k + 1)).text n) (fun _ => false) := by
  unfold channelS
  rw [hd_nth, if_neg (fun q => q h), if_neg h4, hdk, if_neg (fun q => q h1), if_neg h2, hdk, h3]
  dsimp only
  rw [hdk, if_neg (fun q => q h5), List.drop_drop]
theorem wchart_len {n : Nat} (h : findW chartW (wordT (nth l k)) = some n) : k < l.length := by
  refine nth_len fun e => ?_
  unfold wordT at h
  rw [if_neg (by rw [e]; decide), show findW chartW [63] = none by decide] at h
  cases h
theorem wchan_len (h : wordT (nth l k) = chanW) : k < l.length := by
  refine nth_len fun e => ?_
  unfold wordT at h
  rw [if_neg (by rw [e]; decide)] at h
  exact absurd h (by decide)
end
theorem chan_eq (s : List UInt8) (h : s = chanW) : ((bs s).toList == ([99, 104, 97, 110, 110, 101, 108] : List UInt8)) = true := by rw [bs_toList, h]; rfl
theorem chan_ne (s : List UInt8) (h : s ≠ chanW) : ((bs s).toList == ([99, 104, 97, 110, 110, 101, 108] : List UInt8)) = false := by rw [bs_toList]; exact beq_false_of_ne h
set_option linter.unusedSimpArgs false in
set_option maxHeartbeats 0 in
set_option maxRecDepth 100000 in
theorem rchannel_any (l : List Tok) (v va : Value) (k : Nat) (cs : List Ch) (w : World) (hm : l.length ≤ 100000) (hr : Reads w v l) (hc : ReadsC w va cs) (hk : k ≤ l.length) (hc4 : cs.length ≤ 4) :
    Calls Tryz.prog 21 #[v, .int .i64 (k : Nat), va] w fun e w' => ∃ c k' er, e = .returned (.tuple #[.agg (chL c).toArray, .int .i64 (k' : Nat), .int .i64 er]) ∧ FOut l (channelS (l.drop k) cs) c k' er ∧ Below w.heap.size w w' := by
  have hget := fun j W (hW : Below w.heap.size w W) => rget_any l v j W (hr.below hW)
  have HG := Lib.hid hget
  have HRD := Lib.hid (fun W (hW : Below w.heap.size w W) => hr.below hW)
  obtain ⟨a1, p1, rfl, hlc, hcm, hcc⟩ := hc
  unfold maxLen at hcm
  have HC := Lib.hid hcc
  obtain ⟨R, hR⟩ : ∃ R, channelS (l.drop k) cs = R := ⟨_, rfl⟩
  have HR := Lib.hid hR
  rw [hR]
  obtain ⟨n, hn⟩ : ∃ n, cs.length = n := ⟨_, rfl⟩
  have HN := Lib.hid hn
  rw [hn] at hlc hc4
  rw [hn]
  have st : CSt w (chL (⟨[], 0, fun _ => 0⟩ : Ch)) ((w.alloc (.cells zeroL.toArray 37)).alloc (.cells zeroL.toArray 37)) := by
    have h0 := Has.new w zeroL 37
    have h1 := Has.new (w.alloc (.cells zeroL.toArray 37)) zeroL 37
    rw [show (w.alloc (.cells zeroL.toArray 37)).heap.size = w.heap.size + 1 by simp] at h1
    exact ⟨((Below.refl _ w).alloc (Nat.le_refl _) _).alloc (by simp) _, h0.alloc _, h1⟩
  unfold zeroL at st
  have hg := HG.out k _ st.below
  unfold tokA at hg
  clear hget hcc hR hn
  go_enter Tryz.func21, Tryz.ntmps21
  go_wp2_with fail
  refine (hg).mono ?_
  rintro e w1 ⟨rfl, hw1⟩
  have s1 := st.call hw1
  clear hw1
  have hwt := rwordt_any (nth l k) w1
  unfold tokA at hwt
  clear hg st
  go_wp2_with fail
  refine (hwt).mono ?_
  rintro e w2 ⟨rfl, hw2⟩
  have s2 := s1.call hw2
  clear hw2
  clear hwt s1
  by_cases hw : wordT (nth l k) = chanW
  · have HW := Lib.hid hw
    have hkl := wchan_len hw
    have q1 := chan_eq _ hw
    clear hw
    by_cases h4 : n = 4
    · subst h4
      have HF := Lib.hid (show FOut l R (⟨[], 0, fun _ => 0⟩ : Ch) k 2 from ⟨hk, by rw [← HR.out, cnS_four HW.out HN.out]; exact ⟨rfl, rfl⟩⟩)
      have hRg := s2.box.range
      have hT := s2.out.there
      obtain ⟨hH, hbF⟩ := s2.fin (chL_len (⟨[], 0, fun _ => 0⟩ : Ch))
      clear s2
      go_wp2_with (first | (refine wpList_load_mid rfl 37 _ rfl (w.heap.size + 1) 0 rfl (chL (⟨[], 0, fun _ => 0⟩ : Ch)) _ hRg Tryz.underlying37 rfl size14 ?_) | (refine wpList_store_mid rfl 37 _ _ rfl w.heap.size 0 _ rfl rfl hT size14 (chL_one (⟨[], 0, fun _ => 0⟩ : Ch)) ?_))
      (try simp only [Exit.inBlock, Exit.then])
      exact bodyPost_ret (results_cell_tmp2 Tryz.results21 rfl (load14 (c := (⟨[], 0, fun _ => 0⟩ : Ch)) hH)) rfl ⟨(⟨[], 0, fun _ => 0⟩ : Ch), _, _, rfl, HF.out, hbF⟩
    · have q4 : ((n : Int) == 4) = false := beq_false_of_ne (by omega)
      have H4 := Lib.hid (show cs.length ≠ 4 by rw [HN.out]; exact h4)
      clear h4
      have hg := HG.out (k + 1) w2 s2.below
      rw [show (((k + 1 : Nat)) : Int) = (k : Int) + 1 from rfl] at hg
      have hfd := tok_kind (nth l (k + 1))
      unfold tokA at hg
      go_wp2_with fail
      refine (hg).mono ?_
      rintro e w3 ⟨rfl, hw3⟩
      have s3 := s2.call hw3
      clear hw3
      clear hg s2
      by_cases h1 : (nth l (k + 1)).kind = 1
      · have HK1 := Lib.hid h1
        have q5 : ((nth l (k + 1)).kind != 1) = false := by rw [h1]; rfl
        have hk1 : k + 1 < l.length := nth_len (by rw [h1]; decide)
        clear h1
        have hg := HG.out (k + 1) w3 s3.below
        rw [show (((k + 1 : Nat)) : Int) = (k : Int) + 1 from rfl] at hg
        have hft : ∀ W, (Instr.field 55 (.agg #[.int .i64 (nth l (k + 1)).kind, .string (bs (nth l (k + 1)).text), .int .i64 (nth l (k + 1)).num, .int .i64 (nth l (k + 1)).place]) 1).run Tryz.prog W = .ok (.string (bs (nth l (k + 1)).text)) W := fun W => by kernel_rfl
        unfold tokA at hg
        go_wp2_with fail
        refine (hg).mono ?_
        rintro e w4 ⟨rfl, hw4⟩
        have s4 := s3.call hw4
        clear hw4
        clear hg s3 hfd
        obtain ⟨nm, hnm⟩ : ∃ nm, (nth l (k + 1)).text = nm := ⟨_, rfl⟩
        rw [hnm] at hft ⊢
        have HNM := Lib.hid hnm
        clear hnm
        have f0 := s4.box.frozen 0
        have x0 : w4.cell? ⟨w.heap.size + 1, 0, none⟩ = some (.string ⟨#[]⟩) := s4.box.cell 0
        have s5 : CSt w (chL ⟨nm, 0, fun _ => 0⟩) _ := s4.set 0 (.string (bs nm))
        have hs5 : CRel cs nm w (chL ⟨nm, 0, fun _ => 0⟩) (.int .i64 0) _ := ⟨0, Nat.zero_le _, rfl, fun i hi => absurd hi (Nat.not_lt_zero _), s5⟩
        clear s4 s5
        go_wp2
        go_loopw [43] (CRel cs nm w (chL ⟨nm, 0, fun _ => 0⟩)) (fun i _ => n - (intOf i).toNat)
        case atStart => exact hs5
        case round =>
          obtain ⟨j, hj, rfl, hno, st⟩ := hrel
          rw [HN.out] at hj
          clear hs5 f0 x0
          have HNO := Lib.hid hno
          clear hno
          have y0 : wr.cell? ⟨w.heap.size + 1, 0, none⟩ = some (.string (bs nm)) := st.box.cell 0
          have hsz := st.below.size
          have hlb := st.box.lt
          by_cases hlj : j < n
          · obtain ⟨b, o, rfl, hlt, hd⟩ := HC.out j (by rw [HN.out]; exact hlj)
            obtain ⟨x0, x1, x2, x3, x4, x5, x6, x7, x8, x9, x10, x11, x12, x13⟩ := hd.below st.below hlt
            clear hd
            have sn := st.alloc (.cells (chL (nthC cs j)).toArray 37)
            have hq : (w.heap.size + 1 == wr.heap.size) = false := beq_false_of_ne (by omega)
            clear st
            obtain ⟨wo, hwo⟩ : ∃ wo : World, wo = wr := ⟨_, rfl⟩
            subst hwo
            by_cases he : (nthC cs j).name = nm
            · have HF := Lib.hid (show FOut l R ⟨nm, 0, fun _ => 0⟩ (k + 1) 9 from ⟨by omega, by rw [← HR.out, cnS_twice HW.out H4.out HK1.out (by rw [HNM.out, ← he]; exact List.mem_map_of_mem (by rw [nthC_get cs j (by rw [HN.out]; exact hlj)]; exact List.getElem_mem _))]; exact ⟨rfl, rfl⟩⟩)
              have q := name_eq _ _ he
              clear he
              have hRg := sn.box.range
              have hT := sn.out.there
              obtain ⟨hH, hbF⟩ := sn.fin (chL_len ⟨nm, 0, fun _ => 0⟩)
              clear sn
              go_upto_region 13 with fail
              go_wp2_with (first | (refine wpList_load_mid rfl 37 _ rfl (w.heap.size + 1) 0 rfl (chL ⟨nm, 0, fun _ => 0⟩) _ hRg Tryz.underlying37 rfl size14 ?_) | (refine wpList_store_mid rfl 37 _ _ rfl w.heap.size 0 _ rfl rfl hT size14 (chL_one ⟨nm, 0, fun _ => 0⟩) ?_))
              (try simp only [Exit.inBlock, Exit.then])
              exact bodyPost_ret (results_cell_tmp2 Tryz.results21 rfl (load14 (c := ⟨nm, 0, fun _ => 0⟩) hH)) rfl ⟨⟨nm, 0, fun _ => 0⟩, _, _, rfl, HF.out, hbF⟩
            · have HRn := Lib.hid (show CRel cs nm w (chL ⟨nm, 0, fun _ => 0⟩) (.int .i64 ((j + 1 : Nat) : Int)) _ from ⟨j + 1, by rw [HN.out]; exact hlj, rfl, fun i hi => by
                  by_cases c : i = j
                  · rw [c]; exact he
                  · exact HNO.out i (by omega), sn⟩)
              have q := name_ne _ _ he
              clear he sn
              go_wp2
              go_roundw
              case rel => exact HRn.out
              case measure => simp [intOf]; omega
          · obtain rfl : j = n := by omega
            have HNI := Lib.hid (show (nth l (k + 1)).text ∉ cs.map Ch.name from fun q => by
                obtain ⟨c, hc, e⟩ := List.mem_map.1 q
                obtain ⟨i, hi, rfl⟩ := List.getElem_of_mem hc
                exact HNO.out i (by rw [← HN.out]; exact hi) (by rw [nthC_get cs i hi, ← HNM.out]; exact e))
            clear HNO
            have hch := charts_any wr
            go_wp2_with fail
            refine hch.mono ?_
            rintro e w5 ⟨vw, rfl, hvw, hw5⟩
            have s5 := st.call hw5
            clear hch hw5 st y0
            have hg := HG.out (k + 2) w5 s5.below
            rw [show (((k + 2 : Nat)) : Int) = (k : Int) + 2 from rfl] at hg
            unfold tokA at hg
            go_wp2_with fail
            refine hg.mono ?_
            rintro e w6 ⟨rfl, hw6⟩
            have s6 := s5.call hw6
            have hvw6 := hvw.below hw6
            have hwt := rwordt_any (nth l (k + 2)) w6
            unfold tokA at hwt
            clear hw6 hg hvw s5
            go_wp2_with fail
            refine hwt.mono ?_
            rintro e w7 ⟨rfl, hw7⟩
            have s7 := s6.call hw7
            have hfi := find_any chartW vw (wordT (nth l (k + 2))) w7 (hvw6.below hw7) (by decide)
            clear hw7 hvw6 hwt s6
            cases hfw : findW chartW (wordT (nth l (k + 2))) with
            | none =>
              rw [hfw, show found none = -1 from rfl] at hfi
              have HF := Lib.hid (show FOut l R ⟨nm, 0, fun _ => 0⟩ (k + 2) 8 from ⟨by omega, by rw [← HR.out, cnS_chart HW.out H4.out HK1.out HNI.out hfw]; exact ⟨rfl, rfl⟩⟩)
              clear hfw
              go_wp2_with fail
              refine hfi.mono ?_
              rintro e w8 ⟨rfl, rfl⟩
              clear hfi
              have hRg := s7.box.range
              have hT := s7.out.there
              obtain ⟨hH, hbF⟩ := s7.fin (chL_len ⟨nm, 0, fun _ => 0⟩)
              clear s7
              go_wp2_with (first | (refine wpList_load_mid rfl 37 _ rfl (w.heap.size + 1) 0 rfl (chL ⟨nm, 0, fun _ => 0⟩) _ hRg Tryz.underlying37 rfl size14 ?_) | (refine wpList_store_mid rfl 37 _ _ rfl w.heap.size 0 _ rfl rfl hT size14 (chL_one ⟨nm, 0, fun _ => 0⟩) ?_))
              (try simp only [Exit.inBlock, Exit.then])
              exact bodyPost_ret (results_cell_tmp2 Tryz.results21 rfl (load14 (c := ⟨nm, 0, fun _ => 0⟩) hH)) rfl ⟨⟨nm, 0, fun _ => 0⟩, _, _, rfl, HF.out, hbF⟩
            | some f =>
              rw [hfw, show found (some f) = (f : Int) from rfl] at hfi
              have hf8 : f < 8 := (findW_some hfw).1
              have hk2 := wchart_len hfw
              have HFW := Lib.hid hfw
              have qn : decide ((f : Int) < 0) = false := decide_eq_false (by omega)
              clear hfw
              go_wp2_with fail
              refine hfi.mono ?_
              rintro e w8 ⟨rfl, rfl⟩
              clear hfi
              have x1 : w7.cell? ⟨w.heap.size + 1, 1, none⟩ = some (.int .i64 0) := s7.box.cell 1
              have f1 := s7.box.frozen 1
              have s8 : CSt w (chL (chan0 nm f)) _ := s7.set 1 (.int .i64 (f : Int))
              have hg := HG.out (k + 3) _ s8.below
              rw [show (((k + 3 : Nat)) : Int) = (k : Int) + 3 from rfl] at hg
              have hfd := tok_kind (nth l (k + 3))
              unfold tokA at hg
              clear s7
              go_wp2_with fail
              refine (hg).mono ?_
              rintro e w9 ⟨rfl, hw9⟩
              have s9 := s8.call hw9
              clear hw9
              clear hg s8 x1 f1
              by_cases h3 : (nth l (k + 3)).kind = 3
              · have q6 : ((nth l (k + 3)).kind != 3) = false := by rw [h3]; rfl
                have hk3 : k + 3 < l.length := nth_len (by rw [h3]; decide)
                have HFS := Lib.hid (cnS_fields HW.out H4.out HK1.out HNI.out HFW.out h3)
                have hfl := rfields_any l v (k + 4) (l.drop k).length f (chan0 nm f) w9 hm (HRD.out _ s9.below) hf8 rfl (by omega) (by rw [List.length_drop]; omega)
                rw [← HNM.out, ← HFS.out, HR.out, HNM.out] at hfl
                have hfl2 : Calls Tryz.prog 45 #[v, .int .i64 ((k : Int) + 4), .agg (chL (chan0 nm f)).toArray] w9 fun e w' => ∃ c k er, e = .returned (.tuple #[.agg (chL c).toArray, .int .i64 (k : Nat), .int .i64 er]) ∧ FOut l R c k er ∧ Below w9.heap.size w9 w' := hfl
                clear hfl h3
                have hRg := s9.box.range
                go_wp2_with (refine wpList_load_mid rfl 37 _ rfl (w.heap.size + 1) 0 rfl (chL (chan0 nm f)) _ hRg Tryz.underlying37 rfl size14 ?_)
                refine hfl2.mono ?_
                rintro e w10 ⟨c', k', er, rfl, hFO, hw10⟩
                have s10 := s9.call hw10
                have HFO := Lib.hid hFO
                have hT := s10.out.there
                obtain ⟨hH, hbF⟩ := s10.fin (chL_len c')
                clear s9 s10 hw10 hfl2 hRg hFO
                go_wp2_with (refine wpList_store_mid rfl 37 _ _ rfl w.heap.size 0 _ rfl rfl hT size14 (chL_one c') ?_)
                (try simp only [Exit.inBlock, Exit.then])
                exact bodyPost_ret (results_cell_tmp2 Tryz.results21 rfl (load14 (c := c') hH)) rfl ⟨c', _, _, rfl, HFO.out, hbF⟩
              · have q6 : ((nth l (k + 3)).kind != 3) = true := bne_iff_ne.2 h3
                have HF := Lib.hid (show FOut l R (chan0 nm f) (k + 3) 8 from ⟨by omega, by rw [← HR.out, cnS_open HW.out H4.out HK1.out HNI.out HFW.out h3]; exact ⟨rfl, rfl⟩⟩)
                clear h3
                have hRg := s9.box.range
                have hT := s9.out.there
                obtain ⟨hH, hbF⟩ := s9.fin (chL_len (chan0 nm f))
                clear s9
                go_wp2_with (first | (refine wpList_load_mid rfl 37 _ rfl (w.heap.size + 1) 0 rfl (chL (chan0 nm f)) _ hRg Tryz.underlying37 rfl size14 ?_) | (refine wpList_store_mid rfl 37 _ _ rfl w.heap.size 0 _ rfl rfl hT size14 (chL_one (chan0 nm f)) ?_))
                (try simp only [Exit.inBlock, Exit.then])
                exact bodyPost_ret (results_cell_tmp2 Tryz.results21 rfl (load14 (c := (chan0 nm f)) hH)) rfl ⟨(chan0 nm f), _, _, rfl, HF.out, hbF⟩
      · have q5 : ((nth l (k + 1)).kind != 1) = true := bne_iff_ne.2 h1
        have HF := Lib.hid (show FOut l R (⟨[], 0, fun _ => 0⟩ : Ch) (k + 1) 8 from ⟨by omega, by rw [← HR.out, cnS_kind HW.out H4.out h1]; exact ⟨rfl, rfl⟩⟩)
        clear h1
        have hRg := s3.box.range
        have hT := s3.out.there
        obtain ⟨hH, hbF⟩ := s3.fin (chL_len (⟨[], 0, fun _ => 0⟩ : Ch))
        clear s3
        go_wp2_with (first | (refine wpList_load_mid rfl 37 _ rfl (w.heap.size + 1) 0 rfl (chL (⟨[], 0, fun _ => 0⟩ : Ch)) _ hRg Tryz.underlying37 rfl size14 ?_) | (refine wpList_store_mid rfl 37 _ _ rfl w.heap.size 0 _ rfl rfl hT size14 (chL_one (⟨[], 0, fun _ => 0⟩ : Ch)) ?_))
        (try simp only [Exit.inBlock, Exit.then])
        exact bodyPost_ret (results_cell_tmp2 Tryz.results21 rfl (load14 (c := (⟨[], 0, fun _ => 0⟩ : Ch)) hH)) rfl ⟨(⟨[], 0, fun _ => 0⟩ : Ch), _, _, rfl, HF.out, hbF⟩
  · have q1 := chan_ne _ hw
    have HF := Lib.hid (show FOut l R (⟨[], 0, fun _ => 0⟩ : Ch) k 8 from ⟨hk, by rw [← HR.out, cnS_word hw]; exact ⟨rfl, rfl⟩⟩)
    clear hw
    have hRg := s2.box.range
    have hT := s2.out.there
    obtain ⟨hH, hbF⟩ := s2.fin (chL_len (⟨[], 0, fun _ => 0⟩ : Ch))
    clear s2
    go_wp2_with (first | (refine wpList_load_mid rfl 37 _ rfl (w.heap.size + 1) 0 rfl (chL (⟨[], 0, fun _ => 0⟩ : Ch)) _ hRg Tryz.underlying37 rfl size14 ?_) | (refine wpList_store_mid rfl 37 _ _ rfl w.heap.size 0 _ rfl rfl hT size14 (chL_one (⟨[], 0, fun _ => 0⟩ : Ch)) ?_))
    (try simp only [Exit.inBlock, Exit.then])
    exact bodyPost_ret (results_cell_tmp2 Tryz.results21 rfl (load14 (c := (⟨[], 0, fun _ => 0⟩ : Ch)) hH)) rfl ⟨(⟨[], 0, fun _ => 0⟩ : Ch), _, _, rfl, HF.out, hbF⟩
end Go.Proofs.YtdimgomigidbkaaGreatDoor
/- The reference of stage 8: a text, read. -/
namespace Go.Proofs.YtdimgomigidbkaaGreatDoor
open Go.RowKit

structure PaP (X : Except (List Tok × Int) (List Ch)) (ts : List Tok) (k : Nat) (cs : List Ch) (f : Nat) : Prop where
  eq : X = parseS f (ts.drop k) cs
  lf : ts.length - k < f
  kl : k ≤ ts.length
  l4 : cs.length ≤ 4
  rt : ∀ t ∈ ts, t.right
theorem PaP.done {X : Except (List Tok × Int) (List Ch)} {ts : List Tok} {k : Nat} {cs : List Ch} {f : Nat} (h : PaP X ts k cs f) (hk : ¬ k < ts.length) (hc : cs ≠ []) : X = .ok cs := by
  obtain ⟨g, rfl⟩ : ∃ g, f = g + 1 := ⟨f - 1, by have := h.lf; omega⟩
  rw [h.eq]
  unfold parseS
  rw [if_pos ⟨List.drop_eq_nil_of_le (by omega), hc⟩]
theorem PaP.step {X : Except (List Tok × Int) (List Ch)} {ts : List Tok} {k : Nat} {cs : List Ch} {f : Nat} (h : PaP X ts k cs f) (hc : ¬ (¬ k < ts.length ∧ cs ≠ [])) {c : Ch} {k' : Nat} {er : Int} (hF : FOut ts (channelS (ts.drop k) cs) c k' er) :
    (er ≠ 0 ∧ X = .error (ts.drop k', er)) ∨ (er = 0 ∧ k < k' ∧ PaP X ts k' (cs ++ [c]) (f - 1)) := by
  obtain ⟨g, rfl⟩ : ∃ g, f = g + 1 := ⟨f - 1, by have := h.lf; omega⟩
  have e := h.eq
  unfold parseS at e
  rw [if_neg (fun q => hc ⟨fun hk => by have := List.drop_eq_nil_iff.1 q.1; omega, q.2⟩)] at e
  obtain ⟨h1, h2⟩ := hF
  cases q : channelS (ts.drop k) cs with
  | error x =>
    obtain ⟨s, er'⟩ := x
    rw [q] at e h2
    obtain ⟨rfl, rfl⟩ := h2
    exact Or.inl ⟨(channel_bad q).1, e⟩
  | ok x =>
    obtain ⟨c', r⟩ := x
    rw [q] at e h2
    obtain ⟨rfl, rfl, rfl⟩ := h2
    obtain ⟨-, -, -, i4, j, i5, i6, i7⟩ := channel_may q (fun t ht => h.rt t (List.mem_of_mem_drop ht))
    have h4 := h.l4
    have hf := h.lf
    have hk := h.kl
    have hl := congrArg List.length i7
    rw [List.length_drop, List.length_drop, List.length_drop] at hl
    rw [List.length_drop] at i6
    exact Or.inr ⟨rfl, by omega, ⟨e, by omega, h1, by rw [List.length_append]; simp; omega, h.rt⟩⟩
theorem place_in {ts : List Tok} {k n : Nat} (h : k < ts.length) : placeOf n (ts.drop k) = (nth ts k).place := by
  unfold placeOf
  rw [if_neg (fun q => by have := List.drop_eq_nil_iff.1 q; omega), hd_nth]
theorem place_out {ts : List Tok} {k n : Nat} (h : ¬ k < ts.length) : placeOf n (ts.drop k) = (n : Int) := by
  unfold placeOf
  rw [if_pos (List.drop_eq_nil_of_le (by omega))]
theorem CRow.made (w : World) : CRow w.heap.size (.slice (some ⟨w.heap.size, 0, none⟩) 0 0) [] (w.alloc (.cells #[] 37)) := World.ownsRow_made w #[] 0 (Nat.le_refl _) (Nat.zero_le _) rfl
def PaRel (X : Except (List Tok × Int) (List Ch)) (ts : List Tok) (w : World) (v i : Value) (wr : World) : Prop :=
  ∃ k cs f, i = .int .i64 (k : Nat) ∧ PaP X ts k cs f ∧ CRow w.heap.size v cs wr ∧ Below w.heap.size w wr
theorem Below.grow {B : Nat} {x y z : World} {row : Option Nat} (h : Below B x y) (g : y.grownBy z row) (hB : B ≤ y.heap.size) (hr : ∀ j, row = some j → B ≤ j) : Below B x z :=
  ⟨g.os.trans h.os, g.tape.trans h.tape, g.output.trans h.output, Nat.le_trans h.size g.size, fun k hk => (g.block k (by omega) (fun e => by have := hr k e.symm; omega)).trans (h.block k hk)⟩
set_option linter.unusedSimpArgs false in
set_option maxHeartbeats 0 in
set_option maxRecDepth 100000 in
theorem rparse_any (l : List UInt8) (w : World) : Calls Tryz.prog 9 #[.string (bs l)] w (ParseEnd l w) := by
  have hs := bs_size l
  have hz := Has.new w [.slice none 0 0] 24
  have hB := (Below.refl w.heap.size w).alloc (Nat.le_refl _) (.cells #[.slice none 0 0] 24)
  have hsc := rscan_ans l (w.alloc (.cells #[.slice none 0 0] 24))
  have hst := (scan_ans_told l).2
  have hal := ans_len l
  unfold ParseEnd
  by_cases hc : (scanAns l).2.1 ≠ 0
  · rw [parse_scan hc]
    unfold Ans at hsc
    have hc2 : ((scanAns l).2.1 != 0) = true := bne_iff_ne.2 hc
    generalize (scanAns l).2.1 = er at *
    generalize (scanAns l).1 = pl at *
    clear hst hc hal
    go_enter Tryz.func9, Tryz.ntmps9
    go_wp2_with fail
    refine hsc.mono ?_
    rintro e w2 ⟨v, rfl, hrd, k2⟩
    have hz2 := hz.call k2
    have hB2 := hB.trans (k2.mono hB.size)
    have c0 : w2.cell? ⟨w.heap.size, 0, none⟩ = some (.slice none 0 0) := hz2.cell 0
    have f0 : w2.frozen? ⟨w.heap.size, 0, none⟩ = false := hz2.frozen 0
    have hz3 := hz2.set 0 (.slice none 0 0)
    have hB3 := hB2.setCell (p := ⟨w.heap.size, 0, none⟩) (Nat.le_refl _) (.slice none 0 0)
    clear hsc hrd k2 hz hB hz2 hB2
    go_wp2
    exact bodyPost_ret (results_cell_tmp2 Tryz.results9 rfl (load1 hz3)) rfl ⟨_, rfl, CRow.nil _ _, hB3⟩
  · have hc0 : (scanAns l).2.1 = 0 := Decidable.of_not_not hc
    obtain ⟨-, -, hrt⟩ := hst hc0
    have hPe := Lib.hid (fun s er => parse_err (s := s) (er := er) hc0)
    have hPf := Lib.hid (fun cs => parse_fine (cs := cs) hc0)
    unfold Ans at hsc
    rw [hc0] at hsc
    have HP := Lib.hid (show PaP (parseS ((scanAns l).2.2.length + 1) (scanAns l).2.2 []) (scanAns l).2.2 0 [] ((scanAns l).2.2.length + 1) from ⟨by rw [List.drop_zero], by omega, Nat.zero_le _, Nat.zero_le _, fun t ht => (hrt t ht).1⟩)
    generalize parseS ((scanAns l).2.2.length + 1) (scanAns l).2.2 [] = X at *
    generalize (scanAns l).2.2 = ts at *
    generalize (scanAns l).1 = pl at *
    generalize parseAns l = PA at *
    clear hst hc hc0 hrt
    obtain ⟨i0, hi, hz0, hz1, hz2⟩ := info_parts infoChan
    go_enter Tryz.func9, Tryz.ntmps9
    go_wp2_with fail
    refine hsc.mono ?_
    rintro e w2 ⟨v, rfl, hrd, k2⟩
    have hz2' := hz.call k2
    have hs2 := k2.size
    rw [show (w.alloc (.cells #[.slice none 0 0] 24)).heap.size = w.heap.size + 1 by simp] at hs2
    have hB2 := hB.trans (k2.mono hB.size)
    have hC3 := CRow.made w2
    have hb3 := (Below.refl w2.heap.size w2).alloc (Nat.le_refl _) (.cells #[] 37)
    have HRD := Lib.hid (show ∀ W, Below w2.heap.size w2 W → Reads W v ts from fun W h => hrd.below h)
    have HZ := Lib.hid (show ∀ W, Below w2.heap.size w2 W → Has W w.heap.size [.slice none 0 0] 24 from fun W h => hz2'.call h)
    have HBB := Lib.hid (show ∀ W, Below w2.heap.size w2 W → Below w.heap.size w W from fun W h => hB2.trans (h.mono (by omega)))
    have hst0 : PaRel X ts w2 (.slice (some ⟨w2.heap.size, 0, none⟩) 0 0) (.int .i64 0) _ := ⟨0, [], _, rfl, HP.out, hC3, hb3⟩
    obtain ⟨at', tc, rfl, ht1, ht2, ht3⟩ := hrd
    unfold maxLen at ht2
    have HT := Lib.hid ht3
    clear hsc hz hB k2 hz2' hB2 hC3 hb3 HP ht3
    go_wp2
    go_loopw [8, 9] (PaRel X ts w2) (fun _ i _ => ts.length - (intOf i).toNat)
    case atStart => exact hst0
    case round =>
      obtain ⟨k, cs, fx, rfl, HQ, hCR, hBr⟩ := hrel
      clear hst0
      have hwsz := hBr.size
      have hkl := HQ.kl
      have hl4 := HQ.l4
      have hle := hCR.reads
      have hch := rchannel_any ts _ _ k cs wr (by omega) (HRD.out wr hBr) hle hkl hl4
      obtain ⟨a2, cap2, hv4, q3, q4, -⟩ := hle
      unfold maxLen at q4
      by_cases hdn : ¬ k < ts.length ∧ cs ≠ []
      · obtain ⟨hk1, hk2⟩ := hdn
        have HX := HQ.done hk1 hk2
        have hp : 0 < cs.length := List.length_pos_iff.2 hk2
        have hce : (((cs.length : Nat) : Int) == 0) = false := beq_false_of_ne (by omega)
        have hz5 := HZ.out wr hBr
        have c0 : wr.cell? ⟨w.heap.size, 0, none⟩ = some (.slice none 0 0) := hz5.cell 0
        have f0 : wr.frozen? ⟨w.heap.size, 0, none⟩ = false := hz5.frozen 0
        have hPA := hPf.out cs HX
        subst hPA
        have hz6 := hz5.set 0 u8
        have hB6 := (HBB.out wr hBr).setCell (p := ⟨w.heap.size, 0, none⟩) (Nat.le_refl _) u8
        have hC6 := (hCR.kept (WB.set (b := w.heap.size) wr 0 u8) (by omega)).weak (B' := w.heap.size) (by omega)
        subst hv4
        clear HQ hch hCR hBr hk2 hz5
        go_wp2
        exact bodyPost_ret (results_cell_tmp2 Tryz.results9 rfl (load1 hz6)) rfl ⟨_, rfl, hC6, hB6⟩
      · have hcase : k < ts.length ∨ (¬ k < ts.length ∧ (((cs.length : Nat) : Int) == 0) = true) := by
          by_cases hk : k < ts.length
          · exact Or.inl hk
          · refine Or.inr ⟨hk, ?_⟩
            cases cs with
            | nil => rfl
            | cons c r => exact absurd ⟨hk, by simp⟩ hdn
        have HST := Lib.hid (fun c k' er h => HQ.step hdn (c := c) (k' := k') (er := er) h)
        clear HQ hdn
        rcases hcase with hk | ⟨hk, hce⟩
        · have hch2 : Calls Tryz.prog 21 #[.slice at' ts.length tc, .int .i64 (k : Nat), u8] wr (fun e w' => ∃ c k' er, e = .returned (.tuple #[.agg #[.string (bs c.name), .int .i64 c.chart, .int .i64 (c.f 0), .int .i64 (c.f 1), .int .i64 (c.f 2), .int .i64 (c.f 3), .int .i64 (c.f 4), .int .i64 (c.f 5), .int .i64 (c.f 6), .int .i64 (c.f 7), .int .i64 (c.f 8), .int .i64 (c.f 9), .int .i64 (c.f 10), .int .i64 (c.f 11)], .int .i64 (k' : Nat), .int .i64 er]) ∧ FOut ts (channelS (ts.drop k) cs) c k' er ∧ Below wr.heap.size wr w') := hch
          clear hch
          subst hv4
          go_wp2_with fail
          refine hch2.mono ?_
          rintro e w4 ⟨c, k', er, rfl, hFO, k4⟩
          have hkl' := hFO.1
          have hs4 := k4.size
          have hB4 := hBr.trans (k4.mono (by omega))
          have hC4 := hCR.below k4
          have HWAY := HST.out c k' er hFO
          have hb5 := (Below.refl w4.heap.size w4).alloc (Nat.le_refl _) (.cells #[.string (bs c.name), .int .i64 c.chart, .int .i64 (c.f 0), .int .i64 (c.f 1), .int .i64 (c.f 2), .int .i64 (c.f 3), .int .i64 (c.f 4), .int .i64 (c.f 5), .int .i64 (c.f 6), .int .i64 (c.f 7), .int .i64 (c.f 8), .int .i64 (c.f 9), .int .i64 (c.f 10), .int .i64 (c.f 11)] 37)
          have hs5 : (w4.alloc (.cells #[.string (bs c.name), .int .i64 c.chart, .int .i64 (c.f 0), .int .i64 (c.f 1), .int .i64 (c.f 2), .int .i64 (c.f 3), .int .i64 (c.f 4), .int .i64 (c.f 5), .int .i64 (c.f 6), .int .i64 (c.f 7), .int .i64 (c.f 8), .int .i64 (c.f 9), .int .i64 (c.f 10), .int .i64 (c.f 11)] 37)).heap.size = w4.heap.size + 1 := by simp
          have hB5 := hB4.trans (hb5.mono (by omega))
          have hC5 := hC4.below hb5
          clear hch2 hFO HST k4 hb5 hCR hBr hB4 hC4
          rcases HWAY with ⟨her, hX⟩ | ⟨her, hkk, HQ⟩
          · have hPA := hPe.out _ _ hX
            have qer : (er != 0) = true := bne_iff_ne.2 her
            have hz5 := HZ.out _ hB5
            have c0 : (w4.alloc (.cells #[.string (bs c.name), .int .i64 c.chart, .int .i64 (c.f 0), .int .i64 (c.f 1), .int .i64 (c.f 2), .int .i64 (c.f 3), .int .i64 (c.f 4), .int .i64 (c.f 5), .int .i64 (c.f 6), .int .i64 (c.f 7), .int .i64 (c.f 8), .int .i64 (c.f 9), .int .i64 (c.f 10), .int .i64 (c.f 11)] 37)).cell? ⟨w.heap.size, 0, none⟩ = some (.slice none 0 0) := hz5.cell 0
            have f0 : (w4.alloc (.cells #[.string (bs c.name), .int .i64 c.chart, .int .i64 (c.f 0), .int .i64 (c.f 1), .int .i64 (c.f 2), .int .i64 (c.f 3), .int .i64 (c.f 4), .int .i64 (c.f 5), .int .i64 (c.f 6), .int .i64 (c.f 7), .int .i64 (c.f 8), .int .i64 (c.f 9), .int .i64 (c.f 10), .int .i64 (c.f 11)] 37)).frozen? ⟨w.heap.size, 0, none⟩ = false := hz5.frozen 0
            have hz6 := hz5.set 0 (.slice none 0 0)
            have hB6 := (HBB.out _ hB5).setCell (p := ⟨w.heap.size, 0, none⟩) (Nat.le_refl _) (.slice none 0 0)
            by_cases hk' : k' < ts.length
            · rw [place_in hk'] at hPA
              subst hPA
              obtain ⟨tb, to', rfl, htl, htk⟩ := HT.out k' hk'
              have t3 := (htk.below hB5 htl).c3
              clear HT htk hC5 hB5 hz5
              go_wp2
              exact bodyPost_ret (results_cell_tmp2 Tryz.results9 rfl (load1 hz6)) rfl ⟨_, rfl, CRow.nil _ _, hB6⟩
            · rw [place_out hk'] at hPA
              subst hPA
              clear HT hC5 hB5 hz5
              go_wp2
              exact bodyPost_ret (results_cell_tmp2 Tryz.results9 rfl (load1 hz6)) rfl ⟨_, rfl, CRow.nil _ _, hB6⟩
          · subst her
            have hb6 := (Below.refl (w4.alloc (.cells #[.string (bs c.name), .int .i64 c.chart, .int .i64 (c.f 0), .int .i64 (c.f 1), .int .i64 (c.f 2), .int .i64 (c.f 3), .int .i64 (c.f 4), .int .i64 (c.f 5), .int .i64 (c.f 6), .int .i64 (c.f 7), .int .i64 (c.f 8), .int .i64 (c.f 9), .int .i64 (c.f 10), .int .i64 (c.f 11)] 37)).heap.size (w4.alloc (.cells #[.string (bs c.name), .int .i64 c.chart, .int .i64 (c.f 0), .int .i64 (c.f 1), .int .i64 (c.f 2), .int .i64 (c.f 3), .int .i64 (c.f 4), .int .i64 (c.f 5), .int .i64 (c.f 6), .int .i64 (c.f 7), .int .i64 (c.f 8), .int .i64 (c.f 9), .int .i64 (c.f 10), .int .i64 (c.f 11)] 37))).alloc (Nat.le_refl _) (.cells #[.string (bs c.name), .int .i64 c.chart, .int .i64 (c.f 0), .int .i64 (c.f 1), .int .i64 (c.f 2), .int .i64 (c.f 3), .int .i64 (c.f 4), .int .i64 (c.f 5), .int .i64 (c.f 6), .int .i64 (c.f 7), .int .i64 (c.f 8), .int .i64 (c.f 9), .int .i64 (c.f 10), .int .i64 (c.f 11)] 37)
            have hs6 : ((w4.alloc (.cells #[.string (bs c.name), .int .i64 c.chart, .int .i64 (c.f 0), .int .i64 (c.f 1), .int .i64 (c.f 2), .int .i64 (c.f 3), .int .i64 (c.f 4), .int .i64 (c.f 5), .int .i64 (c.f 6), .int .i64 (c.f 7), .int .i64 (c.f 8), .int .i64 (c.f 9), .int .i64 (c.f 10), .int .i64 (c.f 11)] 37)).alloc (.cells #[.string (bs c.name), .int .i64 c.chart, .int .i64 (c.f 0), .int .i64 (c.f 1), .int .i64 (c.f 2), .int .i64 (c.f 3), .int .i64 (c.f 4), .int .i64 (c.f 5), .int .i64 (c.f 6), .int .i64 (c.f 7), .int .i64 (c.f 8), .int .i64 (c.f 9), .int .i64 (c.f 10), .int .i64 (c.f 11)] 37)).heap.size = w4.heap.size + 2 := by simp
            have hB6 := hB5.trans (hb6.mono (by omega))
            have hC6 := hC5.below hb6
            have HQ := Lib.hid HQ
            clear hb6 hB5 hC5
            go_wp2_with (at_builtin; refine wpList_append_own _ rfl _ _ 22 rfl w2.heap.size 37 i0 (.agg zeroL.toArray) 14 120 Tryz.underlying22 hi hz0 hz1 hz2 rfl (by decide) _ _ _ rfl hC6 ⟨w4.heap.size + 1, 0, none⟩ 1 1 (chL c) rfl rfl ?c1 ?c2 ?c3 ?c4 ?c5 ?_)
            case c1 => exact fun j u hj => ch_at _ c (by simp) 37 j u hj
            case c2 => exact chL_ones c
            case c3 => unfold maxLen; omega
            case c4 => omega
            case c5 => rw [hs6]; omega
            intro v2 w8 hown hgrow _
            have hr8 := fun j hj => (World.ownsRow.lt hC6 j hj).1
            have hB8 := Below.grow hB6 hgrow (by rw [hs6]; omega) hr8
            have hC8 := CRow.snoc hown
            have HR := Lib.hid (show PaRel X ts w2 v2 (.int .i64 (k' : Nat)) w8 from ⟨k', _, _, rfl, HQ.out, hC8, hB8⟩)
            clear hown hgrow hC6 hB6 hr8 hB8 hC8
            go_wp2
            go_roundw
            case rel => exact HR.out
            case measure => simp [intOf]; omega
        · have hch2 : Calls Tryz.prog 21 #[.slice at' ts.length tc, .int .i64 (k : Nat), u8] wr (fun e w' => ∃ c k' er, e = .returned (.tuple #[.agg #[.string (bs c.name), .int .i64 c.chart, .int .i64 (c.f 0), .int .i64 (c.f 1), .int .i64 (c.f 2), .int .i64 (c.f 3), .int .i64 (c.f 4), .int .i64 (c.f 5), .int .i64 (c.f 6), .int .i64 (c.f 7), .int .i64 (c.f 8), .int .i64 (c.f 9), .int .i64 (c.f 10), .int .i64 (c.f 11)], .int .i64 (k' : Nat), .int .i64 er]) ∧ FOut ts (channelS (ts.drop k) cs) c k' er ∧ Below wr.heap.size wr w') := hch
          clear hch
          subst hv4
          go_wp2_with fail
          refine hch2.mono ?_
          rintro e w4 ⟨c, k', er, rfl, hFO, k4⟩
          have hkl' := hFO.1
          have hs4 := k4.size
          have hB4 := hBr.trans (k4.mono (by omega))
          have hC4 := hCR.below k4
          have HWAY := HST.out c k' er hFO
          have hb5 := (Below.refl w4.heap.size w4).alloc (Nat.le_refl _) (.cells #[.string (bs c.name), .int .i64 c.chart, .int .i64 (c.f 0), .int .i64 (c.f 1), .int .i64 (c.f 2), .int .i64 (c.f 3), .int .i64 (c.f 4), .int .i64 (c.f 5), .int .i64 (c.f 6), .int .i64 (c.f 7), .int .i64 (c.f 8), .int .i64 (c.f 9), .int .i64 (c.f 10), .int .i64 (c.f 11)] 37)
          have hs5 : (w4.alloc (.cells #[.string (bs c.name), .int .i64 c.chart, .int .i64 (c.f 0), .int .i64 (c.f 1), .int .i64 (c.f 2), .int .i64 (c.f 3), .int .i64 (c.f 4), .int .i64 (c.f 5), .int .i64 (c.f 6), .int .i64 (c.f 7), .int .i64 (c.f 8), .int .i64 (c.f 9), .int .i64 (c.f 10), .int .i64 (c.f 11)] 37)).heap.size = w4.heap.size + 1 := by simp
          have hB5 := hB4.trans (hb5.mono (by omega))
          have hC5 := hC4.below hb5
          clear hch2 hFO HST k4 hb5 hCR hBr hB4 hC4
          rcases HWAY with ⟨her, hX⟩ | ⟨her, hkk, HQ⟩
          · have hPA := hPe.out _ _ hX
            have qer : (er != 0) = true := bne_iff_ne.2 her
            have hz5 := HZ.out _ hB5
            have c0 : (w4.alloc (.cells #[.string (bs c.name), .int .i64 c.chart, .int .i64 (c.f 0), .int .i64 (c.f 1), .int .i64 (c.f 2), .int .i64 (c.f 3), .int .i64 (c.f 4), .int .i64 (c.f 5), .int .i64 (c.f 6), .int .i64 (c.f 7), .int .i64 (c.f 8), .int .i64 (c.f 9), .int .i64 (c.f 10), .int .i64 (c.f 11)] 37)).cell? ⟨w.heap.size, 0, none⟩ = some (.slice none 0 0) := hz5.cell 0
            have f0 : (w4.alloc (.cells #[.string (bs c.name), .int .i64 c.chart, .int .i64 (c.f 0), .int .i64 (c.f 1), .int .i64 (c.f 2), .int .i64 (c.f 3), .int .i64 (c.f 4), .int .i64 (c.f 5), .int .i64 (c.f 6), .int .i64 (c.f 7), .int .i64 (c.f 8), .int .i64 (c.f 9), .int .i64 (c.f 10), .int .i64 (c.f 11)] 37)).frozen? ⟨w.heap.size, 0, none⟩ = false := hz5.frozen 0
            have hz6 := hz5.set 0 (.slice none 0 0)
            have hB6 := (HBB.out _ hB5).setCell (p := ⟨w.heap.size, 0, none⟩) (Nat.le_refl _) (.slice none 0 0)
            by_cases hk' : k' < ts.length
            · rw [place_in hk'] at hPA
              subst hPA
              obtain ⟨tb, to', rfl, htl, htk⟩ := HT.out k' hk'
              have t3 := (htk.below hB5 htl).c3
              clear HT htk hC5 hB5 hz5
              go_wp2
              exact bodyPost_ret (results_cell_tmp2 Tryz.results9 rfl (load1 hz6)) rfl ⟨_, rfl, CRow.nil _ _, hB6⟩
            · rw [place_out hk'] at hPA
              subst hPA
              clear HT hC5 hB5 hz5
              go_wp2
              exact bodyPost_ret (results_cell_tmp2 Tryz.results9 rfl (load1 hz6)) rfl ⟨_, rfl, CRow.nil _ _, hB6⟩
          · exfalso
            omega
end Go.Proofs.YtdimgomigidbkaaGreatDoor
/- The law of RecipeParses. -/
namespace Go.Proofs.YtdimgomigidbkaaGreatDoor
open Go.RowKit

theorem ans_few (l : List UInt8) : (parseAns l).2.2.length ≤ 4 := by
  obtain ⟨h1, h2⟩ := parse_told l
  by_cases h : (parseAns l).2.1 = 0
  · exact ((recB_iff _).1 (h2 h).2.1).1.2
  · rw [(h1 h).2.2]; exact Nat.zero_le _
set_option linter.unusedSimpArgs false in
set_option maxHeartbeats 0 in
set_option maxRecDepth 100000 in
theorem parses_walk (l : List UInt8) (w : World) (_hl : l.length ≤ 9223372036854775807) (hE : EnvR w) :
    Calls Tryz.prog 3 #[.string (bs l)] w fun e w' => e = .returned (.bool true) ∧ Below w.heap.size w w' := by
  have hs := bs_size l
  have hcut : ∀ w, (Instr.slice 9 (.string (bs l)) none (some (.int .i64 (min (l.length : Int) 4100))) none).run Tryz.prog w = .ok (.string (bs (l.take (min l.length 4100)))) w := fun w => by
    have := run_slice_hi (P := Tryz.prog) w 9 l .i64 (min l.length 4100) Tryz.underlying9 (Nat.min_le_left _ _)
    rw [show ((min l.length 4100 : Nat) : Int) = min (l.length : Int) 4100 by omega] at this
    exact this
  generalize l.take (min l.length 4100) = m at hcut
  have hps := parse_any m w hE
  have hrp := fun W => rparse_any m W
  have hlen := ans_few m
  have hsm := fun W v u (h1 : ReadsC W v (parseAns m).2.2) (h2 : ReadsC W u (parseAns m).2.2) => sameC_any (parseAns m).2.2 v u W (by omega) h1 h2
  unfold ParseEnd at hps hrp
  generalize (parseAns m).1 = pl at *
  generalize (parseAns m).2.1 = er at *
  generalize (parseAns m).2.2 = cs at *
  go_enter Tryz.func3, Tryz.ntmps3
  go_wp2_with fail
  refine hps.mono ?_
  rintro e w2 ⟨v1, rfl, hr2, hB2⟩
  obtain ⟨a1, p1, hv1, -⟩ := hr2.reads
  subst hv1
  have hb3 := (Below.refl w2.heap.size w2).alloc (Nat.le_refl _) (.cells #[.slice a1 cs.length p1] 24)
  have hs2 := hB2.size
  have hB3 := hB2.trans (hb3.mono hB2.size)
  have hr3 := hr2.below hb3
  have hx3 := Has.new w2 [.slice a1 cs.length p1] 24
  have hs3 : (w2.alloc (.cells #[.slice a1 cs.length p1] 24)).heap.size = w2.heap.size + 1 := by simp
  have hn3 := hrp (w2.alloc (.cells #[.slice a1 cs.length p1] 24))
  clear hps hr2 hb3 hB2 hrp
  go_wp2_with fail
  refine hn3.mono ?_
  rintro e w4 ⟨v2, rfl, hr4, k4⟩
  obtain ⟨a2, p2, hv2, -⟩ := hr4.reads
  subst hv2
  have hb5 := (Below.refl w4.heap.size w4).alloc (Nat.le_refl _) (.cells #[.slice a2 cs.length p2] 24)
  have hs4 := k4.size
  rw [hs3] at hs4
  have hB5 := (hB3.trans (k4.mono (by rw [hs3]; omega))).trans (hb5.mono (by omega))
  have hr5 := (hr3.below k4).below hb5
  have hx5 := (hx3.call k4).call hb5
  have hq5 := hr4.below hb5
  have hy5 := Has.new w4 [.slice a2 cs.length p2] 24
  have hs5 : (w4.alloc (.cells #[.slice a2 cs.length p2] 24)).heap.size = w4.heap.size + 1 := by simp
  have hal := alive8_any _ (hE.below hB5)
  clear hn3 hr4 k4 hb5 hB3 hr3 hx3
  go_wp2_with fail
  refine hal.mono ?_
  rintro e w6 ⟨rfl, k6⟩
  have hs6 := k6.size
  rw [hs5] at hs6
  have hB6 := hB5.trans (k6.mono (by rw [hs5]; omega))
  have hx6 := hx5.call k6
  have hy6 := hy5.call k6
  have c6 : w6.cell? ⟨w2.heap.size, 0, none⟩ = some (.slice a1 cs.length p1) := hx6.cell 0
  have d6 : w6.cell? ⟨w4.heap.size, 0, none⟩ = some (.slice a2 cs.length p2) := hy6.cell 0
  have hn6 := hsm w6 _ _ (hr5.below k6).reads (hq5.below k6).reads
  clear hal hB5 k6 hr5 hx5 hq5 hy5 hx6 hy6 hsm
  go_wp2_with fail
  refine hn6.mono ?_
  rintro e w7 ⟨rfl, k7⟩
  have hB7 := hB6.trans (k7.mono (by omega))
  go_wp2
  go_ret
  exact ⟨rfl, hB7⟩
end Go.Proofs.YtdimgomigidbkaaGreatDoor
namespace Go.Proofs.YtdimgomigidbkaaGreatDoor.lawRecipeParses
open Go.ChangeShapes Go.WideShapes Go.ChangeAt Go.RowKit Go.Joins
open Go.ChangeMaps (open_string shut_string)

set_option maxRecDepth 100000 in
theorem lifted (os : Os) (started : os.Started) (H : Type) (enc : TypeId × Value → H) :
    ReturnsInHanded {} Tryz.checked os 3 .any (fun w args => (Rows.recipeParsesSpec.pre enc Tryz.prog Tryz.f3 [] false w args ∧ laidMetH Tryz.prog Rows.recipeParsesRow.laid w) ∧ sizedMet enc Tryz.prog Tryz.f3 (OpenSpec.ofChange Rows.recipeParsesSpec) false w args)
      (Rows.recipeParsesSpec.post enc Tryz.prog Tryz.f3 false true false false) := by
  refine returnsInHanded_of_change_and (C := Tryz.checked) (X := fun w _ => laidMetH Tryz.prog Rows.recipeParsesRow.laid w) (fun _ _ _ hh h => h.of_heap hh) own started (by kernel_rfl) Tryz.func3
    (ChangeSpec.witness_shaped (enc := enc) (C := Tryz.checked) (os := os) (X := fun w _ => laidMetH Tryz.prog Rows.recipeParsesRow.laid w) false (World.doorLaid Tryz.prog 400 os) #[.string ⟨#[]⟩] 8 rfl (World.shaped_of_RefB (by kernel_rfl) (by kernel_rfl)) (by kernel_rfl) (by kernel_rfl) (by kernel_rfl) (door8_met os _)) ?_
  intro W base args ds gs before hval0 hW _ hsz0 hL _
  have hsz : (DataW.weightsEach Tryz.prog (Tryz.f3.params.toList ++ Rows.recipeParsesSpec.plain.varTypes Tryz.prog) (ds ++ gs)).all (· ≤ reachBytes) = true := hsz0
  clear hsz0
  have hval : ∀ (j : Nat) t v, Tryz.f3.params[j]? = some t → args[j]? = some v → Value.okWide Tryz.prog W .any base t v := hval0
  have hW' := hW
  obtain ⟨p, q, hA0, hV, rfl, _, _⟩ := hW
  have hA : DataW.TrodAll enc Tryz.prog W 0 (fun _ => true) true Tryz.f3.params.toList args.toList ds p := hA0
  rw [Tryz.params3] at hA hval hsz
  obtain ⟨v0, d0, rfl, rfl, h0⟩ := trodAll_one hA
  obtain ⟨rfl, rfl⟩ := trodVars_none hV
  clear hA0 hval0
  simp only [List.append_nil] at hW'
  have hlt0 : ∀ x ∈ p, x.block < W.heap.size := fun x hx => by simpa using hW'.lt x (by simp [hx])
  have ag0 := fun W' hb' => again (W' := W') (by kernel_rfl) (of_decide_eq_true (by kernel_rfl)) h0 hb' hlt0
  obtain ⟨s0, rfl, -, -, hs0⟩ := open_string Tryz.underlying9 (hval 0 9 v0 rfl rfl) h0
  have hlim : s0.data.toList.length ≤ 9223372036854775807 := by
    have : s0.data.toList.length = s0.size := Array.length_toList
    unfold maxLen at hs0
    omega
  have hE := env8_of (show laidMetH Tryz.prog laid8 W from hL)
  refine (parses_walk s0.data.toList W hlim hE).mono fun e W' ⟨he, hb'⟩ => ?_
  subst he
  exact ⟨_, rfl, lawPost _ _ hW' (trodAll_mk1 (shut_bool Tryz.underlying4 _)) (trodAll_mk1 (ag0 W' hb')) rfl hb'⟩
theorem said : Rows.RecipeParsesSaid :=
  OpenClaim.holds_of_wide 3 Tryz.f3 rfl rfl rfl rfl rfl rfl rfl ⟨rfl, rfl, rfl, rfl, rfl⟩ rfl rfl rfl rfl rfl (by kernel_rfl) Tryz.func3 (by kernel_rfl)
    (of_decide_eq_true (by kernel_rfl)) (by unfold Func.isWrapper; first | (rw [if_pos (by decide +kernel)]; kernel_rfl) | (rw [if_neg (by decide +kernel)]; exact ⟨rfl, rfl⟩))
    (fun os started H enc _ => lifted os started H enc)
theorem holds : Rows.RecipeParsesCardSaid :=
  Claim7.holds_tied_plain_at .later [] Rows.recipeParsesCard.laidKinds true Rows.recipeParsesCard.stood.harness true
    said (fun _ h => by cases h) (by kernel_rfl) (fun _ h => by cases h) recipeParses_row_tie rfl ⟨rfl, rfl⟩ (by kernel_rfl) rfl
    (fun f fn hf hfn => by
      obtain rfl : f = 3 := Option.some.inj ((show Tryz.prog.funcNamed "datum/datumlaw08.RecipeParses" = some 3 by kernel_rfl).symm.trans hf) |>.symm
      obtain rfl : fn = Tryz.f3 := (Option.some.inj (Tryz.func3.symm.trans hfn)).symm
      exact ⟨by kernel_rfl, fun j t ht => by
        rw [Tryz.params3] at ht
        have hm : t ∈ [9] := by simpa using Array.mem_of_getElem? ht
        have hall : ([9].all fun u => !(Tryz.prog).wantsStandIn u) = true := by kernel_rfl
        exact (show (Tryz.prog).wantsStandIn t = false by simpa using List.all_eq_true.1 hall t hm)⟩)
    (by kernel_rfl)
#print axioms holds
end Go.Proofs.YtdimgomigidbkaaGreatDoor.lawRecipeParses
