/- Rows of pasts; slices.Index and Contains over them. -/
import Derived.Test.YtjonpcpcokapkaaNelPf
import Derived.Test.YtjonpcpcokapkaaNelPg
namespace Go.Proofs.Ytjonpcpcokapkaa
open Go.RowKit

def cellsP (l : List Past) : List Value := l.flatMap pastV
theorem cellsP_length (l : List Past) : (cellsP l).length = l.length * 6 := by
  unfold cellsP
  induction l with
  | nil => rfl
  | cons t r ih => rw [List.flatMap_cons, List.length_append, ih, List.length_cons]; show 6 + r.length * 6 = _; omega
theorem cellsP_snoc (l : List Past) (t : Past) : cellsP (l ++ [t]) = cellsP l ++ pastV t := by
  unfold cellsP
  rw [List.flatMap_append]
  simp
theorem cellsP_at : ∀ (l : List Past) (j k : Nat) (x : Past), l[j]? = some x → k < 6 → (cellsP l)[j * 6 + k]? = (pastV x)[k]?
  | [], j, k, x, h, _ => by simp at h
  | t :: r, 0, k, x, h, hk => by
    obtain rfl : t = x := by simpa using h
    show (pastV t ++ cellsP r)[0 * 6 + k]? = _
    rw [Nat.zero_mul, Nat.zero_add, List.getElem?_append_left (by show k < 6; exact hk)]
  | t :: r, j + 1, k, x, h, hk => by
    show (pastV t ++ cellsP r)[(j + 1) * 6 + k]? = _
    rw [List.getElem?_append_right (by show 6 ≤ _; omega), show (j + 1) * 6 + k - (pastV t).length = j * 6 + k by show _ - 6 = _; omega]
    exact cellsP_at r j k x (by simpa using h) hk
/-- The call's own row of states. -/
def RowP (B : Nat) (v : Value) (l : List Past) (w : World) : Prop := w.ownsRow B 55 6 v l.length (cellsP l)
theorem RowP.kept {B : Nat} {v : Value} {l : List Past} {w w' : World} {row : Option Nat} (h : RowP B v l w) (hg : w.grownBy w' row) (hne : v.ownBlock = none ∨ v.ownBlock ≠ row) : RowP B v l w' := World.ownsRow.kept h hg hne
theorem Below.grownP {w w' : World} (h : Below w.heap.size w w') : w.grownBy w' none := ⟨h.os, h.tape, h.output, h.size, fun k hk _ => h.block k hk⟩
theorem RowP.below {B : Nat} {v : Value} {l : List Past} {w w' : World} (h : RowP B v l w) (hb : Below w.heap.size w w') : RowP B v l w' :=
  h.kept (Below.grownP hb) (by cases v.ownBlock <;> simp)
theorem RowP.made (w : World) : RowP w.heap.size (.slice (some ⟨w.heap.size, 0, none⟩) 0 0) [] (w.alloc (.cells #[] 55)) := World.ownsRow_made w #[] 0 (Nat.le_refl _) (Nat.zero_le _) rfl
theorem RowP.at {B : Nat} {v : Value} {l : List Past} {w : World} (h : RowP B v l w) {j : Nat} {x : Past} (hx : l[j]? = some x) :
    ∃ g cap, v = .slice (some ⟨g, 0, none⟩) l.length cap ∧ g < w.heap.size ∧ w.cell? ⟨g, j * 6, none⟩ = some (.bool x.begun) ∧ w.cell? ⟨g, j * 6 + 1, none⟩ = some (.int .i64 x.cls) ∧ w.cell? ⟨g, j * 6 + 2, none⟩ = some (.int .i64 x.step) ∧ w.cell? ⟨g, j * 6 + 3, none⟩ = some (.int .i64 x.side) ∧ w.cell? ⟨g, j * 6 + 4, none⟩ = some (.int .i64 x.na) ∧ w.cell? ⟨g, j * 6 + 5, none⟩ = some (.int .i64 x.nb) := by
  have h0 : w.ownsRow B 55 6 v l.length (cellsP l) := h
  rcases h0.2 with ⟨_, h2⟩ | ⟨g, cap, cur, hv, hB, hg, hl, hc, hs, ht⟩
  · have : l = [] := List.eq_nil_of_length_eq_zero h2
    rw [this] at hx
    cases hx
  · have e : ∀ k, (⟨g, 0, none⟩ : Addr).add k = ⟨g, k, none⟩ := fun k => by
      have : (⟨g, 0, none⟩ : Addr).add k = ⟨g, 0 + k, none⟩ := by unfold Addr.add; split <;> simp_all
      rw [this, Nat.zero_add]
    have hat : ∀ k u, k < 6 → (pastV x)[k]? = some u → w.cell? ⟨g, j * 6 + k, none⟩ = some u := fun k u hk hu => by
      have := h0.cells (g := g) (by rw [hv]; rfl) (j * 6 + k) u (by rw [cellsP_at l j k x hx hk]; exact hu)
      rwa [e] at this
    exact ⟨g, cap, hv, (Array.getElem?_eq_some_iff.1 hg).1, hat 0 _ (by omega) rfl, hat 1 _ (by omega) rfl, hat 2 _ (by omega) rfl, hat 3 _ (by omega) rfl, hat 4 _ (by omega) rfl, hat 5 _ (by omega) rfl⟩
theorem pastV_one (t : Past) : ∀ u ∈ pastV t, u.oneCell' = true := by
  intro u hu
  simp only [pastV, List.mem_cons, List.not_mem_nil, or_false] at hu
  rcases hu with rfl | rfl | rfl | rfl | rfl | rfl <;> rfl
theorem infoPast : ((Try.prog).info? 55).map (fun i => (i.zero, i.size, i.bytes)) = some (some (.agg #[.bool false, .int .i64 0, .int .i64 0, .int .i64 0, .int .i64 0, .int .i64 0]), 6, 48) := by kernel_rfl
theorem eqPast (b : Bool) (c s d n m : Int) (b2 : Bool) (c2 s2 d2 n2 m2 : Int) (w : World) : (Op.equalIn 10000 55 (.agg #[.bool b, .int .i64 c, .int .i64 s, .int .i64 d, .int .i64 n, .int .i64 m]) (.agg #[.bool b2, .int .i64 c2, .int .i64 s2, .int .i64 d2, .int .i64 n2, .int .i64 m2])).run Try.prog w = .ok (decide ((⟨b, c, s, d, n, m⟩ : Past) = ⟨b2, c2, s2, d2, n2, m2⟩)) w := by
  have e : decide ((⟨b, c, s, d, n, m⟩ : Past) = ⟨b2, c2, s2, d2, n2, m2⟩) = decide (b = b2 ∧ c = c2 ∧ s = s2 ∧ d = d2 ∧ n = n2 ∧ m = m2) := decide_eq_decide.2 (Past.eq_iff _ _)
  rw [e]
  by_cases h0 : b = b2
  · subst h0
    by_cases h1 : c = c2
    · subst h1
      by_cases h2 : s = s2
      · subst h2
        by_cases h3 : d = d2
        · subst h3
          by_cases h4 : n = n2
          · subst h4
            by_cases h5 : m = m2
            · subst h5
              go_simp
            · go_simp
          · go_simp
        · go_simp
      · go_simp
    · go_simp
  · go_simp
theorem RowP.shape {B : Nat} {v : Value} {l : List Past} {w : World} (h : RowP B v l w) : ∃ ao cap, v = .slice ao l.length cap := by
  have h0 : w.ownsRow B 55 6 v l.length (cellsP l) := h
  rcases h0.2 with ⟨h1, h2⟩ | ⟨g, cap, cur, hv, _⟩
  · exact ⟨none, 0, by rw [h1, h2]⟩
  · exact ⟨_, cap, hv⟩
theorem RowP.mono {B B' : Nat} {v : Value} {l : List Past} {w : World} (h : RowP B v l w) (hB : B' ≤ B) : RowP B' v l w := by
  refine ⟨h.1, ?_⟩
  have h0 : w.ownsRow B 55 6 v l.length (cellsP l) := h
  rcases h0.2 with hn | ⟨g, cap, cur, h3, h4, h5⟩
  · exact .inl hn
  · exact .inr ⟨g, cap, cur, h3, by omega, h5⟩
theorem RowP.zero (w : World) : RowP w.heap.size (.slice (some ⟨w.heap.size, 0, none⟩) 1 1) [past0] (w.alloc (.cells #[.bool false, .int .i64 0, .int .i64 0, .int .i64 0, .int .i64 0, .int .i64 0] 55)) :=
  ⟨rfl, .inr ⟨w.heap.size, 1, _, rfl, Nat.le_refl _, heap_alloc_new w _, Nat.le_refl _, by unfold maxLen; omega, rfl, rfl⟩⟩
theorem RowP.nil (B : Nat) (w : World) : RowP B (.slice none 0 0) [] w := World.ownsRow_nil w B _ 6

def PIdxPost (V : Bool) (w : World) (e : Ending) (w' : World) : Prop := ∃ i : Int, (V = false → i = -1) ∧ (V = true → 0 ≤ i) ∧ e = .returned (.int .i64 i) ∧ Below w.heap.size w w'
def PIdxRel (B : Nat) (w : World) (v : Value) (l : List Past) (s : Past) (iv : Value) (wr : World) : Prop :=
  ∃ j : Nat, j ≤ l.length ∧ iv = .int .i64 (j : Nat) ∧ (∀ i, i < j → l[i]? ≠ some s) ∧ RowP B v l wr ∧ Has wr w.heap.size (pastV s) 55 ∧ Below w.heap.size w wr
set_option linter.unusedSimpArgs false in
set_option linter.unusedVariables false in
set_option maxHeartbeats 8000000 in
set_option maxRecDepth 100000 in
theorem pidx_any (B : Nat) (ao : Option Addr) (m cap : Nat) (l : List Past) (s : Past) (w : World) (hl : l.length ≤ 100000) (hm : l.length = m) (h : RowP B (.slice ao m cap) l w) :
    Calls Try.prog 57 #[.slice ao m cap, pastA s] w (PIdxPost (decide (s ∈ l)) w) := by
  obtain ⟨w2, hw2⟩ : ∃ w2, w.alloc (.cells #[.bool s.begun, .int .i64 s.cls, .int .i64 s.step, .int .i64 s.side, .int .i64 s.na, .int .i64 s.nb] 55) = w2 := ⟨_, rfl⟩
  have hb2 : Below w.heap.size w w2 := by rw [← hw2]; exact (Below.refl _ _).alloc (Nat.le_refl _) _
  have hs2 : Has w2 w.heap.size (pastV s) 55 := by rw [← hw2]; exact Has.new w _ _
  have HST := Lib.hid (show PIdxRel B w (.slice ao m cap) l s (.int .i64 0) w2 from ⟨0, Nat.zero_le _, rfl, fun i hi => absurd hi (Nat.not_lt_zero _), h.below hb2, hs2, hb2⟩)
  obtain ⟨V, hV⟩ : ∃ V, decide (s ∈ l) = V := ⟨_, rfl⟩
  rw [hV]
  have HV := Lib.hid hV
  have HW2 := Lib.hid hw2
  have HM := Lib.hid hm; have HL := Lib.hid hl
  clear hw2 hb2 hs2 h hl hV
  go_enter Try.func57, Try.ntmps57
  go_upto_region 1 with fail
  rw [HW2.out]
  go_wp2
  go_loopw [8] (PIdxRel B w (.slice ao m cap) l s) (fun i _ => (m - (intOf i).toNat))
  case atStart => exact HST.out
  case round =>
    obtain ⟨j, hj, rfl, hno, hrow, hbox, hb⟩ := hrel
    have HNO := Lib.hid hno; have HROW := Lib.hid hrow; have HBOX := Lib.hid hbox; have HB := Lib.hid hb
    by_cases hlt : j < l.length
    · obtain ⟨x, hx⟩ : ∃ x, l[j]? = some x := ⟨_, List.getElem?_eq_getElem hlt⟩
      obtain ⟨g, cap', hv, hg, p0, p1, p2, p3, p4, p5⟩ := hrow.at hx
      injection hv with hv1 hv2 hv3
      subst hv1 hv3
      have HX := Lib.hid hx
      have s0 := hbox.cell 0; have s1 := hbox.cell 1; have s2 := hbox.cell 2; have s3 := hbox.cell 3; have s4 := hbox.cell 4; have s5 := hbox.cell 5
      simp only [pastV, List.getElem?_cons_zero, List.getElem?_cons_succ] at s0 s1 s2 s3 s4 s5
      have sl := hbox.lt
      clear hno hrow hbox hb hx hv2
      have hjm : j < m := by rw [← hm]; exact hlt
      have hm5 : m ≤ 100000 := by have := HL.out; omega
      clear hm hlt hj
      have hjz : (j : Int) < (m : Int) := by omega
      have hix : 0 ≤ (j : Int) ∧ (j : Int) < (m : Int) := by omega
      have heq := eqPast s.begun s.cls s.step s.side s.na s.nb x.begun x.cls x.step x.side x.na x.nb
      by_cases he : s = x
      · rw [show decide ((⟨s.begun, s.cls, s.step, s.side, s.na, s.nb⟩ : Past) = ⟨x.begun, x.cls, x.step, x.side, x.na, x.nb⟩) = true from decide_eq_true he] at heq
        have HE := Lib.hid (show V = true by rw [← HV.out]; exact decide_eq_true (by rw [he]; exact List.mem_of_getElem? HX.out))
        clear he
        go_wp2
        go_region
        go_wp2
        go_ret
        exact ⟨(j : Nat), by rw [HE.out]; intro h; (cases h), fun _ => by omega, rfl, HB.out.drew⟩
      · rw [show decide ((⟨s.begun, s.cls, s.step, s.side, s.na, s.nb⟩ : Past) = ⟨x.begun, x.cls, x.step, x.side, x.na, x.nb⟩) = false from decide_eq_false he] at heq
        have HQ := Lib.hid (show PIdxRel B w (.slice (some ⟨g, 0, none⟩) m cap) l s (.int .i64 ((j : Int) + 1)) wr.drew from ⟨j + 1, by have := HM.out; omega, by first | rfl | go_num, fun i hi => by
          rcases Nat.lt_or_ge i j with c | c
          · exact HNO.out i c
          · obtain rfl : i = j := by omega
            rw [HX.out]
            intro e
            injection e with e
            exact he e.symm, HROW.out.below ((Below.refl _ _).drew), HBOX.out, HB.out.drew⟩)
        clear he
        go_wp2
        go_region
        go_wp2
        go_roundw
        case rel => exact HQ.out
        case measure => simp [intOf]; omega
    · have HE := Lib.hid (show V = false by
        rw [← HV.out]
        exact decide_eq_false (fun hs => by
          obtain ⟨i, hi⟩ := List.getElem?_of_mem hs
          have : i < l.length := (List.getElem?_eq_some_iff.1 hi).1
          exact hno i (by omega) hi))
      have hjm : j = m := by omega
      subst hjm
      clear hno hrow hbox hb hlt hj
      go_wp2
      go_ret
      exact ⟨-1, fun _ => rfl, by rw [HE.out]; intro h; (cases h), rfl, HB.out⟩
set_option linter.unusedSimpArgs false in
set_option linter.unusedVariables false in
set_option maxHeartbeats 4000000 in
set_option maxRecDepth 100000 in
theorem pcont_any (B : Nat) (v : Value) (l : List Past) (s : Past) (w : World) (hl : l.length ≤ 100000) (h : RowP B v l w) :
    Calls Try.prog 52 #[v, pastA s] w fun e w' => e = .returned (.bool (decide (s ∈ l))) ∧ Below w.heap.size w w' := by
  obtain ⟨ao, cap, rfl⟩ := h.shape
  obtain ⟨w2, hw2⟩ : ∃ w2, w.alloc (.cells #[.bool s.begun, .int .i64 s.cls, .int .i64 s.step, .int .i64 s.side, .int .i64 s.na, .int .i64 s.nb] 55) = w2 := ⟨_, rfl⟩
  have hb2 : Below w.heap.size w w2 := by rw [← hw2]; exact (Below.refl _ _).alloc (Nat.le_refl _) _
  have hs2 : Has w2 w.heap.size (pastV s) 55 := by rw [← hw2]; exact Has.new w _ _
  obtain ⟨m, hm⟩ : ∃ m, l.length = m := ⟨_, rfl⟩
  rw [hm] at h ⊢
  have HC := Lib.hid (pidx_any B ao m cap l s w2 hl hm (h.below hb2))
  obtain ⟨V, hV⟩ : ∃ V, decide (s ∈ l) = V := ⟨_, rfl⟩
  rw [hV] at HC ⊢
  have HW2 := Lib.hid hw2; have HB2 := Lib.hid hb2
  have s0 := hs2.cell 0; have s1 := hs2.cell 1; have s2 := hs2.cell 2; have s3 := hs2.cell 3; have s4 := hs2.cell 4; have s5 := hs2.cell 5
  simp only [pastV, List.getElem?_cons_zero, List.getElem?_cons_succ] at s0 s1 s2 s3 s4 s5
  have sl := hs2.lt
  clear hw2 hb2 hs2 h hl hV hm
  go_enter Try.func52, Try.ntmps52
  go_upto_region 1 with fail
  rw [HW2.out]
  go_wp2_with fail
  refine HC.out.mono ?_
  rintro e w3 ⟨i, h1, h2, rfl, k3⟩
  have HB := Lib.hid (HB2.out.trans (k3.mono HB2.out.size))
  clear k3
  cases V with
  | false =>
    obtain rfl := h1 rfl
    clear h1 h2
    go_wp2
    go_ret
    exact ⟨rfl, HB.out⟩
  | true =>
    have h3 := h2 rfl
    clear h1 h2
    go_wp2
    go_ret
    exact ⟨by first | rfl | simp [h3], HB.out⟩
end Go.Proofs.Ytjonpcpcokapkaa
