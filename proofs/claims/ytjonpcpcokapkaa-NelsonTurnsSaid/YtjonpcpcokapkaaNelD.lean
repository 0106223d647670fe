/- Rows of states; the reference's add. -/
import Derived.Test.YtjonpcpcokapkaaNelC
import Derived.Test.YtjonpcpcokapkaaApI
import Derived.OwnWalk
import Derived.Maps.AppendAt
namespace Go.Proofs.Ytjonpcpcokapkaa
open Go.RowKit

def cellsS (l : List Seen) : List Value := l.flatMap seenV
theorem cellsS_length (l : List Seen) : (cellsS l).length = l.length * 4 := by
  unfold cellsS
  induction l with
  | nil => rfl
  | cons t r ih => rw [List.flatMap_cons, List.length_append, ih, List.length_cons]; show 4 + r.length * 4 = _; omega
theorem cellsS_snoc (l : List Seen) (t : Seen) : cellsS (l ++ [t]) = cellsS l ++ seenV t := by
  unfold cellsS
  rw [List.flatMap_append]
  simp
theorem cellsS_at : ∀ (l : List Seen) (j k : Nat) (x : Seen), l[j]? = some x → k < 4 → (cellsS l)[j * 4 + k]? = (seenV x)[k]?
  | [], j, k, x, h, _ => by simp at h
  | t :: r, 0, k, x, h, hk => by
    obtain rfl : t = x := by simpa using h
    show (seenV t ++ cellsS r)[0 * 4 + k]? = _
    rw [Nat.zero_mul, Nat.zero_add, List.getElem?_append_left (by show k < 4; exact hk)]
  | t :: r, j + 1, k, x, h, hk => by
    show (seenV t ++ cellsS r)[(j + 1) * 4 + k]? = _
    rw [List.getElem?_append_right (by show 4 ≤ _; omega), show (j + 1) * 4 + k - (seenV t).length = j * 4 + k by show _ - 4 = _; omega]
    exact cellsS_at r j k x (by simpa using h) hk
/-- The call's own row of states. -/
def RowS (B : Nat) (v : Value) (l : List Seen) (w : World) : Prop := w.ownsRow B 64 4 v l.length (cellsS l)
theorem RowS.kept {B : Nat} {v : Value} {l : List Seen} {w w' : World} {row : Option Nat} (h : RowS B v l w) (hg : w.grownBy w' row) (hne : v.ownBlock = none ∨ v.ownBlock ≠ row) : RowS B v l w' := World.ownsRow.kept h hg hne
theorem Below.grownS {w w' : World} (h : Below w.heap.size w w') : w.grownBy w' none := ⟨h.os, h.tape, h.output, h.size, fun k hk _ => h.block k hk⟩
theorem RowS.below {B : Nat} {v : Value} {l : List Seen} {w w' : World} (h : RowS B v l w) (hb : Below w.heap.size w w') : RowS B v l w' :=
  h.kept (Below.grownS hb) (by cases v.ownBlock <;> simp)
theorem RowS.made (w : World) : RowS w.heap.size (.slice (some ⟨w.heap.size, 0, none⟩) 0 0) [] (w.alloc (.cells #[] 64)) := World.ownsRow_made w #[] 0 (Nat.le_refl _) (Nat.zero_le _) rfl
theorem RowS.at {B : Nat} {v : Value} {l : List Seen} {w : World} (h : RowS B v l w) {j : Nat} {x : Seen} (hx : l[j]? = some x) :
    ∃ g cap, v = .slice (some ⟨g, 0, none⟩) l.length cap ∧ g < w.heap.size ∧ w.cell? ⟨g, j * 4, none⟩ = some (.int .i64 x.n) ∧ w.cell? ⟨g, j * 4 + 1, none⟩ = some (.int .i64 x.a) ∧ w.cell? ⟨g, j * 4 + 2, none⟩ = some (.int .i64 x.b) ∧ w.cell? ⟨g, j * 4 + 3, none⟩ = some (.int .i64 x.last) := by
  have h0 : w.ownsRow B 64 4 v l.length (cellsS l) := h
  rcases h0.2 with ⟨_, h2⟩ | ⟨g, cap, cur, hv, hB, hg, hl, hc, hs, ht⟩
  · have : l = [] := List.eq_nil_of_length_eq_zero h2
    rw [this] at hx
    cases hx
  · have e : ∀ k, (⟨g, 0, none⟩ : Addr).add k = ⟨g, k, none⟩ := fun k => by
      have : (⟨g, 0, none⟩ : Addr).add k = ⟨g, 0 + k, none⟩ := by unfold Addr.add; split <;> simp_all
      rw [this, Nat.zero_add]
    have hat : ∀ k u, k < 4 → (seenV x)[k]? = some u → w.cell? ⟨g, j * 4 + k, none⟩ = some u := fun k u hk hu => by
      have := h0.cells (g := g) (by rw [hv]; rfl) (j * 4 + k) u (by rw [cellsS_at l j k x hx hk]; exact hu)
      rwa [e] at this
    exact ⟨g, cap, hv, (Array.getElem?_eq_some_iff.1 hg).1, hat 0 _ (by omega) rfl, hat 1 _ (by omega) rfl, hat 2 _ (by omega) rfl, hat 3 _ (by omega) rfl⟩
theorem seenV_one (t : Seen) : ∀ u ∈ seenV t, u.oneCell' = true := by
  intro u hu
  simp only [seenV, List.mem_cons, List.not_mem_nil, or_false] at hu
  rcases hu with rfl | rfl | rfl | rfl <;> rfl
theorem infoSeen : ((Try.prog).info? 64).map (fun i => (i.zero, i.size, i.bytes)) = some (some (.agg #[.int .i64 0, .int .i64 0, .int .i64 0, .int .i64 0]), 4, 32) := by kernel_rfl
theorem eqSeen (n a b l x y z t : Int) (w : World) : (Op.equalIn 10000 64 (.agg #[.int .i64 n, .int .i64 a, .int .i64 b, .int .i64 l]) (.agg #[.int .i64 x, .int .i64 y, .int .i64 z, .int .i64 t])).run Try.prog w = .ok (decide ((⟨n, a, b, l⟩ : Seen) = ⟨x, y, z, t⟩)) w := by
  have e : decide ((⟨n, a, b, l⟩ : Seen) = ⟨x, y, z, t⟩) = decide (n = x ∧ a = y ∧ b = z ∧ l = t) := decide_eq_decide.2 (Seen.eq_iff _ _)
  rw [e]
  by_cases h1 : n = x
  · subst h1
    by_cases h2 : a = y
    · subst h2
      by_cases h3 : b = z
      · subst h3
        by_cases h4 : l = t
        · subst h4
          go_simp
        · go_simp
      · go_simp
    · go_simp
  · go_simp

/-- What an append to a row of states leaves: the row's own block alone may be another one. -/
structure Grew (w w' : World) (v v' : Value) : Prop where
  grown : w.grownBy w' v.ownBlock
  own : ∀ k, v'.ownBlock = some k → v.ownBlock = some k ∨ w.heap.size ≤ k
theorem Grew.below {w w' : World} {v v' : Value} {B : Nat} (h : Grew w w' v v') (hB : B ≤ w.heap.size) (hv : ∀ k, v.ownBlock = some k → B ≤ k) : Below B w w' :=
  ⟨h.grown.os, h.grown.tape, h.grown.output, h.grown.size, fun k hk => h.grown.block k (by omega) (fun e => by have := hv k e.symm; omega)⟩
theorem Grew.of {w w' : World} {v : Value} (h : Below w.heap.size w w') : Grew w w' v v := ⟨⟨h.os, h.tape, h.output, h.size, fun k hk _ => h.block k hk⟩, fun _ hk => .inl hk⟩
def AddRel (B : Nat) (w : World) (v : Value) (l : List Seen) (s : Seen) (iv : Value) (wr : World) : Prop :=
  ∃ j : Nat, j ≤ l.length ∧ iv = .int .i64 (j : Nat) ∧ (∀ i, i < j → l[i]? ≠ some s) ∧ RowS B v l wr ∧ Has wr w.heap.size (seenV s) 64 ∧ Below w.heap.size w wr
set_option linter.unusedSimpArgs false in
set_option linter.unusedVariables false in
set_option maxHeartbeats 8000000 in
set_option maxRecDepth 100000 in
theorem add14_any (B : Nat) (ao : Option Addr) (m cap : Nat) (l : List Seen) (s : Seen) (w : World) (hl : l.length ≤ 100000) (hm : l.length = m) (hB : B ≤ w.heap.size) (h : RowS B (.slice ao m cap) l w) :
    Calls Try.prog 45 #[.slice ao m cap, .agg #[.int .i64 s.n, .int .i64 s.a, .int .i64 s.b, .int .i64 s.last]] w fun e w' =>
      ∃ v', e = .returned v' ∧ RowS B v' (addN l s) w' ∧ Grew w w' (.slice ao m cap) v' := by
  obtain ⟨w2, hw2⟩ : ∃ w2, w.alloc (.cells #[.int .i64 s.n, .int .i64 s.a, .int .i64 s.b, .int .i64 s.last] 64) = w2 := ⟨_, rfl⟩
  have hb2 : Below w.heap.size w w2 := by rw [← hw2]; exact (Below.refl _ _).alloc (Nat.le_refl _) _
  have hs2 : Has w2 w.heap.size (seenV s) 64 := by rw [← hw2]; exact Has.new w _ _
  have HST := Lib.hid (show AddRel B w (.slice ao m cap) l s (.int .i64 0) w2 from ⟨0, Nat.zero_le _, rfl, fun i hi => absurd hi (Nat.not_lt_zero _), h.below hb2, hs2, hb2⟩)
  have HW2 := Lib.hid hw2
  have HOB := Lib.hid (World.ownsRow.lt h)
  have HM := Lib.hid hm; have HL := Lib.hid hl; have HBS := Lib.hid hB
  clear hw2 hb2 hs2 h hl hB
  go_enter Try.func45, Try.ntmps45
  go_upto_region 1 with fail
  rw [HW2.out]
  go_wp2
  go_loopw [9] (AddRel B w (.slice ao m cap) l s) (fun i _ => (m - (intOf i).toNat))
  case atStart => exact HST.out
  case round =>
    obtain ⟨j, hj, rfl, hno, hrow, hbox, hb⟩ := hrel
    have HNO := Lib.hid hno; have HROW := Lib.hid hrow; have HBOX := Lib.hid hbox; have HB := Lib.hid hb
    by_cases hlt : j < l.length
    · obtain ⟨x, hx⟩ : ∃ x, l[j]? = some x := ⟨_, List.getElem?_eq_getElem hlt⟩
      obtain ⟨g, cap', hv, hg, p0, p1, p2, p3⟩ := hrow.at hx
      injection hv with hv1 hv2 hv3
      subst hv1 hv3
      have HX := Lib.hid hx
      clear hno hrow hbox hb hx hv2
      have hjm : j < m := by rw [← hm]; exact hlt
      have hm5 : m ≤ 100000 := by have := HL.out; omega
      clear hm hlt hj
      have hjz : (j : Int) < (m : Int) := by omega
      have hix : 0 ≤ (j : Int) ∧ (j : Int) < (m : Int) := by omega
      obtain ⟨bx, hbx⟩ : ∃ b, wr.heap.size = b := ⟨_, rfl⟩
      obtain ⟨w5, hw5⟩ : ∃ w5, wr.alloc (.cells #[.int .i64 x.n, .int .i64 x.a, .int .i64 x.b, .int .i64 x.last] 64) = w5 := ⟨_, rfl⟩
      have k5 : Below wr.heap.size wr w5 := by rw [← hw5]; exact (Below.refl _ _).alloc (Nat.le_refl _) _
      have HX5 := Lib.hid (show Has w5 bx [.int .i64 x.n, .int .i64 x.a, .int .i64 x.b, .int .i64 x.last] 64 by rw [← hw5, ← hbx]; exact Has.new wr _ _)
      have HS5 := Lib.hid (show Has w5 w.heap.size [.int .i64 s.n, .int .i64 s.a, .int .i64 s.b, .int .i64 s.last] 64 from HBOX.out.call k5)
      have HR5 := Lib.hid (HROW.out.below k5)
      have HB5 := Lib.hid (HB.out.trans (k5.mono HB.out.size))
      have HW5 := Lib.hid hw5
      clear k5 hw5
      go_upto_region 4 with fail
      rw [HW5.out]
      clear p0 p1 p2 p3 hg hbx
      have x0 := HX5.out.cell 0; have x1 := HX5.out.cell 1; have x2 := HX5.out.cell 2; have x3 := HX5.out.cell 3
      have s0 := HS5.out.cell 0; have s1 := HS5.out.cell 1; have s2 := HS5.out.cell 2; have s3 := HS5.out.cell 3
      simp only [List.getElem?_cons_zero, List.getElem?_cons_succ] at x0 x1 x2 x3 s0 s1 s2 s3
      have xl := HX5.out.lt; have sl := HS5.out.lt
      have heq := eqSeen x.n x.a x.b x.last s.n s.a s.b s.last
      by_cases he : x = s
      · rw [show decide ((⟨x.n, x.a, x.b, x.last⟩ : Seen) = ⟨s.n, s.a, s.b, s.last⟩) = true from decide_eq_true he] at heq
        have HE := Lib.hid (show addN l s = l by unfold addN; rw [if_pos (by rw [← he]; exact List.mem_of_getElem? HX.out)])
        clear he
        go_wp2
        go_ret
        exact ⟨_, rfl, by rw [HE.out]; exact HR5.out, Grew.of HB5.out⟩
      · rw [show decide ((⟨x.n, x.a, x.b, x.last⟩ : Seen) = ⟨s.n, s.a, s.b, s.last⟩) = false from decide_eq_false he] at heq
        have HQ := Lib.hid (show AddRel B w (.slice (some ⟨g, 0, none⟩) m cap) l s (.int .i64 ((j : Int) + 1)) w5 from ⟨j + 1, by have := HM.out; omega, by first | rfl | go_num, fun i hi => by
          rcases Nat.lt_or_ge i j with c | c
          · exact HNO.out i c
          · obtain rfl : i = j := by omega
            rw [HX.out]
            intro e
            injection e with e
            exact he e, HR5.out, HS5.out, HB5.out⟩)
        clear he
        go_wp2
        go_roundw
        case rel => exact HQ.out
        case measure => simp [intOf]; omega
    · have HE := Lib.hid (show addN l s = l ++ [s] by
        unfold addN
        rw [if_neg (fun hs => by
          obtain ⟨i, hi⟩ := List.getElem?_of_mem hs
          have : i < l.length := (List.getElem?_eq_some_iff.1 hi).1
          exact hno i (by omega) hi)])
      have hbox' : Has wr w.heap.size [.int .i64 s.n, .int .i64 s.a, .int .i64 s.b, .int .i64 s.last] 64 := hbox
      have s0 := hbox'.cell 0; have s1 := hbox'.cell 1; have s2 := hbox'.cell 2; have s3 := hbox'.cell 3
      simp only [List.getElem?_cons_zero, List.getElem?_cons_succ] at s0 s1 s2 s3
      have sl := hbox'.lt
      have hjm : j = m := by omega
      subst hjm
      obtain ⟨i0, hi, hz0, hz1, hz2⟩ := info_parts infoSeen
      have k6 : Below wr.heap.size wr (wr.alloc (.cells #[.int .i64 s.n, .int .i64 s.a, .int .i64 s.b, .int .i64 s.last] 64)) := (Below.refl _ _).alloc (Nat.le_refl _) _
      have HN6 := Lib.hid (show Has (wr.alloc (.cells #[.int .i64 s.n, .int .i64 s.a, .int .i64 s.b, .int .i64 s.last] 64)) wr.heap.size (seenV s) 64 from Has.new wr _ _)
      have HR6 := Lib.hid (HROW.out.below k6)
      have HB6 := Lib.hid (HB.out.trans (k6.mono HB.out.size))
      have hsz : (wr.alloc (.cells #[.int .i64 s.n, .int .i64 s.a, .int .i64 s.b, .int .i64 s.last] 64)).heap.size = wr.heap.size + 1 := by simp
      have HSZ := Lib.hid hsz
      have HI := Lib.hid hi; have HZ0 := Lib.hid hz0; have HZ1 := Lib.hid hz1; have HZ2 := Lib.hid hz2
      have e : ∀ k, (⟨wr.heap.size, 0, none⟩ : Addr).add k = ⟨wr.heap.size, k, none⟩ := fun k => by
        have : (⟨wr.heap.size, 0, none⟩ : Addr).add k = ⟨wr.heap.size, 0 + k, none⟩ := by unfold Addr.add; split <;> simp_all
        rw [this, Nat.zero_add]
      have HA := Lib.hid e
      clear hno hrow hbox hbox' hb k6 hi hz0 hz1 hz2 e hsz hlt hj
      go_wp2_with (at_builtin; refine wpList_append_own_at _ rfl (.tmp 18) (.tmp 20) 65 rfl B 64 i0 (.agg #[.int .i64 0, .int .i64 0, .int .i64 0, .int .i64 0]) 4 32 Try.underlying65 HI.out HZ0.out HZ1.out HZ2.out rfl (by decide) _ _ _ rfl HR6.out ⟨wr.heap.size, 0, none⟩ 1 1 (seenV s) rfl rfl (fun k u hk => by rw [HA.out]; exact (HN6.out.cell k).trans hk) (seenV_one s) (by have := HL.out; unfold maxLen; omega) (by have := HL.out; omega) (by have := HBS.out; have := HB.out.size; rw [HSZ.out]; omega) ?_)
      intro v' w' h1 h2 _ h4
      have HF := Lib.hid (show RowS B v' (addN l s) w' by
        rw [HE.out]
        unfold RowS
        rw [cellsS_snoc, List.length_append, HM.out]
        exact h1)
      have HG := Lib.hid (show Grew w w' (.slice ao j cap) v' from ⟨⟨h2.os.trans HB6.out.os, h2.tape.trans HB6.out.tape, h2.output.trans HB6.out.output, Nat.le_trans HB6.out.size h2.size, fun k hk hne => (h2.block k (Nat.lt_of_lt_of_le hk HB6.out.size) hne).trans (HB6.out.block k hk)⟩, fun k hk => by
        rcases h4 with h4 | h4
        · exact .inl (by rw [← h4]; exact hk)
        · right
          rw [h4] at hk
          injection hk with hk
          have := HB.out.size
          rw [← hk]
          omega⟩)
      clear h1 h2 h4
      go_wp2
      go_ret
      exact ⟨_, rfl, HF.out, HG.out⟩
end Go.Proofs.Ytjonpcpcokapkaa
