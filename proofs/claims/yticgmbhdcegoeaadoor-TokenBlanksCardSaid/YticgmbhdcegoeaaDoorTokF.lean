/- Rows of tokens; token.Scan. -/
import Derived.Test.YticgmbhdcegoeaaDoorTokE
import Derived.OwnWalk
namespace Go.Proofs.YticgmbhdcegoeaaDoor
open Go.RowKit

/-! ### Rows of tokens -/
def cellsT (t : Tok) : List Value := [.int .i64 t.kind, .string (bs t.text), .int .i64 t.num, .int .i64 t.place]
def cells4 (l : List Tok) : List Value := l.flatMap cellsT
theorem cells4_length (l : List Tok) : (cells4 l).length = l.length * 4 := by
  unfold cells4
  induction l with
  | nil => rfl
  | cons t r ih => rw [List.flatMap_cons, List.length_append, ih, List.length_cons]; show 4 + r.length * 4 = _; omega
theorem cells4_snoc (l : List Tok) (t : Tok) : cells4 (l ++ [t]) = cells4 l ++ cellsT t := by
  unfold cells4
  rw [List.flatMap_append]
  simp
/-- The call's own row of tokens. -/
def Row (B : Nat) (v : Value) (l : List Tok) (w : World) : Prop := w.ownsRow B 30 4 v l.length (cells4 l)
theorem Below.grows {w w' : World} (h : Below w.heap.size w w') : w.grownBy w' none := ⟨h.os, h.tape, h.output, h.size, fun k hk _ => h.block k hk⟩
theorem Row.below {B : Nat} {v : Value} {l : List Tok} {w w' : World} (h : Row B v l w) (hb : Below w.heap.size w w') : Row B v l w' :=
  h.kept (Below.grows hb) (by cases v.ownBlock <;> simp)
theorem Row.alloc {B : Nat} {v : Value} {l : List Tok} {w : World} (h : Row B v l w) (o : Obj) : Row B v l (w.alloc o) := h.below ((Below.refl _ w).alloc (Nat.le_refl _) o)
theorem Row.nil (B : Nat) (w : World) : Row B (.slice none 0 0) [] w := World.ownsRow_nil w B _ 4
theorem Row.snoc {B : Nat} {v : Value} {l : List Tok} {t : Tok} {w : World} (h : w.ownsRow B 30 4 v (l.length + 1) (cells4 l ++ cellsT t)) : Row B v (l ++ [t]) w := by
  unfold Row
  rw [cells4_snoc, List.length_append]
  exact h
theorem cellsT_one (t : Tok) : ∀ u ∈ cellsT t, u.oneCell' = true := by
  intro u hu
  simp only [cellsT, List.mem_cons, List.not_mem_nil, or_false] at hu
  rcases hu with rfl | rfl | rfl | rfl <;> rfl
/-- A token that was laid in a block of its own. -/
theorem tok_at (w : World) (t : Tok) {b : Nat} (hb : w.heap.size = b) (j : Nat) (u : Value) (h : (cellsT t)[j]? = some u) :
    (w.alloc (.cells #[.int .i64 t.kind, .string (bs t.text), .int .i64 t.num, .int .i64 t.place] 30)).cell? ((⟨b, 0, none⟩ : Addr).add j) = some u := by
  subst hb
  have e : (⟨w.heap.size, 0, none⟩ : Addr).add j = ⟨w.heap.size, j, none⟩ := by unfold Addr.add; split <;> simp_all
  rw [e]
  exact ((Has.new w (cellsT t) 30).cell j).trans h
theorem infoTok : ((Tryd.prog).info? 30).map (fun i => (i.zero, i.size, i.bytes)) = some (some (.agg #[.int .i64 0, .string ⟨#[]⟩, .int .i64 0, .int .i64 0]), 4, 40) := by kernel_rfl

/-! ### A scan, from a place on -/
def pre (acc : List Tok) : Except (Nat × Int) (List Tok) → Except (Nat × Int) (List Tok)
  | .error e => .error e
  | .ok ts => .ok (acc ++ ts)
theorem pre_nil (r : Except (Nat × Int) (List Tok)) : pre [] r = r := by cases r <;> rfl
theorem pre_snoc (acc : List Tok) (t : Tok) (r : Except (Nat × Int) (List Tok)) : pre acc (match r with | .error e => .error e | .ok ts => .ok (t :: ts)) = pre (acc ++ [t]) r := by
  cases r with
  | error e => rfl
  | ok ts => show Except.ok (acc ++ (t :: ts)) = Except.ok (acc ++ [t] ++ ts); rw [List.append_assoc]; rfl
theorem numberN_err {l : List UInt8} {e : Int} (h : numberN l = .error e) : e ≠ 0 := by
  rw [numberN_eq] at h
  unfold numberK at h
  split at h
  · injection h with h; omega
  · split at h
    · injection h with h; omega
    · cases h
theorem oneN_err {l : List UInt8} {e : Int} (h : oneN l = .error e) : e ≠ 0 := by
  cases l with
  | nil => injection h with h; omega
  | cons b t =>
    by_cases h1 : 0 < spanLen isLetter (b :: t)
    · rw [one_word h1] at h
      unfold wordN at h
      split at h
      · injection h with h; omega
      · cases h
    · by_cases h2 : b.toNat = 45 ∨ isDigit b = true
      · rw [oneN_num t h2] at h
        cases hn : numberN (b :: t) with
        | error x => rw [hn] at h; injection h with h; have := numberN_err hn; omega
        | ok x => rw [hn] at h; cases h
      · rw [one_mark (by omega) h2] at h
        split at h
        · injection h with h; omega
        · cases h
/-- Behind a token and the blanks there. -/
theorem scan_next (l : List UInt8) (a : Nat) (acc : List Tok) (k : Int) (t : List UInt8) (v : Int) (n : Nat) (ha : a < l.length) (hb : blankN (l.drop a) = 0) (h1 : oneN (l.drop a) = .ok (k, t, v, n)) :
    pre acc (scanF (l.drop a) a) = pre (acc ++ [⟨k, t, v, a⟩]) (scanF (l.drop (a + n + skipN false (l.drop (a + n)))) (a + n + skipN false (l.drop (a + n)))) := by
  have hne : l.drop a ≠ [] := fun e => by have := congrArg List.length e; rw [List.length_drop, List.length_nil] at this; omega
  rw [scanF_one _ a hne hb, h1]
  dsimp only
  refine (pre_snoc acc ⟨k, t, v, a⟩ (scanF ((l.drop a).drop n) (a + n))).trans ?_
  rw [List.drop_drop, ← scan_skip (l.drop (a + n)) (a + n), List.drop_drop]
def scanOut (v : Value) : Except (Nat × Int) (List Tok) → Value
  | .error e => .tuple #[.slice none 0 0, .int .i64 (e.1 : Nat), .int .i64 e.2]
  | .ok _ => .tuple #[v, .int .i64 0, .int .i64 0]
def ScanEnd (l : List UInt8) (w : World) (e : Ending) (w' : World) : Prop :=
  ∃ v, e = .returned (scanOut v (scanL l)) ∧ (∀ ts, scanL l = .ok ts → Row w.heap.size v ts w') ∧ Below w.heap.size w w'
def ScanRel (l : List UInt8) (w : World) (v at' : Value) (wr : World) : Prop :=
  ∃ (a : Nat) (acc : List Tok), at' = .int .i64 (a : Nat) ∧ a ≤ l.length ∧ acc.length ≤ a ∧ blankN (l.drop a) = 0 ∧ Row w.heap.size v acc wr ∧ scanL l = pre acc (scanF (l.drop a) a) ∧ Below w.heap.size w wr
theorem scan_long (l : List UInt8) (w : World) (h : 4000 < l.length) :
    Calls Tryd.prog 7 #[.string (bs l)] w fun e w' => e = .returned (.tuple #[.slice none 0 0, .int .i64 0, .int .i64 2]) ∧ w = w' := by
  have hs := bs_size l
  go_enter Tryd.func7, Tryd.ntmps7
  go_wp2
  go_ret3
  exact ⟨rfl, rfl⟩
set_option maxHeartbeats 2000000 in
set_option maxRecDepth 100000 in
theorem scan_any (l : List UInt8) (w : World) (hl : l.length ≤ 4000) (hE : Env w) :
    Calls Tryd.prog 7 #[.string (bs l)] w (ScanEnd l w) := by
  obtain ⟨i0, hi, hz0, hz1, hz2⟩ := info_parts infoTok
  have hs := bs_size l
  have hsk := skipN_le false l
  go_enter Tryd.func7, Tryd.ntmps7
  go_wp2_with fail
  refine (blanks_any l _ (by omega)).mono ?_
  rintro e w1 ⟨rfl, h1⟩
  go_wp2
  go_loopw [5, 6] (ScanRel l w) (fun _ i _ => l.length - (intOf i).toNat)
  case atStart => exact ⟨skipN false l, [], rfl, hsk, Nat.zero_le _, skipN_drop false l, Row.nil _ _, by rw [pre_nil]; unfold scanL; rw [show scanN l.length l 0 = scanF l 0 from rfl, ← scan_skip l 0, Nat.zero_add], h1⟩
  case round =>
    obtain ⟨a, acc, rfl, ha, hacc, hbl, hrow, hsc, hb⟩ := hrel
    clear h1 hsk
    by_cases hal : a < l.length
    · have hsli : ∀ w, (Instr.slice 9 (.string (bs l)) (some (.int .i64 (a : Int))) none none).run Tryd.prog w = .ok (.string (bs (l.drop a))) w := fun w => run_slice_lo w _ l .i64 a Tryd.underlying9 ha
      have hne : l.drop a ≠ [] := fun e => by have := congrArg List.length e; rw [List.length_drop, List.length_nil] at this; omega
      have hpc := piece_any (l.drop a) wr hne (by rw [List.length_drop]; omega) (hE.below hb)
      cases h1 : oneN (l.drop a) with
      | error c =>
        have hc := oneN_err h1
        rw [h1] at hpc
        have HS : Hid (scanL l = .error (a, c)) := by rw [hsc, scanF_one _ a hne hbl, h1]; exact Lib.hid rfl
        have hc2 : (c == 0) = false := beq_false_of_ne hc
        have hc3 : (c != 0) = true := bne_iff_ne.2 hc
        have HR := Lib.hid hrow
        clear hrow hsc h1 hbl hne hc
        go_wp2_with fail
        refine hpc.mono ?_
        rintro e w2 ⟨rfl, h2⟩
        have hb2 := hb.trans (h2.mono hb.size)
        clear h2 hpc
        unfold pieceOut tokV
        go_wp2
        go_ret3
        refine ⟨.slice none 0 0, (by rw [HS.out]; rfl), (fun ts h => by rw [HS.out] at h; cases h), hb2.alloc hb2.size _⟩
      | ok x =>
        obtain ⟨k, t, v', n⟩ := x
        have hlen := (oneN_len h1).2
        rw [List.length_drop] at hlen
        have hpos := (oneN_len h1).1
        have hsk := skipN_le false (l.drop (a + n))
        rw [List.length_drop] at hsk
        have hbl2 : blankN (l.drop (a + n + skipN false (l.drop (a + n)))) = 0 := by rw [← List.drop_drop]; exact skipN_drop false _
        have HN := Lib.hid (hsc.trans (scan_next l a acc k t v' n hal hbl h1))
        have HB := Lib.hid hbl2
        have hsli2 : ∀ w, (Instr.slice 9 (.string (bs l)) (some (.int .i64 ((a : Int) + (n : Int)))) none none).run Tryd.prog w = .ok (.string (bs (l.drop (a + n)))) w := fun w => run_slice_lo w _ l .i64 (a + n) Tryd.underlying9 (by omega)
        have hbk := blanks_any (l.drop (a + n))
        rw [h1] at hpc
        generalize skipN false (l.drop (a + n)) = s at hsk HN HB hbk
        have HK : Hid (∀ W, Calls Tryd.prog 19 #[.string (bs (l.drop (a + n)))] W fun e w' => e = .returned (.int .i64 (s : Nat)) ∧ Below W.heap.size W w') := Lib.hid fun W => hbk W (by rw [List.length_drop]; omega)
        clear hsc h1 hbl hne hbl2 hbk
        go_wp2_with fail
        refine hpc.mono ?_
        rintro e w2 ⟨rfl, h2⟩
        have hb2 := hb.trans (h2.mono hb.size)
        have hr2 := hrow.below h2
        clear h2 hpc hb hrow
        have hr3 := (hr2.alloc (.cells #[.int .i64 k, .string (bs t), .int .i64 v', .int .i64 (a : Nat)] 30)).alloc (.cells #[.int .i64 k, .string (bs t), .int .i64 v', .int .i64 (a : Nat)] 30)
        have hb3 := (hb2.alloc hb2.size (.cells #[.int .i64 k, .string (bs t), .int .i64 v', .int .i64 (a : Nat)] 30)).alloc (by have := hb2.size; simp; omega) (.cells #[.int .i64 k, .string (bs t), .int .i64 v', .int .i64 (a : Nat)] 30)
        clear hb2 hr2
        unfold pieceOut tokV
        go_wp2_with (at_builtin; refine wpList_append_own _ rfl _ _ 22 rfl w.heap.size 30 i0 (.agg #[.int .i64 0, .string ⟨#[]⟩, .int .i64 0, .int .i64 0]) 4 40 Tryd.underlying22 hi hz0 hz1 hz2 rfl (by decide) _ _ _ rfl hr3 ⟨w2.heap.size + 1, 0, none⟩ 1 1 (cellsT ⟨k, t, v', a⟩) rfl rfl ?c1 ?c2 ?c3 ?c4 ?c5 ?_)
        case c1 => exact fun j u hj => tok_at _ _ (by simp) j u hj
        case c2 => exact cellsT_one _
        case c3 => unfold maxLen; omega
        case c4 => omega
        case c5 => exact hb3.size
        intro v2 w4 hown hgrow _
        have hb4 := hb3.grown hgrow hb3.size (fun j hj => (World.ownsRow.lt hr3 j hj).1)
        have hr4 := Row.snoc hown
        clear hown hgrow hb3 hr3
        go_wp2_with fail
        refine (HK.out _).mono ?_
        rintro e w5 ⟨rfl, h5⟩
        have hb5 := hb4.trans (h5.mono hb4.size)
        have hr5 := hr4.below h5
        clear h5 hb4 hr4
        go_wp2
        go_roundw
        case rel => exact ⟨a + n + s, acc ++ [⟨k, t, v', a⟩], by go_num, by omega, by rw [List.length_append]; show acc.length + 1 ≤ _; omega, HB.out, hr5, HN.out, hb5⟩
        case measure => simp [intOf]; omega
    · have HS : Hid (scanL l = .ok acc) := by rw [hsc, List.drop_of_length_le (by omega), scanF_nil]; exact Lib.hid (by show Except.ok (acc ++ []) = _; rw [List.append_nil])
      have HR := Lib.hid hrow
      clear hrow hsc hbl
      go_wp2
      go_ret3
      refine ⟨_, (by rw [HS.out]; rfl), (fun ts h => by rw [HS.out] at h; cases h; exact HR.out), hb⟩
end Go.Proofs.YticgmbhdcegoeaaDoor
