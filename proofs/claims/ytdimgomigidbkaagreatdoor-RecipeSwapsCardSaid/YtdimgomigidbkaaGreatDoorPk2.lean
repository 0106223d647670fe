/- Texts of one proof, put together: RecP, Str, ShAt, Gen. -/
import Derived.Test.YtdimgomigidbkaaGreatDoorPk1
import Derived.WalkKit
import Derived.Laws.Strings
import Derived.Laws.Strings2
import Derived.Laws.Strings3
import Derived.Laws.DeepStrings4
import Derived.Laws.Concat
import Derived.Laws.StructEq
import Derived.ChangeMaps5
import Derived.Shelf.Small.Wraps
import Derived.Shelf.Strconv.Itoa3
import Derived.Shelf.Strconv.ErrVarAll
import Derived.Lib.AtoiErrMem
import Derived.Lib.AppendIntMem
import Derived.KernelRfl
import Derived.Test.YtdimgomigidbkaaGreatDoorRows
import Derived.Outline
import Derived.Deep.RegionWith
import Derived.Deep.RegionHeld3
import Derived.Deep.DeepCutAuto
import Derived.Deep.QuietTactic
import Derived.BigQuiet
import Derived.LoopN
import Derived.Lib.Hide
import Derived.RangeFuncNested
import Derived.RangeFuncLeaves
import Derived.Scope
/- Numbers of stage 8, second part: a recipe's text; its tokens, scanned and read again. Lists; no Go in sight. -/
namespace Go.Proofs.YtdimgomigidbkaaGreatDoor

/-! ### Tokens with what stands behind each -/
def layN : List (Tok × List UInt8) → List UInt8
  | [] => []
  | x :: r => x.1.bytes ++ (x.2 ++ layN r)
def layT : List (Tok × List UInt8) → Nat → List Tok
  | [], _ => []
  | x :: r, a => ⟨x.1.kind, x.1.text, x.1.num, a⟩ :: layT r (a + x.1.bytes.length + x.2.length)
/-- Each token stops where its text ends; what stands behind it is skipped. -/
def LayOk : List (Tok × List UInt8) → List UInt8 → Prop
  | [], _ => True
  | x :: r, tail => x.1.right ∧ Skips x.2 ∧ Stops (x.2 ++ (layN r ++ tail)) ∧ LayOk r tail
theorem layN_append : ∀ (a b : List (Tok × List UInt8)), layN (a ++ b) = layN a ++ layN b
  | [], _ => rfl
  | x :: a, b => by
    show x.1.bytes ++ (x.2 ++ layN (a ++ b)) = (x.1.bytes ++ (x.2 ++ layN a)) ++ layN b
    rw [layN_append a b]
    simp only [List.append_assoc]
theorem layT_append : ∀ (x y : List (Tok × List UInt8)) (a : Nat), layT (x ++ y) a = layT x a ++ layT y (a + (layN x).length)
  | [], _, _ => rfl
  | x :: l, y, a => by
    show _ :: layT (l ++ y) _ = _ :: (layT l _ ++ layT y _)
    rw [layT_append l y]
    show _ = _ :: (layT l _ ++ layT y (a + (x.1.bytes ++ (x.2 ++ layN l)).length))
    rw [List.length_append, List.length_append]
    simp only [Nat.add_assoc]
theorem LayOk.append : ∀ {x y : List (Tok × List UInt8)} {tail : List UInt8}, LayOk x (layN y ++ tail) → LayOk y tail → LayOk (x ++ y) tail
  | [], _, _, _, h => h
  | x :: l, y, tail, ⟨h1, h2, h3, h4⟩, h => by
    refine ⟨h1, h2, ?_, h4.append h⟩
    have e : layN (l ++ y) ++ tail = layN l ++ (layN y ++ tail) := by rw [layN_append, List.append_assoc]
    exact (congrArg (fun z => Stops (x.2 ++ z)) e).mpr h3
theorem scan_lay : ∀ (l : List (Tok × List UInt8)) (tail : List UInt8) (a : Nat), LayOk l tail →
    scanF (layN l ++ tail) a = match scanF tail (a + (layN l).length) with
      | .error e => .error e
      | .ok ts => .ok (layT l a ++ ts)
  | [], tail, a, _ => by
    show scanF tail a = _
    rw [show a + (layN []).length = a from rfl]
    cases scanF tail a <;> rfl
  | x :: r, tail, a, ⟨h1, h2, h3, h4⟩ => by
    have e1 := scanF_text h1 _ h3 a
    rw [h2] at e1
    have e2 := scan_lay r tail (a + x.1.bytes.length + x.2.length) h4
    show scanF (x.1.bytes ++ (x.2 ++ layN r) ++ tail) a = _
    rw [List.append_assoc, List.append_assoc]
    have e1' : scanF (x.1.bytes ++ (x.2 ++ (layN r ++ tail))) a = match scanF (layN r ++ tail) (a + x.1.bytes.length + x.2.length) with
        | .error e => .error e
        | .ok ts => .ok (⟨x.1.kind, x.1.text, x.1.num, a⟩ :: ts) := e1
    rw [e1', e2]
    have hl : a + (layN (x :: r)).length = a + x.1.bytes.length + x.2.length + (layN r).length := by
      show a + (x.1.bytes ++ (x.2 ++ layN r)).length = _
      rw [List.length_append, List.length_append]
      omega
    rw [hl]
    cases scanF tail (a + x.1.bytes.length + x.2.length + (layN r).length) <;> rfl
theorem layT_core : ∀ (l : List (Tok × List UInt8)) (a : Nat), (layT l a).map Tok.core = l.map fun x => x.1.core
  | [], _ => rfl
  | x :: r, a => by
    show _ :: (layT r _).map Tok.core = _ :: _
    rw [layT_core r]
    rfl

/-! ### A recipe's text -/
def wtok (t : List UInt8) : Tok := ⟨1, t, 0, 0⟩
def ntok (v : Int) : Tok := ⟨2, [], v, 0⟩
def mtok (k : Int) : Tok := ⟨k, [], 0, 0⟩
/-- Is a field told? -/
def showB (c : Ch) (k : Nat) : Bool := needB c.ch k || (decide (10 ≤ k) && decide (c.f 10 < c.f 11))
def lineF (c : Ch) (k : Nat) : List (Tok × List UInt8) := [(wtok (fieldW.getD k []), [32]), (ntok (c.f k), []), (mtok 5, [10])]
def headF (c : Ch) : List (Tok × List UInt8) := [(wtok chanW, [32]), (wtok c.name, [32]), (wtok (chartW.getD c.ch []), [32]), (mtok 3, [10])]
def linesF (c : Ch) (ks : List Nat) : List (Tok × List UInt8) := ks.flatMap (lineF c)
def shown (c : Ch) : List Nat := (List.range 12).filter (showB c)
def chanF (c : Ch) : List (Tok × List UInt8) := headF c ++ (linesF c (shown c) ++ [(mtok 4, [10])])
def recF (l : List Ch) : List (Tok × List UInt8) := l.flatMap chanF
def printR (l : List Ch) : List UInt8 := layN (recF l)
theorem recF_cons (c : Ch) (l : List Ch) : recF (c :: l) = chanF c ++ recF l := by unfold recF; rw [List.flatMap_cons]
theorem recF_append (a b : List Ch) : recF (a ++ b) = recF a ++ recF b := by unfold recF; rw [List.flatMap_append]
theorem printR_append (a b : List Ch) : printR (a ++ b) = printR a ++ printR b := by unfold printR; rw [recF_append, layN_append]
theorem skip_sp : Skips [32] := Skips.space (b := 32) rfl
theorem skip_nl : Skips [10] := Skips.space (b := 10) rfl
theorem stop_sp (r : List UInt8) : Stops ([32] ++ r) := Or.inr ⟨rfl, rfl⟩
theorem stop_nl (r : List UInt8) : Stops ([10] ++ r) := Or.inr ⟨rfl, rfl⟩
theorem stop_end (r : List UInt8) : Stops (59 :: r) := Or.inr ⟨rfl, rfl⟩
theorem field_right : ∀ k, k < 12 → RightN 1 (fieldW.getD k []) 0 := by decide
theorem chart_right : ∀ k, k < 8 → RightN 1 (chartW.getD k []) 0 := by decide
theorem chan_right : RightN 1 chanW 0 := by decide
theorem within_num {ch k : Nat} {v : Int} (hk : k < 12) (h : withinB ch k v = true) : RightN 2 [] v := by
  have h := of_decide_eq_true h
  have key : ∀ k, k < 12 → -1000000000 ≤ lowT.getD k 0 ∧ highT.getD k 0 ≤ 1000000000 := by decide
  obtain ⟨k1, k2⟩ := key k hk
  unfold lowK highK at h
  refine Or.inr (Or.inl ⟨rfl, rfl, ?_, ?_⟩)
  · split at h <;> omega
  · split at h <;> omega
theorem Ch.may.shown {c : Ch} (h : c.may) {k : Nat} (hk : k < 12) (hs : showB c k = true) : mayB c.ch k = true ∧ withinB c.ch k (c.f k) = true := by
  unfold showB at hs
  unfold mayB
  cases e : needB c.ch k with
  | true => exact ⟨by rw [Bool.true_or], h.need k hk e⟩
  | false =>
    rw [e, Bool.false_or, Bool.and_eq_true] at hs
    have h10 : 10 ≤ k := of_decide_eq_true hs.1
    have hlt : c.f 10 < c.f 11 := of_decide_eq_true hs.2
    have he : k = 10 ∨ k = 11 := by omega
    rcases h.ends with ⟨q1, q2⟩ | ⟨q1, q2, -⟩
    · omega
    · have hm : mayB c.ch k = true := by
        cases em : mayB c.ch k with
        | true => rfl
        | false =>
          have m10 : mayB c.ch 10 = false ∧ mayB c.ch 11 = false := by
            unfold mayB at em ⊢
            rw [Bool.or_eq_false_iff] at em
            have h1 : decide (c.ch ≤ 1) = false := by
              have := em.2
              rw [decide_eq_true h10, Bool.and_true] at this
              exact this
            have n10 : ∀ j, 10 ≤ j → needB c.ch j = false := fun j hj => by
              cases en : needB c.ch j with
              | false => rfl
              | true => have := (need_10 _ _ en).2; omega
            rw [h1, n10 10 (by omega), n10 11 (by omega)]
            exact ⟨rfl, rfl⟩
          have a := h.zero 10 (by decide) m10.1
          have b := h.zero 11 (by decide) m10.2
          omega
      unfold mayB at hm
      rw [e] at hm
      refine ⟨hm, ?_⟩
      rcases he with rfl | rfl
      · exact q1
      · exact q2
theorem lines_ok {c : Ch} (h : c.may) (tail : List UInt8) : ∀ ks : List Nat, (∀ k ∈ ks, k < 12 ∧ showB c k = true) → LayOk (linesF c ks) tail
  | [], _ => trivial
  | k :: ks, hk => by
    have ih := lines_ok h tail ks (fun j hj => hk j (by simp [hj]))
    obtain ⟨h1, h2⟩ := hk k (by simp)
    have hn := within_num h1 (h.shown h1 h2).2
    have e : linesF c (k :: ks) = lineF c k ++ linesF c ks := by unfold linesF; rw [List.flatMap_cons]
    rw [e]
    exact ⟨field_right k h1, skip_sp, stop_sp _, hn, Skips.nil, stop_end _, Or.inr (Or.inr ⟨Or.inr (Or.inr rfl), rfl, rfl⟩), skip_nl, stop_nl _, ih⟩
theorem shown_mem {c : Ch} {k : Nat} (h : k ∈ shown c) : k < 12 ∧ showB c k = true := by
  unfold shown at h
  rw [List.mem_filter, List.mem_range] at h
  exact h
theorem Ch.may.ch8 {c : Ch} (h : c.may) : c.ch < 8 ∧ c.chart = (c.ch : Int) := by
  have := h.lo
  have := h.hi
  unfold Ch.ch
  omega
theorem chan_ok {c : Ch} (h : c.may) (tail : List UInt8) : LayOk (chanF c) tail := by
  have hl := lines_ok h (layN [(mtok 4, [10])] ++ tail) (shown c) (fun k hk => shown_mem hk)
  have he : LayOk [(mtok 4, [10])] tail := ⟨Or.inr (Or.inr ⟨Or.inr (Or.inl rfl), rfl, rfl⟩), skip_nl, stop_nl _, trivial⟩
  have hh := hl.append he
  exact ⟨chan_right, skip_sp, stop_sp _, h.name, skip_sp, stop_sp _, chart_right _ h.ch8.1, skip_sp, stop_sp _, Or.inr (Or.inr ⟨Or.inl rfl, rfl, rfl⟩), skip_nl, stop_nl _, hh⟩
theorem rec_ok : ∀ (l : List Ch) (tail : List UInt8), (∀ c ∈ l, c.may) → LayOk (recF l) tail
  | [], _, _ => trivial
  | c :: l, tail, h => by
    rw [recF_cons]
    exact (chan_ok (h c (by simp)) _).append (rec_ok l tail fun x hx => h x (by simp [hx]))
theorem scan_rec (l : List Ch) (h : ∀ c ∈ l, c.may) : scanL (printR l) = .ok (layT (recF l) 0) := by
  have := scan_lay (recF l) [] 0 (rec_ok l [] h)
  rw [List.append_nil, scanF_nil] at this
  show scanF (printR l) 0 = _
  rw [show printR l = layN (recF l) from rfl, this]
  show Except.ok (layT (recF l) 0 ++ []) = _
  rw [List.append_nil]

/-! ### Its tokens, read -/
def coresF (c : Ch) (ks : List Nat) : List (Int × List UInt8 × Int) := ks.flatMap fun k => [(1, fieldW.getD k [], 0), (2, [], c.f k), (5, [], 0)]
theorem lines_core (c : Ch) : ∀ ks : List Nat, (linesF c ks).map (fun x => x.1.core) = coresF c ks
  | [] => rfl
  | k :: ks => by
    have e : linesF c (k :: ks) = lineF c k ++ linesF c ks := by unfold linesF; rw [List.flatMap_cons]
    have e2 : coresF c (k :: ks) = [(1, fieldW.getD k [], 0), (2, [], c.f k), (5, [], 0)] ++ coresF c ks := by unfold coresF; rw [List.flatMap_cons]
    rw [e, e2, List.map_append, lines_core c ks]
    rfl
def coresC (c : Ch) : List (Int × List UInt8 × Int) := [(1, chanW, 0), (1, c.name, 0), (1, chartW.getD c.ch [], 0), (3, [], 0)] ++ (coresF c (shown c) ++ [(4, [], 0)])
theorem chan_core (c : Ch) : (chanF c).map (fun x => x.1.core) = coresC c := by
  unfold chanF coresC
  rw [List.map_append, List.map_append, lines_core]
  rfl
theorem core_cons {l : List Tok} {k : Int} {t : List UInt8} {v : Int} {r : List (Int × List UInt8 × Int)} (h : l.map Tok.core = (k, t, v) :: r) : ∃ p l', l = ⟨k, t, v, p⟩ :: l' ∧ l'.map Tok.core = r := by
  cases l with
  | nil => cases h
  | cons x l' =>
    rw [List.map_cons] at h
    injection h with h1 h2
    obtain ⟨k', t', v', p⟩ := x
    simp only [Tok.core, Prod.mk.injEq] at h1
    obtain ⟨rfl, rfl, rfl⟩ := h1
    exact ⟨p, l', rfl, h2⟩
def setAll (c : Ch) : Ch → List Nat → Ch
  | d, [] => d
  | d, k :: ks => setAll c (d.set k (c.f k)) ks
def putAll : (Nat → Bool) → List Nat → Nat → Bool
  | m, [] => m
  | m, k :: ks => putAll (put m k) ks
theorem setAll_chart (c : Ch) : ∀ (ks : List Nat) (d : Ch), (setAll c d ks).chart = d.chart ∧ (setAll c d ks).name = d.name
  | [], _ => ⟨rfl, rfl⟩
  | k :: ks, d => setAll_chart c ks (d.set k (c.f k))
theorem setAll_f (c : Ch) : ∀ (ks : List Nat) (d : Ch) (j : Nat), (setAll c d ks).f j = if j ∈ ks then c.f j else d.f j
  | [], d, j => by simp [setAll]
  | k :: ks, d, j => by
    have h := setAll_f c ks (d.set k (c.f k)) j
    show (setAll c (d.set k (c.f k)) ks).f j = _
    rw [h]
    by_cases h1 : j ∈ ks
    · rw [if_pos h1, if_pos (by simp [h1])]
    · rw [if_neg h1]
      show (if j = k then c.f k else d.f j) = _
      by_cases h2 : j = k
      · rw [if_pos h2, if_pos (by simp [h2]), h2]
      · rw [if_neg h2, if_neg (by simp [h1, h2])]
theorem putAll_mem : ∀ (ks : List Nat) (m : Nat → Bool) (j : Nat), putAll m ks j = (decide (j ∈ ks) || m j)
  | [], m, j => by simp [putAll]
  | k :: ks, m, j => by
    show putAll (put m k) ks j = _
    rw [putAll_mem ks]
    unfold put
    by_cases h1 : j ∈ ks
    · simp [h1]
    · by_cases h2 : j = k <;> simp [h1, h2]
theorem fields_read {c : Ch} (rest : List (Int × List UInt8 × Int)) : ∀ (ks : List Nat) (n : Nat) (l : List Tok) (d : Ch) (met : Nat → Bool), ks.length < n → l.map Tok.core = coresF c ks ++ ((4, [], 0) :: rest) →
    d.chart = c.chart → (∀ k ∈ ks, k < 12 ∧ mayB c.ch k = true ∧ withinB c.ch k (c.f k) = true ∧ met k = false) → ks.Nodup →
    ∃ l', fieldsS n l d met = closeS l' (setAll c d ks) (putAll met ks) ∧ (l'.drop 1).map Tok.core = rest
  | [], n + 1, l, d, met, _, hl, _, _, _ => by
    obtain ⟨p, l', rfl, hr⟩ := core_cons (show l.map Tok.core = (4, [], 0) :: rest from hl)
    refine ⟨⟨4, [], 0, p⟩ :: l', ?_, hr⟩
    unfold fieldsS
    rw [if_pos (show (hd (⟨4, [], 0, p⟩ :: l')).kind = 4 from rfl)]
    rfl
  | k :: ks, n + 1, l, d, met, hn, hl, hc, hk, hnd => by
    have e2 : coresF c (k :: ks) = [(1, fieldW.getD k [], 0), (2, [], c.f k), (5, [], 0)] ++ coresF c ks := by unfold coresF; rw [List.flatMap_cons]
    rw [e2] at hl
    obtain ⟨p1, l1, rfl, hl1⟩ := core_cons hl
    obtain ⟨p2, l2, rfl, hl2⟩ := core_cons hl1
    obtain ⟨p3, l3, rfl, hl3⟩ := core_cons hl2
    obtain ⟨k1, k2, k3, k4⟩ := hk k (by simp)
    have hch : d.ch = c.ch := by unfold Ch.ch; rw [hc]
    rw [List.nodup_cons] at hnd
    obtain ⟨l', h1, h2⟩ := fields_read rest ks n l3 (d.set k (c.f k)) (put met k) (by rw [List.length_cons] at hn; omega) hl3 hc (fun j hj => by
      obtain ⟨j1, j2, j3, j4⟩ := hk j (by simp [hj])
      refine ⟨j1, j2, j3, ?_⟩
      unfold put
      rw [j4, decide_eq_false (p := j = k) (fun e => hnd.1 (e ▸ hj))]
      rfl) hnd.2
    refine ⟨l', ?_, h2⟩
    show fieldsS (n + 1) _ _ _ = closeS l' (setAll c (d.set k (c.f k)) ks) (putAll (put met k) ks)
    rw [← h1]
    have hf : findW fieldW (wordT (hd (⟨1, fieldW.getD k [], 0, p1⟩ :: ⟨2, [], c.f k, p2⟩ :: ⟨5, [], 0, p3⟩ :: l3))) = some k := field_found k k1
    conv => lhs; unfold fieldsS
    rw [if_neg (show ¬ (hd (⟨1, fieldW.getD k [], 0, p1⟩ :: ⟨2, [], c.f k, p2⟩ :: ⟨5, [], 0, p3⟩ :: l3)).kind = 4 from by show ¬ (1 : Int) = 4; decide), hf]
    dsimp only
    rw [if_neg (by rw [hch, k2]; decide), if_neg (by rw [k4]; decide), if_neg (fun h => h rfl), if_neg (by rw [hch]; show ¬ withinB c.ch k (c.f k) = false; rw [k3]; decide), if_neg (fun h => h rfl)]
    rfl
theorem close_read {c : Ch} (hm : c.may) (hf : c.fin) (l' : List Tok) : closeS l' (setAll c (chan0 c.name c.ch) (shown c)) (putAll (fun _ => false) (shown c)) = .ok (c, l'.drop 1) := by
  have hch := hm.ch8
  have hsh : ∀ k, k < 12 → (k ∈ shown c ↔ showB c k = true) := fun k hk => by
    unfold shown
    rw [List.mem_filter, List.mem_range]
    exact ⟨fun h => h.2, fun h => ⟨hk, h⟩⟩
  have hzero : ∀ k, k < 12 → showB c k = false → c.f k = 0 := fun k hk h => by
    unfold showB at h
    rw [Bool.or_eq_false_iff] at h
    cases em : mayB c.ch k with
    | false => exact hm.zero k hk em
    | true =>
      unfold mayB at em
      rw [h.1, Bool.false_or, Bool.and_eq_true] at em
      have h10 : 10 ≤ k := of_decide_eq_true em.2
      have hlt : ¬ c.f 10 < c.f 11 := by
        have := h.2
        rw [decide_eq_true h10, Bool.true_and] at this
        exact of_decide_eq_false this
      rcases hm.ends with ⟨q1, q2⟩ | ⟨-, -, q⟩
      · have he : k = 10 ∨ k = 11 := by omega
        rcases he with rfl | rfl
        · exact q1
        · exact q2
      · exact absurd q hlt
  have hc : setAll c (chan0 c.name c.ch) (shown c) = c := by
    have h1 := setAll_chart c (shown c) (chan0 c.name c.ch)
    have h2 : (setAll c (chan0 c.name c.ch) (shown c)).f = c.f := by
      funext j
      rw [setAll_f]
      by_cases h : j ∈ shown c
      · rw [if_pos h]
      · rw [if_neg h]
        show 0 = c.f j
        rcases Nat.lt_or_ge j 12 with q | q
        · exact (hzero j q (by
            cases e : showB c j
            · rfl
            · exact absurd ((hsh j q).2 e) h)).symm
        · exact (hf j q).symm
    generalize setAll c (chan0 c.name c.ch) (shown c) = d at h1 h2
    obtain ⟨dn, dc, df⟩ := d
    obtain ⟨cn, cc, cf⟩ := c
    dsimp only at h1 h2
    have a : dc = cc := h1.1.trans hch.2.symm
    have b : dn = cn := h1.2
    rw [a, b, h2]
  have hp : ∀ k, k < 12 → putAll (fun _ => false) (shown c) k = showB c k := fun k hk => by
    rw [putAll_mem, Bool.or_false]
    cases e : showB c k
    · exact decide_eq_false fun h => by rw [(hsh k hk).1 h] at e; cases e
    · exact decide_eq_true ((hsh k hk).2 e)
  rw [hc]
  unfold closeS
  have h10 : showB c 10 = showB c 11 := by
    have n10 : ∀ j, 10 ≤ j → needB c.ch j = false := fun j hj => by
      cases en : needB c.ch j with
      | false => rfl
      | true => have := (need_10 _ _ en).2; omega
    unfold showB
    rw [n10 10 (by decide), n10 11 (by decide)]
    rfl
  rw [if_neg, if_neg, if_neg]
  · rw [Bool.or_eq_true, Bool.and_eq_true, Bool.and_eq_true]
    rintro (⟨h1, h2⟩ | ⟨h1, h2⟩)
    · have := hm.order h1
      have := of_decide_eq_true h2
      omega
    · rw [hp 10 (by decide)] at h1
      have h2 := of_decide_eq_true h2
      unfold showB at h1
      rw [Bool.or_eq_true, Bool.and_eq_true] at h1
      rcases h1 with q | ⟨-, q⟩
      · have := (need_10 _ _ q).2; omega
      · have := of_decide_eq_true q; omega
  · rw [hp 10 (by decide), hp 11 (by decide), h10]
    exact fun h => h rfl
  · rw [List.any_eq_true]
    rintro ⟨k, hk, h⟩
    rw [List.mem_range] at hk
    rw [hp k (by omega), Bool.and_eq_true] at h
    unfold showB at h
    rw [h.1, Bool.true_or] at h
    exact absurd h.2 (by decide)
theorem shown_nodup (c : Ch) : (shown c).Nodup := List.Nodup.sublist List.filter_sublist List.nodup_range
theorem shown_len (c : Ch) : (shown c).length ≤ 12 := by
  have := List.length_filter_le (showB c) (List.range 12)
  rwa [List.length_range] at this
theorem coresF_len (c : Ch) : ∀ ks : List Nat, (coresF c ks).length = 3 * ks.length
  | [] => rfl
  | k :: ks => by
    have e2 : coresF c (k :: ks) = [(1, fieldW.getD k [], 0), (2, [], c.f k), (5, [], 0)] ++ coresF c ks := by unfold coresF; rw [List.flatMap_cons]
    rw [e2, List.length_append, coresF_len c ks]
    simp
    omega
theorem channel_read {c : Ch} (hm : c.may) (hf : c.fin) (l : List Tok) (ahead : List Ch) (rest : List (Int × List UInt8 × Int)) (hl : l.map Tok.core = coresC c ++ rest) (h4 : ahead.length ≠ 4) (hn : c.name ∉ ahead.map Ch.name) :
    ∃ r, channelS l ahead = .ok (c, r) ∧ r.map Tok.core = rest := by
  have hlen := congrArg List.length hl
  rw [List.length_map, List.length_append] at hlen
  unfold coresC at hl hlen
  rw [List.length_append, List.length_append, coresF_len] at hlen
  obtain ⟨p1, l1, rfl, hl1⟩ := core_cons hl
  obtain ⟨p2, l2, rfl, hl2⟩ := core_cons hl1
  obtain ⟨p3, l3, rfl, hl3⟩ := core_cons hl2
  obtain ⟨p4, l4, rfl, hl4⟩ := core_cons hl3
  have hl4 : l4.map Tok.core = coresF c (shown c) ++ ((4, [], 0) :: rest) := by
    rw [hl4]
    show coresF c (shown c) ++ [(4, [], 0)] ++ rest = _
    rw [List.append_assoc]
    rfl
  obtain ⟨l', h1, h2⟩ := fields_read rest (shown c) (l4.length + 4) l4 (chan0 c.name c.ch) (fun _ => false) (by
    simp only [List.length_cons, List.length_nil] at hlen
    omega) hl4 hm.ch8.2.symm (fun k hk => by
      obtain ⟨k1, k2⟩ := shown_mem hk
      have := hm.shown k1 k2
      exact ⟨k1, this.1, this.2, rfl⟩) (shown_nodup c)
  rw [close_read hm hf] at h1
  refine ⟨l'.drop 1, ?_, h2⟩
  unfold channelS
  have hw : findW chartW (wordT (hd (List.drop 2 (⟨1, chanW, 0, p1⟩ :: ⟨1, c.name, 0, p2⟩ :: ⟨1, chartW.getD c.ch [], 0, p3⟩ :: ⟨3, [], 0, p4⟩ :: l4)))) = some c.ch := chart_found _ hm.ch8.1
  have hn' : ¬ (hd (List.drop 1 (⟨1, chanW, 0, p1⟩ :: ⟨1, c.name, 0, p2⟩ :: ⟨1, chartW.getD c.ch [], 0, p3⟩ :: ⟨3, [], 0, p4⟩ :: l4))).text ∈ ahead.map Ch.name := hn
  rw [if_neg (fun h => h rfl), if_neg h4, if_neg (fun h => h rfl), if_neg hn', hw]
  dsimp only
  rw [if_neg (fun h => h rfl)]
  exact h1
theorem parse_read : ∀ (cs : List Ch) (n : Nat) (l : List Tok) (out : List Ch), cs.length < n → l.map Tok.core = cs.flatMap coresC → (∀ c ∈ cs, c.may ∧ c.fin) → out.length + cs.length ≤ 4 → 1 ≤ out.length + cs.length → ((out ++ cs).map Ch.name).Nodup →
    parseS n l out = .ok (out ++ cs)
  | [], n + 1, l, out, _, hl, _, _, h1, _ => by
    have e : l = [] := List.map_eq_nil_iff.1 hl
    unfold parseS
    rw [if_pos ⟨e, fun e => by rw [e] at h1; exact absurd h1 (by decide)⟩, List.append_nil]
  | c :: cs, n + 1, l, out, hn, hl, hm, h4, _, hd => by
    rw [List.flatMap_cons] at hl
    rw [List.length_cons] at h4 hn
    have hnm : c.name ∉ out.map Ch.name := by
      rw [List.map_append, List.nodup_append] at hd
      intro h
      exact hd.2.2 _ h _ (by simp) rfl
    obtain ⟨r, h1, h2⟩ := channel_read (hm c (by simp)).1 (hm c (by simp)).2 l out _ hl (by omega) hnm
    have ih := parse_read cs n r (out ++ [c]) (by omega) h2 (fun x hx => hm x (by simp [hx])) (by rw [List.length_append, List.length_singleton]; omega) (by rw [List.length_append, List.length_singleton]; omega) (by rw [List.append_assoc]; exact hd)
    unfold parseS
    have hne : ¬ (l = [] ∧ out ≠ []) := by
      rintro ⟨rfl, -⟩
      have := congrArg List.length hl
      unfold coresC at this
      simp at this
    rw [if_neg hne, h1]
    dsimp only
    rw [ih, List.append_assoc]
    rfl
theorem rec_core : ∀ (l : List Ch) (a : Nat), (layT (recF l) a).map Tok.core = l.flatMap coresC
  | [], _ => rfl
  | c :: l, a => by
    rw [recF_cons, layT_append, List.map_append, rec_core l, layT_core, chan_core, List.flatMap_cons]
/-- What is printed of a recipe is read as it was. -/
theorem parse_print (cs : List Ch) (n : Nat) (h : recB cs = true) (hf : ∀ c ∈ cs, c.fin) (hn : cs.length < n) : parseS n (layT (recF cs) 0) [] = .ok cs := by
  obtain ⟨⟨h1, h4⟩, hm, hd⟩ := (recB_iff cs).1 h
  exact parse_read cs n _ [] hn (rec_core cs 0) (fun c hc => ⟨hm c hc, hf c hc⟩) (by simpa using h4) (by simpa using h1) hd
end Go.Proofs.YtdimgomigidbkaaGreatDoor
/- Texts as lists of bytes: what a byte, a piece, a sum and '==' of such texts are in the walk. -/
namespace Go.Proofs.YtdimgomigidbkaaGreatDoor
open Go.RowKit

/-- A text of these bytes; its i-th byte. -/
def bs (l : List UInt8) : ByteArray := ⟨l.toArray⟩
def bt (l : List UInt8) (i : Nat) : Nat := (l.getD i 0).toNat
theorem bt_lt (l : List UInt8) (i : Nat) : bt l i < 256 := (l.getD i 0).toNat_lt
theorem bs_of (s : ByteArray) : bs s.data.toList = s := rfl
theorem bs_size (l : List UInt8) : (bs l).size = l.length := by simp [bs, ByteArray.size]
theorem bs_list (l : List UInt8) : (bs l).data.toList = l := rfl
theorem bs_toList (l : List UInt8) : (bs l).toList = l := ByteArray.toList_mk l
theorem bs_append (a b : List UInt8) : bs a ++ bs b = bs (a ++ b) := ByteArray.mk_append_mk a b
theorem bs_extract (l : List UInt8) (a b : Nat) : (bs l).extract a b = bs ((l.drop a).take (b - a)) := ByteArray.extract_mk l a b
theorem bs_get (l : List UInt8) (i : Nat) (h : i < (bs l).size) : ((bs l)[i]'h).toNat = bt l i := by
  have h2 : i < l.length := by rw [bs_size] at h; exact h
  unfold bt
  rw [List.getD_eq_getElem?_getD, List.getElem?_eq_getElem h2]
  rfl
section
variable {P : Program} (w : World)
theorem run_index_bs (t : TypeId) (l : List UInt8) (k : IntKind) (i : Nat) (h : P.underlying t = some .string) (hi : i < l.length) :
    (Instr.index t (.string (bs l)) (.int k (i : Int))).run P w = .ok (.int .u8 (bt l i : Nat)) w := by
  have hs := bs_size l
  rw [run_index_string w t (bs l) k i h, dif_pos ⟨by omega, by omega⟩]
  simp only [Int.toNat_natCast]
  rw [bs_get]
theorem run_slice_bs (t : TypeId) (l : List UInt8) (k k' : IntKind) (a b : Nat) (h : P.underlying t = some .string) (h1 : a ≤ b) (h2 : b ≤ l.length) :
    (Instr.slice t (.string (bs l)) (some (.int k (a : Int))) (some (.int k' (b : Int))) none).run P w = .ok (.string (bs ((l.drop a).take (b - a)))) w := by
  rw [run_slice_string w t (bs l) k k' a b h (by omega) (by omega) (by rw [bs_size]; omega), Int.toNat_natCast, Int.toNat_natCast, bs_extract]
theorem run_add_bs (a b : List UInt8) (h : a.length + b.length ≤ 9223372036854775807) : (Op.stringOp .add (bs a) (bs b)).run P w = .ok (.string (bs (a ++ b))) w := by
  rw [run_string_add_sum w (bs a) (bs b) (by rw [bs_size, bs_size]; exact h), bs_append]
theorem run_eq_bs (d : Nat) (t : TypeId) (a b : List UInt8) (h : P.underlying t = some .string) : (Op.equalIn (d + 1) t (.string (bs a)) (.string (bs b))).run P w = .ok (decide (a = b)) w := by
  rw [run_equalIn_string w d t (bs a) (bs b) h, bs_toList, bs_toList]
  congr 1
  by_cases e : a = b
  · rw [decide_eq_true e]; simp [e]
  · rw [decide_eq_false e]; simp [e]
theorem run_len_bs (t ty : TypeId) (l : List UInt8) (h : P.underlying t = some .string) : (Builtin.len_ #[t] ty #[.string (bs l)]).run P w = .ok (goInt l.length) w := by
  rw [run_len_string w t ty (bs l) h, bs_size]
end
end Go.Proofs.YtdimgomigidbkaaGreatDoor
/- What strings.CutPrefix and strconv.Atoi answer, by the shelf's contracts; what they ask of the library's variables. -/
namespace Go.Proofs.YtdimgomigidbkaaGreatDoor
open Go.Shelf Go.RowKit Go.Proofs
def s103_ren : Go.Shelf.Ren := ⟨fun | 103 => 85 | 206 => 109 | 210 => 99 | n => n, fun | 3 => 3 | 4 => 4 | 9 => 9 | 24 => 150 | n => n, fun n => n⟩
theorem s103 : Go.Proofs.Lays.n103 Tryz.prog s103_ren := {
  mixed := by kernel_rfl
  f103 := Tryz.func85.trans (congrArg some (by kernel_rfl))
  f206 := Tryz.func109.trans (congrArg some (by kernel_rfl))
  f210 := Tryz.func99.trans (congrArg some (by kernel_rfl))
  t3 := Tryz.underlying3
  a3 := Tryz.isAgg3
  z3 := Tryz.sizeOf3
  v3 := Tryz.zeroValue3
  t4 := Tryz.underlying4
  a4 := Tryz.isAgg4
  z4 := Tryz.sizeOf4
  v4 := Tryz.zeroValue4
  t9 := Tryz.underlying9
  a9 := Tryz.isAgg9
  z9 := Tryz.sizeOf9
  v9 := Tryz.zeroValue9
  t24 := Tryz.underlying150
  a24 := Tryz.isAgg150
  z24 := Tryz.sizeOf150
  v24 := Tryz.zeroValue150 }
def sC172_ren : Go.Shelf.Ren := ⟨fun | 129 => 116 | 171 => 50 | 172 => 86 | 205 => 122 | 243 => 82 | 244 => 100 | 245 => 101 | 246 => 97 | 247 => 110 | 279 => 111 | 280 => 112 | 281 => 113 | 282 => 114 | 283 => 104 | 284 => 105 | 285 => 106 | 286 => 107 | 287 => 120 | 316 => 121 | 317 => 115 | 318 => 117 | 319 => 118 | 320 => 119 | 321 => 125 | 322 => 126 | 337 => 123 | 338 => 124 | n => n, fun | 0 => 0 | 2 => 2 | 3 => 3 | 4 => 4 | 5 => 5 | 9 => 9 | 20 => 20 | 21 => 21 | 37 => 57 | 46 => 185 | 51 => 183 | 53 => 168 | 75 => 45 | 76 => 60 | 80 => 63 | 85 => 175 | 127 => 106 | 143 => 195 | 145 => 197 | 167 => 174 | 168 => 177 | 171 => 167 | 173 => 171 | 175 => 187 | 210 => 191 | 212 => 182 | 213 => 184 | 232 => 198 | 233 => 199 | n => n, fun | 15 => 2 | 16 => 3 | 17 => 1 | 18 => 4 | 19 => 5 | n => n⟩
theorem sC172 : Go.Proofs.LaysC.n172 Tryz.prog sC172_ren := {
  mixed := by kernel_rfl
  f129 := Tryz.func116.trans (congrArg some (by kernel_rfl))
  f171 := Tryz.func50.trans (congrArg some (by kernel_rfl))
  f172 := Tryz.func86.trans (congrArg some (by kernel_rfl))
  f205 := Tryz.func122.trans (congrArg some (by kernel_rfl))
  f243 := Tryz.func82.trans (congrArg some (by kernel_rfl))
  f244 := Tryz.func100.trans (congrArg some (by kernel_rfl))
  f245 := Tryz.func101.trans (congrArg some (by kernel_rfl))
  f246 := Tryz.func97.trans (congrArg some (by kernel_rfl))
  f247 := Tryz.func110.trans (congrArg some (by kernel_rfl))
  f279 := Tryz.func111.trans (congrArg some (by kernel_rfl))
  f280 := Tryz.func112.trans (congrArg some (by kernel_rfl))
  f281 := Tryz.func113.trans (congrArg some (by kernel_rfl))
  f282 := Tryz.func114.trans (congrArg some (by kernel_rfl))
  f283 := Tryz.func104.trans (congrArg some (by kernel_rfl))
  f284 := Tryz.func105.trans (congrArg some (by kernel_rfl))
  f285 := Tryz.func106.trans (congrArg some (by kernel_rfl))
  f286 := Tryz.func107.trans (congrArg some (by kernel_rfl))
  f287 := Tryz.func120.trans (congrArg some (by kernel_rfl))
  f316 := Tryz.func121.trans (congrArg some (by kernel_rfl))
  f317 := Tryz.func115.trans (congrArg some (by kernel_rfl))
  f318 := Tryz.func117.trans (congrArg some (by kernel_rfl))
  f319 := Tryz.func118.trans (congrArg some (by kernel_rfl))
  f320 := Tryz.func119.trans (congrArg some (by kernel_rfl))
  f321 := Tryz.func125.trans (congrArg some (by kernel_rfl))
  f322 := Tryz.func126.trans (congrArg some (by kernel_rfl))
  f337 := Tryz.func123.trans (congrArg some (by kernel_rfl))
  f338 := Tryz.func124.trans (congrArg some (by kernel_rfl))
  t0 := Tryz.underlying0
  a0 := Tryz.isAgg0
  z0 := Tryz.sizeOf0
  v0 := Tryz.zeroValue0
  t2 := Tryz.underlying2
  a2 := Tryz.isAgg2
  z2 := Tryz.sizeOf2
  v2 := Tryz.zeroValue2
  t3 := Tryz.underlying3
  a3 := Tryz.isAgg3
  z3 := Tryz.sizeOf3
  v3 := Tryz.zeroValue3
  t4 := Tryz.underlying4
  a4 := Tryz.isAgg4
  z4 := Tryz.sizeOf4
  v4 := Tryz.zeroValue4
  t5 := Tryz.underlying5
  a5 := Tryz.isAgg5
  z5 := Tryz.sizeOf5
  v5 := Tryz.zeroValue5
  t9 := Tryz.underlying9
  a9 := Tryz.isAgg9
  z9 := Tryz.sizeOf9
  v9 := Tryz.zeroValue9
  t20 := Tryz.underlying20
  a20 := Tryz.isAgg20
  z20 := Tryz.sizeOf20
  v20 := Tryz.zeroValue20
  t21 := Tryz.underlying21
  a21 := Tryz.isAgg21
  z21 := Tryz.sizeOf21
  v21 := Tryz.zeroValue21
  t37 := Tryz.underlying57
  a37 := Tryz.isAgg57
  z37 := Tryz.sizeOf57
  v37 := Tryz.zeroValue57
  t46 := Tryz.underlying185
  a46 := Tryz.isAgg185
  z46 := Tryz.sizeOf185
  v46 := Tryz.zeroValue185
  t51 := Tryz.underlying183
  a51 := Tryz.isAgg183
  z51 := Tryz.sizeOf183
  v51 := Tryz.zeroValue183
  t53 := Tryz.underlying168
  a53 := Tryz.isAgg168
  z53 := Tryz.sizeOf168
  v53 := Tryz.zeroValue168
  t75 := Tryz.underlying45
  a75 := Tryz.isAgg45
  z75 := Tryz.sizeOf45
  v75 := Tryz.zeroValue45
  t76 := Tryz.underlying60
  a76 := Tryz.isAgg60
  z76 := Tryz.sizeOf60
  v76 := Tryz.zeroValue60
  t85 := Tryz.underlying175
  a85 := Tryz.isAgg175
  z85 := Tryz.sizeOf175
  v85 := Tryz.zeroValue175
  t127 := Tryz.underlying106
  a127 := Tryz.isAgg106
  z127 := Tryz.sizeOf106
  v127 := Tryz.zeroValue106
  t143 := Tryz.underlying195
  a143 := Tryz.isAgg195
  z143 := Tryz.sizeOf195
  v143 := Tryz.zeroValue195
  t145 := Tryz.underlying197
  a145 := Tryz.isAgg197
  z145 := Tryz.sizeOf197
  v145 := Tryz.zeroValue197
  t167 := Tryz.underlying174
  a167 := Tryz.isAgg174
  z167 := Tryz.sizeOf174
  v167 := Tryz.zeroValue174
  t168 := Tryz.underlying177
  a168 := Tryz.isAgg177
  z168 := Tryz.sizeOf177
  v168 := Tryz.zeroValue177
  t171 := Tryz.underlying167
  a171 := Tryz.isAgg167
  z171 := Tryz.sizeOf167
  v171 := Tryz.zeroValue167
  t173 := Tryz.underlying171
  a173 := Tryz.isAgg171
  z173 := Tryz.sizeOf171
  v173 := Tryz.zeroValue171
  t175 := Tryz.underlying187
  a175 := Tryz.isAgg187
  z175 := Tryz.sizeOf187
  v175 := Tryz.zeroValue187
  t210 := Tryz.underlying191
  a210 := Tryz.isAgg191
  z210 := Tryz.sizeOf191
  v210 := Tryz.zeroValue191
  t212 := Tryz.underlying182
  a212 := Tryz.isAgg182
  z212 := Tryz.sizeOf182
  v212 := Tryz.zeroValue182
  t213 := Tryz.underlying184
  a213 := Tryz.isAgg184
  z213 := Tryz.sizeOf184
  t232 := Tryz.underlying198
  a232 := Tryz.isAgg198
  z232 := Tryz.sizeOf198
  v232 := Tryz.zeroValue198
  t233 := Tryz.underlying199
  a233 := Tryz.isAgg199
  z233 := Tryz.sizeOf199
  v233 := Tryz.zeroValue199
  g15 := by kernel_rfl
  g16 := by kernel_rfl
  g17 := by kernel_rfl
  g18 := by kernel_rfl
  g19 := by kernel_rfl
  t80 := Tryz.underlying63
  a80 := Tryz.isAgg63
  z80 := Tryz.sizeOf63
  v80 := Tryz.zeroValue63
  i0 := by kernel_rfl
  i2 := by kernel_rfl
  i3 := by kernel_rfl
  i4 := by kernel_rfl
  i5 := by kernel_rfl
  i9 := by kernel_rfl
  i20 := by kernel_rfl
  i21 := by kernel_rfl
  i37 := by kernel_rfl
  i46 := by kernel_rfl
  i51 := by kernel_rfl
  i53 := by kernel_rfl
  i75 := by kernel_rfl
  i76 := by kernel_rfl
  i80 := by kernel_rfl
  i85 := by kernel_rfl
  i127 := by kernel_rfl
  i143 := by kernel_rfl
  i145 := by kernel_rfl
  i167 := by kernel_rfl
  i168 := by kernel_rfl
  i171 := by kernel_rfl
  i173 := by kernel_rfl
  i175 := by kernel_rfl
  i210 := by kernel_rfl
  i212 := by kernel_rfl
  i232 := by kernel_rfl
  i233 := by kernel_rfl
  m15 := by kernel_rfl
  m16 := by kernel_rfl
  m17 := by kernel_rfl
  m18 := by kernel_rfl
  m19 := by kernel_rfl
  c0 := by kernel_rfl
  c2 := by kernel_rfl
  c3 := by kernel_rfl
  c4 := by kernel_rfl
  c5 := by kernel_rfl
  c9 := by kernel_rfl
  c20 := by kernel_rfl
  c21 := by kernel_rfl
  c37 := by kernel_rfl
  c46 := by kernel_rfl
  c51 := by kernel_rfl
  c53 := by kernel_rfl
  c75 := by kernel_rfl
  c76 := by kernel_rfl
  c80 := by kernel_rfl
  c85 := by kernel_rfl
  c127 := by kernel_rfl
  c143 := by kernel_rfl
  c145 := by kernel_rfl
  c167 := by kernel_rfl
  c168 := by kernel_rfl
  c171 := by kernel_rfl
  c173 := by kernel_rfl
  c175 := by kernel_rfl
  c210 := by kernel_rfl
  c212 := by kernel_rfl
  c213 := by kernel_rfl
  c232 := by kernel_rfl
  c233 := by kernel_rfl }
/-- What the library keeps outside the calls, as its own text lays it: an error, and a table of powers. -/
def Env (w : World) : Prop := (∃ tp p, w.var? Tryz.prog "strconv.ErrRange" = some #[.iface tp p]) ∧ Lib.TabIs Tryz.prog w "internal/strconv.uint64pow10" .u64 Lib.pow10Tab
theorem var_below {w w' : World} {B : Nat} (hb : Below B w w') (hB : w.heap.size ≤ B) {n : String} {cs : Array Value} (h : w.var? Tryz.prog n = some cs) : w'.var? Tryz.prog n = some cs := by
  unfold World.var? at h ⊢
  cases e : (Tryz.prog).globalNamed n with
  | none => rw [e] at h; cases h
  | some g =>
    rw [e] at h
    have hg : g < w.heap.size := by
      rcases Nat.lt_or_ge g w.heap.size with k | k
      · exact k
      · simp only [Option.bind_some] at h
        rw [Array.getElem?_eq_none k] at h; cases h
    show (match w'.heap[g]? with | some (.cells cs _ _) => some cs | _ => none) = _
    rw [hb.block g (by omega)]
    exact h
theorem Env.below {w w' : World} (h : Env w) (hb : Below w.heap.size w w') : Env w' := by
  obtain ⟨⟨tp, p, h1⟩, h2⟩ := h
  exact ⟨⟨tp, p, var_below hb (Nat.le_refl _) h1⟩, var_below hb (Nat.le_refl _) h2⟩
theorem Env.alloc {w : World} (h : Env w) (o : Obj) : Env (w.alloc o) := h.below ((Below.refl _ w).alloc (Nat.le_refl _) o)

theorem cut_minus (l : List UInt8) (w : World) :
    Calls Tryz.prog 85 #[.string (bs l), .string ⟨#[45]⟩] w fun e w' => e = .returned (.tuple #[.string (bs (numD l)), .bool (decide ((l.headD 0).toNat = 45))]) ∧ w = w' :=
  (Any.strings_CutPrefix s103 (bs l) ⟨#[45]⟩ w).mono fun _ _ ⟨he, h1⟩ => by
    refine ⟨?_, h1.symm⟩
    have hp : Lib.hasPrefix l [45] = decide ((l.headD 0).toNat = 45) := by
      cases l with
      | nil => rfl
      | cons b r =>
        show ([45] : List UInt8).isPrefixOf (b :: r) = decide (b.toNat = 45)
        rw [Bool.eq_iff_iff]
        simp only [List.isPrefixOf, Bool.and_true, beq_iff_eq, decide_eq_true_eq]
        exact ⟨fun e => by rw [← e]; rfl, fun e => UInt8.toNat_inj.1 (by rw [e]; rfl)⟩
    have ht : Lib.trimPrefix l [45] = numD l := by
      unfold Lib.trimPrefix numD
      rw [hp]
      by_cases c : (l.headD 0).toNat = 45
      · rw [if_pos (decide_eq_true c), if_pos c]; rfl
      · rw [if_neg (by rw [decide_eq_false c]; decide), if_neg c]
    rw [he]
    show Ending.returned (.tuple #[.string (bs (Lib.trimPrefix l [45])), .bool (Lib.hasPrefix l [45])]) = _
    rw [ht, hp]
theorem atoi_ok (l : List UInt8) (hl : l ≠ []) (h : ∀ b ∈ l, isDigit b = true) (hlen : l.length ≤ 100000) (hv : valD l 0 < 9223372036854775808) (w : World) :
    Calls Tryz.prog 86 #[.string (bs l)] w fun e w' => e = .returned (.tuple #[.int .i64 (valD l 0 : Nat), .nilIface]) ∧ Below w.heap.size w w' :=
  (Any.strconv_Atoi_ok sC172 (bs l) (by rw [bs_size]; omega) (valD l 0 : Nat) (by rw [bs_list, atoi_digits l hl h, if_pos hv]) w).mono fun _ _ ⟨he, hw⟩ => by
    refine ⟨he, ?_⟩
    rcases hw with rfl | ⟨t, rfl⟩
    · exact Below.refl _ _
    · exact Lib.bytesWorld_below w _ t
theorem atoi_far (l : List UInt8) (hl : l ≠ []) (h : ∀ b ∈ l, isDigit b = true) (hlen : l.length ≤ 100000) (hv : ¬ valD l 0 < 9223372036854775808) (w : World) (hE : Env w) :
    Calls Tryz.prog 86 #[.string (bs l)] w fun e w' => ∃ n tp p, e = .returned (.tuple #[.int .i64 n, .iface tp p]) ∧ Below w.heap.size w w' := by
  obtain ⟨⟨tp, p, hE1⟩, -⟩ := hE
  refine (Any.strconv_Atoi_range_var sC172 (bs l) (by rw [bs_size]; omega) (by rw [bs_list, atoi_digits l hl h, if_neg hv]) tp p w hE1).mono fun _ _ ⟨_, he, _, _, hb⟩ => ⟨_, _, _, he, hb⟩
end Go.Proofs.YtdimgomigidbkaaGreatDoor
/- A region that draws its order, walked once, in the order of the text: of each operation it is shown what it does in whatever world meets S0, wherever in the order it comes; blocks that the region makes are told by letters. -/
namespace Go.Proofs.YtdimgomigidbkaaGreatDoor
open Go.RowKit

/-! ### Steps through a region that draws its order, the slot that an operation writes given as a number -/
section
variable {P : Program} {ops : Array Oper} {Q : Exit → Act → World → Prop} {md : Region.Mode} {S : World → Prop}
theorem regTake (i : Nat) (d : Option Tmp) {oi : Oper} {v : Value} {fuel : Nat} {listed : Array Bool} {a : Act} {w : World} (hi : ops[i]? = some oi) (hd : oi.dst = d)
    (hs : Region.noSelect ops = true) (hf : Region.free md ops listed i = true) (hr : (Region.ready md ops listed).contains i = true)
    (hQ : ∀ c a w, Q (.panic c) (a.put d v) w → Q (.panic c) a w) (hw : Region.wanted oi (yielded ops a.tmps) = true) (hS : S w)
    (hy : ∀ w, S w → (execOp a.eval oi).run P w = .ok (.value v) w)
    (h : wpAnyH P md ops Q S fuel (listed.setIfInBounds i true) (a.put d v) w) : wpAnyH P md ops Q S (fuel + 1) listed a w := by
  subst hd
  exact wpAnyH_take hi hs hf hr hQ (Or.inl ⟨hw, hy⟩) hS h
theorem regSkip (i : Nat) (d : Option Tmp) {oi : Oper} {fuel : Nat} {listed : Array Bool} {a : Act} {w : World} (hi : ops[i]? = some oi) (hd : oi.dst = d)
    (hs : Region.noSelect ops = true) (hf : Region.free md ops listed i = true) (hr : (Region.ready md ops listed).contains i = true)
    (hQ : ∀ c a w, Q (.panic c) (a.put d undef) w → Q (.panic c) a w) (hw : Region.wanted oi (yielded ops a.tmps) = false) (hS : S w)
    (h : wpAnyH P md ops Q S fuel (listed.setIfInBounds i true) (a.put d undef) w) : wpAnyH P md ops Q S (fuel + 1) listed a w := by
  subst hd
  exact wpAnyH_take hi hs hf hr hQ (Or.inr ⟨hw, rfl⟩) hS h
theorem regCall (i : Nat) (d : Option Tmp) {oi : Oper} {f : FuncId} {args : Array Value} {fuel : Nat} {listed : Array Bool} {a : Act} {w : World} (hi : ops[i]? = some oi) (hd : oi.dst = d)
    (hr : Region.ready md ops listed = [i]) (hw : Region.wanted oi (yielded ops a.tmps) = true)
    (hy : (execOp a.eval oi).run P w = .ok (.enter f args) w)
    (h : Calls P f args w fun e w' => ∃ v, e = .returned v ∧ S w' ∧ (S w' → wpAnyH P md ops Q S fuel (listed.setIfInBounds i true) (a.put d v) w')) : wpAnyH P md ops Q S (fuel + 1) listed a w := by
  subst hd
  refine wpAnyH_ready (rs := [i]) hr (by simp) (AllReadyH.cons hi (fun K hK => ?_) AllReadyH.nil)
  rw [if_pos hw]
  unfold Oper.wp
  rw [hy, Oper.upon_enter]
  refine h.mono ?_
  rintro e w' ⟨v, rfl, hs, hn⟩
  exact hK.out _ _ hs hn
/-- One operation alone may come up, and leaves a value and a world. -/
theorem regDo (i : Nat) (d : Option Tmp) {oi : Oper} {v : Value} {fuel : Nat} {listed : Array Bool} {a : Act} {w w' : World} (hi : ops[i]? = some oi) (hd : oi.dst = d)
    (hr : Region.ready md ops listed = [i]) (hw : Region.wanted oi (yielded ops a.tmps) = true)
    (hy : (execOp a.eval oi).run P w = .ok (.value v) w') (hs : S w')
    (h : S w' → wpAnyH P md ops Q S fuel (listed.setIfInBounds i true) (a.put d v) w') : wpAnyH P md ops Q S (fuel + 1) listed a w := by
  subst hd
  refine wpAnyH_ready (rs := [i]) hr (by simp) (AllReadyH.cons hi (fun K hK => ?_) AllReadyH.nil)
  rw [if_pos hw]
  unfold Oper.wp
  rw [hy, Oper.upon_value]
  exact hK.out _ _ hs h
theorem regStore (i : Nat) {oi : Oper} {fuel : Nat} {listed : Array Bool} {a : Act} {w w' : World} (hi : ops[i]? = some oi) (hd : oi.dst = none)
    (hr : Region.ready md ops listed = [i]) (hw : Region.wanted oi (yielded ops a.tmps) = true)
    (hy : (execOp a.eval oi).run P w = .ok .skip w') (hs : S w')
    (h : S w' → wpAnyH P md ops Q S fuel (listed.setIfInBounds i true) a w') : wpAnyH P md ops Q S (fuel + 1) listed a w := by
  refine wpAnyH_ready (rs := [i]) hr (by simp) (AllReadyH.cons hi (fun K hK => ?_) AllReadyH.nil)
  rw [if_pos hw]
  unfold Oper.wp
  rw [hy, Oper.upon_skip, hd]
  exact hK.out _ _ hs h
end

end Go.Proofs.YtdimgomigidbkaaGreatDoor

/- Steps through a region that draws its order where one of two operations may come up next. -/
namespace Go.Proofs.YtdimgomigidbkaaGreatDoor
open Go.RowKit
section
variable {P : Program} {ops : Array Oper} {Q : Exit → Act → World → Prop} {md : Region.Mode} {S : World → Prop} {fuel : Nat} {listed : Array Bool} {a : Act} {w : World}
theorem regTwo (i j : Nat) (hr : Region.ready md ops listed = [i, j]) (h1 : AllReadyH P md ops Q S fuel listed a w [i]) (h2 : AllReadyH P md ops Q S fuel listed a w [j]) : wpAnyH P md ops Q S (fuel + 1) listed a w :=
  wpAnyH_ready hr (by simp) (fun k hk => by
    rcases List.mem_cons.1 hk with rfl | hk
    · exact h1 _ (by simp)
    · exact h2 _ hk)
theorem stepCall (i : Nat) (d : Option Tmp) {oi : Oper} {f : FuncId} {args : Array Value} (hi : ops[i]? = some oi) (hd : oi.dst = d) (hw : Region.wanted oi (yielded ops a.tmps) = true)
    (hy : (execOp a.eval oi).run P w = .ok (.enter f args) w)
    (h : Calls P f args w fun e w' => ∃ v, e = .returned v ∧ S w' ∧ (S w' → wpAnyH P md ops Q S fuel (listed.setIfInBounds i true) (a.put d v) w')) : AllReadyH P md ops Q S fuel listed a w [i] := by
  subst hd
  refine AllReadyH.cons hi (fun K hK => ?_) AllReadyH.nil
  rw [if_pos hw]
  unfold Oper.wp
  rw [hy, Oper.upon_enter]
  refine h.mono ?_
  rintro e w' ⟨v, rfl, hs, hn⟩
  exact hK.out _ _ hs hn
theorem stepDo (i : Nat) (d : Option Tmp) {oi : Oper} {v : Value} {w' : World} (hi : ops[i]? = some oi) (hd : oi.dst = d) (hw : Region.wanted oi (yielded ops a.tmps) = true)
    (hy : (execOp a.eval oi).run P w = .ok (.value v) w') (hs : S w')
    (h : S w' → wpAnyH P md ops Q S fuel (listed.setIfInBounds i true) (a.put d v) w') : AllReadyH P md ops Q S fuel listed a w [i] := by
  subst hd
  refine AllReadyH.cons hi (fun K hK => ?_) AllReadyH.nil
  rw [if_pos hw]
  unfold Oper.wp
  rw [hy, Oper.upon_value]
  exact hK.out _ _ hs h
end
theorem keepSet {W : World} {b Z off : Nat} {x y v : Value} (hne : b ≠ Z) (h : b < W.heap.size ∧ W.cell? ⟨b, 0, none⟩ = some x ∧ W.cell? ⟨b, 1, none⟩ = some y) :
    b < (W.setCell ⟨Z, off, none⟩ v).heap.size ∧ (W.setCell ⟨Z, off, none⟩ v).cell? ⟨b, 0, none⟩ = some x ∧ (W.setCell ⟨Z, off, none⟩ v).cell? ⟨b, 1, none⟩ = some y :=
  ⟨by simpa [World.setCell] using h.1, (World.cell?_setCell_other W _ _ _ (fun e => hne (by injection e with e1; exact e1.symm))).trans h.2.1, (World.cell?_setCell_other W _ _ _ (fun e => hne (by injection e with e1; exact e1.symm))).trans h.2.2⟩
/-- Two fresh cells of a block stay what they were, and may be written, behind a call that leaves all old blocks alone. -/
theorem keepZ {W w1 : World} (hb : Below W.heap.size W w1) {z : Nat} {x y : Value} (h : z < W.heap.size) (hc : W.cell? ⟨z, 0, none⟩ = some x ∧ W.cell? ⟨z, 1, none⟩ = some y ∧ W.frozen? ⟨z, 0, none⟩ = false ∧ W.frozen? ⟨z, 1, none⟩ = false) :
    z < w1.heap.size ∧ w1.cell? ⟨z, 0, none⟩ = some x ∧ w1.cell? ⟨z, 1, none⟩ = some y ∧ w1.frozen? ⟨z, 0, none⟩ = false ∧ w1.frozen? ⟨z, 1, none⟩ = false :=
  ⟨Nat.lt_of_lt_of_le h hb.size, (hb.cell (p := ⟨z, 0, none⟩) h).trans hc.1, (hb.cell (p := ⟨z, 1, none⟩) h).trans hc.2.1, (hb.frozen (p := ⟨z, 0, none⟩) h).trans hc.2.2.1, (hb.frozen (p := ⟨z, 1, none⟩) h).trans hc.2.2.2⟩
end Go.Proofs.YtdimgomigidbkaaGreatDoor

/- A range over a function: an iterator hands out N known rows of values, one after another, and a body takes each; what the two owe one another, and what holds behind the loop. -/
namespace Go.Proofs.YtdimgomigidbkaaGreatDoor
open Go.RowKit

/-- What lay from block B on lies as it lay. -/
structure Above (B : Nat) (w w' : World) : Prop where
  size : w.heap.size ≤ w'.heap.size
  block : ∀ k, B ≤ k → k < w.heap.size → w'.heap[k]? = w.heap[k]?
theorem Above.refl (B : Nat) (w : World) : Above B w w := ⟨Nat.le_refl _, fun _ _ _ => rfl⟩
theorem Above.trans {B : Nat} {x y z : World} (h : Above B x y) (k : Above B y z) : Above B x z :=
  ⟨Nat.le_trans h.size k.size, fun i hi hx => (k.block i hi (Nat.lt_of_lt_of_le hx h.size)).trans (h.block i hi hx)⟩
theorem Above.mono {B B' : Nat} {x y : World} (h : Above B x y) (hb : B ≤ B') : Above B' x y := ⟨h.size, fun k hk hx => h.block k (Nat.le_trans hb hk) hx⟩
theorem Above.of {B : Nat} {x y z : World} (h : Above B x y) (k : Below y.heap.size y z) : Above B x z := h.trans ⟨k.size, fun i _ hx => k.block i hx⟩
theorem Above.alloc {B : Nat} {x y : World} (h : Above B x y) (o : Obj) : Above B x (y.alloc o) := h.of ((Below.refl _ _).alloc (Nat.le_refl _) _)
theorem Above.setCell {B : Nat} {x y : World} (h : Above B x y) {p : Addr} (hp : p.block < B) (u : Value) : Above B x (y.setCell p u) :=
  h.trans ⟨by simp [World.setCell], fun k hk _ => Below.heap_setCell _ _ _ _ (by omega)⟩
theorem Above.drew {B : Nat} {x y : World} (h : Above B x y) : Above B x y.drew := h.trans ⟨Nat.le_refl _, fun _ _ _ => rfl⟩
theorem Above.putObj {B : Nat} {x y : World} (h : Above B x y) {l : Nat} (hl : l < B) (o : Obj) : Above B x (y.putObj l o) :=
  h.trans ⟨by simp, fun k hk _ => World.putObj_heap_other (by omega)⟩
theorem lt_of_cell {x : World} {b o : Nat} {v : Value} (hc : x.cell? ⟨b, o, none⟩ = some v) : b < x.heap.size := by
  apply Classical.byContradiction; intro hn
  have : x.heap[b]? = none := Array.getElem?_eq_none (by omega)
  simp [World.cell?, this] at hc
/-- A cell of a block that lay from B on. -/
theorem Above.cell {B : Nat} {x y : World} (h : Above B x y) {b o : Nat} {v : Value} (hb : B ≤ b) (hc : x.cell? ⟨b, o, none⟩ = some v) : y.cell? ⟨b, o, none⟩ = some v :=
  (World.cell?_of_block (w := x) (h.block b hb (lt_of_cell hc))).trans hc

theorem below_putObj {B l : Nat} (w : World) (o : Obj) (hl : B ≤ l) : Below B w (w.putObj l o) :=
  ⟨rfl, rfl, rfl, by simp, fun k hk => World.putObj_heap_other (by omega)⟩
/-- A cell does not lie in a loop's record. -/
theorem cell_putObj {W : World} {b off l : Nat} {v : Value} {r : Loop} (o : Obj) (hl : W.heap[l]? = some (.loop r)) (hc : W.cell? ⟨b, off, none⟩ = some v) : (W.putObj l o).cell? ⟨b, off, none⟩ = some v := by
  have hne : b ≠ l := by rintro rfl; simp [World.cell?, hl] at hc
  exact (World.cell?_of_block (w := W) (World.putObj_heap_other hne)).trans hc

/-- What an iterator promises: it hands out f 0, f 1, .. up to N rows, unless a round says 'no more'; whatever of the caller's speaks of older blocks alone holds through. -/
def Seq (P : Program) (g : Nat) (lb : Array Value) (f : Nat → Array Value) (N : Nat) (Cap : World → Prop) : Prop :=
  ∀ (l : Nat) (J : Nat → World → Prop) (Jx : World → Prop) (W : World),
    (∀ i A B, J i A → Below W.heap.size A B → J i B) → (∀ A B, Jx A → Below W.heap.size A B → Jx B) → (∀ i A, J i A → Cap A) →
    (∀ i W1, i < N → J i W1 → ∀ m, YieldAt Fence.wide m P l (f i) W1 fun e W' => (e = .returned (.bool true) ∧ J (i + 1) W' ∧ Above W.heap.size W1 W') ∨ (e = .returned (.bool false) ∧ Jx W')) →
    J 0 W → Calls P g (#[.func (.yield l) #[] #[]] ++ lb) W fun e W' => (∃ v, e = .returned v) ∧ (J N W' ∨ Jx W')

/-- How a round's body may be left: off its end, or by a goto. -/
def roundQ (B : Nat) (I : Nat → World → Prop) (Ix : Nat → World → Prop) (i : Nat) (W : World) : Exit → Act → World → Prop
  | .normal, _, W' => Above B W W' ∧ I (i + 1) W'
  | .goto t, _, W' => Above B W W' ∧ Ix t W'
  | _, _, _ => False

def recOf (fn : FuncId) (tmps : Array Value) (ps : Array Tmp) (assign body : Code) (D : Nat) (st : LoopState) (pe : Option Code) : Loop :=
  { state := st, pending := pe, fn, tmps, params := ps, assign, body, defers := D }

theorem wp_range {P : Program} {g : Operand} {ps : Array Tmp} {assign body : Code} {Q : Exit → Act → World → Prop} {a : Act} {w : World}
    {gf : Nat} {lb : Array Value} (hg : a.eval g = .func (.func gf) #[] lb) (eg : ∀ args w, (callFunc gf args).run P w = .ok (.enter gf args) w)
    {f : Nat → Array Value} {N : Nat} {Cap : World → Prop} (hseq : Seq P gf lb f N Cap) (hps : ∀ i, (f i).size = ps.size)
    (I : Nat → World → Prop) (Ix : Nat → World → Prop)
    (hI : ∀ i A B, I i A → Below w.heap.size A B → I i B) (hIx : ∀ t A B, Ix t A → Below w.heap.size A B → Ix t B) (hcap : ∀ i A, I i A → Cap A) (h0 : I 0 w)
    (Ax : Nat → Act → World → Prop) (hAx : ∀ i a' A l r o, A.heap[l]? = some (.loop r) → Ax i a' A → Ax i a' (A.putObj l o))
    (hassign : ∀ (l i : Nat) (W : World) (m : Nat) (K : Act → World → Prop), i < N → I i W → w.heap.size < W.heap.size → (∀ a' W', Above w.heap.size W W' → I i W' → Ax i a' W' → K a' W') →
      assign.wpIn (Fence.wide.inRound l) m P (Exit.then K (fun _ _ _ => False)) { tmps := (ps.zip (f i)).foldl (fun t (p, v) => t.setIfInBounds p v) a.tmps, defers := [] } W)
    (hbody : ∀ (l i : Nat) (a' : Act) (W : World) (m : Nat), i < N → I i W → Ax i a' W → w.heap.size < W.heap.size → body.wpIn (Fence.wide.inRound l) m P (roundQ w.heap.size I Ix i W) a' W)
    (hdone : ∀ (D : Nat) (W : World), w.heap.size ≤ D → I N W → W.heap[D]? = some (.deferred (some [])) → Q .normal { a with defers := { target := .collected D, args := #[] } :: a.defers } W)
    (hstop : ∀ (D t : Nat) (W : World), w.heap.size ≤ D → Ix t W → W.heap[D]? = some (.deferred (some [])) → Q (.goto t) { a with defers := { target := .collected D, args := #[] } :: a.defers } W) :
    (Code.rangeFunc g ps assign body).wp P Q a w := by
  refine (wpIn_wide (n := 0)).1 (wpIn_rangeFunc ?_)
  intro fn _
  generalize hD : w.heap.size = D at *
  obtain ⟨rec, hrec⟩ : ∃ rec : LoopState → Option Code → Loop, rec = recOf fn a.tmps ps assign body D := ⟨_, rfl⟩
  obtain ⟨W1, hW1⟩ : ∃ W1, (w.alloc (.deferred (some []))).alloc (.loop (rec .ready none)) = W1 := ⟨_, rfl⟩
  have hsz : W1.heap.size = D + 2 := by rw [← hW1]; simp; omega
  have hL1 : W1.heap[D + 1]? = some (.loop (rec .ready none)) := by
    rw [← hW1]; have := World.alloc_heap_new (w.alloc (.deferred (some []))) (.loop (rec .ready none)); rwa [World.size_alloc, hD] at this
  have hD1 : W1.heap[D]? = some (.deferred (some [])) := by
    rw [← hW1]; refine (Below.heap_alloc _ _ _ (by simp; omega)).trans ?_; rw [← hD]; exact World.alloc_heap_new w _
  have hb1 : Below D w W1 := by rw [← hW1]; exact ((Below.refl _ w).alloc (by omega) _).alloc (by simp; omega) _
  have loop_same : ∀ {A B : World} {o : Obj} (k : Nat), k < D + 2 → Below W1.heap.size A B → A.heap[k]? = some o → B.heap[k]? = some o :=
    fun k hk h e => (h.block k (by omega)).trans e
  refine ⟨D + 1, [{ target := .collected D, args := #[] }], W1, { target := .fn (.func gf) lb, args := #[.func (.yield (D + 1)) #[] #[]] }, W1, gf, #[.func (.yield (D + 1)) #[] #[]] ++ lb, W1, ?_, ?_, fun _ _ => trivial, ?_, (fun h => by simp [Fence.wide] at h), callsIn_wide.2 ?_⟩
  · rw [← hW1, hrec, ← hD]; exact run_enterLoop_outer _ _ _ _ _
  · simp only [resolve, hg]; simp [go_sem]
  · simp [invoke, go_sem, eg]
  refine (hseq (D + 1) (fun i W => I i W ∧ W.heap[D + 1]? = some (.loop (rec .ready none)) ∧ W.heap[D]? = some (.deferred (some [])))
    (fun W => ∃ t, Ix t W ∧ W.heap[D + 1]? = some (.loop (rec .done (some (.goto t)))) ∧ W.heap[D]? = some (.deferred (some [])))
    W1 (fun i A B h hb => ⟨hI i A B h.1 (hb.mono (by omega)), loop_same _ (by omega) hb h.2.1, loop_same _ (by omega) hb h.2.2⟩)
    (fun A B ⟨t, h1, h2, h3⟩ hb => ⟨t, hIx t A B h1 (hb.mono (by omega)), loop_same _ (by omega) hb h2, loop_same _ (by omega) hb h3⟩) (fun i A h => hcap i A h.1) ?_ ⟨hI 0 _ _ h0 hb1, hL1, hD1⟩).mono ?_
  · rintro i W hi ⟨hi0, hl, hd⟩ m
    have hy := run_yield (P := P) (args := f i) hl (by rw [hrec]; exact hps i)
    rw [hrec] at hy
    refine ⟨fn, _, assign, body, hy, ?_⟩
    refine roundIn_of_wpIn trivial (hassign _ i W _ _ hi hi0 ?_ ?_)
    · have := (Array.getElem?_eq_some_iff.1 hl).1; omega
    intro a' Wa hab hia hax
    have hlt : D + 1 < W.heap.size := (Array.getElem?_eq_some_iff.1 hl).1
    have hla : Wa.heap[D + 1]? = some (.loop (rec .ready none)) := (hab.block _ (by omega) hlt).trans hl
    have hda : Wa.heap[D]? = some (.deferred (some [])) := (hab.block _ (by omega) (by omega)).trans hd
    have hlta : D + 1 < Wa.heap.size := (Array.getElem?_eq_some_iff.1 hla).1
    refine ⟨_, run_beginRound hla (by rw [hrec]; rfl), ?_⟩
    have hbusy : (Wa.putObj (D + 1) (.loop { rec .ready none with state := .busy })).heap[D + 1]? = some (.loop { rec .ready none with state := .busy }) := World.putObj_heap_same hlta
    have hdef : (Wa.putObj (D + 1) (.loop { rec .ready none with state := .busy })).heap[D]? = some (.deferred (some [])) := (World.putObj_heap_other (by omega)).trans hda
    refine wpIn_mono (hbody _ i a' _ _ hi (hI _ _ _ hia (below_putObj _ _ (by omega))) (hAx _ _ _ _ _ _ hla hax) (by simp; omega)) ?_
    have hab2 : Above (D + 2) W (Wa.putObj (D + 1) (.loop { rec .ready none with state := .busy })) := (hab.mono (by omega)).putObj (by omega) _
    have fin : ∀ (jump : Option Code) (W3 : World), Above D (Wa.putObj (D + 1) (.loop { rec .ready none with state := .busy })) W3 →
        (Instr.endRound (D + 1) jump).run P W3 = .ok (.bool jump.isNone) (W3.putObj (D + 1) (.loop (rec (if jump.isNone then .ready else .done) jump))) ∧
        (W3.putObj (D + 1) (.loop (rec (if jump.isNone then .ready else .done) jump))).heap[D + 1]? = some (.loop (rec (if jump.isNone then .ready else .done) jump)) ∧
        (W3.putObj (D + 1) (.loop (rec (if jump.isNone then .ready else .done) jump))).heap[D]? = some (.deferred (some [])) ∧ Above W1.heap.size W (W3.putObj (D + 1) (.loop (rec (if jump.isNone then .ready else .done) jump))) := by
      intro jump W3 h3
      have hl3 := (h3.block (D + 1) (by omega) (by simp; omega)).trans hbusy
      have hd3 := (h3.block D (by omega) (by simp; omega)).trans hdef
      have he := run_endRound (P := P) jump hl3
      refine ⟨?_, World.putObj_heap_same (Array.getElem?_eq_some_iff.1 hl3).1, (World.putObj_heap_other (by omega)).trans hd3, ?_⟩
      · rw [he, hrec]; rfl
      · rw [hsz]; exact (hab2.trans (h3.mono (by omega))).putObj (by omega) _
    rintro e a3 W3 hp
    cases e with
    | normal =>
      obtain ⟨h3, hi3⟩ := hp
      obtain ⟨k1, k2, k3, k4⟩ := fin none W3 h3
      exact ⟨_, _, k1, .inl ⟨rfl, ⟨hI _ _ _ hi3 (below_putObj _ _ (by omega)), k2, k3⟩, k4⟩⟩
    | goto t =>
      obtain ⟨h3, hi3⟩ := hp
      obtain ⟨k1, k2, k3, k4⟩ := fin (some (.goto t)) W3 h3
      exact ⟨_, _, k1, .inr ⟨rfl, t, hIx _ _ _ hi3 (below_putObj _ _ (by omega)), k2, k3⟩⟩
    | exit id => exact hp.elim
    | ret => exact hp.elim
    | panic ch => exact hp.elim
    | outgrown => exact hp.elim
  · rintro e W' ⟨⟨v, rfl⟩, (⟨hi, hl, hd⟩ | ⟨t, hi, hl, hd⟩)⟩
    · have he := run_endLoop (P := P) hl (by rw [hrec]; simp [recOf])
      refine ⟨_, _, he, ?_⟩
      rw [show (rec .ready none).pending = none by rw [hrec]; rfl]
      exact hdone D _ (by omega) (hI _ _ _ hi (below_putObj _ _ (by omega))) ((World.putObj_heap_other (by omega)).trans hd)
    · have he := run_endLoop (P := P) hl (by rw [hrec]; simp [recOf])
      refine ⟨_, _, he, ?_⟩
      rw [show (rec .done (some (.goto t))).pending = some (.goto t) by rw [hrec]; rfl]
      exact wpIn_goto (hstop D t _ (by omega) (hIx _ _ _ hi (below_putObj _ _ (by omega))) ((World.putObj_heap_other (by omega)).trans hd))

/-- A function that holds such a loop: its contract out of its body's walk. -/
theorem calls_of_marks {P : Program} {f : FuncId} {fn : Func} {c : Code} {args : Array Value} {w : World} {R : Ending → World → Prop}
    (hf : P.funcs[f]? = some fn) (hb : fn.body = some c)
    (h : c.wp P (bodyPostM Fence.wide 0 P fn R) { tmps := args ++ Array.replicate (fn.ntmps - args.size) undef, defers := [] } w) : Calls P f args w R :=
  (callsIn_wide (n := 0)).1 (callsIn_of_wp_marks hf hb trivial (wpIn_wide.2 h) rfl)

/-- The way out of such a function, behind the loop. -/
theorem post_mark {P : Program} {fn : Func} {R : Ending → World → Prop} {tmps : Array Value} {D : Nat} {W : World} {v : Value} (hD : W.heap[D]? = some (.deferred (some [])))
    (hr : (results fn tmps).run P (W.putObj D (.deferred none)) = .ok v (W.putObj D (.deferred none))) (h : R (.returned v) (W.putObj D (.deferred none))) :
    bodyPostM Fence.wide 0 P fn R .ret { tmps := tmps, defers := [{ target := .collected D, args := #[] }] } W :=
  ⟨by simp, .inl ⟨D, _, rfl, run_takeDeferred hD, ⟨v, hr, h⟩⟩⟩
end Go.Proofs.YtdimgomigidbkaaGreatDoor

/- A block of cells that may be written, known whole: what leaves it as it is, and a store into it. -/
namespace Go.Proofs.YtdimgomigidbkaaGreatDoor
open Go.RowKit

structure Blk (W : World) (b : Nat) (vs : Array Value) : Prop where
  heap : ∃ t, W.heap[b]? = some (.cells vs t (0, 0))
theorem Blk.cell {W : World} {b i : Nat} {vs : Array Value} {v : Value} (h : Blk W b vs) (hi : vs[i]? = some v) : W.cell? ⟨b, i, none⟩ = some v := by
  obtain ⟨t, e⟩ := h.heap
  simp [World.cell?, e, hi]
theorem Blk.free {W : World} {b : Nat} {vs : Array Value} (h : Blk W b vs) (i : Nat) : W.frozen? ⟨b, i, none⟩ = false := by
  obtain ⟨t, e⟩ := h.heap
  simp [World.frozen?, e]
theorem Blk.lt {W : World} {b : Nat} {vs : Array Value} (h : Blk W b vs) : b < W.heap.size := by
  obtain ⟨t, e⟩ := h.heap
  exact (Array.getElem?_eq_some_iff.1 e).1
theorem Blk.block {W W' : World} {b : Nat} {vs : Array Value} (h : Blk W b vs) (e : W'.heap[b]? = W.heap[b]?) : Blk W' b vs := by
  obtain ⟨t, k⟩ := h.heap
  exact ⟨t, e.trans k⟩
theorem Blk.below {B : Nat} {W W' : World} {b : Nat} {vs : Array Value} (h : Blk W b vs) (hb : Below B W W') (hB : b < B) : Blk W' b vs := h.block (hb.block b hB)
theorem Blk.call {W W' : World} {b : Nat} {vs : Array Value} (h : Blk W b vs) (hb : Below W.heap.size W W') : Blk W' b vs := h.below hb h.lt
theorem Blk.alloc {W : World} {b : Nat} {vs : Array Value} (h : Blk W b vs) (o : Obj) : Blk (W.alloc o) b vs := h.call ((Below.refl _ _).alloc (Nat.le_refl _) _)
theorem Blk.drew {W : World} {b : Nat} {vs : Array Value} (h : Blk W b vs) : Blk W.drew b vs := h.block rfl
theorem Blk.put {W : World} {b l : Nat} {vs : Array Value} (h : Blk W b vs) (o : Obj) (hl : b ≠ l) : Blk (W.putObj l o) b vs := h.block (World.putObj_heap_other hl)
theorem Blk.other {W : World} {b : Nat} {vs : Array Value} {p : Addr} (h : Blk W b vs) (hp : b ≠ p.block) (u : Value) : Blk (W.setCell p u) b vs := h.block (Below.heap_setCell _ _ _ _ hp)
theorem Blk.new (W : World) (vs : Array Value) (t : TypeId) : Blk (W.alloc (.cells vs t)) W.heap.size vs := ⟨t, World.alloc_heap_new _ _⟩
theorem Blk.newAt {W : World} {vs : Array Value} {t : TypeId} {b : Nat} (h : W.heap.size = b) : Blk (W.alloc (.cells vs t)) b vs := h ▸ Blk.new W vs t
theorem Blk.set {W : World} {b : Nat} {vs : Array Value} (h : Blk W b vs) (i : Nat) (u : Value) : Blk (W.setCell ⟨b, i, none⟩ u) b (vs.setIfInBounds i u) := by
  obtain ⟨t, e⟩ := h.heap
  have hlt := h.lt
  have h' : W.heap[b] = .cells vs t (0, 0) := by simpa [Array.getElem?_eq_getElem hlt] using e
  refine ⟨t, ?_⟩
  show (W.heap.modify b _)[b]? = _
  rw [Array.getElem?_eq_getElem (by simpa using hlt), Array.getElem_modify_self, h']
  rfl
theorem Blk.local (vs : Array Value) : ∀ (w w' : World) (b : Nat), w'.heap[b]? = w.heap[b]? → Blk w b vs → Blk w' b vs := fun _ _ _ e h => h.block e
end Go.Proofs.YtdimgomigidbkaaGreatDoor

/- All blocks of a walk in one word: what each holds, that no two are one, and that what lay before lies as it lay. -/
namespace Go.Proofs.YtdimgomigidbkaaGreatDoor
open Go.RowKit

structure Mem (w W : World) (l : List (Nat × Array Value)) : Prop where
  blk : ∀ e ∈ l, Blk W e.1 e.2
  low : Below w.heap.size w W
  ge : ∀ e ∈ l, w.heap.size ≤ e.1
  ne : l.Pairwise (fun e f => e.1 ≠ f.1)
theorem Mem.start (w : World) : Mem w w [] := ⟨fun _ h => (by cases h), Below.refl _ _, fun _ h => (by cases h), .nil⟩
theorem Mem.lts {w W : World} {l : List (Nat × Array Value)} (h : Mem w W l) : ∀ e ∈ l, e.1 < W.heap.size := fun e he => (h.blk e he).lt
theorem Mem.step {w W W' : World} {l : List (Nat × Array Value)} {B : Nat} (h : Mem w W l) (hb : Below B W W') (hB : ∀ e ∈ l, e.1 < B) (hl : w.heap.size ≤ B) : Mem w W' l :=
  ⟨fun e he => (h.blk e he).below hb (hB e he), h.low.trans (hb.mono hl), h.ge, h.ne⟩
theorem Mem.call {w W W' : World} {l : List (Nat × Array Value)} (h : Mem w W l) (hb : Below W.heap.size W W') : Mem w W' l := h.step hb h.lts h.low.size
theorem Mem.alloc {w W : World} {l : List (Nat × Array Value)} (h : Mem w W l) (o : Obj) : Mem w (W.alloc o) l := h.call ((Below.refl _ _).alloc (Nat.le_refl _) _)
theorem Mem.drew {w W : World} {l : List (Nat × Array Value)} (h : Mem w W l) : Mem w W.drew l := h.call ((Below.refl _ _).drew)
theorem Mem.new {w W : World} {l : List (Nat × Array Value)} (h : Mem w W l) (b : Nat) (vs : Array Value) (t : TypeId) (hb : W.heap.size = b) : Mem w (W.alloc (.cells vs t)) ((b, vs) :: l) := by
  have h' := h.alloc (.cells vs t)
  have hl := h.lts
  have hs := h.low.size
  subst hb
  refine ⟨fun e he => ?_, h'.low, fun e he => ?_, List.pairwise_cons.2 ⟨fun e he => Nat.ne_of_gt (hl e he), h.ne⟩⟩
  · rcases List.mem_cons.1 he with rfl | he
    · exact Blk.new _ _ _
    · exact h'.blk e he
  · rcases List.mem_cons.1 he with rfl | he
    · exact hs
    · exact h.ge e he
theorem Mem.mem {l : List (Nat × Array Value)} {k : Nat} {e : Nat × Array Value} (hk : l[k]? = some e) : e ∈ l := List.mem_of_getElem? hk
theorem Mem.at {w W : World} {l : List (Nat × Array Value)} (h : Mem w W l) (k : Nat) {b : Nat} {vs : Array Value} (hk : l[k]? = some (b, vs)) : Blk W b vs := h.blk _ (Mem.mem hk)
theorem Mem.cell {w W : World} {l : List (Nat × Array Value)} (h : Mem w W l) (k : Nat) {b i : Nat} {vs : Array Value} {v : Value} (hk : l[k]? = some (b, vs)) (hi : vs[i]? = some v) : W.cell? ⟨b, i, none⟩ = some v := (h.at k hk).cell hi
theorem Mem.free {w W : World} {l : List (Nat × Array Value)} (h : Mem w W l) (k : Nat) {b : Nat} {vs : Array Value} (hk : l[k]? = some (b, vs)) (i : Nat) : W.frozen? ⟨b, i, none⟩ = false := (h.at k hk).free i
theorem Mem.lt {w W : World} {l : List (Nat × Array Value)} (h : Mem w W l) (k : Nat) {b : Nat} {vs : Array Value} (hk : l[k]? = some (b, vs)) : b < W.heap.size := (h.at k hk).lt
theorem Mem.apart {w W : World} {l : List (Nat × Array Value)} (h : Mem w W l) (j k : Nat) {b c : Nat} {us vs : Array Value} (hj : l[j]? = some (b, us)) (hk : l[k]? = some (c, vs)) (hjk : j ≠ k) : b ≠ c := by
  have p := List.pairwise_iff_getElem.1 h.ne
  obtain ⟨h1, e1⟩ := List.getElem?_eq_some_iff.1 hj
  obtain ⟨h2, e2⟩ := List.getElem?_eq_some_iff.1 hk
  rcases Nat.lt_or_gt_of_ne hjk with c | c
  · have := p j k h1 h2 c; rw [e1, e2] at this; exact this
  · have := p k j h2 h1 c; rw [e1, e2] at this; exact Ne.symm this
theorem Mem.set {w W : World} {l : List (Nat × Array Value)} (h : Mem w W l) (k i : Nat) (v : Value) {b : Nat} {vs : Array Value} (hk : l[k]? = some (b, vs)) : Mem w (W.setCell ⟨b, i, none⟩ v) (l.set k (b, vs.setIfInBounds i v)) := by
  obtain ⟨hlt, hbe⟩ := List.getElem?_eq_some_iff.1 hk
  have hge : w.heap.size ≤ b := h.ge _ (Mem.mem hk)
  refine ⟨fun e he => ?_, h.low.setCell (p := ⟨b, i, none⟩) hge v, fun e he => ?_, ?_⟩
  · obtain ⟨j, hj, rfl⟩ := List.mem_iff_getElem.1 he
    rw [List.length_set] at hj
    rw [List.getElem_set]
    split
    · exact (h.at k hk).set i v
    · rename_i hne
      refine (h.blk _ (List.getElem_mem hj)).other (p := ⟨b, i, none⟩) ?_ v
      exact h.apart j k (List.getElem?_eq_getElem hj) hk (Ne.symm hne)
  · rcases List.mem_or_eq_of_mem_set he with he | rfl
    · exact h.ge e he
    · exact hge
  · refine List.pairwise_iff_getElem.2 fun i' j' h1 h2 hij => ?_
    rw [List.length_set] at h1 h2
    have p := List.pairwise_iff_getElem.1 h.ne i' j' h1 h2 hij
    rw [List.getElem_set, List.getElem_set]
    split
    · rename_i e1; subst e1
      split
      · omega
      · simpa [hbe] using p
    · split
      · rename_i e2; subst e2; simpa [hbe] using p
      · exact p
theorem Mem.drop {w W : World} {l : List (Nat × Array Value)} {e : Nat × Array Value} (h : Mem w W (e :: l)) : Mem w W l :=
  ⟨fun f hf => h.blk f (List.mem_cons_of_mem _ hf), h.low, fun f hf => h.ge f (List.mem_cons_of_mem _ hf), (List.pairwise_cons.1 h.ne).2⟩
/-- A block that a region made, known behind it. -/
theorem Mem.join {w W : World} {l : List (Nat × Array Value)} (h : Mem w W l) {B b : Nat} {vs : Array Value} (hb : Blk W b vs) (hB : B ≤ b) (hlt : ∀ e ∈ l, e.1 < B) (hl : w.heap.size ≤ B) : Mem w W ((b, vs) :: l) := by
  refine ⟨fun e he => ?_, h.low, fun e he => ?_, List.pairwise_cons.2 ⟨fun e he => ?_, h.ne⟩⟩
  · rcases List.mem_cons.1 he with rfl | he
    · exact hb
    · exact h.blk e he
  · rcases List.mem_cons.1 he with rfl | he
    · exact Nat.le_trans hl hB
    · exact h.ge e he
  · have := hlt e he; simp; omega
theorem Mem.join2 {w W : World} {l : List (Nat × Array Value)} (h : Mem w W l) {B b c : Nat} {us vs : Array Value} (hb : Blk W b us) (hB : B ≤ b) (hc : Blk W c vs) (hC : B ≤ c) (hbc : b ≠ c) (hlt : ∀ e ∈ l, e.1 < B) (hl : w.heap.size ≤ B) : Mem w W ((c, vs) :: (b, us) :: l) := by
  have h' := h.join hb hB hlt hl
  refine ⟨fun e he => ?_, h.low, fun e he => ?_, List.pairwise_cons.2 ⟨fun e he => ?_, h'.ne⟩⟩
  · rcases List.mem_cons.1 he with rfl | he
    · exact hc
    · exact h'.blk e he
  · rcases List.mem_cons.1 he with rfl | he
    · exact Nat.le_trans hl hC
    · exact h'.ge e he
  · rcases List.mem_cons.1 he with rfl | he
    · exact Ne.symm hbc
    · have := hlt e he; simp; omega
theorem Mem.to {w W : World} {l l' : List (Nat × Array Value)} (h : Mem w W l) (e : l = l') : Mem w W l' := e ▸ h
end Go.Proofs.YtdimgomigidbkaaGreatDoor

/- A region that draws its order, walked once, in the order of the text: of each operation it is shown what it does in whatever world meets S0, wherever in the order it comes; blocks that the region makes are told by letters. -/
namespace Go.Proofs.YtdimgomigidbkaaGreatDoor
open Go.RowKit

section
variable {P : Program} {ops : Array Oper} {Q : Exit → Act → World → Prop} {md : Region.Mode} {S0 : World → Prop} {S : (Nat → Nat) → Array Bool → World → Prop}

/-- In state a, in whatever world meets S0, the operation leaves v, and all that was there as it was. -/
def Gives (P : Program) (ops : Array Oper) (S0 : World → Prop) (o : Oper) (v : Value) (a : Act) : Prop :=
  (Region.wanted o (yielded ops a.tmps) = true ∧ ∀ w, S0 w →
    (∃ w', (execOp a.eval o).run P w = .ok (.value v) w' ∧ Below w.heap.size w w') ∨
    (∃ f args, (execOp a.eval o).run P w = .ok (.enter f args) w ∧ Calls P f args w fun e w' => e = .returned v ∧ Below w.heap.size w w')) ∨
  (Region.wanted o (yielded ops a.tmps) = false ∧ v = undef)

theorem Gives.of_same {o : Oper} {v : Value} {a a' : Act} (h : Gives P ops S0 o v a) (he : execOp a'.eval o = execOp a.eval o)
    (hw : Region.wanted o (yielded ops a'.tmps) = Region.wanted o (yielded ops a.tmps)) : Gives P ops S0 o v a' := by
  unfold Gives at *
  rw [he, hw]
  exact h

/-- Two operations that are apart: whether the one's value is there already makes no difference to the other one. -/
theorem wpOp_apart {j : Nat} {oi oj : Oper} {v : Value} (hj : ops[j]? = some oj) (hap : oi.apart ops oj = true)
    (hsi : ∀ cs b, oi.op ≠ .select cs b) (hsj : ∀ cs b, oj.op ≠ .select cs b)
    (hQ : ∀ c a w, Q (.panic c) (a.put oi.dst v) w → Q (.panic c) a w) {K : Act → World → Prop} {a : Act} {w : World}
    (hg : Gives P ops S0 oi v a) (h : wpOp P ops Q j K (a.put oi.dst v) w) :
    wpOp P ops Q j (fun a' w' => Gives P ops S0 oi v a' ∧ K (a'.put oi.dst v) w') a w := by
  obtain ⟨h1, h2, h3⟩ := Oper.apart_spec hap
  have keep : ∀ a : Act, Gives P ops S0 oi v a → ∀ u, Gives P ops S0 oi v (a.put oj.dst u) :=
    fun a hy u => hy.of_same (execOp_put oi hsi a oj.dst u h3) (wanted_put oi a oj.dst u h3)
  have kd : ∀ d, Gives P ops S0 oi v { a with defers := d :: a.defers } := fun d => hg.of_same rfl rfl
  have e1 : execOp (a.put oi.dst v).eval oj = execOp a.eval oj := execOp_put oj hsj a oi.dst v h1
  have e2 := wanted_put (ops := ops) oj a oi.dst v h1
  unfold wpOp at *
  simp only [hj] at *
  rw [e2] at h
  by_cases hw : Region.wanted oj (yielded ops a.tmps) = true
  · simp only [hw, if_true] at h ⊢
    rcases h with h | ⟨hk, hl⟩
    · left
      unfold Oper.wp at *
      rw [e1] at h
      cases hr : (execOp a.eval oj).run P w with
      | ok n w' =>
        rw [hr] at h
        cases n with
        | value u => exact ⟨keep a hg u, by rw [← Act.put_comm a v u h2]; exact h⟩
        | skip => exact ⟨keep a hg undef, by rw [← Act.put_comm a v undef h2]; exact h⟩
        | defer d =>
          simp only [Oper.upon] at h ⊢
          refine ⟨keep _ (kd d) _, ?_⟩
          rw [← Act.put_comm _ v undef h2, ← Act.put_defers]
          exact h
        | enter f args =>
          refine Calls.mono h fun e w'' he => ?_
          cases e with
          | returned u => exact ⟨keep a hg u, by rw [← Act.put_comm a v u h2]; exact he⟩
          | panicked c => exact hQ _ _ _ he
          | outgrown => exact he
        | row row args => exact Rows.mono h fun u w'' he => ⟨keep a hg u, by rw [← Act.put_comm a v u h2]; exact he⟩
        | _ => exact h.elim
      | halt x w' =>
        rw [hr] at h
        cases x with
        | panic u => exact hQ _ _ _ h
        | _ => exact h.elim
    · right
      refine ⟨?_, hl⟩
      unfold Oper.asks at *
      rwa [e1] at hk
  · simp only [hw] at h ⊢
    exact ⟨keep a hg undef, by rw [← Act.put_comm a v undef h2]; exact h⟩

/-- Whatever order is picked from here on, in whatever world meets S now; g: the blocks that were made, by the operations that made them. -/
def wpAb (P : Program) (md : Region.Mode) (ops : Array Oper) (Q : Exit → Act → World → Prop) (S : (Nat → Nat) → Array Bool → World → Prop) : Nat → (Nat → Nat) → Array Bool → Act → Prop
  | 0, g, l, a => Region.ready md ops l = [] ∧ ∀ w, S g l w → Q .normal a w
  | n + 1, g, l, a => (Region.ready md ops l = [] → ∀ w, S g l w → Q .normal a w) ∧
    ∀ i ∈ Region.ready md ops l, ∀ w, S g l w → wpOp P ops Q i (fun a' w' => ∃ g', S g' (l.setIfInBounds i true) w' ∧ wpAb P md ops Q S n g' (l.setIfInBounds i true) a') a w

theorem wpAny_of_ab : ∀ (n : Nat) (g : Nat → Nat) (l : Array Bool) (a : Act) (w : World), wpAb P md ops Q S n g l a → S g l w → wpAny P md ops Q n l a w
  | 0, _, _, _, w, h, hs => ⟨h.1, h.2 w hs⟩
  | n + 1, _, _, _, w, h, hs => ⟨fun e => h.1 e w hs, fun i hi => wpOp_mono (fun a' w' ⟨g', s, k⟩ => wpAny_of_ab n g' _ a' w' k s) (h.2 i hi w hs)⟩

/-- What S owes an operation that leaves all blocks as they were. -/
structure Fit (S0 : World → Prop) (S : (Nat → Nat) → Array Bool → World → Prop) (i : Nat) : Prop where
  base : ∀ g l w, S g l w → S0 w
  step : ∀ g l w w', S g l w → Below w.heap.size w w' → S g l w'
  mark : ∀ g l w, S g (l.setIfInBounds i true) w ↔ S g l w

theorem Gives.wpOp {i : Nat} {o : Oper} {v : Value} {a : Act} (hi : ops[i]? = some o) (h : Gives P ops S0 o v a) {K : Act → World → Prop} {w : World} (hs : S0 w)
    (hk : ∀ w', Below w.heap.size w w' → K (a.put o.dst v) w') : wpOp P ops Q i K a w := by
  unfold Go.wpOp
  simp only [hi]
  rcases h with ⟨hw, hv⟩ | ⟨hw, rfl⟩
  · simp only [hw, if_true]
    left
    unfold Oper.wp
    rcases hv w hs with ⟨w', hr, hb⟩ | ⟨f, args, hr, hc⟩
    · rw [hr, Oper.upon_value]; exact hk w' hb
    · rw [hr, Oper.upon_enter]
      refine hc.mono ?_
      rintro e w' ⟨rfl, hb⟩
      exact hk w' hb
  · simp only [hw, Bool.false_eq_true, if_false]
    exact hk w (Below.refl _ _)

theorem abFirst {i : Nat} {oi : Oper} {v : Value} (hi : ops[i]? = some oi) (hsel : ∀ (j : Nat) (o : Oper) cs b, ops[j]? = some o → o.op ≠ .select cs b)
    (hQ : ∀ c a w, Q (.panic c) (a.put oi.dst v) w → Q (.panic c) a w) (hF : Fit S0 S i) :
    ∀ (n : Nat) (g : Nat → Nat) (l : Array Bool) (a : Act),
      (∀ j oj, ops[j]? = some oj → j ≠ i → l.getD j true = false → (∀ e ∈ oj.after, Region.binds md e = true → e.on ≠ i) → oi.apart ops oj = true) →
      i ∈ Region.ready md ops l → Gives P ops S0 oi v a →
      wpAb P md ops Q S n g (l.setIfInBounds i true) (a.put oi.dst v) → wpAb P md ops Q S (n + 1) g l a := by
  intro n
  induction n with
  | zero =>
    intro g l a _ hr hg H
    refine ⟨fun h => (by rw [h] at hr; cases hr), fun j hj w hs => ?_⟩
    by_cases hji : j = i
    · subst hji
      exact hg.wpOp hi (hF.base _ _ _ hs) fun w' hb => ⟨g, (hF.mark _ _ _).2 (hF.step _ _ _ _ hs hb), H⟩
    · have := ready_mono hj hji
      rw [H.1] at this
      cases this
  | succ n ih =>
    intro g l a hfree hr hg H
    refine ⟨fun h => (by rw [h] at hr; cases hr), fun j hj w hs => ?_⟩
    by_cases hji : j = i
    · subst hji
      exact hg.wpOp hi (hF.base _ _ _ hs) fun w' hb => ⟨g, (hF.mark _ _ _).2 (hF.step _ _ _ _ hs hb), H⟩
    · have h1 := H.2 j (ready_mono hj hji) w ((hF.mark _ _ _).2 hs)
      obtain ⟨hjun, oj, hoj, hall⟩ := mem_ready.1 hj
      have hnot : ∀ e ∈ oj.after, Region.binds md e = true → e.on ≠ i := fun e he hb heq => by
        have h1 := hall e he hb
        have h0 := (mem_ready.1 hr).1
        rw [heq] at h1
        rcases Nat.lt_or_ge i l.size with h' | h'
        · simp [h'] at h0 h1; rw [h0] at h1; cases h1
        · simp [Array.getElem?_eq_none h'] at h1
      have h2 := wpOp_apart hoj (hfree j oj hoj hji hjun hnot) (fun cs b => hsel i oi cs b hi) (fun cs b => hsel j oj cs b hoj) hQ hg h1
      have hfree' : ∀ k ok, ops[k]? = some ok → k ≠ i → (l.setIfInBounds j true).getD k true = false →
          (∀ e ∈ ok.after, Region.binds md e = true → e.on ≠ i) → oi.apart ops ok = true := fun k ok hk hki hun hno => by
        refine hfree k ok hk hki ?_ hno
        by_cases hjk : j = k
        · subst hjk; exact hjun
        · rw [getD_set_ne true hjk] at hun; exact hun
      refine wpOp_mono (fun a' w' ⟨hg', g', hs', hk'⟩ => ?_) h2
      rw [Array.setIfInBounds_comm _ _ (Ne.symm hji)] at hs' hk'
      exact ⟨g', (hF.mark _ _ _).1 hs', ih g' (l.setIfInBounds j true) a' hfree' (ready_mono hr (Ne.symm hji)) hg' hk'⟩

/-! ### What the region makes -/
/-- A block that operation x makes, what it holds first, and what it holds behind operation s. -/
structure Ent where
  x : Nat
  s : Nat
  pre : World → Nat → Prop
  post : World → Nat → Prop
/-- A word on a block that speaks of what lies there alone. -/
def Local (p : World → Nat → Prop) : Prop := ∀ w w' b, w'.heap[b]? = w.heap[b]? → p w b → p w' b
def Sof (S0 : World → Prop) (B : Nat) (own : List Ent) (g : Nat → Nat) (l : Array Bool) (w : World) : Prop :=
  S0 w ∧ B ≤ w.heap.size ∧
  (∀ e ∈ own, l.getD e.x false = true → B ≤ g e.x ∧ g e.x < w.heap.size ∧ (if l.getD e.s false = true then e.post w (g e.x) else e.pre w (g e.x))) ∧
  (∀ e ∈ own, ∀ e' ∈ own, e.x ≠ e'.x → l.getD e.x false = true → l.getD e'.x false = true → g e.x ≠ g e'.x)

theorem sof_fit {B : Nat} {own : List Ent} {i : Nat} (hst : ∀ w w', S0 w → Below B w w' → S0 w') (hl : ∀ e ∈ own, Local e.pre ∧ Local e.post) (hi : ∀ e ∈ own, e.x ≠ i ∧ e.s ≠ i) : Fit S0 (Sof S0 B own) i where
  base _ _ _ h := h.1
  step g l w w' h hb := by
    obtain ⟨h1, h2, h3, h4⟩ := h
    refine ⟨hst _ _ h1 (hb.mono h2), Nat.le_trans h2 hb.size, fun e he hx => ?_, h4⟩
    obtain ⟨k1, k2, k3⟩ := h3 e he hx
    refine ⟨k1, Nat.lt_of_lt_of_le k2 hb.size, ?_⟩
    split at k3
    · rename_i c; rw [if_pos c]; exact (hl e he).2 _ _ _ (hb.block _ k2) k3
    · rename_i c; rw [if_neg c]; exact (hl e he).1 _ _ _ (hb.block _ k2) k3
  mark g l w := by
    have k : ∀ e ∈ own, ((l.setIfInBounds i true).getD e.x false = l.getD e.x false) ∧ ((l.setIfInBounds i true).getD e.s false = l.getD e.s false) :=
      fun e he => ⟨getD_set_ne _ (Ne.symm (hi e he).1), getD_set_ne _ (Ne.symm (hi e he).2)⟩
    constructor
    · rintro ⟨h1, h2, h3, h4⟩
      refine ⟨h1, h2, fun e he hx => ?_, fun e he e' he' hn hx hx' => h4 e he e' he' hn ((k e he).1.trans hx) ((k e' he').1.trans hx')⟩
      have := h3 e he ((k e he).1.trans hx)
      rwa [(k e he).2] at this
    · rintro ⟨h1, h2, h3, h4⟩
      refine ⟨h1, h2, fun e he hx => ?_, fun e he e' he' hn hx hx' => h4 e he e' he' hn ((k e he).1.symm.trans hx) ((k e' he').1.symm.trans hx')⟩
      have := h3 e he ((k e he).1.symm.trans hx)
      rwa [← (k e he).2] at this

/-! ### The moves -/
theorem wp_region_ab {id : Nat} {a : Act} {w : World} (B : Nat) (own : List Ent) (hm : P.follows .mixedOrders = true) (h0 : S0 w.drew) (hB : B ≤ w.heap.size)
    (ho : ∀ e ∈ own, e.x < ops.size)
    (h : wpAb P .any ops Q (Sof S0 B own) ops.size (fun _ => 0) (Array.replicate ops.size false) a) : (Code.region id ops true).wp P Q a w := by
  refine wp_region_any hm (wpAny_of_ab _ _ _ _ _ h ⟨h0, hB, fun e he hx => ?_, fun e he e' he' hn hx => ?_⟩)
  · simp [ho e he] at hx
  · simp [ho e he] at hx

variable {B : Nat} {own : List Ent} {n : Nat} {g : Nat → Nat} {l : Array Bool} {a : Act}

/-- A value that hangs on nothing but S0. -/
theorem abTake (i : Nat) (d : Option Tmp) {oi : Oper} {v : Value} (hi : ops[i]? = some oi) (hd : oi.dst = d)
    (hs : Region.noSelect ops = true) (hf : Region.free md ops l i = true) (hr : (Region.ready md ops l).contains i = true)
    (hQ : ∀ c a w, Q (.panic c) (a.put d v) w → Q (.panic c) a w) (hF : Fit S0 (Sof S0 B own) i)
    (hw : Region.wanted oi (yielded ops a.tmps) = true) (hy : ∀ w, S0 w → (execOp a.eval oi).run P w = .ok (.value v) w)
    (h : wpAb P md ops Q (Sof S0 B own) n g (l.setIfInBounds i true) (a.put d v)) : wpAb P md ops Q (Sof S0 B own) (n + 1) g l a := by
  subst hd
  exact abFirst hi (Region.noSelect_spec hs) hQ hF n g l a (Region.free_spec hi hf) (by simpa using hr) (.inl ⟨hw, fun w k => .inl ⟨w, hy w k, Below.refl _ _⟩⟩) h
/-- An operation that is not wanted. -/
theorem abSkip (i : Nat) (d : Option Tmp) {oi : Oper} (hi : ops[i]? = some oi) (hd : oi.dst = d)
    (hs : Region.noSelect ops = true) (hf : Region.free md ops l i = true) (hr : (Region.ready md ops l).contains i = true)
    (hQ : ∀ c a w, Q (.panic c) (a.put d undef) w → Q (.panic c) a w) (hF : Fit S0 (Sof S0 B own) i)
    (hw : Region.wanted oi (yielded ops a.tmps) = false)
    (h : wpAb P md ops Q (Sof S0 B own) n g (l.setIfInBounds i true) (a.put d undef)) : wpAb P md ops Q (Sof S0 B own) (n + 1) g l a := by
  subst hd
  exact abFirst hi (Region.noSelect_spec hs) hQ hF n g l a (Region.free_spec hi hf) (by simpa using hr) (.inr ⟨hw, rfl⟩) h
/-- A call that answers v and leaves all blocks as they were. -/
theorem abCall (i : Nat) (d : Option Tmp) {oi : Oper} {v : Value} {f : FuncId} {args : Array Value} (hi : ops[i]? = some oi) (hd : oi.dst = d)
    (hs : Region.noSelect ops = true) (hf : Region.free md ops l i = true) (hr : (Region.ready md ops l).contains i = true)
    (hQ : ∀ c a w, Q (.panic c) (a.put d v) w → Q (.panic c) a w) (hF : Fit S0 (Sof S0 B own) i)
    (hw : Region.wanted oi (yielded ops a.tmps) = true) (hy : ∀ w, S0 w → (execOp a.eval oi).run P w = .ok (.enter f args) w)
    (hc : ∀ w, S0 w → Calls P f args w fun e w' => e = .returned v ∧ Below w.heap.size w w')
    (h : wpAb P md ops Q (Sof S0 B own) n g (l.setIfInBounds i true) (a.put d v)) : wpAb P md ops Q (Sof S0 B own) (n + 1) g l a := by
  subst hd
  exact abFirst hi (Region.noSelect_spec hs) hQ hF n g l a (Region.free_spec hi hf) (by simpa using hr) (.inl ⟨hw, fun w k => .inr ⟨f, args, hy w k, hc w k⟩⟩) h
/-- One operation alone may come up, and panics; or whatever it does is what the post asks. -/
theorem abLast (i : Nat) (hr : Region.ready md ops l = [i]) (h : ∀ w, Sof S0 B own g l w → wpOp P ops Q i (fun a' w' => ∃ g', Sof S0 B own g' (l.setIfInBounds i true) w' ∧ wpAb P md ops Q (Sof S0 B own) n g' (l.setIfInBounds i true) a') a w) :
    wpAb P md ops Q (Sof S0 B own) (n + 1) g l a :=
  ⟨fun e => (by rw [hr] at e; cases e), fun j hj => (by rw [hr] at hj; simp at hj; subst hj; exact h)⟩
/-- A call that gives up. -/
theorem abGives (i : Nat) {oi : Oper} {f : FuncId} {args : Array Value} (hi : ops[i]? = some oi) (hr : Region.ready md ops l = [i])
    (hw : Region.wanted oi (yielded ops a.tmps) = true) (hy : ∀ w, S0 w → (execOp a.eval oi).run P w = .ok (.enter f args) w)
    (hc : ∀ w, S0 w → Calls P f args w fun e w' => ∃ c, e = .panicked c ∧ Q (.panic c) a w') : wpAb P md ops Q (Sof S0 B own) (n + 1) g l a :=
  abLast i hr fun w hs => by
    unfold Go.wpOp
    simp only [hi, hw, if_true]
    left
    unfold Oper.wp
    rw [hy w hs.1, Oper.upon_enter]
    refine (hc w hs.1).mono ?_
    rintro e w' ⟨c, rfl, h⟩
    exact h
/-- All have come up. -/
theorem abDone (hr : Region.ready md ops l = []) (h : ∀ w, Sof S0 B own g l w → Q .normal a w) : ∀ n, wpAb P md ops Q (Sof S0 B own) n g l a
  | 0 => ⟨hr, h⟩
  | _ + 1 => ⟨fun _ => h, by rw [hr]; simp⟩

/-- g with block b for operation x. -/
def made (g : Nat → Nat) (x b : Nat) : Nat → Nat := fun y => if y = x then b else g y
theorem made_same (g : Nat → Nat) (x b : Nat) : made g x b x = b := if_pos rfl
theorem made_other (g : Nat → Nat) {x y : Nat} (b : Nat) (h : y ≠ x) : made g x b y = g y := if_neg h

theorem sof_made (e : Ent) (he : e ∈ own) (hu : ∀ e' ∈ own, e'.x = e.x → e' = e) (hx : ∀ e' ∈ own, e'.s ≠ e.x) (hst : ∀ w w', S0 w → Below B w w' → S0 w') (hl : ∀ e ∈ own, Local e.pre ∧ Local e.post) {w : World} {o : Obj}
    (hun : l.getD e.s false = false) (hin : e.x < l.size) (hp : e.pre (w.alloc o) w.heap.size) (hs : Sof S0 B own g l w) : Sof S0 B own (made g e.x w.heap.size) (l.setIfInBounds e.x true) (w.alloc o) := by
  obtain ⟨h1, h2, h3, h4⟩ := hs
  have hb : Below w.heap.size w (w.alloc o) := (Below.refl _ _).alloc (Nat.le_refl _) _
  have hz : (w.alloc o).heap.size = w.heap.size + 1 := by simp
  refine ⟨hst _ _ h1 (hb.mono h2), by omega, fun e' he' hx' => ?_, fun e1 he1 e2 he2 hn hx1 hx2 => ?_⟩
  · rw [getD_set_ne _ (Ne.symm (hx e' he'))]
    by_cases c : e'.x = e.x
    · obtain rfl := hu e' he' c
      rw [made_same, if_neg (by rw [hun]; simp)]
      exact ⟨h2, by omega, hp⟩
    · rw [made_other _ _ c]
      rw [getD_set_ne _ (Ne.symm c)] at hx'
      obtain ⟨k1, k2, k3⟩ := h3 e' he' hx'
      refine ⟨k1, by omega, ?_⟩
      split at k3
      · rename_i c3; rw [if_pos c3]; exact (hl e' he').2 _ _ _ (hb.block _ k2) k3
      · rename_i c3; rw [if_neg c3]; exact (hl e' he').1 _ _ _ (hb.block _ k2) k3
  · by_cases c1 : e1.x = e.x
    · have c2 : e2.x ≠ e.x := fun c => hn (c1.trans c.symm)
      rw [c1, made_same, made_other _ _ c2]
      rw [getD_set_ne _ (Ne.symm c2)] at hx2
      have := (h3 e2 he2 hx2).2.1
      omega
    · rw [made_other _ _ c1]
      rw [getD_set_ne _ (Ne.symm c1)] at hx1
      by_cases c2 : e2.x = e.x
      · rw [c2, made_same]
        have := (h3 e1 he1 hx1).2.1
        omega
      · rw [made_other _ _ c2]
        rw [getD_set_ne _ (Ne.symm c2)] at hx2
        exact h4 e1 he1 e2 he2 hn hx1 hx2

/-- An alloc of a block that the region owns: one of those that may come up. -/
def AbMakes (P : Program) (ops : Array Oper) (S0 : World → Prop) (e : Ent) (oi : Oper) (a : Act) : Prop :=
  Region.wanted oi (yielded ops a.tmps) = true ∧ ∃ o, ∀ w, S0 w → (execOp a.eval oi).run P w = .ok (.value (.pointer (some ⟨w.heap.size, 0, none⟩))) (w.alloc o) ∧ e.pre (w.alloc o) w.heap.size
structure OwnOk (S0 : World → Prop) (B : Nat) (own : List Ent) : Prop where
  st : ∀ w w', S0 w → Below B w w' → S0 w'
  loc : ∀ e ∈ own, Local e.pre ∧ Local e.post
  one : ∀ e ∈ own, ∀ e' ∈ own, e'.x = e.x → e' = e
  two : ∀ e ∈ own, ∀ e' ∈ own, e'.s = e.s → e' = e
  apart : ∀ e ∈ own, ∀ e' ∈ own, e'.s ≠ e.x
theorem own0_ok (st : ∀ w w', S0 w → Below B w w' → S0 w') : OwnOk S0 B [] :=
  ⟨st, fun _ h => (by cases h), fun _ h => (by cases h), fun _ h => (by cases h), fun _ h => (by cases h)⟩
theorem own1_ok {e : Ent} (st : ∀ w w', S0 w → Below B w w' → S0 w') (he : Local e.pre ∧ Local e.post) (h : e.s ≠ e.x) : OwnOk S0 B [e] :=
  ⟨st, fun k hk => (by simp at hk; subst hk; exact he), fun k hk k' hk' _ => (by simp at hk hk'; rw [hk, hk']), fun k hk k' hk' _ => (by simp at hk hk'; rw [hk, hk']), fun k hk k' hk' => (by simp at hk hk'; rw [hk, hk']; exact h)⟩
theorem own2_ok {e f : Ent} (st : ∀ w w', S0 w → Below B w w' → S0 w') (he : Local e.pre ∧ Local e.post) (hf : Local f.pre ∧ Local f.post) (hx : e.x ≠ f.x) (hs : e.s ≠ f.s)
    (h : e.s ≠ e.x ∧ e.s ≠ f.x ∧ f.s ≠ e.x ∧ f.s ≠ f.x) : OwnOk S0 B [e, f] := by
  obtain ⟨h1, h2, h3, h4⟩ := h
  refine ⟨st, fun k hk => ?_, fun k hk k' hk' c => ?_, fun k hk k' hk' c => ?_, fun k hk k' hk' => ?_⟩
  · simp at hk; rcases hk with rfl | rfl <;> assumption
  · simp at hk hk'; rcases hk with rfl | rfl <;> rcases hk' with rfl | rfl <;> first | rfl | exact absurd c hx | exact absurd c (Ne.symm hx)
  · simp at hk hk'; rcases hk with rfl | rfl <;> rcases hk' with rfl | rfl <;> first | rfl | exact absurd c hs | exact absurd c (Ne.symm hs)
  · simp at hk hk'; rcases hk with rfl | rfl <;> rcases hk' with rfl | rfl <;> assumption
theorem abMake {x : Nat} {oi : Oper} (ok : OwnOk S0 B own) (e : Ent) (he : e ∈ own) (hx : e.x = x) (hi : ops[x]? = some oi) (hun : l.getD e.s false = false) (hin : decide (x < l.size) = true)
    (hm : AbMakes P ops S0 e oi a) {K : (Nat → Nat) → Act → Prop} (h : ∀ b, B ≤ b → (∀ e' ∈ own, l.getD e'.x false = true → g e'.x ≠ b) → K (made g x b) (a.put oi.dst (.pointer (some ⟨b, 0, none⟩)))) (w : World) (hs : Sof S0 B own g l w) :
    wpOp P ops Q x (fun a' w' => ∃ g', Sof S0 B own g' (l.setIfInBounds x true) w' ∧ K g' a') a w := by
  subst hx
  obtain ⟨hw, o, hr⟩ := hm
  obtain ⟨hr, hp⟩ := hr w hs.1
  unfold Go.wpOp
  simp only [hi, hw, if_true]
  left
  unfold Oper.wp
  rw [hr, Oper.upon_value]
  refine ⟨_, sof_made e he (fun e' he' => ok.one e he e' he') (fun e' he' => ok.apart e he e' he') ok.st ok.loc hun (of_decide_eq_true hin) hp hs, h _ hs.2.1 fun e' he' hl => ?_⟩
  have := (hs.2.2.1 e' he' hl).2.1
  omega
/-- One block is made. -/
theorem abMake1 (x : Nat) (d : Tmp) {oi : Oper} (ok : OwnOk S0 B own) (e : Ent) (he : e ∈ own) (hx : e.x = x) (hi : ops[x]? = some oi) (hd : oi.dst = some d) (hun : l.getD e.s false = false) (hin : decide (x < l.size) = true)
    (hr : Region.ready md ops l = [x]) (hm : AbMakes P ops S0 e oi a)
    (h : ∀ b, B ≤ b → (∀ e' ∈ own, l.getD e'.x false = true → g e'.x ≠ b) → wpAb P md ops Q (Sof S0 B own) n (made g x b) (l.setIfInBounds x true) (a.put (some d) (.pointer (some ⟨b, 0, none⟩)))) :
    wpAb P md ops Q (Sof S0 B own) (n + 1) g l a :=
  abLast x hr fun w hs => abMake ok e he hx hi hun hin hm (K := fun g' a' => wpAb P md ops Q (Sof S0 B own) n g' (l.setIfInBounds x true) a') (by rw [hd]; exact h) w hs
theorem AbMakes.put {e : Ent} {o o' : Oper} {v : Value} (hs : ∀ cs b, o.op ≠ .select cs b) (hap : o'.apart ops o = true) (h : AbMakes P ops S0 e o a) : AbMakes P ops S0 e o (a.put o'.dst v) := by
  obtain ⟨h1, _, _⟩ := Oper.apart_spec hap
  unfold AbMakes at *
  rw [execOp_put o hs a o'.dst v h1, wanted_put (ops := ops) o a o'.dst v h1]
  exact h
theorem made_comm (g : Nat → Nat) {x y : Nat} (b c : Nat) (h : x ≠ y) : made (made g x b) y c = made (made g y c) x b := by
  funext z
  unfold made
  by_cases c1 : z = x <;> by_cases c2 : z = y <;> simp_all
/-- Two blocks are made, in either order. -/
theorem abMake2 (x y : Nat) (dx dy : Tmp) {ox oy : Oper} (ok : OwnOk S0 B own) (e f : Ent) (he : e ∈ own) (hf : f ∈ own) (hex : e.x = x) (hfy : f.x = y) (hx : ops[x]? = some ox) (hy : ops[y]? = some oy) (hdx : ox.dst = some dx) (hdy : oy.dst = some dy)
    (hue : l.getD e.s false = false) (huf : l.getD f.s false = false) (hxin : decide (x < l.size) = true) (hyin : decide (y < l.size) = true) (hne : x ≠ y) (hes : e.s ≠ y ∧ f.s ≠ x) (hns : Region.noSelect ops = true) (hxy : ox.apart ops oy = true) (hyx : oy.apart ops ox = true)
    (hr : Region.ready md ops l = [x, y]) (hrx : Region.ready md ops (l.setIfInBounds x true) = [y]) (hry : Region.ready md ops (l.setIfInBounds y true) = [x]) (hmx : AbMakes P ops S0 e ox a) (hmy : AbMakes P ops S0 f oy a)
    (h : ∀ b c, B ≤ b → B ≤ c → b ≠ c → wpAb P md ops Q (Sof S0 B own) n (made (made g x b) y c) ((l.setIfInBounds x true).setIfInBounds y true) ((a.put (some dx) (.pointer (some ⟨b, 0, none⟩))).put (some dy) (.pointer (some ⟨c, 0, none⟩)))) :
    wpAb P md ops Q (Sof S0 B own) (n + 1 + 1) g l a := by
  have gset : ∀ (l : Array Bool) (k : Nat), k < l.size → (l.setIfInBounds k true).getD k false = true := fun l k hk => by simp [hk]
  refine ⟨fun e => (by rw [hr] at e; cases e), fun j hj => ?_⟩
  rw [hr] at hj
  simp at hj
  rcases hj with rfl | rfl
  · refine abMake ok e he hex hx hue hxin hmx (K := fun g' a' => wpAb P md ops Q (Sof S0 B own) (n + 1) g' (l.setIfInBounds j true) a') fun b hb _ => ?_
    refine abMake1 y dy ok f hf hfy hy hdy (by rw [getD_set_ne _ (Ne.symm hes.2)]; exact huf) (by simpa using of_decide_eq_true hyin) hrx (hmy.put (Region.noSelect_spec hns y oy · · hy) hxy) fun c hc hdis => ?_
    have hbc : b ≠ c := by
      have := hdis e he (by rw [hex]; exact gset _ _ (of_decide_eq_true hxin))
      rwa [hex, made_same] at this
    rw [hdx]
    exact h b c hb hc hbc
  · refine abMake ok f hf hfy hy huf hyin hmy (K := fun g' a' => wpAb P md ops Q (Sof S0 B own) (n + 1) g' (l.setIfInBounds j true) a') fun c hc _ => ?_
    refine abMake1 x dx ok e he hex hx hdx (by rw [getD_set_ne _ (Ne.symm hes.1)]; exact hue) (by simpa using of_decide_eq_true hxin) hry (hmx.put (Region.noSelect_spec hns x ox · · hx) hyx) fun b hb hdis => ?_
    have hbc : b ≠ c := by
      have := hdis f hf (by rw [hfy]; exact gset _ _ (of_decide_eq_true hyin))
      rw [hfy, made_same] at this
      exact Ne.symm this
    have hd : ∀ d, (some dy : Option Tmp) = some d → (some dx : Option Tmp) ≠ some d := by
      have := (Oper.apart_spec hyx).2.1
      rwa [hdx, hdy] at this
    rw [hdy, Act.put_comm a (x := some dy) (y := some dx) _ _ hd, made_comm g c b (Ne.symm hne), Array.setIfInBounds_comm _ _ (Ne.symm hne)]
    exact h b c hb hc hbc

/-- What is stored into a block that the region made. -/
theorem abStore (s : Nat) {oi : Oper} (ok : OwnOk S0 B own) (e : Ent) (he : e ∈ own) (hs : e.s = s) (hi : ops[s]? = some oi) (hd : oi.dst = none) (hr : Region.ready md ops l = [s]) (hun : l.getD s false = false) (hmd : l.getD e.x false = true) (hin : decide (s < l.size) = true)
    (hw : Region.wanted oi (yielded ops a.tmps) = true)
    (hy : ∀ w b, S0 w → b = g e.x → B ≤ b → e.pre w b → ∃ w', (execOp a.eval oi).run P w = .ok .skip w' ∧ e.post w' b ∧ Below B w w' ∧ ∀ k, k ≠ b → w'.heap[k]? = w.heap[k]?)
    (h : wpAb P md ops Q (Sof S0 B own) n g (l.setIfInBounds s true) a) : wpAb P md ops Q (Sof S0 B own) (n + 1) g l a := by
  subst hs
  refine abLast e.s hr fun w hS => ?_
  obtain ⟨h1, h2, h3, h4⟩ := hS
  obtain ⟨k1, k2, k3⟩ := h3 e he hmd
  rw [if_neg (by rw [hun]; simp)] at k3
  obtain ⟨w', r1, r2, r3, r4⟩ := hy w _ h1 rfl k1 k3
  unfold Go.wpOp
  simp only [hi, hw, if_true]
  left
  unfold Oper.wp
  rw [r1, Oper.upon_skip, hd]
  refine ⟨g, ⟨ok.st _ _ h1 r3, Nat.le_trans h2 r3.size, fun e' he' hx => ?_, fun e1 he1 e2 he2 hn hx1 hx2 => ?_⟩, h⟩
  · rw [getD_set_ne _ (ok.apart e' he' e he)] at hx
    obtain ⟨j1, j2, j3⟩ := h3 e' he' hx
    refine ⟨j1, Nat.lt_of_lt_of_le j2 r3.size, ?_⟩
    by_cases c : e'.x = e.x
    · obtain rfl := ok.one e he e' he' c
      rw [if_pos (by simp [of_decide_eq_true hin])]
      exact r2
    · have hne := h4 e' he' e he c hx hmd
      have hns : e'.s ≠ e.s := fun c2 => c (by rw [ok.two e he e' he' c2])
      rw [getD_set_ne _ (Ne.symm hns)]
      split at j3
      · rename_i c3; rw [if_pos c3]; exact (ok.loc e' he').2 _ _ _ (r4 _ hne) j3
      · rename_i c3; rw [if_neg c3]; exact (ok.loc e' he').1 _ _ _ (r4 _ hne) j3
  · rw [getD_set_ne _ (ok.apart e1 he1 e he)] at hx1
    rw [getD_set_ne _ (ok.apart e2 he2 e he)] at hx2
    exact h4 e1 he1 e2 he2 hn hx1 hx2
/-- What lies in a block of the region's behind it. -/
theorem sof_post {w : World} (h : Sof S0 B own g l w) (e : Ent) (he : e ∈ own) (h1 : l.getD e.x false = true) (h2 : l.getD e.s false = true) {b : Nat} (hb : g e.x = b) : B ≤ b ∧ b < w.heap.size ∧ e.post w b := by
  obtain ⟨k1, k2, k3⟩ := h.2.2.1 e he h1
  rw [if_pos h2] at k3
  subst hb
  exact ⟨k1, k2, k3⟩
end
end Go.Proofs.YtdimgomigidbkaaGreatDoor
