/- The law of MoveBounds: its walk. -/
import Derived.Test.YtaegoomnenociaaMovG
import Derived.Test.YtaegoomnenociaaMovS
import Derived.BigQuiet
namespace Go.Proofs.Ytaegoomnenociaa
open Go.RowKit

/-- All from place p on rise (fall), held against the one ahead. -/
def riseP (k : List Int) (p : Nat) : Bool := if p = 0 then riseF (k.getD 0 0) (k.drop 1) else riseF (k.getD (p - 1) 0) (k.drop p)
def fallP (k : List Int) (p : Nat) : Bool := if p = 0 then fallF (k.getD 0 0) (k.drop 1) else fallF (k.getD (p - 1) 0) (k.drop p)
theorem drop_get {k : List Int} {p : Nat} (hp : p < k.length) : k.drop p = k.getD p 0 :: k.drop (p + 1) := by
  rw [List.drop_eq_getElem_cons hp, List.getD_eq_getElem?_getD, List.getElem?_eq_getElem hp]
  rfl
theorem riseP_end (k : List Int) : riseP k k.length = true := by
  unfold riseP
  split
  · rename_i h
    have : k = [] := List.eq_nil_of_length_eq_zero h
    subst this
    rfl
  · rw [List.drop_length]; rfl
theorem fallP_end (k : List Int) : fallP k k.length = true := by
  unfold fallP
  split
  · rename_i h
    have : k = [] := List.eq_nil_of_length_eq_zero h
    subst this
    rfl
  · rw [List.drop_length]; rfl
theorem riseP_step {k : List Int} {p : Nat} (hp : p < k.length) (h0 : p ≠ 0) : riseP k p = (decide (k.getD (p - 1) 0 ≤ k.getD p 0) && riseP k (p + 1)) := by
  unfold riseP
  rw [if_neg h0, if_neg (Nat.succ_ne_zero p), drop_get hp]
  rfl
theorem fallP_step {k : List Int} {p : Nat} (hp : p < k.length) (h0 : p ≠ 0) : fallP k p = (decide (k.getD p 0 ≤ k.getD (p - 1) 0) && fallP k (p + 1)) := by
  unfold fallP
  rw [if_neg h0, if_neg (Nat.succ_ne_zero p), drop_get hp]
  rfl
theorem riseP_zero (k : List Int) : riseP k 0 = riseP k 1 := by unfold riseP; rfl
theorem fallP_zero (k : List Int) : fallP k 0 = fallP k 1 := by unfold fallP; rfl
theorem rev_drop {k : List Int} {p : Nat} (hp : p < k.length) : (k.drop p).reverse = (k.drop (p + 1)).reverse ++ [k.getD p 0] := by
  rw [drop_get hp, List.reverse_cons]
theorem rev_head (a : Int) (r : List Int) : (a :: r).reverse = lastF a r :: (a :: r).reverse.drop 1 := by
  induction r generalizing a with
  | nil => rfl
  | cons x s ih =>
    rw [List.reverse_cons, ih x]
    show lastF x s :: ((x :: s).reverse.drop 1 ++ [a]) = lastF x s :: (((lastF x s :: (x :: s).reverse.drop 1) ++ [a]).drop 1)
    rfl
theorem run_cons (a : Int) (r : List Int) : runM mov0 (a :: r) = ⟨((r.length + 1 : Nat) : Int), lastF a r, sumI (stepsF a r)⟩ ∧ stepsM mov0 (a :: r) = stepsF a r := by
  have h : stepsM mov0 (a :: r) = stepsF a r := rfl
  refine ⟨?_, h⟩
  unfold runM
  rw [h]
  show Mov.mk (0 + ((r.length + 1 : Nat) : Int)) (lastF a r) (0 + sumI (stepsF a r)) = _
  rw [Int.zero_add, Int.zero_add]
theorem run_back (a : Int) (r : List Int) : runM mov0 (a :: r).reverse = ⟨((r.length + 1 : Nat) : Int), a, sumI (stepsF a r)⟩ ∧ (stepsM mov0 (a :: r).reverse).length = r.length := by
  have h0 : (a :: r).reverse.drop 1 = ((a :: r).reverse.drop 1) := rfl
  obtain ⟨t, ht⟩ : ∃ t, (a :: r).reverse.drop 1 = t := ⟨_, rfl⟩
  have h1 := rev_head a r
  have h2 := stepsF_rev a r
  rw [ht] at h1 h2
  have hl : t.length = r.length := by rw [← ht, List.length_drop, List.length_reverse]; rfl
  obtain ⟨e1, e2⟩ := run_cons (lastF a r) t
  rw [h1, e1, e2, h2, sumI_rev, hl]
  refine ⟨?_, by rw [List.length_reverse, stepsF_len]⟩
  have : lastF (lastF a r) t = a := by
    rw [← ht]
    cases r with
    | nil => rfl
    | cons x s =>
      have : (a :: x :: s).reverse.drop 1 = (x :: s).reverse.drop 1 ++ [a] := by
        rw [List.reverse_cons (a := a), List.drop_append_of_le_length (by simp)]
      rw [this, lastF_snoc]
  rw [this]
/-- What the law asks, as numbers. -/
structure Bnd (k : List Int) (n : Nat) (S a Z : Int) (R F : Bool) : Prop where
  e1 : raE mov0 k = 0 ∧ raM mov0 k = ⟨(n : Int), Z, S⟩ ∧ (raL mov0 k).length = n - 1
  e2 : raE mov0 k.reverse = 0 ∧ raM mov0 k.reverse = ⟨(n : Int), a, S⟩ ∧ (raL mov0 k.reverse).length = n - 1
  get0 : 0 < n → k.getD 0 0 = a
  getn : 0 < n → k.getD (n - 1) 0 = Z
  rf : 0 < n → riseP k 0 = R ∧ fallP k 0 = F
  ge : 0 < n → distI a Z ≤ S
  eq : 0 < n → (R || F) = decide (S = distI a Z)
  nil : n = 0 → S = 0 ∧ a = 0 ∧ Z = 0
  big : (-1000000 ≤ a ∧ a ≤ 1000000) ∧ (-1000000 ≤ Z ∧ Z ≤ 1000000)
theorem bnd_of {k : List Int} {n : Nat} (hin : inB k = true) (hn : k.length = n) (hl : n ≤ 200) : ∃ S a Z R F, Bnd k n S a Z R F := by
  have ok0 : movOk mov0 := .inl ⟨rfl, rfl, rfl⟩
  have z1 : raE mov0 k = 0 := raE_zero.2 ⟨ok0, hin, by rw [hn]; show (0 : Int) + (n : Int) ≤ 1000000000; omega⟩
  have z2 : raE mov0 k.reverse = 0 := raE_zero.2 ⟨ok0, by rw [inB_rev]; exact hin, by rw [List.length_reverse, hn]; show (0 : Int) + (n : Int) ≤ 1000000000; omega⟩
  have m1 : raM mov0 k = runM mov0 k := if_pos z1
  have m2 : raM mov0 k.reverse = runM mov0 k.reverse := if_pos z2
  have l1 : raL mov0 k = stepsM mov0 k := if_pos z1
  have l2 : raL mov0 k.reverse = stepsM mov0 k.reverse := if_pos z2
  cases k with
  | nil =>
    subst hn
    exact ⟨0, 0, 0, true, true, ⟨z1, by rw [m1]; rfl, by rw [l1]; rfl⟩, ⟨z2, by rw [m2]; rfl, by rw [l2]; rfl⟩, fun h => absurd h (Nat.lt_irrefl 0), fun h => absurd h (Nat.lt_irrefl 0), fun h => absurd h (Nat.lt_irrefl 0), fun h => absurd h (Nat.lt_irrefl 0), fun h => absurd h (Nat.lt_irrefl 0), fun _ => ⟨rfl, rfl, rfl⟩, by omega⟩
  | cons x r =>
    have hn2 : n = r.length + 1 := hn.symm
    obtain ⟨c1, c2⟩ := run_cons x r
    obtain ⟨c3, c4⟩ := run_back x r
    have hx := inB_of hin x (by simp)
    have hr : inB r = true := by
      unfold inB at hin ⊢
      rw [List.all_cons, Bool.and_eq_true] at hin
      exact hin.2
    refine ⟨sumI (stepsF x r), x, lastF x r, riseF x r, fallF x r, ⟨z1, by rw [m1, c1, hn2], by rw [l1, c2, stepsF_len, hn2]; rfl⟩, ⟨z2, by rw [m2, c3, hn2], by rw [l2, c4, hn2]; rfl⟩, fun _ => rfl, fun _ => ?_, fun _ => ⟨rfl, rfl⟩, fun _ => sum_ge_dist x r, fun _ => ways_sum x r, fun h => by omega, hx, lastF_in hx hr⟩
    have := lastF_get x (x :: r) (n - 1) (by rw [hn2]; rfl)
    exact this.symm
def BackRel (k : List Int) (n : Nat) (w1 : World) (tv rv fv iv : Value) (wr : World) : Prop :=
  ∃ p : Nat, p ≤ n ∧ (∃ q : Int, q = (p : Int) - 1 ∧ iv = .int .i64 q) ∧ rv = .bool (riseP k p) ∧ fv = .bool (fallP k p) ∧ IRow w1.heap.size tv (k.drop p).reverse wr ∧ Below w1.heap.size w1 wr
set_option linter.unusedSimpArgs false in
set_option linter.unusedVariables false in
set_option maxHeartbeats 8000000 in
set_option maxRecDepth 100000 in
theorem bounds12_walk (l : List Int) (v : Value) (w : World) (hr : ReadsI w v l) :
    Calls Try.prog 4 #[v] w fun e w' => e = .returned (.bool true) ∧ Below w.heap.size w w' := by
  have hso := some12_any l v w hr
  have hin := someN_in l 200
  have hlen := someN_len l 200
  generalize someN l 200 = k at *
  obtain ⟨n, hn⟩ : ∃ n, k.length = n := ⟨_, rfl⟩
  rw [hn] at hlen
  obtain ⟨S, a, Z, R, F, hbnd⟩ := bnd_of hin hn hlen
  have c1 := fun W u (h : ReadsI W u k) => run12_any mov0 k u W h (by omega)
  have c2 := fun W u (h : ReadsI W u k.reverse) => run12_any mov0 k.reverse u W h (by rw [List.length_reverse]; omega)
  rw [hbnd.e1.1, hbnd.e1.2.1] at c1
  rw [hbnd.e2.1, hbnd.e2.2.1] at c2
  obtain ⟨q1, hq1⟩ : ∃ q, raL mov0 k = q := ⟨_, rfl⟩
  obtain ⟨q2, hq2⟩ : ∃ q, raL mov0 k.reverse = q := ⟨_, rfl⟩
  rw [hq1] at c1
  rw [hq2] at c2
  have HQ1 := Lib.hid hq1
  have HQ2 := Lib.hid hq2
  clear hq1 hq2
  unfold movV mov0 at c1 c2
  dsimp only at c1 c2
  have C1 := Lib.hid c1
  have C2 := Lib.hid c2
  have HBN := Lib.hid hbnd
  have HN := Lib.hid hn
  have HIN := Lib.hid hin
  clear c1 c2 hbnd hn hin hr
  go_enter Try.func4, Try.ntmps4
  go_upto_region 1 with fail
  go_wp2_with fail
  refine hso.mono ?_
  rintro e w1 ⟨u, rfl, hrow, k1⟩
  have HBW := Lib.hid k1
  have hrd := hrow.reads
  obtain ⟨ao, cap, rfl, hlc, hcm, -⟩ := id hrd
  rw [HN.out] at hrd hlc ⊢
  have HL := Lib.hid hrd
  have hbase := Nat.le_refl w1.heap.size
  have hwn : wrap64 ((n : Int) - 1) = (n : Int) - 1 := by unfold wrap64; omega
  clear hso k1 hrow hrd hcm
  go_wp2
  have HWN := Lib.hid hwn
  clear hwn
  go_loopw [3, 4, 5, 6] (BackRel k n w1) (fun _ _ _ i _ => (intOf i + 1).toNat)
  case atStart => exact ⟨n, Nat.le_refl _, ⟨_, rfl, rfl⟩, by rw [← HN.out, riseP_end], by rw [← HN.out, fallP_end], by rw [← HN.out, List.drop_length]; exact IRow.nil _ _, Below.refl _ _⟩
  case round =>
    obtain ⟨p, hp, ⟨q, hq, rfl⟩, rfl, rfl, hrow, hb⟩ := hrel
    have HROW := Lib.hid hrow
    have HB := Lib.hid hb
    have hsz := hb.size
    clear hrow hb
    cases p with
    | succ p =>
      obtain rfl : q = (p : Int) := by omega
      clear hq
      obtain ⟨ao', cp', e0, -, -, hrd⟩ := HL.out.below HB.out
      injection e0 with e1 e2 e3
      subst e1 e3
      obtain ⟨b, off, rfl, hlt, hc⟩ := hrd p (by rw [HN.out]; omega)
      obtain ⟨y, hy⟩ : ∃ y, k.getD p 0 = y := ⟨_, rfl⟩
      have hrv := rev_drop (k := k) (p := p) (by rw [HN.out]; omega)
      rw [hy] at hc hrv
      have hal : ((k.drop (p + 1)).reverse).length ≤ 1000 := by rw [List.length_reverse, List.length_drop]; omega
      obtain ⟨acc, hacc⟩ : ∃ acc, (k.drop (p + 1)).reverse = acc := ⟨_, rfl⟩
      rw [hacc] at HROW hrv hal
      obtain ⟨R1, hR1⟩ : ∃ R1, riseP k (p + 1) = R1 := ⟨_, rfl⟩
      obtain ⟨F1, hF1⟩ : ∃ F1, fallP k (p + 1) = F1 := ⟨_, rfl⟩
      rw [hR1, hF1]
      have hpn : (p : Int) < (n : Int) := by omega
      have hp0 : (0 : Int) ≤ (p : Int) := by omega
      have HWP := Lib.hid (show wrap64 ((p : Int) - 1) = (p : Int) - 1 by unfold wrap64; omega)
      have HO := Lib.hid (ReadsI.one wr y)
      have HWA := Lib.hid (HROW.out.alloc (.cells #[.int .i64 y] 3))
      have hsa : (wr.alloc (.cells #[.int .i64 y] 3)).heap.size = wr.heap.size + 1 := by simp
      have HSA := Lib.hid hsa
      have HBA := Lib.hid (HB.out.alloc hsz (.cells #[.int .i64 y] 3))
      have HRV := Lib.hid hrv
      have HY := Lib.hid hy
      have HR1 := Lib.hid hR1
      have HF1 := Lib.hid hF1
      clear hrd hacc e2 hsa hrv hy hR1 hF1
      go_wp2_with (at_builtin; refine wpList_append_ints rfl (.tmp 23) (.tmp 28) rfl w1.heap.size _ acc [y] rfl HWA.out (some ⟨wr.heap.size, 0, none⟩) 1 1 rfl HO.out (by show _ + 1 ≤ _; omega) (by rw [HSA.out]; omega) ?_)
      intro v' w2 hi2 hg2
      have hlow := HBA.out.grown hg2 (by rw [HSA.out]; omega) (fun j hj => (HWA.out.lt' j hj).1)
      have HB2 := Lib.hid hlow
      have HI2 := Lib.hid (show IRow w1.heap.size v' (k.drop p).reverse w2 by rw [HRV.out]; exact hi2)
      have hcy : w2.cell? ⟨b, off + p, none⟩ = some (.int .i64 y) := by
        obtain ⟨ao', cp', e0, -, -, hrd⟩ := HL.out.below hlow
        injection e0 with e1 e2 e3
        obtain ⟨b', off', e4, -, hc'⟩ := hrd p (by rw [HN.out]; omega)
        rw [← e1] at e4
        injection e4 with e4
        injection e4 with e5 e6 _
        subst e5 e6
        rw [hc', HY.out]
      clear hi2 hg2 hc hlow
      by_cases hp00 : p = 0
      · subst hp00
        have HQ := Lib.hid (show BackRel k n w1 v' (.bool R1) (.bool F1) (.int .i64 (-1)) w2 from ⟨0, by omega, ⟨-1, by omega, rfl⟩, by rw [riseP_zero, HR1.out], by rw [fallP_zero, HF1.out], HI2.out, HB2.out⟩)
        have hwp := HWP.out
        go_wp2
        go_roundw
        case rel => exact HQ.out
        case measure =>
          clear hwp
          simp [intOf]
      · have hcx : w2.cell? ⟨b, off + (p - 1), none⟩ = some (.int .i64 (k.getD (p - 1) 0)) := by
          obtain ⟨ao', cp', e0, -, -, hrd⟩ := HL.out.below HB2.out
          injection e0 with e1 e2 e3
          obtain ⟨b', off', e4, -, hc'⟩ := hrd (p - 1) (by rw [HN.out]; omega)
          rw [← e1] at e4
          injection e4 with e4
          injection e4 with e5 e6 _
          subst e5 e6
          exact hc'
        have hrs := riseP_step (k := k) (p := p) (by rw [HN.out]; omega) hp00
        have hfs := fallP_step (k := k) (p := p) (by rw [HN.out]; omega) hp00
        rw [HY.out, HR1.out] at hrs
        rw [HY.out, HF1.out] at hfs
        obtain ⟨x, hx⟩ : ∃ x, k.getD (p - 1) 0 = x := ⟨_, rfl⟩
        rw [hx] at hcx hrs hfs
        obtain ⟨p', hp'⟩ : ∃ p', p - 1 = p' := ⟨_, rfl⟩
        rw [hp'] at hcx
        have hpp : (p : Int) - 1 = (p' : Int) := by omega
        have hpl : (p' : Int) < (n : Int) := by omega
        have hpl2 : p' < n := by omega
        have HWP2 := Lib.hid (show wrap64 ((p : Int) - 1) = (p' : Int) by rw [HWP.out]; exact hpp)
        have hgt : 0 < p := by omega
        have hpl3 : p < n := by omega
        have HQ := Lib.hid (show ∀ r f m, (decide (x ≤ y) && R1) = r → (decide (y ≤ x) && F1) = f → BackRel k n w1 v' (.bool r) (.bool f) (.int .i64 (p' : Int)) (w2.drewN m) from fun r f m h1 h2 => ⟨p, by omega, ⟨(p' : Int), by omega, rfl⟩, by rw [hrs, h1], by rw [hfs, h2], HI2.out.frame (fun _ _ _ => rfl), HB2.out.trans ⟨rfl, rfl, rfl, Nat.le_refl _, fun _ _ => rfl⟩⟩)
        have HPP := Lib.hid hpp
        clear hrs hfs hx hp' HY HR1 HF1 hp00 hpp HRV HO HWA HSA HBA HROW HB hsz hlt hpn hlc hp HIN HBN C1 C2 HBW HWN HI2 HB2 hlen hal
        rcases Int.lt_trichotomy x y with hxy | hxy | hxy
        · skip
          have g1 : x ≤ y := by omega
          have g2 : ¬ y ≤ x := by omega
          have HD1 := Lib.hid (show decide (x ≤ y) = true from decide_eq_true g1)
          have HD2 := Lib.hid (show decide (y ≤ x) = false from decide_eq_false g2)
          have hwp2 := HWP2.out
          cases R1 <;> cases F1
          all_goals
            go_upto_region 9 with fail
            clear hp0 hbase hgt
            go_big_quiet (fail)
            go_wp2
            go_roundw
            case rel =>
              rw [hwp2]
              refine HQ.out _ _ _ ?_ ?_
              · first | (rw [HD1.out]; done) | (rw [HD1.out]; rfl)
              · first | (rw [HD2.out]; done) | (rw [HD2.out]; rfl)
            case measure =>
              rw [hwp2]
              clear hwp2
              have hpp := HPP.out
              simp [intOf]; omega
        · skip
          subst hxy
          have HD1 := Lib.hid (show decide (x ≤ x) = true from decide_eq_true (Int.le_refl x))
          have hwp2 := HWP2.out
          cases R1 <;> cases F1
          all_goals
            go_upto_region 9 with fail
            clear hp0 hbase hgt
            go_big_quiet (fail)
            go_wp2
            go_roundw
            case rel =>
              rw [hwp2]
              refine HQ.out _ _ _ ?_ ?_
              · first | (rw [HD1.out]; done) | (rw [HD1.out]; rfl)
              · first | (rw [HD1.out]; done) | (rw [HD1.out]; rfl)
            case measure =>
              rw [hwp2]
              clear hwp2
              have hpp := HPP.out
              simp [intOf]; omega
        · skip
          have g1 : ¬ x ≤ y := by omega
          have g2 : y ≤ x := by omega
          have HD1 := Lib.hid (show decide (x ≤ y) = false from decide_eq_false g1)
          have HD2 := Lib.hid (show decide (y ≤ x) = true from decide_eq_true g2)
          have hwp2 := HWP2.out
          cases R1 <;> cases F1
          all_goals
            go_upto_region 9 with fail
            clear hp0 hbase hgt
            go_big_quiet (fail)
            go_wp2
            go_roundw
            case rel =>
              rw [hwp2]
              refine HQ.out _ _ _ ?_ ?_
              · first | (rw [HD1.out]; done) | (rw [HD1.out]; rfl)
              · first | (rw [HD2.out]; done) | (rw [HD2.out]; rfl)
            case measure =>
              rw [hwp2]
              clear hwp2
              have hpp := HPP.out
              simp [intOf]; omega
    | zero =>
      obtain rfl : q = -1 := by omega
      clear hq
      have hd0 : (k.drop 0).reverse = k.reverse := by rw [List.drop_zero]
      rw [hd0] at HROW
      obtain ⟨RR, hRR⟩ : ∃ R, riseP k 0 = R := ⟨_, rfl⟩
      obtain ⟨FF, hFF⟩ : ∃ F, fallP k 0 = F := ⟨_, rfl⟩
      rw [hRR, hFF]
      have HRR := Lib.hid hRR
      have HFF := Lib.hid hFF
      clear hRR hFF hd0
      have hrv := HROW.out.reads
      have hlr : k.reverse.length = n := by rw [List.length_reverse, HN.out]
      obtain ⟨at1, ct1, rfl, -⟩ := id hrv
      rw [hlr] at hrv ⊢
      have HTV := Lib.hid hrv
      have HWR := Lib.hid (HL.out.below HB.out)
      obtain ⟨rn, hrn⟩ : ∃ rn, n - 1 = rn := ⟨_, rfl⟩
      have hl1 : q1.length = rn := by rw [← HQ1.out, HBN.out.e1.2.2, hrn]
      have hl2 : q2.length = rn := by rw [← HQ2.out, HBN.out.e2.2.2, hrn]
      have HL1 := Lib.hid hl1
      have HL2 := Lib.hid hl2
      clear hrv hlr hl1 hl2 HROW
      obtain ⟨wx, hwx⟩ : ∃ wx : World, wx = wr := ⟨_, rfl⟩
      rw [← hwx] at HTV HWR HB ⊢
      clear hwx
      have hri := HBN.out.rf
      have hgei := HBN.out.ge
      have heqi := HBN.out.eq
      have hnil := HBN.out.nil
      have hbig := HBN.out.big
      by_cases hz : n = 0
      · obtain ⟨rfl, rfl, rfl⟩ := hnil hz
        subst hz
        obtain rfl : rn = 0 := by omega
        clear hri hgei heqi hnil hbig hrn
        have hcz1 := C1.out wx _ HWR.out
        go_wp2_with fail
        refine hcz1.mono ?_
        rintro e wz1 ⟨s1, rfl, hs1, kz1⟩
        clear hcz1
        have HBz1 := Lib.hid (HB.out.trans (kz1.mono (Nat.le_trans hbase HB.out.size)))
        have Htz1 := Lib.hid (HTV.out.below kz1)
        have Hlz1 := Lib.hid (HWR.out.below kz1)
        clear kz1
        obtain ⟨as1, cs1, rfl, -⟩ := id hs1.reads
        rw [HL1.out]
        clear hs1
        obtain ⟨wz2, hwz2⟩ : ∃ wz2, wz1.alloc (.cells #[.int .i64 0, .int .i64 0, .int .i64 0] 23) = wz2 := ⟨_, rfl⟩
        have kz2 : Below wz1.heap.size wz1 wz2 := by rw [← hwz2]; exact (Below.refl _ _).alloc (Nat.le_refl _) _
        have Hmz2 := Lib.hid (show Has wz2 wz1.heap.size [.int .i64 0, .int .i64 0, .int .i64 0] 23 by rw [← hwz2]; exact Has.new _ _ _)
        have HWz2 := Lib.hid hwz2
        clear hwz2
        have HBz2 := Lib.hid (HBz1.out.trans (kz2.mono (Nat.le_trans hbase HBz1.out.size)))
        have Htz2 := Lib.hid (Htz1.out.below kz2)
        have Hlz2 := Lib.hid (Hlz1.out.below kz2)
        clear kz2
        go_upto_region 11 with fail
        rw [HWz2.out]
        have hcz3 := C2.out wz2 _ Htz2.out
        go_wp2_with fail
        refine hcz3.mono ?_
        rintro e wz3 ⟨s2, rfl, hs2, kz3⟩
        clear hcz3
        have HBz3 := Lib.hid (HBz2.out.trans (kz3.mono (Nat.le_trans hbase HBz2.out.size)))
        have Hmz3 := Lib.hid (Hmz2.out.call kz3)
        have Htz3 := Lib.hid (Htz2.out.below kz3)
        have Hlz3 := Lib.hid (Hlz2.out.below kz3)
        clear kz3
        obtain ⟨as2, cs2, rfl, -⟩ := id hs2.reads
        rw [HL2.out]
        clear hs2
        obtain ⟨wz4, hwz4⟩ : ∃ wz4, wz3.alloc (.cells #[.int .i64 0, .int .i64 0, .int .i64 0] 23) = wz4 := ⟨_, rfl⟩
        have kz4 : Below wz3.heap.size wz3 wz4 := by rw [← hwz4]; exact (Below.refl _ _).alloc (Nat.le_refl _) _
        have Hbz4 := Lib.hid (show Has wz4 wz3.heap.size [.int .i64 0, .int .i64 0, .int .i64 0] 23 by rw [← hwz4]; exact Has.new _ _ _)
        have HWz4 := Lib.hid hwz4
        clear hwz4
        have HBz4 := Lib.hid (HBz3.out.trans (kz4.mono (Nat.le_trans hbase HBz3.out.size)))
        have Hmz4 := Lib.hid (Hmz3.out.call kz4)
        have Htz4 := Lib.hid (Htz3.out.below kz4)
        have Hlz4 := Lib.hid (Hlz3.out.below kz4)
        clear kz4
        go_upto_region 12 with fail
        rw [HWz4.out]
        have qm0_4 : wz4.cell? ⟨wz1.heap.size, 0, none⟩ = some (.int .i64 0) := Hmz4.out.cell 0
        have qm1_4 : wz4.cell? ⟨wz1.heap.size, 1, none⟩ = some (.int .i64 0) := Hmz4.out.cell 1
        have qm2_4 : wz4.cell? ⟨wz1.heap.size, 2, none⟩ = some (.int .i64 0) := Hmz4.out.cell 2
        have lm_4 : wz1.heap.size < wz4.heap.size := Hmz4.out.lt
        have qb0_4 : wz4.cell? ⟨wz3.heap.size, 0, none⟩ = some (.int .i64 0) := Hbz4.out.cell 0
        have qb1_4 : wz4.cell? ⟨wz3.heap.size, 1, none⟩ = some (.int .i64 0) := Hbz4.out.cell 1
        have qb2_4 : wz4.cell? ⟨wz3.heap.size, 2, none⟩ = some (.int .i64 0) := Hbz4.out.cell 2
        have lb_4 : wz3.heap.size < wz4.heap.size := Hbz4.out.lt
        skip
        have hcz5 := alive12_any wz4
        go_wp2_with fail
        refine hcz5.mono ?_
        rintro e wz5 ⟨rfl, kz5⟩
        clear hcz5 qm0_4 qm1_4 qm2_4 lm_4 qb0_4 qb1_4 qb2_4 lb_4
        have HBz5 := Lib.hid (HBz4.out.trans (kz5.mono (Nat.le_trans hbase HBz4.out.size)))
        have Hmz5 := Lib.hid (Hmz4.out.call kz5)
        have Hbz5 := Lib.hid (Hbz4.out.call kz5)
        have Htz5 := Lib.hid (Htz4.out.below kz5)
        have Hlz5 := Lib.hid (Hlz4.out.below kz5)
        clear kz5
        have qm0_5 : wz5.cell? ⟨wz1.heap.size, 0, none⟩ = some (.int .i64 0) := Hmz5.out.cell 0
        have qm1_5 : wz5.cell? ⟨wz1.heap.size, 1, none⟩ = some (.int .i64 0) := Hmz5.out.cell 1
        have qm2_5 : wz5.cell? ⟨wz1.heap.size, 2, none⟩ = some (.int .i64 0) := Hmz5.out.cell 2
        have lm_5 : wz1.heap.size < wz5.heap.size := Hmz5.out.lt
        have hez := eqMov3 0 0 0 0 0 0
        go_wp2
        go_ret
        exact ⟨rfl, HBW.out.trans (HBz5.out.mono HBW.out.size)⟩
      · obtain ⟨hr1, hr2⟩ := hri (by omega)
        rw [HRR.out] at hr1
        rw [HFF.out] at hr2
        subst hr1 hr2
        obtain ⟨D, hDD⟩ : ∃ D, distI a Z = D := ⟨_, rfl⟩
        have hge1 := hgei (by omega)
        have heq1 := heqi (by omega)
        rw [hDD] at hge1 heq1
        have HDD := Lib.hid hDD.symm
        have HGE := Lib.hid hge1
        have HEQ := Lib.hid heq1
        clear hri hgei heqi hnil hDD hge1 heq1
        by_cases h1 : n = 1
        · subst h1
          obtain rfl : rn = 0 := by omega
          have haz := HBN.out.getn (by omega)
          have haz2 := HBN.out.get0 (by omega)
          obtain rfl : a = Z := haz2.symm.trans haz
          clear haz haz2 hbig hrn hz
          have hcz1 := C1.out wx _ HWR.out
          go_wp2_with fail
          refine hcz1.mono ?_
          rintro e wz1 ⟨s1, rfl, hs1, kz1⟩
          clear hcz1
          have HBz1 := Lib.hid (HB.out.trans (kz1.mono (Nat.le_trans hbase HB.out.size)))
          have Htz1 := Lib.hid (HTV.out.below kz1)
          have Hlz1 := Lib.hid (HWR.out.below kz1)
          clear kz1
          obtain ⟨as1, cs1, rfl, -⟩ := id hs1.reads
          rw [HL1.out]
          clear hs1
          obtain ⟨wz2, hwz2⟩ : ∃ wz2, wz1.alloc (.cells #[.int .i64 1, .int .i64 a, .int .i64 S] 23) = wz2 := ⟨_, rfl⟩
          have kz2 : Below wz1.heap.size wz1 wz2 := by rw [← hwz2]; exact (Below.refl _ _).alloc (Nat.le_refl _) _
          have Hmz2 := Lib.hid (show Has wz2 wz1.heap.size [.int .i64 1, .int .i64 a, .int .i64 S] 23 by rw [← hwz2]; exact Has.new _ _ _)
          have HWz2 := Lib.hid hwz2
          clear hwz2
          have HBz2 := Lib.hid (HBz1.out.trans (kz2.mono (Nat.le_trans hbase HBz1.out.size)))
          have Htz2 := Lib.hid (Htz1.out.below kz2)
          have Hlz2 := Lib.hid (Hlz1.out.below kz2)
          clear kz2
          go_upto_region 11 with fail
          rw [HWz2.out]
          have hcz3 := C2.out wz2 _ Htz2.out
          go_wp2_with fail
          refine hcz3.mono ?_
          rintro e wz3 ⟨s2, rfl, hs2, kz3⟩
          clear hcz3
          have HBz3 := Lib.hid (HBz2.out.trans (kz3.mono (Nat.le_trans hbase HBz2.out.size)))
          have Hmz3 := Lib.hid (Hmz2.out.call kz3)
          have Htz3 := Lib.hid (Htz2.out.below kz3)
          have Hlz3 := Lib.hid (Hlz2.out.below kz3)
          clear kz3
          obtain ⟨as2, cs2, rfl, -⟩ := id hs2.reads
          rw [HL2.out]
          clear hs2
          obtain ⟨wz4, hwz4⟩ : ∃ wz4, wz3.alloc (.cells #[.int .i64 1, .int .i64 a, .int .i64 S] 23) = wz4 := ⟨_, rfl⟩
          have kz4 : Below wz3.heap.size wz3 wz4 := by rw [← hwz4]; exact (Below.refl _ _).alloc (Nat.le_refl _) _
          have Hbz4 := Lib.hid (show Has wz4 wz3.heap.size [.int .i64 1, .int .i64 a, .int .i64 S] 23 by rw [← hwz4]; exact Has.new _ _ _)
          have HWz4 := Lib.hid hwz4
          clear hwz4
          have HBz4 := Lib.hid (HBz3.out.trans (kz4.mono (Nat.le_trans hbase HBz3.out.size)))
          have Hmz4 := Lib.hid (Hmz3.out.call kz4)
          have Htz4 := Lib.hid (Htz3.out.below kz4)
          have Hlz4 := Lib.hid (Hlz3.out.below kz4)
          clear kz4
          go_upto_region 12 with fail
          rw [HWz4.out]
          have qm0_4 : wz4.cell? ⟨wz1.heap.size, 0, none⟩ = some (.int .i64 1) := Hmz4.out.cell 0
          have qm1_4 : wz4.cell? ⟨wz1.heap.size, 1, none⟩ = some (.int .i64 a) := Hmz4.out.cell 1
          have qm2_4 : wz4.cell? ⟨wz1.heap.size, 2, none⟩ = some (.int .i64 S) := Hmz4.out.cell 2
          have lm_4 : wz1.heap.size < wz4.heap.size := Hmz4.out.lt
          have qb0_4 : wz4.cell? ⟨wz3.heap.size, 0, none⟩ = some (.int .i64 1) := Hbz4.out.cell 0
          have qb1_4 : wz4.cell? ⟨wz3.heap.size, 1, none⟩ = some (.int .i64 a) := Hbz4.out.cell 1
          have qb2_4 : wz4.cell? ⟨wz3.heap.size, 2, none⟩ = some (.int .i64 S) := Hbz4.out.cell 2
          have lb_4 : wz3.heap.size < wz4.heap.size := Hbz4.out.lt
          have hss : (S == S) = true := beq_self_eq_true S
          have hcz5 := alive12_any wz4
          go_wp2_with fail
          refine hcz5.mono ?_
          rintro e wz5 ⟨rfl, kz5⟩
          clear hcz5 qm0_4 qm1_4 qm2_4 lm_4 qb0_4 qb1_4 qb2_4 lb_4
          have HBz5 := Lib.hid (HBz4.out.trans (kz5.mono (Nat.le_trans hbase HBz4.out.size)))
          have Hmz5 := Lib.hid (Hmz4.out.call kz5)
          have Hbz5 := Lib.hid (Hbz4.out.call kz5)
          have Htz5 := Lib.hid (Htz4.out.below kz5)
          have Hlz5 := Lib.hid (Hlz4.out.below kz5)
          clear kz5
          have hrd := Hlz5.out
          obtain ⟨ao', cp', e0, -, -, hrd⟩ := hrd
          injection e0 with e1 e2 e3
          subst e1 e3
          obtain ⟨b, off, rfl, hlt, hc0⟩ := hrd 0 (by rw [HN.out]; omega)
          rw [HBN.out.get0 (by omega), Nat.add_zero] at hc0
          clear hrd e2
          go_upto_region 16 with fail
          go_cut [13] from 118 to 138 (fun s13 wz => s13 = .int .i64 D ∧ ∃ mm, wz = wz5.drewN mm)
          case first =>
            have h0 : a - a = 0 := by omega
            have hDv : D = 0 := by rw [HDD.out]; unfold distI; omega
            have HDV := Lib.hid hDv
            clear hDv
            go_region
            all_goals (go_wp2_with fail; go_meet)
            all_goals exact ⟨by rw [HDV.out], 1, rfl⟩
          case rest =>
            obtain ⟨rfl, mm, hwz⟩ := hcut
            rw [hwz]
            clear hwz
            obtain ⟨wy, hwy⟩ : ∃ wy, wz5.drewN mm = wy := ⟨_, rfl⟩
            have Hmy := Lib.hid (show Has wy (wz1.heap.size) [.int .i64 1, .int .i64 a, .int .i64 S] 23 by rw [← hwy]; exact Hmz5.out.of rfl)
            have Hby := Lib.hid (show Has wy (wz3.heap.size) [.int .i64 1, .int .i64 a, .int .i64 S] 23 by rw [← hwy]; exact Hbz5.out.of rfl)
            have hc0 : wy.cell? ⟨b, off, none⟩ = some (.int .i64 a) := by rw [← hwy]; exact hc0
            have HBy := Lib.hid (show Below w1.heap.size w1 wy by rw [← hwy]; exact HBz5.out.trans ⟨rfl, rfl, rfl, Nat.le_refl _, fun _ _ => rfl⟩)
            have HWyy := Lib.hid hwy
            clear hwy
            rw [HWyy.out]
            have qm0_5 : wy.cell? ⟨wz1.heap.size, 0, none⟩ = some (.int .i64 1) := Hmy.out.cell 0
            have qm1_5 : wy.cell? ⟨wz1.heap.size, 1, none⟩ = some (.int .i64 a) := Hmy.out.cell 1
            have qm2_5 : wy.cell? ⟨wz1.heap.size, 2, none⟩ = some (.int .i64 S) := Hmy.out.cell 2
            have lm_5 : wz1.heap.size < wy.heap.size := Hmy.out.lt
            have qb0_5 : wy.cell? ⟨wz3.heap.size, 0, none⟩ = some (.int .i64 1) := Hby.out.cell 0
            have qb1_5 : wy.cell? ⟨wz3.heap.size, 1, none⟩ = some (.int .i64 a) := Hby.out.cell 1
            have qb2_5 : wy.cell? ⟨wz3.heap.size, 2, none⟩ = some (.int .i64 S) := Hby.out.cell 2
            have lb_5 : wz3.heap.size < wy.heap.size := Hby.out.lt
            have hge := HGE.out
            have heq := HEQ.out
            have haa : (a == a) = true := beq_self_eq_true a
            clear hlen hlc hbase
            by_cases hSD : S = D
            · subst hSD
              have hsd : (S == S) = true := beq_self_eq_true S
              rw [decide_eq_true rfl] at heq
              clear hlt
              cases RR <;> cases FF
              all_goals first
                | (exfalso; revert heq; decide)
                | (clear heq
                   go_upto_region 17 with fail
                   go_big_quiet (fail)
                   go_wp2
                   go_ret
                   exact ⟨rfl, HBW.out.trans ((Below.trans HBy.out (show Below w1.heap.size wy (wy.drewN _) from ⟨rfl, rfl, rfl, Nat.le_refl _, fun _ _ => rfl⟩)).mono HBW.out.size)⟩)
            · have hsd : (S == D) = false := beq_false_of_ne hSD
              rw [decide_eq_false hSD] at heq
              clear hlt
              cases RR <;> cases FF
              all_goals first
                | (exfalso; revert heq; decide)
                | (clear heq hSD
                   go_upto_region 17 with fail
                   go_big_quiet (fail)
                   go_wp2
                   go_ret
                   exact ⟨rfl, HBW.out.trans ((Below.trans HBy.out (show Below w1.heap.size wy (wy.drewN _) from ⟨rfl, rfl, rfl, Nat.le_refl _, fun _ _ => rfl⟩)).mono HBW.out.size)⟩)
        · have HRN := Lib.hid hrn
          have hY : (n : Int) - 1 = (rn : Int) := by omega
          have hY0 : 0 < rn := by omega
          have hYn : rn < n := by omega
          have HWY := Lib.hid (show wrap64 (rn : Int) = (rn : Int) by unfold wrap64; omega)
          have HW1 := Lib.hid (show wrap64 (a - Z) = a - Z by unfold wrap64; omega)
          have HW2 := Lib.hid (show wrap64 (Z - a) = Z - a by unfold wrap64; omega)
          have hn2 : 0 < n := by omega
          have hn0 : ((n : Int) == 0) = false := beq_false_of_ne (by omega)
          clear hbig hrn hz h1
          have hcz1 := C1.out wx _ HWR.out
          go_wp2_with fail
          refine hcz1.mono ?_
          rintro e wz1 ⟨s1, rfl, hs1, kz1⟩
          clear hcz1
          have HBz1 := Lib.hid (HB.out.trans (kz1.mono (Nat.le_trans hbase HB.out.size)))
          have Htz1 := Lib.hid (HTV.out.below kz1)
          have Hlz1 := Lib.hid (HWR.out.below kz1)
          clear kz1
          obtain ⟨as1, cs1, rfl, -⟩ := id hs1.reads
          rw [HL1.out]
          clear hs1
          obtain ⟨wz2, hwz2⟩ : ∃ wz2, wz1.alloc (.cells #[.int .i64 (n : Int), .int .i64 Z, .int .i64 S] 23) = wz2 := ⟨_, rfl⟩
          have kz2 : Below wz1.heap.size wz1 wz2 := by rw [← hwz2]; exact (Below.refl _ _).alloc (Nat.le_refl _) _
          have Hmz2 := Lib.hid (show Has wz2 wz1.heap.size [.int .i64 (n : Int), .int .i64 Z, .int .i64 S] 23 by rw [← hwz2]; exact Has.new _ _ _)
          have HWz2 := Lib.hid hwz2
          clear hwz2
          have HBz2 := Lib.hid (HBz1.out.trans (kz2.mono (Nat.le_trans hbase HBz1.out.size)))
          have Htz2 := Lib.hid (Htz1.out.below kz2)
          have Hlz2 := Lib.hid (Hlz1.out.below kz2)
          clear kz2
          go_upto_region 11 with fail
          rw [HWz2.out]
          have hcz3 := C2.out wz2 _ Htz2.out
          go_wp2_with fail
          refine hcz3.mono ?_
          rintro e wz3 ⟨s2, rfl, hs2, kz3⟩
          clear hcz3
          have HBz3 := Lib.hid (HBz2.out.trans (kz3.mono (Nat.le_trans hbase HBz2.out.size)))
          have Hmz3 := Lib.hid (Hmz2.out.call kz3)
          have Htz3 := Lib.hid (Htz2.out.below kz3)
          have Hlz3 := Lib.hid (Hlz2.out.below kz3)
          clear kz3
          obtain ⟨as2, cs2, rfl, -⟩ := id hs2.reads
          rw [HL2.out]
          clear hs2
          obtain ⟨wz4, hwz4⟩ : ∃ wz4, wz3.alloc (.cells #[.int .i64 (n : Int), .int .i64 a, .int .i64 S] 23) = wz4 := ⟨_, rfl⟩
          have kz4 : Below wz3.heap.size wz3 wz4 := by rw [← hwz4]; exact (Below.refl _ _).alloc (Nat.le_refl _) _
          have Hbz4 := Lib.hid (show Has wz4 wz3.heap.size [.int .i64 (n : Int), .int .i64 a, .int .i64 S] 23 by rw [← hwz4]; exact Has.new _ _ _)
          have HWz4 := Lib.hid hwz4
          clear hwz4
          have HBz4 := Lib.hid (HBz3.out.trans (kz4.mono (Nat.le_trans hbase HBz3.out.size)))
          have Hmz4 := Lib.hid (Hmz3.out.call kz4)
          have Htz4 := Lib.hid (Htz3.out.below kz4)
          have Hlz4 := Lib.hid (Hlz3.out.below kz4)
          clear kz4
          go_upto_region 12 with fail
          rw [HWz4.out]
          have qm0_4 : wz4.cell? ⟨wz1.heap.size, 0, none⟩ = some (.int .i64 (n : Int)) := Hmz4.out.cell 0
          have qm1_4 : wz4.cell? ⟨wz1.heap.size, 1, none⟩ = some (.int .i64 Z) := Hmz4.out.cell 1
          have qm2_4 : wz4.cell? ⟨wz1.heap.size, 2, none⟩ = some (.int .i64 S) := Hmz4.out.cell 2
          have lm_4 : wz1.heap.size < wz4.heap.size := Hmz4.out.lt
          have qb0_4 : wz4.cell? ⟨wz3.heap.size, 0, none⟩ = some (.int .i64 (n : Int)) := Hbz4.out.cell 0
          have qb1_4 : wz4.cell? ⟨wz3.heap.size, 1, none⟩ = some (.int .i64 a) := Hbz4.out.cell 1
          have qb2_4 : wz4.cell? ⟨wz3.heap.size, 2, none⟩ = some (.int .i64 S) := Hbz4.out.cell 2
          have lb_4 : wz3.heap.size < wz4.heap.size := Hbz4.out.lt
          have hss : (S == S) = true := beq_self_eq_true S
          have hnn : ((n : Int) == (n : Int)) = true := beq_self_eq_true _
          have hrr : ((rn : Int) == (rn : Int)) = true := beq_self_eq_true _
          have hwY := HWY.out
          have hcz5 := alive12_any wz4
          go_wp2_with fail
          refine hcz5.mono ?_
          rintro e wz5 ⟨rfl, kz5⟩
          clear hcz5 qm0_4 qm1_4 qm2_4 lm_4 qb0_4 qb1_4 qb2_4 lb_4
          have HBz5 := Lib.hid (HBz4.out.trans (kz5.mono (Nat.le_trans hbase HBz4.out.size)))
          have Hmz5 := Lib.hid (Hmz4.out.call kz5)
          have Hbz5 := Lib.hid (Hbz4.out.call kz5)
          have Htz5 := Lib.hid (Htz4.out.below kz5)
          have Hlz5 := Lib.hid (Hlz4.out.below kz5)
          clear kz5
          clear hwY
          have hrd := Hlz5.out
          obtain ⟨ao', cp', e0, -, -, hrd⟩ := hrd
          injection e0 with e1 e2 e3
          subst e1 e3
          obtain ⟨b, off, rfl, hlt, hc0⟩ := hrd 0 (by rw [HN.out]; omega)
          obtain ⟨b', off', e4, -, hcn⟩ := hrd (n - 1) (by rw [HN.out]; omega)
          injection e4 with e4
          injection e4 with e5 e6 _
          subst e5 e6
          rw [HBN.out.get0 (by omega), Nat.add_zero] at hc0
          rw [HBN.out.getn (by omega), HRN.out] at hcn
          clear hrd e2
          go_upto_region 16 with fail
          go_cut [13] from 118 to 138 (fun s13 wz => s13 = .int .i64 D ∧ ∃ mm, wz = wz5.drewN mm)
          case first =>
            have hDD := HDD.out
            have hD2 : D = max (a - Z) (Z - a) := hDD
            rcases Int.lt_trichotomy (a - Z) (Z - a) with hc | hc | hc
            · skip
              have g1 : a - Z < Z - a := hc
              have g2 : ¬ Z - a < a - Z := by omega
              have g3 : ¬ Z - a ≤ a - Z := by omega
              have g4 : a - Z ≤ Z - a := by omega
              have hDv : D = Z - a := by omega
              have HDV := Lib.hid hDv
              clear hDD hD2 hc hDv
              have hwY := HWY.out
              have hw1 := HW1.out
              have hw2 := HW2.out
              go_region
              all_goals (go_wp2_with fail; go_meet)
              all_goals exact ⟨by rw [HDV.out], 1, rfl⟩
            · skip
              obtain rfl : a = Z := by omega
              have h0 : a - a = 0 := by omega
              have hDv : D = 0 := by omega
              have HDV := Lib.hid hDv
              clear hDD hD2 hc hDv
              have hwY := HWY.out
              have hw1 := HW1.out
              have hw2 := HW2.out
              go_region
              all_goals (go_wp2_with fail; go_meet)
              all_goals exact ⟨by rw [HDV.out], 1, rfl⟩
            · skip
              have g1 : Z - a < a - Z := hc
              have g2 : ¬ a - Z < Z - a := by omega
              have g3 : ¬ a - Z ≤ Z - a := by omega
              have g4 : Z - a ≤ a - Z := by omega
              have hDv : D = a - Z := by omega
              have HDV := Lib.hid hDv
              clear hDD hD2 hc hDv
              have hwY := HWY.out
              have hw1 := HW1.out
              have hw2 := HW2.out
              go_region
              all_goals (go_wp2_with fail; go_meet)
              all_goals exact ⟨by rw [HDV.out], 1, rfl⟩
          case rest =>
            obtain ⟨rfl, mm, hwz⟩ := hcut
            rw [hwz]
            clear hwz
            obtain ⟨wy, hwy⟩ : ∃ wy, wz5.drewN mm = wy := ⟨_, rfl⟩
            have Hmy := Lib.hid (show Has wy (wz1.heap.size) [.int .i64 (n : Int), .int .i64 Z, .int .i64 S] 23 by rw [← hwy]; exact Hmz5.out.of rfl)
            have Hby := Lib.hid (show Has wy (wz3.heap.size) [.int .i64 (n : Int), .int .i64 a, .int .i64 S] 23 by rw [← hwy]; exact Hbz5.out.of rfl)
            have hc0 : wy.cell? ⟨b, off, none⟩ = some (.int .i64 a) := by rw [← hwy]; exact hc0
            have hcn : wy.cell? ⟨b, off + rn, none⟩ = some (.int .i64 Z) := by rw [← hwy]; exact hcn
            have HBy := Lib.hid (show Below w1.heap.size w1 wy by rw [← hwy]; exact HBz5.out.trans ⟨rfl, rfl, rfl, Nat.le_refl _, fun _ _ => rfl⟩)
            have HWyy := Lib.hid hwy
            clear hwy
            rw [HWyy.out]
            have qm0_5 : wy.cell? ⟨wz1.heap.size, 0, none⟩ = some (.int .i64 (n : Int)) := Hmy.out.cell 0
            have qm1_5 : wy.cell? ⟨wz1.heap.size, 1, none⟩ = some (.int .i64 Z) := Hmy.out.cell 1
            have qm2_5 : wy.cell? ⟨wz1.heap.size, 2, none⟩ = some (.int .i64 S) := Hmy.out.cell 2
            have lm_5 : wz1.heap.size < wy.heap.size := Hmy.out.lt
            have qb0_5 : wy.cell? ⟨wz3.heap.size, 0, none⟩ = some (.int .i64 (n : Int)) := Hby.out.cell 0
            have qb1_5 : wy.cell? ⟨wz3.heap.size, 1, none⟩ = some (.int .i64 a) := Hby.out.cell 1
            have qb2_5 : wy.cell? ⟨wz3.heap.size, 2, none⟩ = some (.int .i64 S) := Hby.out.cell 2
            have lb_5 : wz3.heap.size < wy.heap.size := Hby.out.lt
            have hge := HGE.out
            have heq := HEQ.out
            have haa : (a == a) = true := beq_self_eq_true a
            have hzz : (Z == Z) = true := beq_self_eq_true Z
            have hlb := hlt
            have hwZ : wrap64 ((n : Int) - 1) = (rn : Int) := by rw [hY]; exact HWY.out
            clear hY hY0 hn2 hlen hlc hbase hnn hrr hn0 hlb
            by_cases hSD : S = D
            · subst hSD
              have hsd : (S == S) = true := beq_self_eq_true S
              rw [decide_eq_true rfl] at heq
              clear hlt
              cases RR <;> cases FF
              all_goals first
                | (exfalso; revert heq; decide)
                | (clear heq
                   go_upto_region 17 with fail
                   go_big_quiet (fail)
                   go_wp2
                   go_ret
                   exact ⟨rfl, HBW.out.trans ((Below.trans HBy.out (show Below w1.heap.size wy (wy.drewN _) from ⟨rfl, rfl, rfl, Nat.le_refl _, fun _ _ => rfl⟩)).mono HBW.out.size)⟩)
            · have hsd : (S == D) = false := beq_false_of_ne hSD
              rw [decide_eq_false hSD] at heq
              clear hlt
              cases RR <;> cases FF
              all_goals first
                | (exfalso; revert heq; decide)
                | (clear heq hSD
                   go_upto_region 17 with fail
                   go_big_quiet (fail)
                   go_wp2
                   go_ret
                   exact ⟨rfl, HBW.out.trans ((Below.trans HBy.out (show Below w1.heap.size wy (wy.drewN _) from ⟨rfl, rfl, rfl, Nat.le_refl _, fun _ _ => rfl⟩)).mono HBW.out.size)⟩)
end Go.Proofs.Ytaegoomnenociaa
