/- token.Print. -/
import Derived.Test.YticgmbhdcegoeaaDoorTokT
namespace Go.Proofs.YticgmbhdcegoeaaDoor
open Go.RowKit

def printAns (l : List Tok) : List UInt8 × Int :=
  if allRight l = false then ([], 1) else if (printN l).length ≤ 4000 then (printN l, 0) else ([], 2)
def printOut (l : List Tok) : Value := .tuple #[.string (bs (printAns l).1), .int .i64 (printAns l).2]
theorem allRight_nth (l : List Tok) : allRight l = true ↔ ∀ i, i < l.length → (nth l i).rightb = true := by
  unfold allRight
  rw [List.all_eq_true]
  constructor
  · intro h i hi
    rw [nth_get l i hi]
    exact h _ (List.getElem_mem hi)
  · intro h t ht
    obtain ⟨i, hi, rfl⟩ := List.getElem_of_mem ht
    rw [← nth_get l i hi]
    exact h i hi
theorem print_no {l : List Tok} {k : Nat} (hk : k < l.length) (h : (nth l k).rightb = false) : printAns l = ([], 1) := by
  unfold printAns
  rw [if_pos]
  cases e : allRight l
  · rfl
  · have := (allRight_nth l).1 e k hk
    rw [h] at this
    cases this
theorem print_long {l : List Tok} (h : allRight l = true) {k : Nat} (hk : 4000 < (printN (l.take k)).length) : printAns l = ([], 2) := by
  unfold printAns
  rw [if_neg (by rw [h]; decide), if_neg]
  have := printN_take_le l k
  omega
theorem print_ok {l : List Tok} (h : allRight l = true) (hk : (printN l).length ≤ 4000) : printAns l = (printN l, 0) := by
  unfold printAns
  rw [if_neg (by rw [h]; decide), if_pos hk]
theorem print_next (l : List Tok) (k : Nat) (hk : k < l.length) : printN (l.take (k + 1)) = if k = 0 then (nth l k).bytes else printN (l.take k) ++ [32] ++ (nth l k).bytes := by
  rw [printN_take_succ l k hk, nth_get l k hk]
  by_cases c : k = 0
  · rw [if_pos c, if_pos c]
  · rw [if_neg c, if_neg c]
    simp
theorem right_more {l : List Tok} {k : Nat} (h : ∀ j, j < k → (nth l j).rightb = true) (hk : (nth l k).rightb = true) : ∀ j, j < k + 1 → (nth l j).rightb = true := fun j hj => by
  rcases Nat.lt_or_ge j k with c | c
  · exact h j c
  · obtain rfl : j = k := by omega
    exact hk
theorem Bld.lt {B b : Nat} {l : List UInt8} {w : World} (h : Bld B b l w) : b < w.heap.size := by
  rcases h with ⟨_, v, hb, _⟩ | ⟨_, v, hb, _⟩
  all_goals exact (Array.getElem?_eq_some_iff.1 hb).1
theorem bld_space (B b : Nat) (l : List UInt8) (w : World) (h : Bld B b l w) (hlen : l.length + 1 ≤ 140737488355328) (hBw : B ≤ w.heap.size) :
    Calls Tryd.prog 23 #[.pointer (some ⟨b, 0, none⟩), .int .u8 32] w fun e w' => e = .returned .nilIface ∧ Bld B b (l ++ [32]) w' ∧ Below B w w' ∧ ∀ k cs, k ≠ b → Has w k cs 30 → Has w' k cs 30 :=
  (Any.Builder_WriteByte_k s167 x167 B b (Lib.byteCells l) 32 w h (by rw [Lib.byteCells_length]; exact hlen) hBw).mono fun _ _ ⟨he, h1, h2, h3⟩ =>
    ⟨he, Or.inr (by rw [Lib.byteCells_append]; exact h1), h2, fun k cs hk hh => h3 k _ hh (fun e => hk (Option.some.inj e)) (fun c fz e => by
      injection e with _ e2 _
      exact absurd e2 (by decide))⟩
def PRel1 (l : List Tok) (w : World) (i : Value) (wr : World) : Prop := ∃ k : Nat, k ≤ l.length ∧ i = .int .i64 (k : Nat) ∧ (∀ j, j < k → (nth l j).rightb = true) ∧ Below w.heap.size w wr
def PRel2 (l : List Tok) (w : World) (B : Nat) (i : Value) (wr : World) : Prop := ∃ k : Nat, k ≤ l.length ∧ i = .int .i64 (k : Nat) ∧ Bld B B (printN (l.take k)) wr ∧ (printN (l.take k)).length ≤ 4000 ∧ Below w.heap.size w wr
set_option maxHeartbeats 2000000 in
set_option maxRecDepth 100000 in
theorem print_any (l : List Tok) (va : Value) (w : World) (hm : l.length ≤ 100000) (ht : ∀ i, i < l.length → (nth l i).text.length ≤ 100000) (ha : Reads w va l) (hE : Env w) :
    Calls Tryd.prog 12 #[va] w fun e w' => e = .returned (printOut l) ∧ Below w.heap.size w w' := by
  obtain ⟨a1, p1, rfl, -, -, hc1⟩ := ha
  have HA := Lib.hid hc1
  have HT := Lib.hid ht
  clear hc1 ht
  obtain ⟨n, hn⟩ : ∃ n, l.length = n := ⟨_, rfl⟩
  have HN := Lib.hid hn
  rw [hn] at hm ⊢
  clear hn
  go_enter Tryd.func12, Tryd.ntmps12
  go_wp2
  go_loopw [11] (PRel1 l w) (fun i _ => n - (intOf i).toNat)
  case atStart => exact ⟨0, Nat.zero_le _, rfl, fun j hj => absurd hj (Nat.not_lt_zero _), Below.refl _ _⟩
  case round =>
    obtain ⟨k, hk, rfl, hall, hb⟩ := hrel
    have HALL := Lib.hid hall
    rw [HN.out] at hk
    clear hall
    by_cases hl : k < n
    · obtain ⟨b1, o1, rfl, hlt1, hd1⟩ := HA.out k (by rw [HN.out]; exact hl)
      obtain ⟨x0, x1, x2, x3⟩ := hd1.below hb hlt1
      have htl := HT.out k (by rw [HN.out]; exact hl)
      have HK := Lib.hid (show (nth l k).rightb = rightB (nth l k).kind (nth l k).text (nth l k).num from rfl)
      have HP := Lib.hid (fun h => print_no (l := l) (k := k) (by rw [HN.out]; exact hl) h)
      have hbs := hb.size
      clear hd1
      obtain ⟨t, hnt⟩ : ∃ t, nth l k = t := ⟨_, rfl⟩
      have HNT := Lib.hid hnt
      rw [hnt] at x0 x1 x2 x3 htl HK HP
      clear hnt
      obtain ⟨tk, tt, tn, tp⟩ := t
      dsimp only at x0 x1 x2 x3 htl HK
      have hR := fun W => right_any tk tt tn tp W htl
      unfold tokV at hR
      cases hr : rightB tk tt tn
      · rw [hr] at hR
        have HO := Lib.hid (HP.out (HK.out.trans hr))
        clear HP HK hr
        go_wp2_with fail
        refine (hR _).mono ?_
        rintro e w2 ⟨rfl, h2⟩
        have hb2 := (hb.alloc hbs _).trans (h2.mono (by simp; omega))
        clear hR h2
        go_wp2
        go_ret2
        exact ⟨by unfold printOut; rw [HO.out]; rfl, hb2⟩
      · rw [hr] at hR
        have HO := Lib.hid (HK.out.trans hr)
        clear HP HK hr
        go_wp2_with fail
        refine (hR _).mono ?_
        rintro e w2 ⟨rfl, h2⟩
        have hb2 := (hb.alloc hbs _).trans (h2.mono (by simp; omega))
        clear hR h2
        go_wp2
        go_roundw
        case rel => exact ⟨k + 1, by rw [HN.out]; omega, by go_num, right_more HALL.out (by rw [HNT.out]; exact HO.out), hb2⟩
        case measure => simp [intOf]; omega
    · have HALLR : Hid (allRight l = true) := Lib.hid ((allRight_nth l).2 fun i hi => HALL.out i (by rw [HN.out] at hi; omega))
      obtain ⟨wo, hwo⟩ : ∃ wo, wo = wr := ⟨_, rfl⟩
      subst hwo
      have hbo := hb.size
      have hnew := bld_new wo
      have hb0 := hb.alloc hbo (.cells #[.pointer none, .slice none 0 0] 49)
      clear HALL HT hb
      go_wp2
      clear hl hk
      go_loopw [21] (PRel2 l w wo.heap.size) (fun i _ => n - (intOf i).toNat)
      case atStart => exact ⟨0, Nat.zero_le _, rfl, hnew, Nat.zero_le _, hb0⟩
      case round =>
        obtain ⟨j, hj, rfl, hB, hlen, hb⟩ := hrel
        rw [HN.out] at hj
        clear hnew hb0
        obtain ⟨k2, hk2⟩ : ∃ k2, k2 = j := ⟨_, rfl⟩
        subst hk2
        obtain ⟨P, hP⟩ : ∃ P, printN (l.take k2) = P := ⟨_, rfl⟩
        have HP := Lib.hid hP
        rw [hP] at hB hlen
        clear hP
        by_cases hl : k2 < n
        · obtain ⟨b1, o1, rfl, hlt1, hd1⟩ := HA.out k2 (by rw [HN.out]; exact hl)
          obtain ⟨x0, x1, x2, x3⟩ := hd1.below hb hlt1
          have hright := (Tok.right_iff _).1 ((allRight_nth l).1 HALLR.out k2 (by rw [HN.out]; exact hl))
          have hbl := bytes_le hright
          have hpn := print_next l k2 (by rw [HN.out]; exact hl)
          have hbs := hb.size
          clear hd1
          generalize nth l k2 = t at x0 x1 x2 x3 hright hbl hpn
          obtain ⟨tk, tt, tn, tp⟩ := t
          dsimp only [Tok.right, Tok.bytes] at x0 x1 x2 x3 hright hbl hpn
          have hwr := fun W hE => written_any tk tt tn tp hright W hE
          unfold tokV at hwr
          rw [HP.out] at hpn
          obtain ⟨Q, hQ⟩ : ∃ Q, printN (l.take (k2 + 1)) = Q := ⟨_, rfl⟩
          have HQ := Lib.hid hQ
          rw [hQ] at hpn
          generalize textN tk tt tn = T at hwr hbl hpn
          clear hright hQ
          have hbo2 : wo.heap.size < wr.heap.size := hB.lt
          by_cases hk0 : k2 = 0
          · rw [if_pos hk0] at hpn
            have HPN := Lib.hid (show Q = P ++ T by rw [hpn, ← HP.out, hk0]; rfl)
            have hk1 : k2 ≤ 0 := by omega
            clear hpn HP hk0
            have hB2 := hB.alloc (.cells #[.int .i64 tk, .string (bs tt), .int .i64 tn, .int .i64 tp] 30)
            have hb2 := hb.alloc hbs (.cells #[.int .i64 tk, .string (bs tt), .int .i64 tn, .int .i64 tp] 30)
            have hEw := hE.below hb2
            clear hB hb
            go_wp2_with fail
            refine (hwr _ hEw).mono ?_
            rintro e w3 ⟨rfl, h3⟩
            have hB3 := hB2.below h3
            have hb3 := hb2.trans (h3.mono hb2.size)
            have hs3 := h3.size
            simp at hs3
            clear h3 hwr hB2 hb2 hEw
            go_wp2_with fail
            refine (bld_text _ _ _ _ _ hB3 (by omega) (by omega)).mono ?_
            rintro e w4 ⟨rfl, hB4, h4⟩
            have hb4 := hb3.trans (h4.mono hbo)
            rw [← HPN.out] at hB4
            clear hB3 hb3 h4
            go_wp2_with fail
            refine (bld_len _ _ _ _ hB4).mono ?_
            rintro e w5 ⟨rfl, rfl⟩
            by_cases hlong : 4000 < Q.length
            · have HO := Lib.hid (print_long HALLR.out (k := k2 + 1) (by rw [HQ.out]; exact hlong))
              go_wp2
              go_ret2
              exact ⟨by unfold printOut; rw [HO.out]; rfl, hb4⟩
            · have hle : Q.length ≤ 4000 := by omega
              clear hlong
              go_wp2
              go_roundw
              case rel => exact ⟨k2 + 1, by rw [HN.out]; omega, by go_num, by rw [HQ.out]; exact hB4, by rw [HQ.out]; exact hle, hb4⟩
              case measure => simp [intOf]; omega
          · rw [if_neg hk0] at hpn
            have HPN := Lib.hid (show Q = P ++ [32] ++ T from hpn)
            have hk1 : 0 < k2 := by omega
            clear hpn HP hk0
            have hB1 := hB.alloc (.cells #[.int .i64 tk, .string (bs tt), .int .i64 tn, .int .i64 tp] 30)
            have hb1 := hb.alloc hbs (.cells #[.int .i64 tk, .string (bs tt), .int .i64 tn, .int .i64 tp] 30)
            have hH := Has.new wr [.int .i64 tk, .string (bs tt), .int .i64 tn, .int .i64 tp] 30
            clear hB hb
            go_wp2_with fail
            refine (bld_space _ _ _ _ hB1 (by omega) (by simp; omega)).mono ?_
            rintro e w3 ⟨rfl, hB2, h3, hkeep⟩
            have hH3 := hkeep _ _ (by omega) hH
            have hb2 := hb1.trans (h3.mono hbo)
            have hs2 := h3.size
            simp at hs2
            have hEw := hE.below hb2
            clear h3 hkeep hH hb1 hB1
            obtain ⟨⟨y0, y1, y2, y3⟩, -⟩ := hH3.four
            clear hH3
            go_wp2_with fail
            refine (hwr _ hEw).mono ?_
            rintro e w3 ⟨rfl, h3⟩
            have hB3 := hB2.below h3
            have hb3 := hb2.trans (h3.mono hb2.size)
            have hs3 := h3.size
            clear h3 hwr hB2 hb2 hEw
            go_wp2_with fail
            refine (bld_text _ _ _ _ _ hB3 (by simp; omega) (by omega)).mono ?_
            rintro e w4 ⟨rfl, hB4, h4⟩
            have hb4 := hb3.trans (h4.mono hbo)
            rw [← HPN.out] at hB4
            clear hB3 hb3 h4
            go_wp2_with fail
            refine (bld_len _ _ _ _ hB4).mono ?_
            rintro e w5 ⟨rfl, rfl⟩
            by_cases hlong : 4000 < Q.length
            · have HO := Lib.hid (print_long HALLR.out (k := k2 + 1) (by rw [HQ.out]; exact hlong))
              go_wp2
              go_ret2
              exact ⟨by unfold printOut; rw [HO.out]; rfl, hb4⟩
            · have hle : Q.length ≤ 4000 := by omega
              clear hlong
              go_wp2
              go_roundw
              case rel => exact ⟨k2 + 1, by rw [HN.out]; omega, by go_num, by rw [HQ.out]; exact hB4, by rw [HQ.out]; exact hle, hb4⟩
              case measure => simp [intOf]; omega
        · have hP2 : printN l = P := by rw [← HP.out, List.take_of_length_le (by rw [HN.out]; omega)]
          have HO := Lib.hid (print_ok HALLR.out (by rw [hP2]; exact hlen))
          have HP2 := Lib.hid hP2
          have hbs := hb.size
          clear hP2
          have hBw : wo.heap.size ≤ wr.heap.size := Nat.le_of_lt hB.lt
          go_wp2_with fail
          refine (bld_string _ _ _ _ hB hBw).mono ?_
          rintro e w3 ⟨rfl, h3⟩
          have hb3 := hb.trans (h3.mono hbo)
          clear h3 hB
          go_wp2
          go_ret2
          exact ⟨by unfold printOut; rw [HO.out, HP2.out]; rfl, hb3⟩
end Go.Proofs.YticgmbhdcegoeaaDoor
