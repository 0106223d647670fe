/- The reference of stage 14: Single, Push. -/
import Derived.Test.YtjonpcpcokapkaaNelG
namespace Go.Proofs.Ytjonpcpcokapkaa
open Go.RowKit

theorem IRow.shape {B : Nat} {v : Value} {l : List Int} {w : World} (h : IRow B v l w) : ∃ ao cap, v = .slice ao l.length cap := h.reads.shape
theorem pow8 : ∀ k : Fin 9, wrap64 (2 ^ k.val) = bitM ((k.val : Int) - 4) := by decide +kernel
theorem IRow.pushed {v : Value} {l : List Int} {w w1 w2 : World} (h1 : Below w.heap.size w w1) (hB : w.heap.size ≤ w1.heap.size) (h : IRow w.heap.size v l w1) (o : Obj) (hg : (w1.alloc o).grownBy w2 v.ownBlock) : Below w.heap.size w w2 :=
  ⟨hg.os.trans h1.os, hg.tape.trans h1.tape, hg.output.trans h1.output, Nat.le_trans (Nat.le_trans hB (by simp)) hg.size, fun k hk => by
    have hne : some k ≠ v.ownBlock := fun e => by have := (World.ownsRow.lt h k e.symm).1; omega
    have h2 := hg.block k (by simp; omega) hne
    rw [h2, ← h1.block k hk]
    exact (((Below.refl w1.heap.size w1).alloc (Nat.le_refl _) o).block k (by omega))⟩
def SngRel (l : List Int) (w : World) (sv iv : Value) (wr : World) : Prop :=
  ∃ j : Nat, j ≤ l.length ∧ iv = .int .i64 (j : Nat) ∧ IRow w.heap.size sv ((l.take j).map bitM) wr ∧ Below w.heap.size w wr
set_option linter.unusedSimpArgs false in
set_option maxHeartbeats 4000000 in
set_option maxRecDepth 100000 in
theorem single14_core (l : List Int) (ao : Option Addr) (n cap : Nat) (w : World) (hn : l.length = n) (hn2 : n ≤ 1000) (hok : okC l) (hr : ReadsI w (.slice ao n cap) l) :
    Calls Try.prog 21 #[.slice ao n cap] w fun e w' => ∃ v', e = .returned v' ∧ IRow w.heap.size v' (l.map bitM) w' ∧ Below w.heap.size w w' := by
  have HR := Lib.hid hr; have HN := Lib.hid hn; have HOK := Lib.hid hok
  have HST := Lib.hid (show SngRel l w (.slice (some ⟨w.heap.size, 0, none⟩) 0 0) (.int .i64 0) (w.alloc (.cells #[] 3)) from ⟨0, Nat.zero_le _, rfl, IRow.made w, (Below.refl _ _).alloc (Nat.le_refl _) _⟩)
  clear hr hok
  go_enter Try.func21, Try.ntmps21
  go_wp2
  go_loopw [3, 9] (SngRel l w) (fun _ i _ => n - (intOf i).toNat)
  case atStart => exact HST.out
  case round =>
    obtain ⟨j, hj, rfl, hrow, hb⟩ := hrel
    obtain ⟨aoS, capS, hsv⟩ := hrow.shape
    subst hsv
    have HROW := Lib.hid hrow; have HB := Lib.hid hb
    rw [hn] at hj
    have hlen : ((l.take j).map bitM).length = j := by rw [List.length_map, List.length_take, hn]; omega
    rw [hlen] at HROW hrow ⊢
    obtain ⟨acc, hacc⟩ : ∃ acc, (l.take j).map bitM = acc := ⟨_, rfl⟩
    rw [hacc] at HROW hlen
    have HACC := Lib.hid hacc
    clear hacc
    by_cases hl : j < n
    · obtain ⟨c, hc⟩ : ∃ c, l[j]? = some c := ⟨_, List.getElem?_eq_getElem (by omega)⟩
      have hcb := HOK.out c (List.mem_of_getElem? hc)
      obtain ⟨k, hk⟩ : ∃ k : Nat, c = (k : Int) - 4 := ⟨(c + 4).toNat, by omega⟩
      have hk8 : k ≤ 8 := by omega
      subst hk
      obtain ⟨b, off, hao, hbl, hcc⟩ := (HR.out.below hb).spot hc
      have HC := Lib.hid hc; have HLEN := Lib.hid hlen
      have hsz := hb.size
      have hjz : (j : Int) < (n : Int) := by omega
      have hjx : 0 ≤ (j : Int) ∧ (j : Int) < (n : Int) := by omega
      have hw1 : wrap64 ((k : Int) - 4 + 4) = (k : Int) := by unfold wrap64; omega
      have hw2 : IntKind.u64.wrap (k : Int) = (k : Int) := u64_low _ (by omega) (by omega)
      subst hao
      clear hrow hb hc hn hlen hcb
      go_wp2_with (at_builtin; refine wpList_append_ints rfl (.tmp 13) (.tmp 18) rfl w.heap.size _ _ [_] rfl (HROW.out.alloc _) (some ⟨wr.heap.size, 0, none⟩) 1 1 rfl (ReadsI.one wr _) (by rw [HLEN.out]; show _ + 1 ≤ _; omega) (by simp; omega) ?_)
      intro v' w2 hi2 hg2
      have HQ := Lib.hid (show SngRel l w v' (.int .i64 ((j : Int) + 1)) w2 from ⟨j + 1, by rw [HN.out]; omega, by first | rfl | go_num, by
        have e : (l.take (j + 1)).map bitM = (l.take j).map bitM ++ [bitM ((k : Int) - 4)] := by rw [List.take_add_one, HC.out, List.map_append]; rfl
        rw [e, ← pow8 ⟨k, by omega⟩, HACC.out]
        exact hi2, IRow.pushed HB.out hsz HROW.out _ hg2⟩)
      clear hi2 hg2
      go_wp2
      go_roundw
      case rel => exact HQ.out
      case measure => simp [intOf]; omega
    · obtain rfl : j = n := by omega
      have HF := Lib.hid (show IRow w.heap.size (.slice aoS j capS) (l.map bitM) wr by
        have e : l.take j = l := List.take_of_length_le (by omega)
        rw [e] at hrow
        exact hrow)
      clear hrow hlen hb hn hj hl
      go_wp2
      go_ret
      exact ⟨_, rfl, HF.out, HB.out⟩
theorem single14_any (l : List Int) (v : Value) (w : World) (hn2 : l.length ≤ 1000) (hok : okC l) (hr : ReadsI w v l) :
    Calls Try.prog 21 #[v] w fun e w' => ∃ v', e = .returned v' ∧ IRow w.heap.size v' (l.map bitM) w' ∧ Below w.heap.size w w' := by
  obtain ⟨ao, cap, rfl⟩ := hr.shape
  exact single14_core l ao _ cap w rfl hn2 hok hr
/-! ### Push -/
def keepN (full : Bool) (l : List Int) : List Int := if full then l.drop 1 else l
theorem pushN_eq (l : List Int) (m : Int) : pushN l m = keepN (decide (15 ≤ l.length)) l ++ [m] := by
  unfold pushN keepN
  by_cases h : l.length < 15
  · rw [if_pos h, decide_eq_false (by omega)]; rfl
  · rw [if_neg h, decide_eq_true (by omega)]; rfl
def PshRel (l : List Int) (w : World) (sv iv : Value) (wr : World) : Prop :=
  ∃ j : Nat, j ≤ l.length ∧ iv = .int .i64 (j : Nat) ∧ IRow w.heap.size sv (keepN (decide (15 ≤ l.length)) (l.take j)) wr ∧ Below w.heap.size w wr
theorem keepN_len (f : Bool) (l : List Int) : (keepN f l).length ≤ l.length := by unfold keepN; split <;> simp
set_option linter.unusedSimpArgs false in
set_option maxHeartbeats 8000000 in
set_option maxRecDepth 100000 in
theorem rpush14_core (l : List Int) (m : Int) (ao : Option Addr) (n cap : Nat) (w : World) (hn : l.length = n) (hn2 : n ≤ 1000) (hr : ReadsI w (.slice ao n cap) l) :
    Calls Try.prog 18 #[.slice ao n cap, .int .i64 m] w fun e w' => ∃ v', e = .returned v' ∧ IRow w.heap.size v' (pushN l m) w' ∧ Below w.heap.size w w' := by
  have HR := Lib.hid hr; have HN := Lib.hid hn
  have HST := Lib.hid (show PshRel l w (.slice (some ⟨w.heap.size, 0, none⟩) 0 0) (.int .i64 0) (w.alloc (.cells #[] 3)) from ⟨0, Nat.zero_le _, rfl, by
    have e : keepN (decide (15 ≤ l.length)) (l.take 0) = [] := by unfold keepN; simp
    rw [e]; exact IRow.made w, (Below.refl _ _).alloc (Nat.le_refl _) _⟩)
  clear hr
  go_enter Try.func18, Try.ntmps18
  go_wp2
  go_loopw [5, 11] (PshRel l w) (fun _ i _ => n - (intOf i).toNat)
  case atStart => exact HST.out
  case round =>
    obtain ⟨j, hj, rfl, hrow, hb⟩ := hrel
    obtain ⟨aoS, capS, hsv⟩ := hrow.shape
    subst hsv
    have HROW := Lib.hid hrow; have HB := Lib.hid hb
    rw [hn] at hj
    have hkl : (keepN (decide (15 ≤ l.length)) (l.take j)).length ≤ 1000 := Nat.le_trans (keepN_len _ _) (by rw [List.length_take]; omega)
    obtain ⟨p, hp⟩ : ∃ p, (keepN (decide (15 ≤ l.length)) (l.take j)).length = p := ⟨_, rfl⟩
    rw [hp] at HROW hrow hkl ⊢
    have HP := Lib.hid hp
    have hsz := hb.size
    by_cases hl : j < n
    · obtain ⟨c, hc⟩ : ∃ c, l[j]? = some c := ⟨_, List.getElem?_eq_getElem (by omega)⟩
      obtain ⟨b, off, hao, hbl, hcc⟩ := (HR.out.below hb).spot hc
      have HC := Lib.hid hc
      have hjz : (j : Int) < (n : Int) := by omega
      have hjx : 0 ≤ (j : Int) ∧ (j : Int) < (n : Int) := by omega
      subst hao
      clear hrow hb hc hp
      have hadd : ¬ (j = 0 ∧ 15 ≤ n) → keepN (decide (15 ≤ l.length)) (l.take (j + 1)) = keepN (decide (15 ≤ l.length)) (l.take j) ++ [c] := fun h => by
        have e : l.take (j + 1) = l.take j ++ [c] := by rw [List.take_add_one, HC.out]; rfl
        rw [e]
        unfold keepN
        by_cases hf : 15 ≤ l.length
        · rw [decide_eq_true hf, if_pos rfl, if_pos rfl, List.drop_append_of_le_length (by rw [List.length_take]; omega)]
        · rw [decide_eq_false hf]; rfl
      have hskip : j = 0 ∧ 15 ≤ n → keepN (decide (15 ≤ l.length)) (l.take (j + 1)) = keepN (decide (15 ≤ l.length)) (l.take j) := fun h => by
        unfold keepN
        rw [decide_eq_true (by omega), if_pos rfl, if_pos rfl, h.1]
        apply List.eq_nil_of_length_eq_zero
        rw [List.length_drop, List.length_take]
        simp
        omega
      have HADD := Lib.hid hadd; have HSKIP := Lib.hid hskip
      clear hadd hskip hn
      by_cases c0 : 0 < j
      · have g1 : (0 : Int) < (j : Int) := by omega
        go_wp2_with (at_builtin; refine wpList_append_ints rfl (.tmp 23) (.tmp 25) rfl w.heap.size _ _ [_] rfl (HROW.out.alloc _) (some ⟨wr.heap.size, 0, none⟩) 1 1 rfl (ReadsI.one wr _) (by rw [HP.out]; show _ + 1 ≤ _; omega) (by simp; omega) ?_)
        intro v' w2 hi2 hg2
        have HQ := Lib.hid (show PshRel l w v' (.int .i64 ((j : Int) + 1)) w2 from ⟨j + 1, by rw [HN.out]; omega, by first | rfl | go_num, by
          rw [HADD.out (by omega)]
          exact hi2, IRow.pushed HB.out hsz HROW.out _ hg2⟩)
        clear hi2 hg2
        go_wp2
        go_roundw
        case rel => exact HQ.out
        case measure => simp [intOf]; omega
      · have g1 : ¬ (0 : Int) < (j : Int) := by omega
        by_cases c1 : n < 15
        · have g2 : (n : Int) < 15 := by omega
          go_wp2_with (at_builtin; refine wpList_append_ints rfl (.tmp 23) (.tmp 25) rfl w.heap.size _ _ [_] rfl (HROW.out.alloc _) (some ⟨wr.heap.size, 0, none⟩) 1 1 rfl (ReadsI.one wr _) (by rw [HP.out]; show _ + 1 ≤ _; omega) (by simp; omega) ?_)
          intro v' w2 hi2 hg2
          have HQ := Lib.hid (show PshRel l w v' (.int .i64 ((j : Int) + 1)) w2 from ⟨j + 1, by rw [HN.out]; omega, by first | rfl | go_num, by
            rw [HADD.out (by omega)]
            exact hi2, IRow.pushed HB.out hsz HROW.out _ hg2⟩)
          clear hi2 hg2
          go_wp2
          go_roundw
          case rel => exact HQ.out
          case measure => simp [intOf]; omega
        · have g2 : ¬ (n : Int) < 15 := by omega
          have HQ := Lib.hid (show PshRel l w (.slice aoS p capS) (.int .i64 ((j : Int) + 1)) wr from ⟨j + 1, by rw [HN.out]; omega, by first | rfl | go_num, by rw [HSKIP.out (by omega)]; exact HROW.out, HB.out⟩)
          go_wp2
          go_roundw
          case rel => exact HQ.out
          case measure => simp [intOf]; omega
    · obtain rfl : j = n := by omega
      have e : l.take j = l := List.take_of_length_le (by omega)
      rw [e] at HROW HP
      have HE := Lib.hid (pushN_eq l m)
      clear hrow hb hp hn hj hl e
      go_wp2_with (at_builtin; refine wpList_append_ints rfl (.tmp 28) (.tmp 30) rfl w.heap.size _ _ [_] rfl (HROW.out.alloc _) (some ⟨wr.heap.size, 0, none⟩) 1 1 rfl (ReadsI.one wr _) (by rw [HP.out]; show _ + 1 ≤ _; omega) (by simp; omega) ?_)
      intro v' w2 hi2 hg2
      have HF := Lib.hid (show IRow w.heap.size v' (pushN l m) w2 by rw [HE.out]; exact hi2)
      have HBF := Lib.hid (IRow.pushed HB.out hsz HROW.out _ hg2)
      clear hi2 hg2
      go_wp2
      go_ret
      exact ⟨_, rfl, HF.out, HBF.out⟩
theorem rpush14_any (l : List Int) (m : Int) (v : Value) (w : World) (hn2 : l.length ≤ 1000) (hr : ReadsI w v l) :
    Calls Try.prog 18 #[v, .int .i64 m] w fun e w' => ∃ v', e = .returned v' ∧ IRow w.heap.size v' (pushN l m) w' ∧ Below w.heap.size w w' := by
  obtain ⟨ao, cap, rfl⟩ := hr.shape
  exact rpush14_core l m ao _ cap w rfl hn2 hr
end Go.Proofs.Ytjonpcpcokapkaa
