/- move.neighbours: the samples that have one ahead, each together with that one, one after another. -/
import Derived.Test.YtaegoomnenociaaMovC
import Derived.Lib.Hide
import Derived.OwnWalkIn
import Derived.TacticsInMore
import Derived.LoopNIn
import Derived.LoopIn
import Derived.WalkMore
namespace Go.Proofs.Ytaegoomnenociaa
open Go.RowKit

/-- The samples that steps go through: a move's last one ahead, if it has one. -/
def fullM (m : Mov) (l : List Int) : List Int := if m.n = 0 then l else m.last :: l
def pairRow (fl : List Int) (i : Nat) : Array Value := #[.agg #[.int .i64 (fl.getD i 0), .int .i64 (fl.getD (i + 1) 0)]]
theorem neighbours_any (n z s : Int) (ao : Option Addr) (k cap : Nat) (w : World) :
    Calls Try.prog 17 #[.agg #[.int .i64 n, .int .i64 z, .int .i64 s], .slice ao k cap] w fun e w' =>
      e = .returned (.func (.func 20) #[] #[.pointer (some ⟨w.heap.size, 0, none⟩), .pointer (some ⟨w.heap.size + 1, 0, none⟩)]) ∧
      (w.alloc (.cells #[.int .i64 n, .int .i64 z, .int .i64 s] 23)).alloc (.cells #[.slice ao k cap] 24) = w' := by
  go_enter Try.func17, Try.ntmps17
  go_wp2
  go_ret
  exact ⟨rfl, rfl⟩
theorem full_zero {m : Mov} {l : List Int} (h : m.n = 0) (k : Nat) : (fullM m l).getD k 0 = l.getD k 0 := by unfold fullM; rw [if_pos h]
theorem full_more {m : Mov} {l : List Int} (h : ¬ m.n = 0) (k : Nat) : (fullM m l).getD (k + 1) 0 = l.getD k 0 := by unfold fullM; rw [if_neg h]; rfl
theorem full_len (m : Mov) (l : List Int) : (fullM m l).length = if m.n = 0 then l.length else l.length + 1 := by unfold fullM; split <;> rfl

/-- Where the iterator stands. -/
def NbrAt (J : Nat → World → Prop) (m : Mov) (l : List Int) (n : Nat) (B : Nat) (s4 s5 s15 : Value) (wr : World) : Prop :=
  ∃ k : Nat, k ≤ n ∧ s15 = .int .i64 (k : Nat) ∧ B ≤ wr.heap.size ∧
    ((m.n = 0 ∧ k = 0 ∧ s5 = .bool false ∧ (∃ z, s4 = .int .i64 z) ∧ J 0 wr) ∨
     ∃ i, i + (if m.n = 0 then 1 else 0) = k ∧ s5 = .bool true ∧ s4 = .int .i64 ((fullM m l).getD i 0) ∧ J i wr)

attribute [local go_sem] Oper.semAt_some
set_option linter.unusedVariables false in
set_option maxRecDepth 100000 in
set_option maxHeartbeats 2000000 in
theorem nbr_seq (m : Mov) (l : List Int) (ao : Option Addr) (cap bm bl : Nat) (hn : 0 ≤ m.n) :
    Seq Try.prog 20 #[.pointer (some ⟨bm, 0, none⟩), .pointer (some ⟨bl, 0, none⟩)] (pairRow (fullM m l)) ((fullM m l).length - 1)
      (fun W => Has W bm (movC m) 23 ∧ Has W bl [.slice ao l.length cap] 24 ∧ ReadsI W (.slice ao l.length cap) l) := by
  intro yl J Jx W hJ hJx hcap hY hJ0
  obtain ⟨hbm, hbl, hrd⟩ := hcap 0 W hJ0
  have ca0 : W.cell? ⟨bm, 0, none⟩ = some (.int .i64 m.n) := hbm.cell 0
  have ca1 : W.cell? ⟨bm, 1, none⟩ = some (.int .i64 m.last) := hbm.cell 1
  have cb0 : W.cell? ⟨bl, 0, none⟩ = some (.slice ao l.length cap) := hbl.cell 0
  have za := hbm.lt
  have zb := hbl.lt
  have hlc : l.length ≤ 9223372036854775807 := by
    obtain ⟨_, _, e, h1, h2, _⟩ := hrd
    unfold maxLen at h2
    omega
  obtain ⟨n, hln⟩ : ∃ n, l.length = n := ⟨_, rfl⟩
  have hfl := full_len m l
  rw [hln] at hcap cb0 hlc hfl
  obtain ⟨N, hN⟩ : ∃ N, (fullM m l).length - 1 = N := ⟨_, rfl⟩
  rw [hN] at hY ⊢
  have HJ := Lib.hid hJ; have HJx := Lib.hid hJx; have HY := Lib.hid hY; have HJ0 := Lib.hid hJ0; have HCAP := Lib.hid hcap; have HLN := Lib.hid hln
  have hNn : N = n - (if m.n = 0 then 1 else 0) := by rw [← hN, hfl]; split <;> omega
  have HNN := Lib.hid hNn
  clear hJ hJx hcap hY hJ0 hbm hbl hrd hln hN hfl hNn
  go_enter Try.func20, Try.ntmps20
  go_upto_region 0 with fail
  go_cut [4, 5] (fun s4 s5 wx => s4 = .int .i64 m.last ∧ s5 = .bool (decide (0 < m.n)) ∧ Below W.heap.size W wx)
  case first =>
    go_region
    all_goals go_wp2_with fail
    all_goals go_meet
    all_goals exact ⟨rfl, rfl, (Below.refl _ _).drew⟩
  case rest =>
    obtain ⟨rfl, rfl, hbw⟩ := hcut
    have cb1 : wc.cell? ⟨bl, 0, none⟩ = some (.slice ao n cap) := (hbw.cell (p := ⟨bl, 0, none⟩) zb).trans cb0
    have hst : NbrAt J m l n W.heap.size (.int .i64 m.last) (.bool (decide (0 < m.n))) (.int .i64 0) wc := by
      refine ⟨0, Nat.zero_le _, rfl, hbw.size, ?_⟩
      have hj := HJ.out 0 _ _ HJ0.out hbw
      by_cases h0 : m.n = 0
      · refine .inl ⟨h0, rfl, by rw [decide_eq_false (by omega)], ⟨_, rfl⟩, hj⟩
      · refine .inr ⟨0, by rw [if_neg h0], by rw [decide_eq_true (by omega)], ?_, hj⟩
        unfold fullM; rw [if_neg h0]; rfl
    have HST := Lib.hid hst
    clear hbw ca0 ca1 cb0 hst
    go_wp2_with fail
    refine (wpIn_wide (n := 0)).1 ?_
    gi_loopw [4, 5, 15] (NbrAt J m l n W.heap.size) (fun _ _ i _ => n - (intOf i).toNat)
    case atStart => exact HST.out
    case round =>
      obtain ⟨k, hk, rfl, hsz, hcase⟩ := hrel
      by_cases hlt : k < n
      · have hkn : (k : Int) < (n : Int) := by omega
        rcases hcase with ⟨h0, rfl, rfl, ⟨z, rfl⟩, hj⟩ | ⟨i, hi, rfl, rfl, hj⟩
        · obtain ⟨-, -, hrd⟩ := HCAP.out _ _ hj
          obtain ⟨ao', cp', e0, -, -, hc⟩ := hrd
          injection e0 with e1 e2 e3
          subst e1 e3
          obtain ⟨b, off, rfl, hltb, hcx⟩ := hc 0 (by rw [HLN.out]; exact hlt)
          obtain ⟨x, hx⟩ : ∃ x, l.getD 0 0 = x := ⟨_, rfl⟩
          rw [hx, Nat.add_zero] at hcx
          have hQ := Lib.hid (show NbrAt J m l n W.heap.size (.int .i64 x) (.bool true) (.int .i64 1) wr from
            ⟨1, by omega, rfl, hsz, .inr ⟨0, by rw [if_pos h0], rfl, by rw [full_zero h0, hx], hj⟩⟩)
          clear hc e2 hj hx
          gi_wp2_with (fail)
          refine ⟨fun _ h => (by cases h), ?_⟩
          gi_wp2_with (fail)
          go_roundw
          case rel => exact hQ.out
          case measure => simp [intOf]; omega
        · obtain ⟨-, -, hrd⟩ := HCAP.out _ _ hj
          obtain ⟨ao', cp', e0, -, -, hc⟩ := hrd
          injection e0 with e1 e2 e3
          subst e1 e3
          obtain ⟨b, off, rfl, hltb, hcx⟩ := hc k (by rw [HLN.out]; exact hlt)
          have hiN : i < N := by
            have hNN := HNN.out
            by_cases h0 : m.n = 0
            · rw [if_pos h0] at hi hNN; omega
            · rw [if_neg h0] at hi hNN; omega
          have hYi := HY.out i wr hiN hj 0
          unfold pairRow at hYi
          have hx1 : (fullM m l).getD (i + 1) 0 = l.getD k 0 := by
            by_cases h0 : m.n = 0
            · rw [if_pos h0] at hi
              rw [full_zero h0, hi]
            · rw [if_neg h0] at hi
              rw [full_more h0]
              congr 1
          rw [hx1] at hYi
          obtain ⟨x, hx⟩ : ∃ x, l.getD k 0 = x := ⟨_, rfl⟩
          rw [hx] at hcx hYi hx1
          obtain ⟨a, ha⟩ : ∃ a, (fullM m l).getD i 0 = a := ⟨_, rfl⟩
          rw [ha] at hYi ⊢
          obtain ⟨fn, tmps, assign, body, hy', hR⟩ := hYi
          have HR := Lib.hid hR
          have hQ := Lib.hid (show ∀ W2, J (i + 1) W2 → Above W.heap.size wr W2 → NbrAt J m l n W.heap.size (.int .i64 x) (.bool true) (.int .i64 ((k : Int) + 1)) W2 from fun W2 h1 h2 =>
            ⟨k + 1, by omega, by first | rfl | go_num, Nat.le_trans hsz h2.size, .inr ⟨i + 1, by omega, rfl, by rw [hx1], h1⟩⟩)
          have hsum := Lib.hid hi
          clear hR hc e2 hj hx hi ha hx1
          gi_wp2_with (fail)
          refine ⟨rfl, (roundIn_any HR.out).mono ?_⟩
          clear hy' hcx
          rintro e w4 (⟨rfl, hJ4, ha4⟩ | ⟨rfl, hJ4⟩)
          · have HQ4 := Lib.hid (hQ.out _ hJ4 ha4)
            clear hJ4 ha4
            gi_wp2_with (fail)
            go_roundw
            case rel => exact HQ4.out
            case measure => simp [intOf]; omega
          · gi_wp2_with (fail)
            (try simp only [Exit.inBlock, Exit.then])
            exact bodyPost_ret (results_none Try.results20 _ _ _) rfl ⟨⟨_, rfl⟩, .inr hJ4⟩
      · obtain rfl : k = n := by omega
        have HF := Lib.hid (show J N wr by
          rcases hcase with ⟨h0, hk0, -, -, hj⟩ | ⟨i, hi, -, -, hj⟩
          · have e : N = 0 := by rw [HNN.out, if_pos h0, hk0]
            rw [e]; exact hj
          · have e : N = i := by rw [HNN.out]; omega
            rw [e]; exact hj)
        clear hcase
        gi_wp2_with (fail)
        exact bodyPost_end (results_none Try.results20 _ _ _) rfl ⟨⟨_, rfl⟩, .inl HF.out⟩
end Go.Proofs.Ytaegoomnenociaa
