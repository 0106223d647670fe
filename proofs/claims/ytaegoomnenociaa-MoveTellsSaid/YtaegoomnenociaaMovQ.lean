/- The law of MoveTells: what it is asked, answered. -/
import Derived.Test.YtaegoomnenociaaMovP
namespace Go.Proofs.Ytaegoomnenociaa
open Go.RowKit

theorem naS_zero {m : Mov} {x : Int} (h : ¬ raE m [x] = 0) : naS m x = 0 := if_neg h
theorem raM_zero {m : Mov} {l : List Int} (h : ¬ raE m l = 0) : raM m l = mov0 := if_neg h
theorem raL_zero {m : Mov} {l : List Int} (h : ¬ raE m l = 0) : raL m l = [] := if_neg h
theorem tell12_walk (m : Mov) (x : Int) (l : List Int) (v : Value) (w : World) (hr : ReadsI w v l) :
    Calls Try.prog 3 #[movV m, .int .i64 x, v] w fun e w' => e = .returned (.bool true) ∧ Below w.heap.size w w' := by
  obtain ⟨ao, cap, rfl, hlc, hcm, -⟩ := id hr
  unfold maxLen at hcm
  obtain ⟨n, hn⟩ : ∃ n, l.length = n := ⟨_, rfl⟩
  rw [hn] at hlc hr ⊢
  obtain ⟨k, hk⟩ : ∃ k, k = min n 200 := ⟨_, rfl⟩
  have hR := hr.few 200 k hk
  have hkl : (l.take 200).length = k := by rw [List.length_take, hn, hk, Nat.min_comm]
  have hk2 : k ≤ 200 := by omega
  generalize l.take 200 = q at *
  obtain ⟨N, L, S⟩ := m
  have e1 : ∀ y : Int, inB [y] = decide (-1000000 ≤ y ∧ y ≤ 1000000) := inB_one
  refine tell12_core N L S x (raM ⟨N, L, S⟩ [x]).n (raM ⟨N, L, S⟩ [x]).last (raM ⟨N, L, S⟩ [x]).sum (naS ⟨N, L, S⟩ x) (raE ⟨N, L, S⟩ [x]) (raM ⟨N, L, S⟩ q).n (raM ⟨N, L, S⟩ q).last (raM ⟨N, L, S⟩ q).sum (raE ⟨N, L, S⟩ q) (wrap64 (N + (k : Int))) (inB q) (movB ⟨N, L, S⟩) (raL ⟨N, L, S⟩ q) ao n cap k w hk hlc (by omega)
    (fun W => next12_any ⟨N, L, S⟩ x W) (fun W hb => run12_any ⟨N, L, S⟩ q _ W (hR.below hb) (by omega)) (fun W => right12_any N L S W) (fun W => rright12_any N L S W) (fun W hb => rin_any q _ W (hR.below hb))
    ?h0 ?h1 ?h2 ?h3 (fun _ => rfl) ?d1 ?d2 ?d3
  case h0 =>
    intro h
    have hno : ¬ movOk ⟨N, L, S⟩ := of_decide_eq_false h
    have a1 : raE ⟨N, L, S⟩ [x] = 1 := if_neg hno
    have a2 : raE ⟨N, L, S⟩ q = 1 := if_neg hno
    have b1 := raM_zero (m := ⟨N, L, S⟩) (l := [x]) (by rw [a1]; decide)
    have b2 := raM_zero (m := ⟨N, L, S⟩) (l := q) (by rw [a2]; decide)
    rw [b1, b2]
    exact ⟨a1, a2, naS_zero (by rw [a1]; decide), ⟨rfl, rfl, rfl⟩, ⟨rfl, rfl, rfl⟩, raL_zero (by rw [a2]; decide)⟩
  case h1 =>
    intro h hx
    have hok : movOk ⟨N, L, S⟩ := of_decide_eq_true h
    have a1 : raE ⟨N, L, S⟩ [x] = 3 := by unfold raE; rw [if_pos hok, if_neg (by rw [e1, decide_eq_false hx]; decide)]
    rw [raM_zero (m := ⟨N, L, S⟩) (l := [x]) (by rw [a1]; decide)]
    exact ⟨a1, naS_zero (by rw [a1]; decide), rfl, rfl, rfl⟩
  case h2 =>
    intro h hx hN
    have hok : movOk ⟨N, L, S⟩ := of_decide_eq_true h
    have a1 : raE ⟨N, L, S⟩ [x] = 11 := by
      unfold raE
      rw [if_pos hok, if_pos (by rw [e1, decide_eq_true hx]), if_neg (by show ¬ N + ((1 : Nat) : Int) ≤ 1000000000; omega)]
    rw [raM_zero (m := ⟨N, L, S⟩) (l := [x]) (by rw [a1]; decide)]
    exact ⟨a1, naS_zero (by rw [a1]; decide), rfl, rfl, rfl⟩
  case h3 =>
    intro h hx hN
    have hok : movOk ⟨N, L, S⟩ := of_decide_eq_true h
    have hb := (movOk_n hok).2
    have a1 : raE ⟨N, L, S⟩ [x] = 0 := raE_zero.2 ⟨hok, by rw [e1, decide_eq_true hx], by show N + ((1 : Nat) : Int) ≤ 1000000000; dsimp only at hb; omega⟩
    have b1 : raM ⟨N, L, S⟩ [x] = runM ⟨N, L, S⟩ [x] := if_pos a1
    have b2 : naS ⟨N, L, S⟩ x = sumI (stepsM ⟨N, L, S⟩ [x]) := if_pos a1
    rw [b1, b2]
    exact ⟨a1, fun W => rnext12_any ⟨N, L, S⟩ x hok hx W⟩
  case d1 =>
    intro h hi
    have hok : movOk ⟨N, L, S⟩ := of_decide_eq_true h
    have a2 : raE ⟨N, L, S⟩ q = 3 := by unfold raE; rw [if_pos hok, if_neg (by rw [hi]; decide)]
    rw [raM_zero (m := ⟨N, L, S⟩) (l := q) (by rw [a2]; decide)]
    exact ⟨a2, ⟨rfl, rfl, rfl⟩, raL_zero (by rw [a2]; decide)⟩
  case d2 =>
    intro h hi hq
    have hok : movOk ⟨N, L, S⟩ := of_decide_eq_true h
    have hb := movOk_n hok
    dsimp only at hb
    have hw : wrap64 (N + (k : Int)) = N + (k : Int) := by unfold wrap64; omega
    rw [hw] at hq
    have a2 : raE ⟨N, L, S⟩ q = 11 := by unfold raE; rw [if_pos hok, if_pos hi, if_neg (by rw [hkl]; show ¬ N + (k : Int) ≤ 1000000000; omega)]
    rw [raM_zero (m := ⟨N, L, S⟩) (l := q) (by rw [a2]; decide)]
    exact ⟨a2, ⟨rfl, rfl, rfl⟩, raL_zero (by rw [a2]; decide)⟩
  case d3 =>
    intro h hi hq
    have hok : movOk ⟨N, L, S⟩ := of_decide_eq_true h
    have hb := movOk_n hok
    dsimp only at hb
    have hw : wrap64 (N + (k : Int)) = N + (k : Int) := by unfold wrap64; omega
    rw [hw] at hq
    have hle : (⟨N, L, S⟩ : Mov).n + (q.length : Int) ≤ 1000000000 := by rw [hkl]; show N + (k : Int) ≤ 1000000000; omega
    have a2 : raE ⟨N, L, S⟩ q = 0 := raE_zero.2 ⟨hok, hi, hle⟩
    have b1 : raM ⟨N, L, S⟩ q = runM ⟨N, L, S⟩ q := if_pos a2
    have b2 : raL ⟨N, L, S⟩ q = stepsM ⟨N, L, S⟩ q := if_pos a2
    rw [b1, b2]
    exact ⟨a2, fun W hb' => rrun12_any ⟨N, L, S⟩ q _ W hok hi hle (by omega) (hR.below hb')⟩
end Go.Proofs.Ytaegoomnenociaa
