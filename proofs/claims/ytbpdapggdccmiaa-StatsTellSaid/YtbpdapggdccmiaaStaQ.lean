/- The law of StatsTell: its numbers. -/
import Derived.Test.YtbpdapggdccmiaaStaP
namespace Go.Proofs.Ytbpdapggdccmiaa
open Go.RowKit

theorem staZ0 {s : Sta} (h : s = sta0) : s.n = 0 ∧ s.sum = 0 ∧ ((hi s.sq : Nat) : Int) = 0 ∧ ((lo s.sq : Nat) : Int) = 0 ∧ s.lo = 0 ∧ s.hi = 0 := by
  subst h
  exact ⟨rfl, rfl, rfl, rfl, rfl, rfl⟩
theorem tell_walk (l : List Int) (a b : Sta) (hqa : a.sq < M128) (hqb : b.sq < M128) (hsa : IsInt a.sum) (hsb : IsInt b.sum) (v : Value) (w : World) (hr : ReadsI w v l) :
    Calls Try.prog 3 #[v, staV a, staV b] w fun e w' => e = .returned (.bool true) ∧ Below w.heap.size w w' := by
  obtain ⟨ao, cap, rfl, hlc, hcm, -⟩ := id hr
  unfold maxLen at hcm
  have HL := hr.few 200 (min l.length 200) rfl
  have hml : (l.take 200).length = min l.length 200 := by rw [List.length_take, Nat.min_comm]
  have hm2 : (l.take 200).length ≤ 100000 := by omega
  generalize l.take 200 = k at *
  obtain ⟨m, hm⟩ : ∃ m, m = min l.length 200 := ⟨_, rfl⟩
  rw [← hm] at HL
  refine tell_core _ _ _ _ _ _ _ _ _ _ _ _ _ _ _ _ _ _ _ _ _ _ _ _ _ _ _ _ _ (a.n + b.n) (inB k) (staB a) (staB b) k ao l.length cap m w hm hlc hcm
    (fun W h => of11_any k _ W (HL.below h) hm2) (fun W => join11_any a b hqa hqb W) (fun W => spread11_any a hqa W) (fun W => right11_any a hqa W) (fun W => rright11_any a hsa hqa W) (fun W => rright11_any b hsb hqb W)
    (fun W h => (rin_any k _ W (HL.below h)).mono fun e w' h => ⟨h.1, h.2 ▸ Below.refl _ _⟩) ?_ ?_ ?_ ?_ ?_ ?_ ?_
  · intro h
    refine ⟨if_neg (fun c => by rw [h] at c; cases c), staZ0 (if_neg (fun c => by rw [h] at c; cases c))⟩
  · intro h
    have e : ofS k = staOf k := if_pos h
    refine ⟨if_pos h, ?_, ?_⟩
    · rw [e]; exact fun W hb => rof11_any k _ W (HL.below hb) hm2 h
    · rw [e]
      intro W
      have := right11_any (staOf k) (by have := staOf_bounds h hm2; unfold M128; omega) W
      rw [staOf_right h (by omega)] at this
      exact this
  · intro h
    have e : sprN a = 0 := if_neg (fun c => by rw [h] at c; cases c.1)
    refine ⟨if_neg (fun c => by rw [h] at c; cases c), by rw [e]; exact ⟨rfl, rfl⟩, if_neg (fun c => by rw [h] at c; cases c.1), staZ0 (if_neg (fun c => by rw [h] at c; cases c.1))⟩
  · intro h hn
    have e : sprN a = 0 := if_neg (fun c => c.2 hn)
    exact ⟨by unfold sprE; rw [if_pos h, if_pos hn], by rw [e]; exact ⟨rfl, rfl⟩⟩
  · intro h hn
    have e : sprN a = spreadN a := if_pos ⟨h, hn⟩
    refine ⟨by unfold sprE; rw [if_pos h, if_neg hn], ?_⟩
    rw [e]
    exact fun W => rspread_any a (staB_ok h hn) W
  · intro h1 h2
    exact ⟨if_neg (fun c => by rw [h2] at c; cases c.2), staZ0 (if_neg (fun c => by rw [h2] at c; cases c.2.1))⟩
  · intro h1 h2
    have fa := staB_fit h1
    have fb := staB_fit h2
    refine ⟨by unfold wrap64; omega, fun hS => ⟨?_, staZ0 (if_neg (fun c => by omega))⟩, fun hS => ⟨?_, ?_⟩⟩
    · unfold joiE; rw [if_pos ⟨h1, h2⟩, if_neg (by omega)]
    · unfold joiE; rw [if_pos ⟨h1, h2⟩, if_pos (by omega)]
    · rw [show joiN a b = joinS a b from if_pos ⟨h1, h2, by omega⟩]
      exact fun W => rjoin11_any a b ⟨by omega, by omega⟩ ⟨by omega, by omega⟩ (by unfold M128; omega) W
end Go.Proofs.Ytbpdapggdccmiaa
