/- token.Scan and the reference's, alike; datumlaw07.alive. -/
import Derived.Test.YticgmbhdcegoeaaDoorTokK
import Derived.Test.YticgmbhdcegoeaaDoorTokL
namespace Go.Proofs.YticgmbhdcegoeaaDoor
open Go.RowKit

theorem Reads.nil (w : World) : Reads w (.slice none 0 0) [] := ⟨none, 0, rfl, Nat.le_refl _, Nat.zero_le _, fun _ hi => absurd hi (Nat.not_lt_zero _)⟩
theorem scan_len : ∀ (n : Nat) (l : List UInt8) (a : Nat) (ts : List Tok), l.length ≤ n → scanF l a = .ok ts → ts.length ≤ l.length
  | _, [], a, ts, _, h => by
    rw [scanF_nil] at h
    cases h
    exact Nat.le_refl _
  | 0, b :: t, _, _, h, _ => absurd h (by simp)
  | n + 1, b :: t, a, ts, hn, h => by
    by_cases hb : 0 < blankN (b :: t)
    · rw [scanF_blank _ _ hb] at h
      have := scan_len n _ _ ts (by rw [List.length_drop]; omega) h
      rw [List.length_drop] at this
      omega
    · rw [scanF_one _ _ (by simp) (by omega)] at h
      cases h1 : oneN (b :: t) with
      | error e => rw [h1] at h; cases h
      | ok x =>
        obtain ⟨k, u, v, m⟩ := x
        have hl := oneN_len h1
        rw [h1] at h
        dsimp only at h
        cases h2 : scanF ((b :: t).drop m) (a + m) with
        | error e => rw [h2] at h; cases h
        | ok us =>
          rw [h2] at h
          cases h
          have := scan_len n _ _ us (by rw [List.length_drop]; omega) h2
          rw [List.length_drop] at this
          rw [List.length_cons]
          omega
/-- What a scan answers: a place, an error, tokens. -/
def scanAns (l : List UInt8) : Nat × Int × List Tok :=
  if 4000 < l.length then (0, 2, []) else match scanL l with
    | .error e => (e.1, e.2, [])
    | .ok ts => (0, 0, ts)
def Ans (l : List UInt8) (w : World) (e : Ending) (w' : World) : Prop :=
  ∃ v, e = .returned (.tuple #[v, .int .i64 ((scanAns l).1 : Nat), .int .i64 (scanAns l).2.1]) ∧ Reads w' v (scanAns l).2.2 ∧ Below w.heap.size w w'
theorem ans_long {l : List UInt8} {w w' : World} {e : Ending} (h : 4000 < l.length) (he : e = .returned (.tuple #[.slice none 0 0, .int .i64 0, .int .i64 2]) ∧ w = w') : Ans l w e w' := by
  obtain ⟨rfl, rfl⟩ := he
  have e : scanAns l = (0, 2, []) := if_pos h
  unfold Ans
  rw [e]
  exact ⟨_, rfl, Reads.nil _, Below.refl _ _⟩
theorem ans_short {l : List UInt8} {w w' : World} {e : Ending} (h : ¬ 4000 < l.length) (he : ScanEnd l w e w') : Ans l w e w' := by
  obtain ⟨v, rfl, h1, h2⟩ := he
  have e : scanAns l = match scanL l with
    | .error e => (e.1, e.2, [])
    | .ok ts => (0, 0, ts) := if_neg h
  unfold Ans
  rw [e]
  cases hs : scanL l with
  | error x => exact ⟨_, rfl, Reads.nil _, h2⟩
  | ok ts => exact ⟨v, rfl, (h1 ts hs).reads, h2⟩
theorem scan_ans (l : List UInt8) (w : World) (hE : Env w) : Calls Tryd.prog 7 #[.string (bs l)] w (Ans l w) := by
  by_cases h : 4000 < l.length
  · exact (scan_long l w h).mono fun _ _ he => ans_long h he
  · exact (scan_any l w (by omega) hE).mono fun _ _ he => ans_short h he
theorem rscan_ans (l : List UInt8) (w : World) : Calls Tryd.prog 8 #[.string (bs l)] w (Ans l w) := by
  by_cases h : 4000 < l.length
  · exact (rscan_long l w h).mono fun _ _ he => ans_long h he
  · exact (rscan_any l w (by omega)).mono fun _ _ he => ans_short h he

theorem ans_len (l : List UInt8) : (scanAns l).2.2.length ≤ 4000 := by
  unfold scanAns
  by_cases h : 4000 < l.length
  · rw [if_pos h]; exact Nat.zero_le _
  · rw [if_neg h]
    cases hs : scanL l with
    | error x => exact Nat.zero_le _
    | ok ts => exact Nat.le_trans (scan_len l.length l 0 ts (Nat.le_refl _) hs) (by omega)

/-! ### Three tokens -/
def lowText : List UInt8 := [108, 111, 119, 45, 53, 59, 35, 32, 120]
def lowToks : List Tok := [⟨1, [108, 111, 119], 0, 0⟩, ⟨2, [], -5, 3⟩, ⟨5, [], 0, 5⟩]
theorem low_scan : scanL lowText = .ok lowToks := by kernel_rfl
theorem low_cells {B : Nat} {v : Value} {w : World} (h : Row B v lowToks w) : ∃ g cap, v = .slice (some ⟨g, 0, none⟩) 3 cap ∧ w.cell? ⟨g, 1, none⟩ = some (.string ⟨#[108, 111, 119]⟩) ∧ w.cell? ⟨g, 6, none⟩ = some (.int .i64 (-5)) ∧ w.cell? ⟨g, 11, none⟩ = some (.int .i64 5) := by
  have h0 : w.ownsRow B 30 4 v 3 (cells4 lowToks) := h
  rcases h0.2 with ⟨_, h2⟩ | ⟨g, cap, cur, hv, _⟩
  · exact absurd h2 (by decide)
  · have hc := h0.cells (g := g) (by rw [hv]; rfl)
    have e : ∀ j, (⟨g, 0, none⟩ : Addr).add j = ⟨g, j, none⟩ := fun j => by unfold Addr.add; split <;> simp_all
    refine ⟨g, cap, hv, ?_, ?_, ?_⟩
    · have := hc 1 _ rfl; rw [e] at this; exact this
    · have := hc 6 _ rfl; rw [e] at this; exact this
    · have := hc 11 _ rfl; rw [e] at this; exact this
theorem alive_any (w : World) (hE : Env w) : Calls Tryd.prog 9 #[] w fun e w' => e = .returned (.bool true) ∧ Below w.heap.size w w' := by
  have hsc : ∀ W, Env W → Calls Tryd.prog 7 #[.string ⟨#[108, 111, 119, 45, 53, 59, 35, 32, 120]⟩] W fun e w' => ∃ g cap, e = .returned (.tuple #[.slice (some ⟨g, 0, none⟩) 3 cap, .int .i64 0, .int .i64 0]) ∧ (w'.cell? ⟨g, 1, none⟩ = some (.string ⟨#[108, 111, 119]⟩) ∧ w'.cell? ⟨g, 6, none⟩ = some (.int .i64 (-5)) ∧ w'.cell? ⟨g, 11, none⟩ = some (.int .i64 5)) ∧ Below W.heap.size W w' := fun W hE =>
    (scan_any lowText W (by decide) hE).mono fun e w' ⟨v, he, h1, h2⟩ => by
      obtain ⟨g, cap, hv, hc⟩ := low_cells (h1 _ low_scan)
      rw [low_scan, hv] at he
      exact ⟨g, cap, he, hc, h2⟩
  go_enter Tryd.func9, Tryd.ntmps9
  go_wp2_with fail
  refine (hsc _ hE).mono ?_
  rintro e w2 ⟨g, cap, rfl, ⟨c1, c2, c3⟩, h2⟩
  clear hsc
  go_wp2

  go_ret
  exact ⟨rfl, h2⟩

/-! ### The law of scans -/
theorem scans_walk (l : List UInt8) (w : World) (hl : l.length ≤ 9223372036854775807) (hE : Env w) :
    Calls Tryd.prog 3 #[.string (bs l)] w fun e w' => e = .returned (.bool true) ∧ Below w.heap.size w w' := by
  have hs := bs_size l
  have hcut : ∀ w, (Instr.slice 9 (.string (bs l)) none (some (.int .i64 (min (l.length : Int) 4100))) none).run Tryd.prog w = .ok (.string (bs (l.take (min l.length 4100)))) w := fun w => by
    have := run_slice_hi (P := Tryd.prog) w 9 l .i64 (min l.length 4100) Tryd.underlying9 (Nat.min_le_left _ _)
    rw [show ((min l.length 4100 : Nat) : Int) = min (l.length : Int) 4100 by omega] at this
    exact this
  generalize l.take (min l.length 4100) = m at hcut
  have hsc := scan_ans m
  have hrsc := rscan_ans m
  have hal := ans_len m
  obtain ⟨p, c, ts, ha⟩ : ∃ p c ts, scanAns m = (p, c, ts) := ⟨_, _, _, rfl⟩
  unfold Ans at hsc hrsc
  rw [ha] at hsc hrsc hal
  dsimp only at hsc hrsc hal
  have HL := Lib.hid hal
  clear hal
  go_enter Tryd.func3, Tryd.ntmps3
  go_wp2_with fail
  refine (hsc _ hE).mono ?_
  rintro e w2 ⟨va, rfl, ra, b2⟩
  clear hsc
  go_wp2_with fail
  refine (hrsc _).mono ?_
  rintro e w3 ⟨vb, rfl, rb, b3⟩
  have ra3 := ra.below b3
  have bb := b2.trans (b3.mono b2.size)
  clear hrsc ra b3 b2
  have hE3 := hE.below bb
  go_wp2_with fail
  refine (alive_any _ hE3).mono ?_
  rintro e w4 ⟨rfl, b4⟩
  have ra4 := ra3.below b4
  have rb4 := rb.below b4
  have bb4 := bb.trans (b4.mono bb.size)
  clear ra3 rb bb b4 hE3
  go_wp2_with fail
  refine (same_any ts va vb _ (by have := HL.out; omega) ra4 rb4).mono ?_
  rintro e w5 ⟨rfl, b5⟩
  go_wp2
  go_ret
  exact ⟨rfl, bb4.trans (b5.mono bb4.size)⟩
end Go.Proofs.YticgmbhdcegoeaaDoor
