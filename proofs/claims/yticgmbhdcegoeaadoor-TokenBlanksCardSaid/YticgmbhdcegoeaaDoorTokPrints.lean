/- TokenPrints, walked. -/
import Derived.Test.YticgmbhdcegoeaaDoorTokW
namespace Go.Proofs.YticgmbhdcegoeaaDoor
open Go.RowKit

theorem undrew {w w' : World} (h : Below w.drew.heap.size w.drew w') : Below w.heap.size w w' := ⟨h.os, h.tape, h.output, h.size, h.block⟩
theorem tok_kept {w w2 : World} {b : Nat} {k v p : Int} {t : List UInt8} (h : TokAt w b 0 ⟨k, t, v, p⟩) (hb : b < w.heap.size) (h2 : Below w.heap.size w w2) : TokAt w2 b 0 ⟨k, t, v, p⟩ := h.below h2 hb
set_option maxHeartbeats 4000000 in
set_option maxRecDepth 100000 in
theorem prints_walk (l : List Tok) (va : Value) (k v p : Int) (t : List UInt8) (w : World) (ht : ∀ i, i < l.length → (nth l i).text.length ≤ 9223372036854775807) (ht2 : t.length ≤ 9223372036854775807) (ha : Reads w va l) (hE : Env w) :
    Calls Tryd.prog 4 #[va, .agg #[.int .i64 k, .string (bs t), .int .i64 v, .int .i64 p]] w fun e w' => e = .returned (.bool true) ∧ Below w.heap.size w w' := by
  obtain ⟨x, hx⟩ : ∃ x, rightB k (t.take 20) v = x := ⟨_, rfl⟩
  have hR := fun W => right_any k (t.take 20) v p W (by rw [List.length_take]; omega)
  have hR2 := fun W => rright_any k (t.take 20) v p W (by rw [List.length_take]; omega)
  unfold tokV at hR hR2
  rw [hx] at hR hR2
  have hz := bs_size t
  have hcut : ∀ w, (Instr.slice 9 (.string (bs t)) none (some (.int .i64 (min (t.length : Int) 20))) none).run Tryd.prog w = .ok (.string (bs (t.take 20))) w := fun w => by
    have := run_slice_hi (P := Tryd.prog) w 9 t .i64 (min t.length 20) Tryd.underlying9 (Nat.min_le_left _ _)
    rw [show ((min t.length 20 : Nat) : Int) = min (t.length : Int) 20 by omega, Nat.min_comm, ← List.take_eq_take_min] at this
    exact this
  generalize t.take 20 = u at hcut hR hR2
  clear hx
  obtain ⟨b0, ha0, e0⟩ : ∃ b0, Reads b0 va l ∧ b0 = w.alloc (.cells #[.int .i64 k, .string (bs t), .int .i64 v, .int .i64 p] 30) := ⟨_, ha.below ((Below.refl _ _).alloc (Nat.le_refl _) _), rfl⟩
  have hfew := few_any l va b0 ht ha0
  subst e0
  clear ha0 ha ht
  have hHas := Has.new w [.int .i64 k, .string (bs t), .int .i64 v, .int .i64 p] 30
  have hb0 := (Below.refl w.heap.size w).alloc (Nat.le_refl _) (.cells #[.int .i64 k, .string (bs t), .int .i64 v, .int .i64 p] 30)
  go_enter Tryd.func4, Tryd.ntmps4
  go_wp2_with fail
  refine hfew.mono ?_
  rintro e w2 ⟨vr, rfl, hrow, h2⟩
  have hH2 := hHas.call h2
  have hb2 := hb0.trans (h2.mono (by simp))
  have hlt2 : w.heap.size < w2.heap.size := hH2.lt
  obtain ⟨⟨c0, c1, c2, c3⟩, ⟨f0, f1, f2, f3⟩⟩ := hH2.four
  have hset : Has (w2.setCell ⟨w.heap.size, 1, none⟩ (.string (bs u))) w.heap.size [.int .i64 k, .string (bs u), .int .i64 v, .int .i64 p] 30 := hH2.set 1 (.string (bs u))
  have hb3 : Below w.heap.size w (w2.setCell ⟨w.heap.size, 1, none⟩ (.string (bs u))) := hb2.setCell (Nat.le_refl _) _
  have hrd : Reads (w2.setCell ⟨w.heap.size, 1, none⟩ (.string (bs u))) vr (fewN l) := Row.reads (ownsRow_setCell_below hrow (a := ⟨w.heap.size, 1, none⟩) (by simp) _)
  have hfl := few_len l
  have hft := few_text l
  generalize fewN l = L at hrd hfl hft
  clear h2 hHas hb0 hfew hrow hH2 hb2
  have HW : Hid (∀ w3, w3 = w2.setCell ⟨w.heap.size, 1, none⟩ (.string (bs u)) → True) := Lib.hid fun _ _ => trivial
  go_wp2_with fail
  generalize w2.setCell ⟨w.heap.size, 1, none⟩ (.string (bs u)) = w3 at hset hb3 hrd HW ⊢
  clear c0 c1 c2 c3 f0 f1 f2 f3 hlt2 HW hcut hz
  have hE3 := hE.below hb3
  have hrtok := fun W h => rtokens_any L vr W (by omega) (fun i hi => by have := hft i hi; omega) h
  have hrpr := fun W h hall => rprint_any L vr W (by omega) hall h
  have hpr := print_any L vr w3 (by omega) (fun i hi => by have := hft i hi; omega) hrd hE3
  obtain ⟨S, er, hans⟩ : ∃ S er, printAns L = (S, er) := ⟨_, _, rfl⟩
  unfold printOut at hpr
  rw [hans] at hpr
  dsimp only at hpr
  have HANS := Lib.hid hans
  clear hans hft hfl
  refine hpr.mono ?_
  rintro e w4 ⟨rfl, h4⟩
  have hH4 := hset.call h4
  have hb4 := hb3.trans (h4.mono hb3.size)
  have hrd4 := hrd.below h4
  have hlt4 : w.heap.size < w4.heap.size := hH4.lt
  clear hset hrd hpr h4 hE3 hb3
  obtain ⟨⟨c0, c1, c2, c3⟩, -⟩ := hH4.four
  have hE4 := hE.below hb4
  go_wp2
  go_region_held3 (fun w' => w'.cell? ⟨w.heap.size, 0, none⟩ = some (.int .i64 k) ∧ w'.cell? ⟨w.heap.size, 1, none⟩ = some (.string (bs u)) ∧ w'.cell? ⟨w.heap.size, 2, none⟩ = some (.int .i64 v) ∧ w'.cell? ⟨w.heap.size, 3, none⟩ = some (.int .i64 p)) (simp [go_sem, *])
    (first | (go_at_call 13; refine (hR _).mono ?_; rintro e w5 ⟨rfl, h5⟩; have h5' := undrew h5; have hH5 := hH4.call h5'; have hb5 := hb4.trans (h5'.mono hb4.size); obtain ⟨⟨d0, d1, d2, d3⟩, -⟩ := hH5.four) | (go_at_call 14; refine (hR2 _).mono ?_; rintro e w6 ⟨rfl, h6⟩; have hH6 := hH5.call h6; have hb6 := hb5.trans (h6.mono hb5.size); obtain ⟨⟨e0, e1, e2, e3⟩, -⟩ := hH6.four) | (go_at_call 9; refine (alive_any _ (hE.below hb6)).mono ?_; rintro e w7 ⟨rfl, h7⟩; have hH7 := hH6.call h7; have hb7 := hb6.trans (h7.mono hb6.size); obtain ⟨⟨i0, i1, i2, i3⟩, -⟩ := hH7.four))
  have hrd7 := ((hrd4.below h5').below h6).below h7
  have hrt := hrtok _ hrd7
  clear hrd4 hH4 hH5 hH6 hH7 h5 h5' h6 h7 hb4 hb5 hb6 c0 c1 c2 c3 d0 d1 d2 d3 e0 e1 e2 e3 i0 i1 i2 i3 hE4 hlt4
  have hq0 := bs_toList ([] : List UInt8)
  cases hall : allRight L
  · rw [hall] at hrt
    have hans := HANS.out
    unfold printAns at hans
    rw [if_pos hall] at hans
    injection hans with e1 e2
    subst e1
    subst e2
    clear hall HANS hrpr hrtok
    go_wp2_with fail
    refine hrt.mono ?_
    rintro e w8 ⟨rfl, h8⟩
    have hb8 := hb7.trans (h8.mono hb7.size)
    clear hrt h8
    go_wp2
    go_ret
    exact ⟨rfl, hb8⟩
  · rw [hall] at hrt
    by_cases hlen : (printN L).length ≤ 4000
    · rw [print_ok hall hlen] at HANS
      injection HANS.out with e1 e2
      subst e1
      subst e2
      clear HANS
      have hpl := fun W h => hrpr W h hall
      have hs := bs_size (printN L)
      have hq := bs_toList (printN L)
      generalize printN L = Q at hpl hlen hs hq ⊢
      clear hall hrpr hrtok
      go_wp2_with fail
      refine hrt.mono ?_
      rintro e w8 ⟨rfl, h8⟩
      have hb8 := hb7.trans (h8.mono hb7.size)
      have hrd8 := hrd7.below h8
      clear hrt h8
      go_wp2_with fail
      refine (hpl _ hrd8).mono ?_
      rintro e w9 ⟨rfl, h9⟩
      have hb9 := hb8.trans (h9.mono hb8.size)
      clear hpl hrd8 hrd7 h9
      go_wp2
      go_ret
      exact ⟨rfl, hb9⟩
    · have hans := HANS.out
      unfold printAns at hans
      rw [if_neg (by rw [hall]; decide), if_neg hlen] at hans
      injection hans with e1 e2
      subst e1
      subst e2
      clear HANS
      have hpl := fun W h => hrpr W h hall
      have hs := bs_size (printN L)
      have hq := bs_toList (printN L)
      have hlong : 4000 < (printN L).length := by omega
      generalize printN L = Q at hpl hlong hs hq ⊢
      clear hall hrpr hrtok hlen
      go_wp2_with fail
      refine hrt.mono ?_
      rintro e w8 ⟨rfl, h8⟩
      have hb8 := hb7.trans (h8.mono hb7.size)
      have hrd8 := hrd7.below h8
      clear hrt h8
      go_wp2_with fail
      refine (hpl _ hrd8).mono ?_
      rintro e w9 ⟨rfl, h9⟩
      have hb9 := hb8.trans (h9.mono hb8.size)
      clear hpl hrd8 hrd7 h9
      go_wp2
      go_ret
      exact ⟨rfl, hb9⟩
end Go.Proofs.YticgmbhdcegoeaaDoor
