/- TokenBack, walked: what is printed is scanned as it was. -/
import Derived.Test.YticgmbhdcegoeaaDoorTokPrints
namespace Go.Proofs.YticgmbhdcegoeaaDoor
open Go.RowKit

theorem allRight_core (l m : List Tok) (h : l.map Tok.core = m.map Tok.core) : allRight l = allRight m := by
  have e : ∀ l : List Tok, allRight l = (l.map Tok.core).all (fun c => rightB c.1 c.2.1 c.2.2) := fun l => by
    unfold allRight
    rw [List.all_map]
    rfl
  rw [e, e, h]
theorem placed_nth (l : List Tok) (i : Nat) (hi : i < l.length) : (nth (placed l 0) i).place = (offN l i : Nat) := by
  have h := placed_get l 0 i hi
  unfold nth
  rw [List.getD_eq_getElem?_getD, h]
  show ((0 + offN l i : Nat) : Int) = _
  rw [Nat.zero_add]
/-- What a scan of a printed row answers. -/
theorem ans_print (l : List Tok) (h : allRight l = true) (hl : (printN l).length ≤ 4000) : scanAns (printN l) = (0, 0, placed l 0) := by
  unfold scanAns
  rw [if_neg (by omega), show scanL (printN l) = scanF (printN l) 0 from rfl, scan_print l 0 ((allRight_iff l).1 h)]
theorem print_placed (l : List Tok) (h : allRight l = true) (hl : (printN l).length ≤ 4000) : printAns (placed l 0) = (printN l, 0) := by
  have hc := placed_core l 0
  have hp := printN_core _ _ hc
  rw [print_ok (by rw [allRight_core _ _ hc]; exact h) (by rw [hp]; exact hl), hp]
theorem print_bad {l : List Tok} (h : ¬ (allRight l = true ∧ (printN l).length ≤ 4000)) : ∃ er : Int, er ≠ 0 ∧ printAns l = ([], er) := by
  unfold printAns
  by_cases c : allRight l = false
  · exact ⟨1, by decide, if_pos c⟩
  · have c' : allRight l = true := by simpa using c
    exact ⟨2, by decide, by rw [if_neg c, if_neg fun e => h ⟨c', e⟩]⟩
set_option maxHeartbeats 4000000 in
set_option maxRecDepth 100000 in
theorem back_walk (l : List Tok) (va : Value) (w : World) (ht : ∀ i, i < l.length → (nth l i).text.length ≤ 9223372036854775807) (ha : Reads w va l) (hE : Env w) :
    Calls Tryd.prog 5 #[va] w fun e w' => e = .returned (.bool true) ∧ Below w.heap.size w w' := by
  have hfew := few_any l va w ht ha
  have hfl := few_len l
  have hft := few_text l
  generalize fewN l = L at hfew hfl hft
  clear ha ht
  have HFT := Lib.hid hft
  clear hft
  have hpr := fun v W hr hE => print_any L v W (by omega) (fun i hi => by have := HFT.out i hi; omega) hr hE
  by_cases hok : allRight L = true ∧ (printN L).length ≤ 4000
  · obtain ⟨hall, hlen⟩ := hok
    unfold printOut at hpr
    rw [print_ok hall hlen] at hpr
    dsimp only at hpr
    have hsc := fun W hE => scan_ans (printN L) W hE
    unfold Ans at hsc
    rw [ans_print L hall hlen] at hsc
    dsimp only at hsc
    have hlk := fun va vb W h1 h2 => like_any (placed L 0) L va vb W (by omega) (placed_core L 0) h1 h2
    have hpl := placed_length L 0
    have hpn := placed_nth L
    have hst := offN_step L
    have hlt := fun i hi => offN_lt L i ((allRight_iff L).1 hall) hi
    have hpb := fun v W hr hE => print_any (placed L 0) v W (by omega) (fun i hi => by
      have := (core_at _ _ (placed_core L 0) i).2.1
      rw [this]
      have := HFT.out i (by omega)
      omega) hr hE
    unfold printOut at hpb
    rw [print_placed L hall hlen] at hpb
    dsimp only at hpb
    have HST := Lib.hid (fun i hi => hst i ((allRight_iff L).1 hall) hi)
    have hq := bs_toList (printN L)
    have hs := bs_size (printN L)
    generalize placed L 0 = Bk at hsc hlk hpl hpn hpb
    generalize printN L = S at hpr hlen hsc hlt hpb hq hs
    have HLT := Lib.hid hlt
    have HPN := Lib.hid hpn
    clear hall hst hlt hpn
    go_enter Tryd.func5, Tryd.ntmps5
    go_wp2_with fail
    refine hfew.mono ?_
    rintro e w2 ⟨vr, rfl, hrow, b2⟩
    have hrd := hrow.reads
    have hE2 := hE.below b2
    clear hrow hfew
    go_wp2_with fail
    refine (hpr _ _ hrd hE2).mono ?_
    rintro e w3 ⟨rfl, h3⟩
    have b3 := b2.trans (h3.mono b2.size)
    have hrd3 := hrd.below h3
    have hE3 := hE.below b3
    clear hpr hrd hE2 h3
    go_wp2_with fail
    refine (hsc _ hE3).mono ?_
    rintro e w4 ⟨vb, rfl, hrb, h4⟩
    have b4 := b3.trans (h4.mono b3.size)
    have hrd4 := hrd3.below h4
    have hE4 := hE.below b4
    clear hsc hrd3 hE3 h4
    go_wp2_with fail
    refine (hlk vb vr _ hrb hrd4).mono ?_
    rintro e w5 ⟨rfl, h5⟩
    have b5 := b4.trans (h5.mono b4.size)
    have hrb5 := hrb.below h5
    have hE5 := hE.below b5
    clear hlk hrd4 hrb h5
    go_wp2_with fail
    refine (alive_any _ hE5).mono ?_
    rintro e w6 ⟨rfl, h6⟩
    have b6 := b5.trans (h6.mono b5.size)
    have hrb6 := hrb5.below h6
    clear hrb5 hE5 hE4 h6 b5 b4 b3 b2
    have hrb7 := hrb6
    obtain ⟨a1, p1, rfl, -, -, hc1⟩ := hrb6
    rw [hpl] at hc1
    have HA := Lib.hid hc1
    have HRB := Lib.hid hrb7
    clear hc1 hrb7
    obtain ⟨n, hn⟩ : ∃ n, L.length = n := ⟨_, rfl⟩
    have HN := Lib.hid hn
    have HNB := Lib.hid (hpl.trans hn)
    rw [hpl] at HRB ⊢
    rw [hn] at HRB HA hfl ⊢
    clear hn hpl
    go_wp2
    go_loopw [50] (UpTo n w6) (fun i _ => n - (intOf i).toNat)
    case atStart => exact ⟨0, Nat.zero_le _, rfl, Below.refl _ _⟩
    case round =>
      obtain ⟨k, hk, rfl, hb⟩ := hrel
      by_cases hl : k < n
      · obtain ⟨b1, o1, rfl, hlt1, hd1⟩ := HA.out k hl
        obtain ⟨x0, x1, x2, x3⟩ := hd1.below hb hlt1
        have hpk := HPN.out k (by rw [HN.out]; exact hl)
        have hltk := HLT.out k (by rw [HN.out]; exact hl)
        rw [hpk] at x3
        have hbs := hb.size
        have g1 : decide (((offN L k : Nat) : Int) < 0) = false := decide_eq_false (by omega)
        have g2n : decide (S.length ≤ offN L k) = false := decide_eq_false (by omega)
        have g2 : decide (((S.length : Nat) : Int) ≤ ((offN L k : Nat) : Int)) = false := decide_eq_false (by omega)
        by_cases hk0 : k = 0
        · have hk1 : k ≤ 0 := by omega
          have g3 : decide (0 < k) = false := decide_eq_false (by omega)
          clear hk0 hpk hd1
          generalize offN L k = q at x3 hltk g1 g2 g2n
          generalize (nth Bk k).kind = tk at x0
          generalize (nth Bk k).text = tt at x1
          generalize (nth Bk k).num = tn at x2
          go_wp2
          go_quiet (fail)
          go_wp2
          go_roundw
          case rel => exact ⟨k + 1, hl, by go_num, (hb.alloc hbs _).trans ⟨rfl, rfl, rfl, Nat.le_refl _, fun _ _ => rfl⟩⟩
          case measure => simp [intOf]; omega
        · have hk1 : 0 < k := by omega
          have g3 : decide (0 < k) = true := decide_eq_true (by omega)
          obtain ⟨b1', o1', e1, -, hd2⟩ := HA.out (k - 1) (by omega)
          injection e1 with e1
          injection e1 with e1 e2 _
          subst e1 e2
          obtain ⟨-, -, -, y3⟩ := hd2.below hb hlt1
          have hpk2 := HPN.out (k - 1) (by rw [HN.out]; omega)
          rw [hpk2] at y3
          have hst2 := HST.out (k - 1) (by rw [HN.out]; omega)
          rw [show k - 1 + 1 = k by omega] at hst2
          have hlt1' : b1 < wr.heap.size := Nat.lt_of_lt_of_le hlt1 hbs
          have g4n : decide (offN L k < offN L (k - 1) + 2) = false := decide_eq_false (by omega)
          have g4 : decide (((offN L k : Nat) : Int) < ((offN L (k - 1) : Nat) : Int) + 2) = false := decide_eq_false (by omega)
          have hlt2 := HLT.out (k - 1) (by rw [HN.out]; omega)
          clear hk0 hpk hd1 hd2 hpk2
          generalize offN L k = q at x3 hltk g1 g2 g2n hst2 g4 g4n
          generalize offN L (k - 1) = r at y3 hst2 g4 g4n hlt2
          generalize (nth Bk k).kind = tk at x0
          generalize (nth Bk k).text = tt at x1
          generalize (nth Bk k).num = tn at x2
          go_wp2
          go_quiet (fail)
          go_wp2
          go_roundw
          case rel => exact ⟨k + 1, hl, by go_num, (hb.alloc hbs _).trans ⟨rfl, rfl, rfl, Nat.le_refl _, fun _ _ => rfl⟩⟩
          case measure => simp [intOf]; omega
      · have hrb9 := HRB.out.below hb
        have b9 := b6.trans (hb.mono b6.size)
        have hE9 := hE.below b9
        clear HA HRB
        go_wp2_with fail
        refine (hpb _ _ hrb9 hE9).mono ?_
        rintro e w9 ⟨rfl, h9⟩
        go_wp2
        go_ret
        exact ⟨rfl, b9.trans (h9.mono b9.size)⟩
  · obtain ⟨er, her, hans⟩ := print_bad hok
    unfold printOut at hpr
    rw [hans] at hpr
    dsimp only at hpr
    have c1 : (er == 0) = false := beq_false_of_ne her
    have c2 : (er != 0) = true := bne_iff_ne.2 her
    have hq := bs_toList ([] : List UInt8)
    clear hok her hans HFT hfl
    go_enter Tryd.func5, Tryd.ntmps5
    go_wp2_with fail
    refine hfew.mono ?_
    rintro e w2 ⟨vr, rfl, hrow, b2⟩
    have hrd := hrow.reads
    have hE2 := hE.below b2
    clear hrow hfew
    go_wp2_with fail
    refine (hpr _ _ hrd hE2).mono ?_
    rintro e w3 ⟨rfl, h3⟩
    have b3 := b2.trans (h3.mono b2.size)
    have hE3 := hE.below b3
    clear hpr hrd hE2 h3
    go_wp2_with fail
    refine (alive_any _ hE3).mono ?_
    rintro e w6 ⟨rfl, h6⟩
    go_wp2
    go_ret
    exact ⟨rfl, b3.trans (h6.mono b3.size)⟩
end Go.Proofs.YticgmbhdcegoeaaDoor
