/- TokenBlanks, walked. -/
import Derived.Test.YticgmbhdcegoeaaDoorTokX
namespace Go.Proofs.YticgmbhdcegoeaaDoor
open Go.RowKit

theorem nth_take (l : List Tok) (c i : Nat) (h : i < min l.length c) : nth (l.take c) i = nth l i := by
  unfold nth
  rw [List.getD_eq_getElem?_getD, List.getD_eq_getElem?_getD, List.getElem?_take_of_lt (by omega)]
theorem Reads.take {w : World} {ao : Option Addr} {n cap : Nat} {l : List Tok} (h : Reads w (.slice ao n cap) l) (c m : Nat) (hm : min l.length c = m) : Reads w (.slice ao m cap) (l.take c) := by
  obtain ⟨a1, p1, e, hlc, hcm, hc⟩ := h
  injection e with e1 e2 e3
  subst e1 e2 e3
  have hl : (l.take c).length = m := by rw [List.length_take, Nat.min_comm]; exact hm
  refine ⟨_, _, by rw [hl], by omega, hcm, fun i hi => ?_⟩
  obtain ⟨b, off, h1, h2, h3⟩ := hc i (by omega)
  exact ⟨b, off, h1, h2, by rw [nth_take l c i (by omega)]; exact h3⟩
theorem Reads.tok {w : World} {ao : Option Addr} {n cap : Nat} {l : List Tok} (h : Reads w (.slice ao n cap) l) (i : Nat) (hi : i < n) : ∃ b off, ao = some ⟨b, off, none⟩ ∧ b < w.heap.size ∧ TokAt w b (off + i * 4) (nth l i) := by
  obtain ⟨a1, p1, e, hlc, hcm, hc⟩ := h
  injection e with e1 e2 e3
  subst e1 e2 e3
  exact hc i hi
theorem Reads.one (w : World) (tk tn tp : Int) (tt : List UInt8) (b : Nat) (hb : w.heap.size = b) : Reads (w.alloc (.cells #[.int .i64 tk, .string (bs tt), .int .i64 tn, .int .i64 tp] 30)) (.slice (some ⟨b, 0, none⟩) 1 1) [⟨tk, tt, tn, tp⟩] := by
  subst hb
  refine ⟨_, _, rfl, by simp, by unfold maxLen; omega, fun i hi => ⟨_, 0, rfl, by simp, ?_⟩⟩
  obtain rfl : i = 0 := by simpa using hi
  have h := Has.new w [.int .i64 tk, .string (bs tt), .int .i64 tn, .int .i64 tp] 30
  exact ⟨h.cell 0, h.cell 1, h.cell 2, h.cell 3⟩
theorem mixT_len (sep : Nat → List UInt8) (l : List Tok) (s : Nat) (hs : ∀ i, (sep i).length ≤ s) (ht : ∀ t ∈ l, t.right) : ∀ k, k ≤ l.length → (mixT sep l k).length ≤ s + k * (12 + s)
  | 0, _ => by rw [mixT_zero]; have := hs 0; omega
  | k + 1, hk => by
    have h := mixT_len sep l s hs ht k (by omega)
    rw [mixT_succ sep l k hk, List.length_append, List.length_append, nth_get l k hk]
    have h1 := bytes_le (ht l[k] (List.getElem_mem _))
    have h2 := hs (k + 1)
    have : (k + 1) * (12 + s) = k * (12 + s) + (12 + s) := Nat.succ_mul _ _
    omega
theorem scan_mixT (sep : Nat → List UInt8) (l : List Tok) (hs : ∀ i, Skips (sep i)) (hh : ∀ i, sep i ≠ [] ∧ isLetter ((sep i).headD 0) = false ∧ isDigit ((sep i).headD 0) = false) (ht : ∀ t ∈ l, t.right) (hl : (mixT sep l l.length).length ≤ 4000) :
    ∃ ts, scanAns (mixT sep l l.length) = (0, 0, ts) ∧ ts.map Tok.core = l.map Tok.core := by
  obtain ⟨ts, h1, h2⟩ := scan_mix sep hs hh l 0 (0 + (sep 0).length) ht
  refine ⟨ts, ?_, h2⟩
  have e : scanL (mixT sep l l.length) = .ok ts := by
    show scanF (mixT sep l l.length) 0 = _
    unfold mixT
    rw [List.take_length, hs 0, h1]
  unfold scanAns
  rw [if_neg (by omega), e]
theorem cell_of {w w' : World} {b : Nat} (h : w'.heap[b]? = w.heap[b]?) (o : Nat) : w'.cell? ⟨b, o, none⟩ = w.cell? ⟨b, o, none⟩ := by simp [World.cell?, h]
theorem Reads.other {w : World} {v : Value} {l : List Tok} (h : Reads w v l) {b : Nat} {s : ByteArray} {T : TypeId} (hH : Has w b [.string s] T) (u : Value) : Reads (w.setCell ⟨b, 0, none⟩ u) v l := by
  obtain ⟨ao, cap, h1, h2, h3, h4⟩ := h
  refine ⟨ao, cap, h1, h2, h3, fun i hi => ?_⟩
  obtain ⟨c, off, h5, h6, h7⟩ := h4 i hi
  have hne : c ≠ b := by
    rintro rfl
    have := h7.c0
    rw [hH.cell] at this
    cases e : off + i * 4 with
    | zero => rw [e] at this; simp at this
    | succ j => rw [e] at this; simp at this
  have hk : (w.setCell ⟨b, 0, none⟩ u).heap[c]? = w.heap[c]? := Below.heap_setCell _ _ _ _ hne
  exact ⟨c, off, h5, by simpa [World.setCell] using h6, ⟨(cell_of hk _).trans h7.c0, (cell_of hk _).trans h7.c1, (cell_of hk _).trans h7.c2, (cell_of hk _).trans h7.c3⟩⟩
/-- Both boxes, and the tokens. -/
structure Fx (w : World) (bz br : Nat) (vz vr : Value) (rm : List UInt8) (L : List Tok) (W : World) : Prop where
  below : Below w.heap.size w W
  lz : bz < W.heap.size
  lr : br < W.heap.size
  cz : W.cell? ⟨bz, 0, none⟩ = some vz
  cr : W.cell? ⟨br, 0, none⟩ = some (.string (bs rm))
  rd : Reads W vr L
theorem Fx.move {w : World} {bz br : Nat} {vz vr : Value} {rm : List UInt8} {L : List Tok} {W W' : World} (h : Fx w bz br vz vr rm L W) (hb : Below W.heap.size W W') : Fx w bz br vz vr rm L W' :=
  ⟨h.below.trans (hb.mono h.below.size), Nat.lt_of_lt_of_le h.lz hb.size, Nat.lt_of_lt_of_le h.lr hb.size, (hb.cell h.lz).trans h.cz, (hb.cell h.lr).trans h.cr, h.rd.below hb⟩
def BRel1 (w : World) (bz br : Nat) (vz vr : Value) (rm : List UInt8) (L : List Tok) (i : Value) (wr : World) : Prop :=
  ∃ k : Nat, k ≤ rm.length ∧ i = .int .i64 (k : Nat) ∧ (∀ j, j < k → bt rm j ≠ 10) ∧ Fx w bz br vz vr rm L wr
def BRel2 (w : World) (bz br : Nat) (vz vr : Value) (rm : List UInt8) (L : List Tok) (S : Nat → List UInt8) (n : Nat) (t i : Value) (wr : World) : Prop :=
  ∃ k : Nat, k ≤ n ∧ i = .int .i64 (k : Nat) ∧ t = .string (bs (S k)) ∧ Fx w bz br vz vr rm L wr
theorem noEnd {rm : List UInt8} (h : ∀ j, j < rm.length → bt rm j ≠ 10) : ∀ b ∈ rm, notEnd b = true := by
  intro b hb
  obtain ⟨j, hj, rfl⟩ := List.getElem_of_mem hb
  have := h j hj
  unfold bt at this
  rw [List.getD_eq_getElem?_getD, List.getElem?_eq_getElem hj] at this
  exact decide_eq_true this
theorem one_print (t : Tok) (h : t.rightb = true) : printAns [t] = (t.bytes, 0) := by
  have ha : allRight [t] = true := by unfold allRight; simp [h]
  have hb := bytes_le (t.right_iff.1 h)
  have := print_ok ha (by rw [printN_one]; omega)
  rwa [printN_one] at this
set_option maxHeartbeats 4000000 in
set_option maxRecDepth 100000 in
theorem blanks_walk (l : List Tok) (zs : List Int) (rem : List UInt8) (va vz : Value) (w : World) (ht : ∀ i, i < l.length → (nth l i).text.length ≤ 9223372036854775807) (hrem : rem.length ≤ 9223372036854775807) (ha : Reads w va l) (hz : ReadsI w vz zs) (hE : Env w) :
    Calls Tryd.prog 6 #[va, vz, .string (bs rem)] w fun e w' => e = .returned (.bool true) ∧ Below w.heap.size w w' := by
  have hfew := fun W (hW : Below w.heap.size w W) => few_any l va W ht (ha.below hW)
  have hfl := few_len l
  have hft := few_text l
  generalize fewN l = L0 at hfew hfl hft
  clear ha ht
  obtain ⟨L, hL⟩ : ∃ L, L0.take 100 = L := ⟨_, rfl⟩
  obtain ⟨n, hn⟩ : ∃ n, min L0.length 100 = n := ⟨_, rfl⟩
  have hLn : L.length = n := by rw [← hL, List.length_take, Nat.min_comm]; exact hn
  have hft : ∀ i, i < L.length → (nth L i).text.length ≤ 20 := fun i hi => by
    rw [← hL, nth_take L0 100 i (by omega)]
    exact hft i (by omega)
  have HT := Lib.hid hft
  have HLN := Lib.hid hLn
  have HTK := Lib.hid (show ∀ W ao cap, Reads W (.slice ao L0.length cap) L0 → Reads W (.slice ao n cap) L from fun W ao cap h => by rw [← hL]; exact h.take 100 n hn)
  have hn100 : n ≤ 100 := by omega
  have hpr := fun v W hr hE => print_any L v W (by omega) (fun i hi => by have := HT.out i hi; omega) hr hE
  obtain ⟨n0, hn0⟩ : ∃ n0, L0.length = n0 := ⟨_, rfl⟩
  have HN0 := Lib.hid hn0
  have hmi : min (n0 : Int) 100 = (n : Int) := by omega
  have hnn : n ≤ n0 := by omega
  obtain ⟨rm, hrm⟩ : ∃ rm, rem.take 10 = rm := ⟨_, rfl⟩
  have hrl : rm.length ≤ 10 := by rw [← hrm, List.length_take]; omega
  have hcut : ∀ w, (Instr.slice 9 (.string (bs rem)) none (some (.int .i64 (min (rem.length : Int) 10))) none).run Tryd.prog w = .ok (.string (bs rm)) w := fun w => by
    have := run_slice_hi (P := Tryd.prog) w 9 rem .i64 (min rem.length 10) Tryd.underlying9 (Nat.min_le_left _ _)
    rw [show ((min rem.length 10 : Nat) : Int) = min (rem.length : Int) 10 by omega, Nat.min_comm, ← List.take_eq_take_min, hrm] at this
    exact this
  have hrs := bs_size rem
  have HZ := Lib.hid hz
  obtain ⟨az, pz, rfl, -, -, -⟩ := hz
  obtain ⟨nz, hnz⟩ : ∃ nz, zs.length = nz := ⟨_, rfl⟩
  rw [hnz] at HZ ⊢
  clear hnz
  clear hn hL hLn hft hn0 hrm
  have hB2 : Below w.heap.size w ((w.alloc (.cells #[.slice az nz pz] 38)).alloc (.cells #[.string (bs rem)] 9)) := ((Below.refl _ w).alloc (Nat.le_refl _) _).alloc (by simp) _
  by_cases hok : allRight L = true ∧ (printN L).length ≤ 4000
  · obtain ⟨hall, hlen⟩ := hok
    unfold printOut at hpr
    rw [print_ok hall hlen] at hpr
    dsimp only at hpr
    have hright := (allRight_iff L).1 hall
    have HRT := Lib.hid hright
    have HRB := Lib.hid ((allRight_nth L).1 hall)
    clear hall hlen hright
    generalize printN L = S0 at hpr
    go_enter Tryd.func6, Tryd.ntmps6
    go_wp2_with fail
    refine (hfew _ hB2).mono ?_
    rintro e w2 ⟨vr, rfl, hrow, b2⟩
    have hb := hB2.trans (b2.mono hB2.size)
    obtain ⟨a1, p1, rfl, hlc, hcm, hc1⟩ := hrow.reads
    have hrd : Reads w2 (.slice a1 L0.length p1) L0 := ⟨a1, p1, rfl, hlc, hcm, hc1⟩
    have hrd2 := HTK.out _ _ _ hrd
    have hH0 := (Has.new w [.slice az nz pz] 38).alloc (.cells #[.string (bs rem)] 9)
    have hH1 := Has.new (w.alloc (.cells #[.slice az nz pz] 38)) [.string (bs rem)] 9
    rw [show (w.alloc (.cells #[.slice az nz pz] 38)).heap.size = w.heap.size + 1 by simp] at hH1
    have hK0 := hH0.call b2
    have hK1 := hH1.call b2
    have hE2 := hE.below hb
    rw [HN0.out] at hlc ⊢
    unfold maxLen at hcm
    clear hrow hfew hc1 hrd b2 hB2 hH0 hH1
    go_wp2_with fail
    refine (hpr _ _ hrd2 hE2).mono ?_
    rintro e w3 ⟨rfl, h3⟩
    have b3 := hb.trans (h3.mono hb.size)
    have hE3 := hE.below b3
    have hM0 := hK0.call h3
    have hM1 := hK1.call h3
    have hrd3 := hrd2.below h3
    clear hpr hrd2 hE2 h3 hK0 hK1 hb
    have f0 := hM1.frozen 0
    have c0 := hM1.cell 0
    simp only [List.getElem?_cons_zero] at c0
    have hF : Fx w w.heap.size (w.heap.size + 1) (.slice az nz pz) (.slice a1 n p1) rm L (w3.setCell ⟨w.heap.size + 1, 0, none⟩ (.string (bs rm))) :=
      ⟨b3.setCell (by show w.heap.size ≤ w.heap.size + 1; omega) _, by simpa [World.setCell] using hM0.lt, by simpa [World.setCell] using hM1.lt,
        (cell_of (Below.heap_setCell _ _ _ _ (by show w.heap.size ≠ w.heap.size + 1; omega)) 0).trans (hM0.cell 0), (hM1.set 0 _).cell 0, hrd3.other hM1 _⟩
    clear hrd3 hE3 b3 hM0 hM1
    go_wp2
    go_loopw [9] (BRel1 w w.heap.size (w.heap.size + 1) (.slice az nz pz) (.slice a1 n p1) rm L) (fun i _ => rm.length - (intOf i).toNat)
    case atStart => exact ⟨0, Nat.zero_le _, rfl, fun j hj => absurd hj (Nat.not_lt_zero _), hF⟩
    case round =>
      obtain ⟨k, hk, rfl, hnb, hX⟩ := hrel
      have HNB := Lib.hid hnb
      have hcr := hX.cr
      have hszr := bs_size rm
      clear hF f0 c0 hnb hcut
      by_cases hl : k < rm.length
      · have hi : ∀ w, (Instr.index 9 (.string (bs rm)) (.int .i64 (k : Int))).run Tryd.prog w = .ok (.int .u8 (bt rm k : Nat)) w := fun w => run_index_bs w _ rm .i64 k Tryd.underlying9 hl
        by_cases hb10 : bt rm k = 10
        · have c10 : (((bt rm k : Nat) : Int) == 10) = true := by rw [hb10]; rfl
          clear hb10
          generalize bt rm k = y at hi c10
          go_wp2_with fail
          refine (alive_any _ (hE.below hX.below)).mono ?_
          rintro e w6 ⟨rfl, h6⟩
          go_wp2
          go_ret
          exact ⟨rfl, (hX.move h6).below⟩
        · have c10 : (((bt rm k : Nat) : Int) == 10) = false := beq_false_of_ne (by omega)
          have HN2 := Lib.hid (show ∀ j, j < k + 1 → bt rm j ≠ 10 from fun j hj => by
            by_cases c : j = k
            · rw [c]; exact hb10
            · exact HNB.out j (by omega))
          clear hb10
          generalize bt rm k = y at hi c10
          go_wp2
          go_roundw
          case rel => exact ⟨k + 1, hl, by go_num, HN2.out, hX⟩
          case measure => simp [intOf]; omega
      · obtain rfl : k = rm.length := by omega
        have hne := noEnd HNB.out
        have hsk := sepN_skips zs rm hne
        have hsh := sepN_head zs rm
        have hsl : ∀ i, (sepN zs rm i).length ≤ 18 := fun i => by have := sepN_len zs rm i; omega
        have hml := mixT_len (sepN zs rm) L 18 hsl HRT.out
        obtain ⟨ts, hsa, hts⟩ := scan_mixT (sepN zs rm) L hsk hsh HRT.out (by have := hml L.length (Nat.le_refl _); rw [HLN.out] at this ⊢; omega)
        have hm0 := mixT_zero (sepN zs rm) L
        have hms := mixT_succ (sepN zs rm) L
        have hsep := fun i W (hi : i ≤ 100000) (hW : Fx w w.heap.size (w.heap.size + 1) (.slice az nz pz) (.slice a1 n p1) rm L W) => sep_any (.slice az nz pz) zs rm w.heap.size (w.heap.size + 1) i W hi (by omega) (HZ.out.below hW.below) hW.cz hW.cr
        clear hne hsk hsh HNB
        generalize sepN zs rm = sep at hsl hml hsa hm0 hms hsep
        rw [HLN.out] at hml hsa hms
        have HSL := Lib.hid hsl
        have HML := Lib.hid hml
        have HMS := Lib.hid hms
        have hsc := fun W hE => scan_ans (mixT sep L n) W hE
        unfold Ans at hsc
        rw [hsa] at hsc
        dsimp only at hsc
        have hs0 := hsep 0 wr (by omega) hX
        rw [← hm0] at hs0
        clear hsl hml hsa hms hm0
        have hls := HML.out n (Nat.le_refl _)
        go_wp2_with fail
        refine hs0.mono ?_
        rintro e w2 ⟨rfl, h2⟩
        have hX2 := hX.move h2
        clear hs0 hX h2 hcr hk hl
        go_wp2
        go_loopw [11, 59] (BRel2 w w.heap.size (w.heap.size + 1) (.slice az nz pz) (.slice a1 n p1) rm L (mixT sep L) n) (fun _ i _ => n - (intOf i).toNat)
        case atStart => exact ⟨0, Nat.zero_le _, rfl, rfl, hX2⟩
        case round =>
          obtain ⟨k, hk, rfl, rfl, hY⟩ := hrel
          clear hX2
          by_cases hlk : k < n
          · obtain ⟨b1, o1, rfl, hlt1, hd1⟩ := hY.rd.tok k hlk
            obtain ⟨x0, x1, x2, x3⟩ := hd1
            have htl := HT.out k (by rw [HLN.out]; exact hlk)
            have hrt := HRB.out k (by rw [HLN.out]; exact hlk)
            have hms := HMS.out k hlk
            have hml := HML.out k hk
            have hsl := HSL.out (k + 1)
            generalize nth L k = t at x0 x1 x2 x3 htl hrt hms
            have hbl := bytes_le (t.right_iff.1 hrt)
            have hone := fun v W hr hE => print_any [t] v W (by simp) (fun i hi => by
              obtain rfl : i = 0 := by simpa using hi
              show t.text.length ≤ 100000
              omega) hr hE
            unfold printOut at hone
            rw [one_print t hrt] at hone
            dsimp only at hone
            generalize t.bytes = T at hone hms hbl
            obtain ⟨tk, tt, tn, tp⟩ := t
            dsimp only at x0 x1 x2 x3 htl
            have HO := Lib.hid hone
            clear hrt hone
            go_wp2_with fail
            have hbX := ((Below.refl wr.heap.size wr).alloc (Nat.le_refl _) (.cells #[.int .i64 tk, .string (bs tt), .int .i64 tn, .int .i64 tp] 30)).alloc (by simp) (.cells #[.int .i64 tk, .string (bs tt), .int .i64 tn, .int .i64 tp] 30)
            refine (HO.out _ _ (Reads.one _ tk tn tp tt _ (by simp)) (hE.below (hY.move hbX).below)).mono ?_
            rintro e w4 ⟨rfl, h4⟩
            have hY4 := hY.move (hbX.trans (h4.mono (by simp; omega)))
            have hs1 := hsep (k + 1) w4 (by omega) hY4
            rw [show (((k + 1 : Nat)) : Int) = (k : Int) + 1 by omega] at hs1
            clear HO h4 hbX hY x0 x1 x2 x3 hlt1
            have hadd1 : ∀ W, (Op.stringOp .add (bs T) (bs (sep (k + 1)))).run Tryd.prog W = .ok (.string (bs (T ++ sep (k + 1)))) W := fun W => run_add_bs W _ _ (by omega)
            have hmk : k * (12 + 18) ≤ 100 * 30 := Nat.mul_le_mul (by omega) (by omega)
            have hadd2 : ∀ W, (Op.stringOp .add (bs (mixT sep L k)) (bs (T ++ sep (k + 1)))).run Tryd.prog W = .ok (.string (bs (mixT sep L (k + 1)))) W := fun W => by rw [run_add_bs W _ _ (by rw [List.length_append]; omega), hms]
            clear hms hml hsl hmk htl hbl
            generalize mixT sep L k = P0 at hadd2
            generalize sep (k + 1) = S1 at hs1 hadd1 hadd2
            generalize T ++ S1 = R at hadd1 hadd2
            obtain ⟨Q, hQ⟩ : ∃ Q, mixT sep L (k + 1) = Q := ⟨_, rfl⟩
            rw [hQ] at hadd2
            have HQ := Lib.hid hQ
            clear hQ
            go_wp2_with fail
            refine hs1.mono ?_
            rintro e w5 ⟨rfl, h5⟩
            have hY5 := hY4.move h5
            clear hs1 h5 hY4
            go_wp2_with fail
            go_roundw
            case rel => exact ⟨k + 1, hlk, by go_num, by rw [HQ.out], hY5⟩
            case measure => simp [intOf]; omega
          · obtain rfl : k = n := by omega
            have hs4 : (mixT sep L k).length ≤ 4000 := by omega
            have hsz := bs_size (mixT sep L k)
            have hlk2 := fun va vb W h1 h2 => like_any ts L va vb W (by rw [HLN.out]; omega) hts h1 h2
            clear hts hls hlk hsep HML HMS HSL hk hmi hnn hlc hcm HT HRB HRT
            generalize mixT sep L k = X at hs4 hsz hsc
            have HLK := Lib.hid hlk2
            clear hlk2
            go_wp2_with fail
            refine (hsc _ (hE.below hY.below)).mono ?_
            rintro e w6 ⟨vb, rfl, hrb, h6⟩
            have hY6 := hY.move h6
            clear hsc hY h6
            go_wp2_with fail
            refine (alive_any _ (hE.below hY6.below)).mono ?_
            rintro e w7 ⟨rfl, h7⟩
            have hY7 := hY6.move h7
            have hrb7 := hrb.below h7
            clear hrb hY6 h7
            go_wp2_with fail
            refine (HLK.out vb _ _ hrb7 hY7.rd).mono ?_
            rintro e w8 ⟨rfl, h8⟩
            go_wp2
            go_ret
            exact ⟨rfl, (hY7.move h8).below⟩
  · obtain ⟨er, her, hans⟩ := print_bad hok
    unfold printOut at hpr
    rw [hans] at hpr
    dsimp only at hpr
    have c1 : (er == 0) = false := beq_false_of_ne her
    have c2 : (er != 0) = true := bne_iff_ne.2 her
    have hq := bs_toList ([] : List UInt8)
    clear hok her hans HT
    go_enter Tryd.func6, Tryd.ntmps6
    go_wp2_with fail
    refine (hfew _ hB2).mono ?_
    rintro e w2 ⟨vr, rfl, hrow, b2⟩
    have hb := hB2.trans (b2.mono hB2.size)
    obtain ⟨a1, p1, rfl, hlc, hcm, hc1⟩ := hrow.reads
    have hrd : Reads w2 (.slice a1 L0.length p1) L0 := ⟨a1, p1, rfl, hlc, hcm, hc1⟩
    have hrd2 := HTK.out _ _ _ hrd
    have hE2 := hE.below hb
    rw [HN0.out] at hlc ⊢
    unfold maxLen at hcm
    clear hrow hfew hc1 hrd b2 hB2
    go_wp2_with fail
    refine (hpr _ _ hrd2 hE2).mono ?_
    rintro e w3 ⟨rfl, h3⟩
    have b3 := hb.trans (h3.mono hb.size)
    have hE3 := hE.below b3
    clear hpr hrd2 hE2 h3
    go_wp2_with fail
    refine (alive_any _ hE3).mono ?_
    rintro e w6 ⟨rfl, h6⟩
    go_wp2
    go_ret
    exact ⟨rfl, b3.trans (h6.mono b3.size)⟩
end Go.Proofs.YticgmbhdcegoeaaDoor
