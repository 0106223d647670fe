/- The reference of stage 13: Class. -/
import Derived.Test.YtcadbenjgpohoaaZonA
import Derived.Test.YtcadbenjgpohoaaHas
namespace Go.Proofs.Ytcadbenjgpohoaa
open Go.RowKit

theorem Has.step {w W w' : World} {b : Nat} {cs : List Value} {T : TypeId} (h : Has w b cs T) (k : Below W.heap.size W w') (e : W.heap = w.heap) : Has w' b cs T :=
  h.of ((k.block b (by rw [e]; exact h.lt)).trans (by rw [e]))
theorem fieldM (D : Bool) (h l : Int) (w : World) : (Instr.field 50 (.agg #[.bool D, .int .u64 h, .int .u64 l]) 1).run Try.prog w = .ok (.agg #[.int .u64 h, .int .u64 l]) w := by kernel_rfl
/-- How many of the first j numbers have a square that, times v, is less than s. -/
def cntK (s v : Nat) : Nat → Nat
  | 0 => 0
  | j + 1 => cntK s v j + (if (j + 1) * (j + 1) * v < s then 1 else 0)
theorem cntK_all (s v : Nat) : cntK s v 3 = cntN s v := by
  unfold cntN
  simp only [cntK, Nat.zero_add]
  rw [show 1 * 1 * v = v by omega, show (1 + 1) * (1 + 1) * v = 4 * v by omega, show (2 + 1) * (2 + 1) * v = 9 * v by omega]
theorem cntK_le (s v : Nat) : ∀ j, cntK s v j ≤ j
  | 0 => Nat.le_refl _
  | j + 1 => by have := cntK_le s v j; unfold cntK; split <;> omega
def ClaRel (s v bs : Nat) (w : World) (nv kv : Value) (wr : World) : Prop :=
  ∃ k : Nat, 1 ≤ k ∧ k ≤ 4 ∧ kv = .int .i64 (k : Nat) ∧ nv = .int .i64 ((1 + cntK s v (k - 1) : Nat) : Int) ∧ Has wr w.heap.size [.int .u64 (hi v : Nat), .int .u64 (lo v : Nat)] 24 ∧ Has wr bs [.int .u64 (hi s : Nat), .int .u64 (lo s : Nat)] 24 ∧ Below w.heap.size w wr
set_option linter.unusedSimpArgs false in
set_option linter.unusedVariables false in
set_option maxHeartbeats 4000000 in
set_option maxRecDepth 100000 in
theorem rclass13_any (d : Int) (v : Nat) (hd : IsInt d) (hv : v < 21267647932558653966460912964485513216) (w : World) :
    Calls Try.prog 15 #[.int .i64 d, .agg #[.int .u64 (hi v : Nat), .int .u64 (lo v : Nat)]] w fun e w' => e = .returned (.int .i64 (clsN d v)) ∧ Below w.heap.size w w' := by
  have hB := (Below.refl w.heap.size w).alloc (Nat.le_refl _) (.cells #[.int .u64 (hi v : Nat), .int .u64 (lo v : Nat)] 24)
  by_cases h0 : d = 0
  · subst h0
    rw [clsN_zero]
    clear hd hv
    go_enter Try.func15, Try.ntmps15
    go_wp2
    go_ret
    exact ⟨rfl, hB⟩
  · have g0 : (d == 0) = false := beq_false_of_ne h0
    have hs : sqN d = (d * d).natAbs := by unfold sqN; rw [Int.natAbs_mul]
    have hpr := fun w => product_any d d hd hd w
    unfold zS at hpr
    rw [← hs] at hpr
    obtain ⟨s, hsq⟩ : ∃ s, sqN d = s := ⟨_, rfl⟩
    rw [hsq] at hpr
    obtain ⟨D, hD⟩ : ∃ D, decide (d * d < 0) = D := ⟨_, rfl⟩
    rw [hD] at hpr
    have hsl : s < M128 := by rw [← hsq]; exact prod_fit hd hd
    obtain ⟨w2, hw2⟩ : ∃ w2, w.alloc (.cells #[.int .u64 (hi v : Nat), .int .u64 (lo v : Nat)] 24) = w2 := ⟨_, rfl⟩
    have HV2 := Lib.hid (show Has w2 w.heap.size [.int .u64 (hi v : Nat), .int .u64 (lo v : Nat)] 24 by rw [← hw2]; exact Has.new w _ _)
    rw [hw2] at hB
    have HB2 := Lib.hid hB
    have HW2 := Lib.hid hw2
    have HPR := Lib.hid hpr
    have hfm := fieldM D (hi s : Nat) (lo s : Nat)
    have HFM := Lib.hid hfm
    have hcls : clsN d v = if d < 0 then -((1 + cntN s v : Nat) : Int) else ((1 + cntN s v : Nat) : Int) := by unfold clsN; rw [if_neg h0, hsq]
    rw [hcls]
    clear hs hsq hD hw2 hB hpr hfm hcls h0
    go_enter Try.func15, Try.ntmps15
    go_upto_region 1 with fail
    rw [HW2.out]
    go_upto_region 4 with fail
    have hfm := HFM.out
    go_wp2_with fail
    refine (HPR.out _).mono ?_
    rintro e w3 ⟨rfl, k3⟩
    have HV3 := Lib.hid (HV2.out.call k3)
    have HB3 := Lib.hid (HB2.out.trans (k3.mono HB2.out.size))
    obtain ⟨w4, hw4⟩ : ∃ w4, w3.alloc (.cells #[.int .u64 (hi s : Nat), .int .u64 (lo s : Nat)] 24) = w4 := ⟨_, rfl⟩
    have k4 : Below w3.heap.size w3 w4 := by rw [← hw4]; exact (Below.refl _ _).alloc (Nat.le_refl _) _
    have HS4 := Lib.hid (show Has w4 w3.heap.size [.int .u64 (hi s : Nat), .int .u64 (lo s : Nat)] 24 by rw [← hw4]; exact Has.new w3 _ _)
    have HST := Lib.hid (show ClaRel s v w3.heap.size w (.int .i64 1) (.int .i64 1) w4 from ⟨1, Nat.le_refl _, by omega, rfl, rfl, HV3.out.call k4, HS4.out, HB3.out.trans (k4.mono HB3.out.size)⟩)
    have hlt3 := HV3.out.lt
    have HW4 := Lib.hid hw4
    clear k3 k4 hw4
    go_upto_region 5 with fail
    rw [HW4.out]
    clear hfm
    go_wp2
    obtain ⟨bs, hbs⟩ : ∃ b, w3.heap.size = b := ⟨_, rfl⟩
    rw [hbs] at HST hlt3 ⊢
    clear hbs
    go_loopw [5, 7] (ClaRel s v bs w) (fun _ i _ => (4 - intOf i).toNat)
    case atStart => exact HST.out
    case round =>
      obtain ⟨k, hk1, hk4, rfl, rfl, hbv, hbS, hb⟩ := hrel
      have HBV := Lib.hid hbv
      have HBS := Lib.hid hbS
      have HB := Lib.hid hb
      have hsz := hb.size
      clear hbv hbS hb
      by_cases hl : k ≤ 3
      · have hk9 : k * k ≤ 9 := Nat.mul_le_mul hl hl
        have hkv : k * k * v ≤ 9 * v := Nat.mul_le_mul_right v hk9
        have hst : cntK s v k = cntK s v (k - 1) + (if k * k * v < s then 1 else 0) := by
          obtain ⟨j, rfl⟩ : ∃ j, k = j + 1 := ⟨k - 1, by omega⟩
          rfl
        obtain ⟨kq, hkq⟩ : ∃ q, k * k = q := ⟨_, rfl⟩
        rw [hkq] at hk9 hkv hst
        have m2 := fun W => ref_times kq v (by unfold M128; omega) (by unfold M128; omega) (by unfold M128; omega) W
        have hcast : (k : Int) * (k : Int) = (kq : Int) := by rw [← hkq, Int.natCast_mul]
        have HCO := Lib.hid (show IntKind.u64.wrap (kq : Int) = (kq : Int) from u64_low _ (by omega) (by omega))
        have hle := fun W => rless_any (kq * v) s W
        have hww : IntKind.u64.wrap (IntKind.i64.wrap ((k : Int) * (k : Int))) = (kq : Int) := by
          rw [wrap_int (z := (k : Int) * (k : Int)) (by rw [hcast]; unfold IsInt; omega), hcast]
          exact HCO.out
        have m1 : ∀ W, Calls Try.prog 26 #[.int .u64 (IntKind.u64.wrap (IntKind.i64.wrap ((k : Int) * (k : Int))))] W fun en w' => en = .returned (.agg #[.int .u64 (hi kq : Nat), .int .u64 (lo kq : Nat)]) ∧ Below W.heap.size W w' := fun W => by
          rw [hww]
          exact ref_of kq (by unfold B64; omega) W
        clear hww
        have hcl := cntK_le s v (k - 1)
        have HSTP := Lib.hid hst
        have HLE := Lib.hid hle
        have g1 : (k : Int) ≤ 3 := by omega
        have hlw : w.heap.size < wr.heap.size := HBV.out.lt
        have hls : bs < wr.heap.size := HBS.out.lt
        have c0 : wr.cell? ⟨w.heap.size, 0, none⟩ = some (.int .u64 (hi v : Nat)) := HBV.out.cell 0
        have c1 : wr.cell? ⟨w.heap.size, 1, none⟩ = some (.int .u64 (lo v : Nat)) := HBV.out.cell 1
        clear hst hle hcast hkv hk9 hkq
        go_upto_region 8 with fail
        go_cut [8] (fun s5 wx => ∃ b, s5 = .pointer (some ⟨b, 0, none⟩) ∧ wr.heap.size ≤ b ∧ Has wx b [.int .u64 (hi (kq * v) : Nat), .int .u64 (lo (kq * v) : Nat)] 24 ∧ Has wx (w.heap.size) [.int .u64 (hi v : Nat), .int .u64 (lo v : Nat)] 24 ∧ Has wx (bs) [.int .u64 (hi s : Nat), .int .u64 (lo s : Nat)] 24 ∧ Below w.heap.size w wx)
        case first =>
          go_region_held3 (fun W => W.cell? ⟨w.heap.size, 0, none⟩ = some (.int .u64 (hi v : Nat)) ∧ W.cell? ⟨w.heap.size, 1, none⟩ = some (.int .u64 (lo v : Nat))) (first | exact ⟨yv20, yv21⟩ | exact ⟨yv10, yv11⟩ | simp [go_sem, *]) (first | (go_at_call 26; refine (m1 _).mono ?_; rintro e wr1 ⟨rfl, kr1⟩; (have HBr1 := Lib.hid (show Below w.heap.size w wr1 by first | exact (HB.out).trans (kr1.mono (by have := HB.out.size; first | omega | (simp; omega) | simp)) | exact (Below.drew (HB.out)).trans (kr1.mono (by have := HB.out.size; first | omega | (simp; omega) | simp)) | exact (Below.drew (Below.drew (HB.out))).trans (kr1.mono (by have := HB.out.size; first | omega | (simp; omega) | simp)) | exact (Below.drew (Below.drew (Below.drew (HB.out)))).trans (kr1.mono (by have := HB.out.size; first | omega | (simp; omega) | simp)) | exact (HB.out.alloc HB.out.size (.cells #[.int .u64 0, .int .u64 0] 24)).trans (kr1.mono (by have := HB.out.size; first | omega | (simp; omega) | simp)) | exact (Below.drew (HB.out.alloc HB.out.size (.cells #[.int .u64 0, .int .u64 0] 24))).trans (kr1.mono (by have := HB.out.size; first | omega | (simp; omega) | simp)) | exact (Below.drew (Below.drew (HB.out.alloc HB.out.size (.cells #[.int .u64 0, .int .u64 0] 24)))).trans (kr1.mono (by have := HB.out.size; first | omega | (simp; omega) | simp)) | exact (Below.drew (Below.drew (Below.drew (HB.out.alloc HB.out.size (.cells #[.int .u64 0, .int .u64 0] 24))))).trans (kr1.mono (by have := HB.out.size; first | omega | (simp; omega) | simp)))); (have Hvr1 := Lib.hid (show Has wr1 (w.heap.size) [.int .u64 (hi v : Nat), .int .u64 (lo v : Nat)] 24 by first | exact HBV.out.step kr1 rfl | exact (HBV.out.alloc (.cells #[.int .u64 0, .int .u64 0] 24)).step kr1 rfl)); (have Hvr1 := Lib.hid (show Has wr1 (w.heap.size) [.int .u64 (hi v : Nat), .int .u64 (lo v : Nat)] 24 by first | exact HBV.out.step kr1 rfl | exact (HBV.out.alloc (.cells #[.int .u64 0, .int .u64 0] 24)).step kr1 rfl)); (have Hsr1 := Lib.hid (show Has wr1 (bs) [.int .u64 (hi s : Nat), .int .u64 (lo s : Nat)] 24 by first | exact HBS.out.step kr1 rfl | exact (HBS.out.alloc (.cells #[.int .u64 0, .int .u64 0] 24)).step kr1 rfl)); (have yv10 : wr1.cell? ⟨w.heap.size, 0, none⟩ = some (.int .u64 (hi v : Nat)) := Hvr1.out.cell 0); (have yv11 : wr1.cell? ⟨w.heap.size, 1, none⟩ = some (.int .u64 (lo v : Nat)) := Hvr1.out.cell 1); (have lv1 : w.heap.size < wr1.heap.size := Hvr1.out.lt); (have lv1 : w.heap.size < wr1.heap.size := Hvr1.out.lt); (have ls1 : bs < wr1.heap.size := Hsr1.out.lt); (try have z1 : Has wr1 wr.heap.size [.int .u64 0, .int .u64 0] 24 := (Has.new wr [.int .u64 0, .int .u64 0] 24).step kr1 rfl)) | (go_at_call 25; refine (m2 _).mono ?_; rintro e wr2 ⟨rfl, kr2⟩; (have HBr2 := Lib.hid (show Below w.heap.size w wr2 by first | exact (HBr1.out).trans (kr2.mono (by have := HBr1.out.size; first | omega | (simp; omega) | simp)) | exact (Below.drew (HBr1.out)).trans (kr2.mono (by have := HBr1.out.size; first | omega | (simp; omega) | simp)) | exact (Below.drew (Below.drew (HBr1.out))).trans (kr2.mono (by have := HBr1.out.size; first | omega | (simp; omega) | simp)) | exact (Below.drew (Below.drew (Below.drew (HBr1.out)))).trans (kr2.mono (by have := HBr1.out.size; first | omega | (simp; omega) | simp)) | exact (HBr1.out.alloc HBr1.out.size (.cells #[.int .u64 0, .int .u64 0] 24)).trans (kr2.mono (by have := HBr1.out.size; first | omega | (simp; omega) | simp)) | exact (Below.drew (HBr1.out.alloc HBr1.out.size (.cells #[.int .u64 0, .int .u64 0] 24))).trans (kr2.mono (by have := HBr1.out.size; first | omega | (simp; omega) | simp)) | exact (Below.drew (Below.drew (HBr1.out.alloc HBr1.out.size (.cells #[.int .u64 0, .int .u64 0] 24)))).trans (kr2.mono (by have := HBr1.out.size; first | omega | (simp; omega) | simp)) | exact (Below.drew (Below.drew (Below.drew (HBr1.out.alloc HBr1.out.size (.cells #[.int .u64 0, .int .u64 0] 24))))).trans (kr2.mono (by have := HBr1.out.size; first | omega | (simp; omega) | simp)))); (have Hvr2 := Lib.hid (show Has wr2 (w.heap.size) [.int .u64 (hi v : Nat), .int .u64 (lo v : Nat)] 24 by first | exact Hvr1.out.step kr2 rfl | exact (Hvr1.out.alloc (.cells #[.int .u64 0, .int .u64 0] 24)).step kr2 rfl)); (have Hvr2 := Lib.hid (show Has wr2 (w.heap.size) [.int .u64 (hi v : Nat), .int .u64 (lo v : Nat)] 24 by first | exact Hvr1.out.step kr2 rfl | exact (Hvr1.out.alloc (.cells #[.int .u64 0, .int .u64 0] 24)).step kr2 rfl)); (have Hsr2 := Lib.hid (show Has wr2 (bs) [.int .u64 (hi s : Nat), .int .u64 (lo s : Nat)] 24 by first | exact Hsr1.out.step kr2 rfl | exact (Hsr1.out.alloc (.cells #[.int .u64 0, .int .u64 0] 24)).step kr2 rfl)); (have yv20 : wr2.cell? ⟨w.heap.size, 0, none⟩ = some (.int .u64 (hi v : Nat)) := Hvr2.out.cell 0); (have yv21 : wr2.cell? ⟨w.heap.size, 1, none⟩ = some (.int .u64 (lo v : Nat)) := Hvr2.out.cell 1); (have lv2 : w.heap.size < wr2.heap.size := Hvr2.out.lt); (have lv2 : w.heap.size < wr2.heap.size := Hvr2.out.lt); (have ls2 : bs < wr2.heap.size := Hsr2.out.lt); (try have z2 : Has wr2 wr1.heap.size [.int .u64 0, .int .u64 0] 24 := (Has.new wr1 [.int .u64 0, .int .u64 0] 24).step kr2 rfl); (try have z1_2 : Has wr2 wr.heap.size [.int .u64 0, .int .u64 0] 24 := z1.step kr2 rfl); (try have zc10 : wr2.cell? ⟨wr.heap.size, 0, none⟩ = some (.int .u64 0) := z1_2.cell 0); (try have zf10 : wr2.frozen? ⟨wr.heap.size, 0, none⟩ = false := z1_2.frozen 0); (try have zc11 : wr2.cell? ⟨wr.heap.size, 1, none⟩ = some (.int .u64 0) := z1_2.cell 1); (try have zf11 : wr2.frozen? ⟨wr.heap.size, 1, none⟩ = false := z1_2.frozen 1); (try have HZ1 := Lib.hid z1_2); (try clear z1_2); (try have zc20 : wr2.cell? ⟨wr1.heap.size, 0, none⟩ = some (.int .u64 0) := z2.cell 0); (try have zf20 : wr2.frozen? ⟨wr1.heap.size, 0, none⟩ = false := z2.frozen 0); (try have zc21 : wr2.cell? ⟨wr1.heap.size, 1, none⟩ = some (.int .u64 0) := z2.cell 1); (try have zf21 : wr2.frozen? ⟨wr1.heap.size, 1, none⟩ = false := z2.frozen 1); (try have HZ2 := Lib.hid z2); (try clear z2)))
          all_goals (go_wp2_with fail; go_meet)
          all_goals (have hsz0 := HB.out.size)
          all_goals (have hsz1 := HBr1.out.size)
          all_goals (have hsz2 := HBr2.out.size)
          all_goals (have hlk1 := kr1.size; try simp at hlk1)
          all_goals (have hlk2 := kr2.size; try simp at hlk2)
          all_goals first
            | exact ⟨_, rfl, by (first | omega | (simp; omega)), Has.new wr2 _ _, (Hvr2.out.alloc _), (Hsr2.out.alloc _), by first | exact HBr2.out.alloc HBr2.out.size (.cells #[.int .u64 (hi (kq * v) : Nat), .int .u64 (lo (kq * v) : Nat)] 24) | exact Below.drew (HBr2.out.alloc HBr2.out.size (.cells #[.int .u64 (hi (kq * v) : Nat), .int .u64 (lo (kq * v) : Nat)] 24)) | exact Below.drew (Below.drew (HBr2.out.alloc HBr2.out.size (.cells #[.int .u64 (hi (kq * v) : Nat), .int .u64 (lo (kq * v) : Nat)] 24))) | exact Below.drew (Below.drew (Below.drew (HBr2.out.alloc HBr2.out.size (.cells #[.int .u64 (hi (kq * v) : Nat), .int .u64 (lo (kq * v) : Nat)] 24))))⟩
            | exact ⟨_, rfl, by omega, ((HZ2.out.set 0 _).set 1 _), ((Hvr2.out.other (p := ⟨wr1.heap.size, 0, none⟩) (by dsimp only; omega) _).other (p := ⟨wr1.heap.size, 1, none⟩) (by dsimp only; omega) _), ((Hsr2.out.other (p := ⟨wr1.heap.size, 0, none⟩) (by dsimp only; omega) _).other (p := ⟨wr1.heap.size, 1, none⟩) (by dsimp only; omega) _), by first | exact (HBr2.out.setCell (p := ⟨wr1.heap.size, 0, none⟩) (by show w.heap.size ≤ wr1.heap.size; omega) (.int .u64 (hi (kq * v) : Nat))).setCell (p := ⟨wr1.heap.size, 1, none⟩) (by show w.heap.size ≤ wr1.heap.size; omega) (.int .u64 (lo (kq * v) : Nat)) | exact Below.drew ((HBr2.out.setCell (p := ⟨wr1.heap.size, 0, none⟩) (by show w.heap.size ≤ wr1.heap.size; omega) (.int .u64 (hi (kq * v) : Nat))).setCell (p := ⟨wr1.heap.size, 1, none⟩) (by show w.heap.size ≤ wr1.heap.size; omega) (.int .u64 (lo (kq * v) : Nat))) | exact Below.drew (Below.drew ((HBr2.out.setCell (p := ⟨wr1.heap.size, 0, none⟩) (by show w.heap.size ≤ wr1.heap.size; omega) (.int .u64 (hi (kq * v) : Nat))).setCell (p := ⟨wr1.heap.size, 1, none⟩) (by show w.heap.size ≤ wr1.heap.size; omega) (.int .u64 (lo (kq * v) : Nat)))) | exact Below.drew (Below.drew (Below.drew ((HBr2.out.setCell (p := ⟨wr1.heap.size, 0, none⟩) (by show w.heap.size ≤ wr1.heap.size; omega) (.int .u64 (hi (kq * v) : Nat))).setCell (p := ⟨wr1.heap.size, 1, none⟩) (by show w.heap.size ≤ wr1.heap.size; omega) (.int .u64 (lo (kq * v) : Nat)))))⟩
            | exact ⟨_, rfl, by omega, ((HZ1.out.set 0 _).set 1 _), ((Hvr2.out.other (p := ⟨wr.heap.size, 0, none⟩) (by dsimp only; omega) _).other (p := ⟨wr.heap.size, 1, none⟩) (by dsimp only; omega) _), ((Hsr2.out.other (p := ⟨wr.heap.size, 0, none⟩) (by dsimp only; omega) _).other (p := ⟨wr.heap.size, 1, none⟩) (by dsimp only; omega) _), by first | exact (HBr2.out.setCell (p := ⟨wr.heap.size, 0, none⟩) (by show w.heap.size ≤ wr.heap.size; omega) (.int .u64 (hi (kq * v) : Nat))).setCell (p := ⟨wr.heap.size, 1, none⟩) (by show w.heap.size ≤ wr.heap.size; omega) (.int .u64 (lo (kq * v) : Nat)) | exact Below.drew ((HBr2.out.setCell (p := ⟨wr.heap.size, 0, none⟩) (by show w.heap.size ≤ wr.heap.size; omega) (.int .u64 (hi (kq * v) : Nat))).setCell (p := ⟨wr.heap.size, 1, none⟩) (by show w.heap.size ≤ wr.heap.size; omega) (.int .u64 (lo (kq * v) : Nat))) | exact Below.drew (Below.drew ((HBr2.out.setCell (p := ⟨wr.heap.size, 0, none⟩) (by show w.heap.size ≤ wr.heap.size; omega) (.int .u64 (hi (kq * v) : Nat))).setCell (p := ⟨wr.heap.size, 1, none⟩) (by show w.heap.size ≤ wr.heap.size; omega) (.int .u64 (lo (kq * v) : Nat)))) | exact Below.drew (Below.drew (Below.drew ((HBr2.out.setCell (p := ⟨wr.heap.size, 0, none⟩) (by show w.heap.size ≤ wr.heap.size; omega) (.int .u64 (hi (kq * v) : Nat))).setCell (p := ⟨wr.heap.size, 1, none⟩) (by show w.heap.size ≤ wr.heap.size; omega) (.int .u64 (lo (kq * v) : Nat)))))⟩
        case rest =>
          obtain ⟨b, rfl, hbb, hH, hbv, hbS, hb⟩ := hcut
          clear c0 c1
          have p0 : wc.cell? ⟨b, 0, none⟩ = some (.int .u64 (hi (kq * v) : Nat)) := hH.cell 0
          have p1 : wc.cell? ⟨b, 1, none⟩ = some (.int .u64 (lo (kq * v) : Nat)) := hH.cell 1
          have pl := hH.lt
          have s0 : wc.cell? ⟨bs, 0, none⟩ = some (.int .u64 (hi s : Nat)) := hbS.cell 0
          have s1 : wc.cell? ⟨bs, 1, none⟩ = some (.int .u64 (lo s : Nat)) := hbS.cell 1
          have sl := hbS.lt
          have HBV5 := Lib.hid hbv
          have HBS5 := Lib.hid hbS
          have HB5 := Lib.hid hb
          clear hH hbv hbS hb
          go_wp2_with fail
          refine (HLE.out _).mono ?_
          rintro e w6 ⟨rfl, k6⟩
          have HBV6 := Lib.hid (HBV5.out.call k6)
          have HBS6 := Lib.hid (HBS5.out.call k6)
          have HB6 := Lib.hid (HB5.out.trans (k6.mono HB5.out.size))
          clear k6 p0 p1 pl s0 s1 sl
          have HQ := Lib.hid (show ∀ u, u = ((1 + cntK s v k : Nat) : Int) → ClaRel s v bs w (.int .i64 u) (.int .i64 ((k : Int) + 1)) w6 from fun u hu => ⟨k + 1, by omega, by omega, by first | rfl | go_num, by rw [hu]; rfl, HBV6.out, HBS6.out, HB6.out⟩)
          by_cases hc : kq * v < s
          · have hu : ((1 + cntK s v (k - 1) : Nat) : Int) + 1 = ((1 + cntK s v k : Nat) : Int) := by rw [HSTP.out, if_pos hc]; omega
            have hww : wrap64 (((1 + cntK s v (k - 1) : Nat) : Int) + 1) = ((1 + cntK s v (k - 1) : Nat) : Int) + 1 := by unfold wrap64; omega
            rw [show ltW (kq * v) s = true from decide_eq_true hc]
            have HU := Lib.hid hu
            have HWW := Lib.hid hww
            clear hc hu hww
            obtain ⟨q, hq⟩ : ∃ q, 1 + cntK s v (k - 1) = q := ⟨_, rfl⟩
            rw [hq] at HU HWW ⊢
            have hww := HWW.out
            go_wp2
            go_roundw
            case rel => exact HQ.out _ (by first | exact HU.out | (rw [hww]; exact HU.out))
            case measure =>
              clear hww
              simp [intOf]; omega
          · have hu : ((1 + cntK s v (k - 1) : Nat) : Int) = ((1 + cntK s v k : Nat) : Int) := by rw [HSTP.out, if_neg hc]; omega
            rw [show ltW (kq * v) s = false from decide_eq_false hc]
            have HU := Lib.hid hu
            clear hc hu
            go_wp2
            go_roundw
            case rel => exact HQ.out _ HU.out
            case measure => simp [intOf]; omega
      · obtain rfl : k = 4 := by omega
        have hall : cntK s v (4 - 1) = cntN s v := cntK_all s v
        rw [hall]
        have hle := cntN_le s v
        obtain ⟨c, hc⟩ : ∃ c, cntN s v = c := ⟨_, rfl⟩
        have HC := Lib.hid hc
        rw [hc] at hle ⊢
        have HWN := Lib.hid (show wrap64 (0 - ((1 + c : Nat) : Int)) = -((1 + c : Nat) : Int) by unfold wrap64; omega)
        have HWN2 := Lib.hid (show wrap64 (-(1 + (c : Int))) = -(1 + (c : Int)) by unfold wrap64; omega)
        clear hc hall hle
        by_cases hneg : d < 0
        · have hw := HWN.out
          have hw2 := HWN2.out
          go_wp2
          go_ret
          exact ⟨by rw [HC.out]; first | rfl | (rw [hw2]; done) | (rw [hw2]; rfl), HB.out⟩
        · go_wp2
          go_ret
          exact ⟨by rw [HC.out]; rfl, HB.out⟩
end Go.Proofs.Ytcadbenjgpohoaa
