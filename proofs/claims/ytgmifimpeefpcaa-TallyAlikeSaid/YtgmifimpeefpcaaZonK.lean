/- zone.class, zone.Class. -/
import Derived.Test.YtgmifimpeefpcaaZonJ
namespace Go.Proofs.Ytgmifimpeefpcaa
open Go.RowKit

def ClsK (s v bs bf : Nat) (w : World) (iv : Value) (wr : World) : Prop :=
  ∃ j : Nat, j ≤ 3 ∧ iv = .int .u64 (j : Nat) ∧ Has wr w.heap.size [.int .u64 (hi v : Nat), .int .u64 (lo v : Nat)] 36 ∧ Has wr bs [.int .u64 (hi s : Nat), .int .u64 (lo s : Nat)] 36 ∧ Has wr bf [.int .i64 (1 + cntK s v j : Nat)] 3 ∧ Below w.heap.size w wr
set_option linter.unusedVariables false in
set_option linter.unusedSimpArgs false in
set_option maxHeartbeats 4000000 in
set_option maxRecDepth 100000 in
theorem cls_core (d : Int) (h0 : d ≠ 0) (z s v R : Nat) (w : World)
    (mz : ∀ W, Calls Try.prog 30 #[.int .i64 d] W fun e w' => e = .returned (.int .u64 (z : Nat)) ∧ w' = W)
    (mm : ∀ W, Calls Try.prog 29 #[.int .u64 (z : Nat), .int .u64 (z : Nat)] W fun e w' => e = .returned (.agg #[.int .u64 (hi s : Nat), .int .u64 (lo s : Nat)]) ∧ W.alloc (.cells #[.int .u64 (hi s : Nat), .int .u64 (lo s : Nat)] 36) = w')
    (hs : s < M128) (hv : v < 21267647932558653966460912964485513216) (hR : 1 + cntK s v 3 = R) (hR4 : R ≤ 4) :
    Calls Try.prog 25 #[.int .i64 d, .agg #[.int .u64 (hi v : Nat), .int .u64 (lo v : Nat)]] w fun e w' => e = .returned (.int .i64 (if d < 0 then -((R : Nat) : Int) else (R : Nat))) ∧ Below w.heap.size w w' := by
  have g0 : (d == 0) = false := beq_false_of_ne h0
  have MZ := Lib.hid mz; have MM := Lib.hid mm; have HR := Lib.hid hR
  have HSM := Lib.hid hs; have HVM := Lib.hid hv
  have hle := fun j => cntK_le s v j
  have HLE := Lib.hid hle
  obtain ⟨w2, hw2⟩ : ∃ w2, w.alloc (.cells #[.int .u64 (hi v : Nat), .int .u64 (lo v : Nat)] 36) = w2 := ⟨_, rfl⟩
  have HB2 := Lib.hid (show Below w.heap.size w w2 by rw [← hw2]; exact (Below.refl _ _).alloc (Nat.le_refl _) _)
  have HV2 := Lib.hid (show Has w2 w.heap.size [.int .u64 (hi v : Nat), .int .u64 (lo v : Nat)] 36 by rw [← hw2]; exact Has.new w _ _)
  have HW2 := Lib.hid hw2
  clear mz mm hw2 hR hs hv hle h0
  go_enter Try.func25, Try.ntmps25
  go_upto_region 1 with fail
  rw [HW2.out]
  go_wp2_with fail
  refine (MZ.out _).mono ?_
  rintro e w3 ⟨rfl, rfl⟩
  go_wp2_with fail
  refine (MZ.out _).mono ?_
  rintro e w4 ⟨rfl, rfl⟩
  go_wp2_with fail
  refine (MM.out _).mono ?_
  rintro e w5 ⟨rfl, h5⟩
  have k5 : Below w4.heap.size w4 w5 := by rw [← h5]; exact (Below.refl _ _).alloc (Nat.le_refl _) _
  have HV5 := Lib.hid (HV2.out.call k5)
  have HB5 := Lib.hid (HB2.out.trans (k5.mono HB2.out.size))
  clear h5 k5
  obtain ⟨w6, hw6⟩ : ∃ w6, w5.alloc (.cells #[.int .u64 (hi s : Nat), .int .u64 (lo s : Nat)] 36) = w6 := ⟨_, rfl⟩
  have k6 : Below w5.heap.size w5 w6 := by rw [← hw6]; exact (Below.refl _ _).alloc (Nat.le_refl _) _
  have HV6 := Lib.hid (HV5.out.call k6)
  have HB6 := Lib.hid (HB5.out.trans (k6.mono HB5.out.size))
  have HS6 := Lib.hid (show Has w6 w5.heap.size [.int .u64 (hi s : Nat), .int .u64 (lo s : Nat)] 36 by rw [← hw6]; exact Has.new _ _ _)
  have HW6 := Lib.hid hw6
  clear hw6 k6
  go_upto_region 4 with fail
  rw [HW6.out]
  obtain ⟨bs, hbs⟩ : ∃ b, w5.heap.size = b := ⟨_, rfl⟩
  have hlb : w.heap.size < bs := by rw [← hbs]; exact HV5.out.lt
  rw [hbs] at HS6 ⊢
  clear hbs
  obtain ⟨w7, hw7⟩ : ∃ w7, w6.alloc (.cells #[.int .i64 1] 3) = w7 := ⟨_, rfl⟩
  have k7 : Below w6.heap.size w6 w7 := by rw [← hw7]; exact (Below.refl _ _).alloc (Nat.le_refl _) _
  have HV7 := HV6.out.call k7
  have HB7 := HB6.out.trans (k7.mono HB6.out.size)
  have HS7 := HS6.out.call k7
  have HF7 : Has w7 w6.heap.size [.int .i64 (1 : Nat)] 3 := by rw [← hw7]; exact Has.new _ _ _
  have hlf : bs < w6.heap.size := HS6.out.lt
  obtain ⟨bf, hbf⟩ : ∃ b, w6.heap.size = b := ⟨_, rfl⟩
  rw [hbf] at HF7 hlf
  have HST := Lib.hid (show ClsK s v bs bf w (.int .u64 0) w7 from ⟨0, by omega, rfl, HV7, HS7, HF7, HB7⟩)
  have HW7 := Lib.hid hw7
  have HBF := Lib.hid hbf
  clear hw7 k7 HV7 HB7 HS7 HF7 hbf
  go_upto_region 5 with fail
  rw [HW7.out, HBF.out]
  go_wp2
  go_loopw [17] (ClsK s v bs bf w) (fun i _ => (3 - intOf i).toNat)
  case atStart => exact HST.out
  case round =>
    obtain ⟨j, hj, rfl, h1, h2, h3, hb⟩ := hrel
    have H1 := Lib.hid h1; have H2 := Lib.hid h2; have H3 := Lib.hid h3; have HB := Lib.hid hb
    clear h1 h2 h3 hb
    by_cases hl : j < 3
    · have g1 : (j : Int) < 3 := by omega
      have hcl := count_any (j + 1) w.heap.size bs bf (1 + cntK s v j) v s wr (by omega) HVM.out HSM.out (by have := HLE.out j; omega) H1.out H2.out H3.out
      rw [Nat.add_assoc] at hcl
      have HC := Lib.hid hcl
      clear hcl
      go_wp2_with fail
      refine HC.out.mono ?_
      rintro e w8 ⟨⟨r, rfl⟩, h3, hk⟩
      have HQ := Lib.hid (show ClsK s v bs bf w (.int .u64 ((j : Int) + 1)) w8 from ⟨j + 1, by omega, by first | rfl | go_num, hk.has H1.out H1.out.lt (by omega), hk.has H2.out H2.out.lt (by omega), h3, HB.out.trans ((hk.mono HB.out.size).toBelow (by omega))⟩)
      clear h3 hk
      go_wp2
      go_roundw
      case rel => exact HQ.out
      case measure => simp [intOf]; omega
    · obtain rfl : j = 3 := by omega
      have h3 := H3.out
      rw [HR.out] at h3
      have f0 : wr.cell? ⟨bf, 0, none⟩ = some (.int .i64 (R : Nat)) := h3.cell 0
      have fl := h3.lt
      have HWN := Lib.hid (show wrap64 (0 - ((R : Nat) : Int)) = -((R : Nat) : Int) by unfold wrap64; omega)
      have HWN2 := Lib.hid (show wrap64 (-(R : Int)) = -(R : Int) by unfold wrap64; omega)
      clear h3
      by_cases hneg : d < 0
      · have hw := HWN.out
        have hw2 := HWN2.out
        go_wp2
        go_ret
        exact ⟨by first | rfl | (rw [if_pos hneg]; first | rfl | (rw [hw2]; done)), HB.out⟩
      · go_wp2
        go_ret
        exact ⟨by first | rfl | (rw [if_neg hneg]; rfl), HB.out⟩
end Go.Proofs.Ytgmifimpeefpcaa
