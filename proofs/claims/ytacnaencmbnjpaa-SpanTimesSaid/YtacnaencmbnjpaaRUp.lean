/- datumref03.Up: as the numbers say; nothing that was in memory before is changed. -/
import Derived.Test.YtacnaencmbnjpaaBoxes
import Derived.Test.YtacnaencmbnjpaaRootUp
import Derived.Test.YtacnaencmbnjpaaShl
import Derived.Test.YtacnaencmbnjpaaOf
import Derived.Test.YtacnaencmbnjpaaRTimes
import Derived.Test.YtacnaencmbnjpaaRLess
import Derived.Test.YtacnaencmbnjpaaRAdd
import Derived.Test.YtacnaencmbnjpaaReg2
/- datumref03.Root, bit by bit, Square and Up: as the numbers say; nothing that was in memory before is changed. -/
namespace Go.Proofs.Ytacnaencmbnjpaa
open Go.RowKit

theorem rtimes_sq (x : Nat) (hx : x < B64) (w : World) :
    Calls Try.prog 65 #[.agg #[.int .u64 0, .int .u64 (x : Nat)], .agg #[.int .u64 0, .int .u64 (x : Nat)]] w fun e w' => e = .returned (.tuple #[.agg #[.int .u64 (hi (x * x) : Nat), .int .u64 (lo (x * x) : Nat)], .bool false]) ∧ Below w.heap.size w w' := by
  have hx' : x < M128 := Nat.lt_trans hx (by decide)
  have h := rtimes_any x x hx' hx' w
  rw [hi_low x hx, lo_low x hx, mulW_fit _ _ (sq_fit hx), mulO_fit _ _ (sq_fit hx)] at h
  exact h
/-- What is kept through the rounds: r lies within the next 2^k numbers. -/
structure Within (r k x : Nat) : Prop where
  le : x ≤ r
  lt : r < x + 2 ^ k
  fit : x + 2 ^ k ≤ B64
theorem Within.start {r : Nat} (h : r < B64) : Within r 64 0 := by
  have e := B64_pow
  refine ⟨Nat.zero_le _, ?_, ?_⟩
  · rw [← e]; omega
  · rw [← e]; omega
theorem Within.last {r x : Nat} (h : Within r 0 x) : x = r := by have := h.le; have := h.lt; rw [Nat.pow_zero] at this; omega
theorem Within.next {r j x : Nat} (h : Within r (j + 1) x) : x + 2 ^ j < B64 ∧ (x + 2 ^ j ≤ r → Within r j (x + 2 ^ j)) ∧ (r < x + 2 ^ j → Within r j x) := by
  obtain ⟨h1, h2, h3⟩ := h
  have e : 2 ^ (j + 1) = 2 ^ j + 2 ^ j := by rw [Nat.pow_succ]; omega
  have p : 0 < 2 ^ j := Nat.pow_pos (by omega)
  rw [e] at h2 h3
  generalize hP : 2 ^ j = P at *
  exact ⟨by omega, fun c => ⟨c, by rw [hP]; omega, by rw [hP]; omega⟩, fun c => ⟨h1, by rw [hP]; omega, by rw [hP]; omega⟩⟩

set_option maxHeartbeats 1000000 in
theorem rroot_num (a r : Nat) (ha : a < M128) (hr : IsRoot a r) (w : World) :
    Calls Try.prog 43 #[.agg #[.int .u64 (hi a : Nat), .int .u64 (lo a : Nat)]] w fun e w' => e = .returned (.int .u64 (r : Nat)) ∧ Below w.heap.size w w' := by
  have hf := hr.fit ha
  have HR := Lib.hid hr; have HF := Lib.hid hf; clear hr hf
  go_enter Try.func43, Try.ntmps43
  go_wp2_with fail
  go_loopw [3, 4] (fun v i wr => ∃ (k x : Nat) (c : Int), v = .int .u64 (x : Nat) ∧ i = .int .i64 c ∧ Hid (c = (k : Int) - 1) ∧ k ≤ 64 ∧ Hid (Within r k x) ∧ Hid (Box wr w.heap.size a) ∧ Hid (Below w.heap.size w wr)) (fun _ i _ => (intOf i + 1).toNat)
  case atStart => exact ⟨64, 0, 63, rfl, rfl, Lib.hid (by omega), by omega, Lib.hid (Within.start HF.out), Lib.hid (Box.new _ _ _), Lib.hid ((Below.refl _ _).alloc (Nat.le_refl _) _)⟩
  case round =>
    obtain ⟨k, x, c, rfl, rfl, hc, hk, WI, BX, BR⟩ := hrel
    by_cases h0 : k = 0
    · subst h0
      obtain rfl : c = -1 := by have := hc.out; omega
      obtain rfl : x = r := WI.out.last
      clear hc
      go_wp2_with fail
      go_ret
      exact ⟨rfl, BR.out⟩
    · obtain ⟨j, rfl⟩ : ∃ j, k = j + 1 := ⟨k - 1, by omega⟩
      obtain rfl : c = (j : Int) := by have := hc.out; omega
      clear hc h0
      obtain ⟨hX, n1, n2⟩ := WI.out.next
      have s1 := shl1 j (by omega)
      have s2 := wrap_add x (2 ^ j) hX
      have hT := rtimes_sq (x + 2 ^ j) hX
      have hL := rless_any a ((x + 2 ^ j) * (x + 2 ^ j))
      have hbe : (x + 2 ^ j) * (x + 2 ^ j) ≤ a → x + 2 ^ j ≤ r := HR.out.not_beyond
      have hab : a < (x + 2 ^ j) * (x + 2 ^ j) → r < x + 2 ^ j := HR.out.beyond
      obtain ⟨p, hp⟩ : ∃ p : Nat, 2 ^ j = p := ⟨_, rfl⟩
      rw [hp] at s1 s2 hT hL hX n1 n2 hbe hab
      clear hp
      obtain ⟨X, hXX⟩ : ∃ X, x + p = X := ⟨_, rfl⟩
      rw [hXX] at s2 hT hL hX n1 n2 hbe hab
      clear hXX
      obtain ⟨P, hP⟩ : ∃ P, X * X = P := ⟨_, rfl⟩
      rw [hP] at hT hL hbe hab
      clear hP
      have HT := Lib.hid hT; clear hT WI
      have j0 : (0 : Int) ≤ (j : Int) := by omega
      have j1 : j ≤ 63 := by omega
      go_wp2_with fail
      refine (of_any _ _).mono ?_
      rintro e w1 ⟨rfl, hb1⟩
      have BX1 := Lib.hid (BX.out.call hb1)
      have BR1 := Lib.hid (BR.out.trans (hb1.mono BR.out.size))
      clear hb1 BX BR
      go_wp2_with fail
      refine (of_any _ _).mono ?_
      rintro e w2 ⟨rfl, hb2⟩
      have BX2 := Lib.hid (BX1.out.call hb2)
      have BR2 := Lib.hid (BR1.out.trans (hb2.mono BR1.out.size))
      clear hb2 BX1 BR1
      go_wp2_with fail
      refine (HT.out _).mono ?_
      rintro e w3 ⟨rfl, hb3⟩
      have bX3 := (BX2.out.call hb3).alloc (.cells #[.int .u64 (hi P : Nat), .int .u64 (lo P : Nat)] 55)
      have hR3 := BR2.out.trans (hb3.mono BR2.out.size)
      have BR3 := Lib.hid (hR3.alloc hR3.size (.cells #[.int .u64 (hi P : Nat), .int .u64 (lo P : Nat)] 55))
      have BX3 := Lib.hid bX3
      have s3 := hR3.size
      have a0 := (BX2.out.call hb3).c0; have a1 := (BX2.out.call hb3).c1
      have z3 := (BX2.out.call hb3).lt
      clear hb3 BX2 BR2 hR3 bX3
      by_cases hq : a < P
      · rw [show ltW a P = true from decide_eq_true hq] at hL
        have HL := Lib.hid hL
        have WI := Lib.hid (n2 (hab hq))
        clear hL n1 n2 hbe hab hq
        go_wp2_with fail
        refine (HL.out _).mono ?_
        rintro e w4 ⟨rfl, hb4⟩
        go_wp2_with fail
        go_roundw
        case rel => exact ⟨j, x, _, rfl, rfl, Lib.hid rfl, by omega, WI, Lib.hid (BX3.out.call hb4), Lib.hid (BR3.out.trans (hb4.mono BR3.out.size))⟩
        case measure => simp [intOf]
      · rw [show ltW a P = false from decide_eq_false hq] at hL
        have HL := Lib.hid hL
        have WI := Lib.hid (n1 (hbe (Nat.le_of_not_lt hq)))
        clear hL n1 n2 hbe hab hq
        go_wp2_with fail
        refine (HL.out _).mono ?_
        rintro e w4 ⟨rfl, hb4⟩
        go_wp2_with fail
        go_roundw
        case rel => exact ⟨j, X, _, rfl, rfl, Lib.hid rfl, by omega, WI, Lib.hid (BX3.out.call hb4), Lib.hid (BR3.out.trans (hb4.mono BR3.out.size))⟩
        case measure => simp [intOf]

theorem radd_one (r : Nat) (hf : r < B64) (w : World) :
    Calls Try.prog 68 #[.agg #[.int .u64 0, .int .u64 (r : Nat)], .agg #[.int .u64 0, .int .u64 1]] w fun e w' => e = .returned (.tuple #[.agg #[.int .u64 (hi (r + 1) : Nat), .int .u64 (lo (r + 1) : Nat)], .bool false]) ∧ Below w.heap.size w w' := by
  have hN : r + 1 < M128 := by unfold B64 at hf; unfold M128; omega
  have h := radd_any r 1 (by omega) (by decide) w
  rw [hi_low r hf, lo_low r hf, addW_fit _ _ hN, addO_fit _ _ hN] at h
  exact h

theorem rsquare_core (a r P : Nat) (q : Bool) (w : World)
    (m1 : ∀ w, Calls Try.prog 43 #[.agg #[.int .u64 (hi a : Nat), .int .u64 (lo a : Nat)]] w fun e w' => e = .returned (.int .u64 (r : Nat)) ∧ Below w.heap.size w w')
    (m2 : ∀ w, Calls Try.prog 65 #[.agg #[.int .u64 0, .int .u64 (r : Nat)], .agg #[.int .u64 0, .int .u64 (r : Nat)]] w fun e w' => e = .returned (.tuple #[.agg #[.int .u64 (hi P : Nat), .int .u64 (lo P : Nat)], .bool false]) ∧ Below w.heap.size w w')
    (he : ∀ W, (Op.equalIn 10000 55 (.agg #[.int .u64 (hi P : Nat), .int .u64 (lo P : Nat)]) (.agg #[.int .u64 (hi a : Nat), .int .u64 (lo a : Nat)])).run Try.prog W = .ok q W) :
    Calls Try.prog 67 #[.agg #[.int .u64 (hi a : Nat), .int .u64 (lo a : Nat)]] w fun e w' => e = .returned (.bool q) ∧ Below w.heap.size w w' := by
  have M1 := Lib.hid m1; have M2 := Lib.hid m2; have HE := Lib.hid he
  clear m1 m2 he
  go_enter Try.func67, Try.ntmps67
  go_wp2_with fail
  refine (M1.out _).mono ?_
  rintro e w1 ⟨rfl, hb1⟩
  have bA1 : Box w1 w.heap.size a := (Box.new _ _ _).call hb1
  have hw1 : Below w.heap.size w w1 := ((Below.refl _ _).alloc (Nat.le_refl _) _).trans (hb1.mono (by simp))
  have HW1 := Lib.hid hw1
  clear hb1 hw1
  go_wp2_with fail
  refine (of_any _ _).mono ?_
  rintro e w2 ⟨rfl, hb2⟩
  have bA2 := bA1.call hb2
  have HW2 := Lib.hid (HW1.out.trans (hb2.mono HW1.out.size))
  clear hb2 bA1 HW1
  go_wp2_with fail
  refine (M2.out _).mono ?_
  rintro e w3 ⟨rfl, hb3⟩
  have bA3 := (bA2.alloc (.cells #[.int .u64 0, .int .u64 (r : Nat)] 55)).call hb3
  have hw3 : Below w.heap.size w w3 := (HW2.out.alloc HW2.out.size _).trans (hb3.mono (by have := HW2.out.size; simp; omega))
  have HW3 := Lib.hid hw3
  have a0 := bA3.c0; have a1 := bA3.c1; have z3 := bA3.lt
  clear hb3 hw3 bA2 HW2
  have he := HE.out
  go_wp2_with fail
  go_ret
  exact ⟨rfl, HW3.out.alloc HW3.out.size _⟩
theorem rsquare_num (a r : Nat) (ha : a < M128) (hr : IsRoot a r) (w : World) :
    Calls Try.prog 67 #[.agg #[.int .u64 (hi a : Nat), .int .u64 (lo a : Nat)]] w fun e w' => e = .returned (.bool (decide (r * r = a))) ∧ Below w.heap.size w w' :=
  rsquare_core a r _ _ w (rroot_num a r ha hr) (rtimes_sq r (hr.fit ha)) (eqW _ _)
end Go.Proofs.Ytacnaencmbnjpaa

/- datumref03.Up: as the numbers say; nothing that was in memory before is changed. -/
namespace Go.Proofs.Ytacnaencmbnjpaa
open Go.RowKit

theorem of_num (x : Nat) (hx : x < B64) (w : World) :
    Calls Try.prog 44 #[.int .u64 (x : Nat)] w fun e w' => e = .returned (.agg #[.int .u64 (hi x : Nat), .int .u64 (lo x : Nat)]) ∧ Below w.heap.size w w' := by
  have h := of_any x w
  rw [hi_low x hx, lo_low x hx]
  exact h
theorem of_one (w : World) :
    Calls Try.prog 44 #[.int .u64 1] w fun e w' => e = .returned (.agg #[.int .u64 0, .int .u64 1]) ∧ Below w.heap.size w w' := of_any 1 w

set_option maxHeartbeats 1000000 in
theorem rup_core (a r N U : Nat) (q o : Bool) (w : World)
    (m1 : ∀ w, Calls Try.prog 43 #[.agg #[.int .u64 (hi a : Nat), .int .u64 (lo a : Nat)]] w fun e w' => e = .returned (.int .u64 (r : Nat)) ∧ Below w.heap.size w w')
    (m2 : ∀ w, Calls Try.prog 44 #[.int .u64 (r : Nat)] w fun e w' => e = .returned (.agg #[.int .u64 (hi r : Nat), .int .u64 (lo r : Nat)]) ∧ Below w.heap.size w w')
    (m3 : ∀ w, Calls Try.prog 67 #[.agg #[.int .u64 (hi a : Nat), .int .u64 (lo a : Nat)]] w fun e w' => e = .returned (.bool q) ∧ Below w.heap.size w w')
    (m4 : ∀ w, Calls Try.prog 44 #[.int .u64 1] w fun e w' => e = .returned (.agg #[.int .u64 0, .int .u64 1]) ∧ Below w.heap.size w w')
    (m5 : ∀ w, Calls Try.prog 68 #[.agg #[.int .u64 (hi r : Nat), .int .u64 (lo r : Nat)], .agg #[.int .u64 0, .int .u64 1]] w fun e w' => e = .returned (.tuple #[.agg #[.int .u64 (hi N : Nat), .int .u64 (lo N : Nat)], .bool o]) ∧ Below w.heap.size w w')
    (hU : U = if q = true then r else N) :
    Calls Try.prog 45 #[.agg #[.int .u64 (hi a : Nat), .int .u64 (lo a : Nat)]] w fun e w' => e = .returned (.agg #[.int .u64 (hi U : Nat), .int .u64 (lo U : Nat)]) ∧ Below w.heap.size w w' := by
  have M1 := Lib.hid m1; have M2 := Lib.hid m2; have M3 := Lib.hid m3; have M4 := Lib.hid m4; have M5 := Lib.hid m5; have HU := Lib.hid hU
  clear m1 m2 m3 m4 m5 hU
  go_enter Try.func45, Try.ntmps45
  go_wp2_with fail
  refine (M1.out _).mono ?_
  rintro e w1 ⟨rfl, hb1⟩
  have bA1 : Box w1 w.heap.size a := ((Box.new _ _ _).alloc _).call hb1
  have bR1 : Box w1 (w.heap.size + 1) 0 := (Box.new0At (by simp)).call hb1
  have hw1 : Below w.heap.size w w1 := (((Below.refl _ _).alloc (Nat.le_refl _) _).alloc (by simp) _).trans (hb1.mono (by simp; omega))
  have HW1 := Lib.hid hw1
  clear hb1 hw1
  go_wp2_with fail
  refine (M2.out _).mono ?_
  rintro e w2 ⟨rfl, hb2⟩
  have bA2 := (bA1.call hb2).alloc (.cells #[.int .u64 (hi r : Nat), .int .u64 (lo r : Nat)] 55)
  have bR2 := (bR1.call hb2).alloc (.cells #[.int .u64 (hi r : Nat), .int .u64 (lo r : Nat)] 55)
  have hw2 := HW1.out.trans (hb2.mono HW1.out.size)
  have HW2 := Lib.hid (hw2.alloc hw2.size (.cells #[.int .u64 (hi r : Nat), .int .u64 (lo r : Nat)] 55))
  have a0 := (bA1.call hb2).c0; have a1 := (bA1.call hb2).c1; have z2 := (bA1.call hb2).lt; have zr := (bR1.call hb2).lt
  clear hb2 hw2 bA1 bR1 HW1
  go_wp2_with fail
  refine (M3.out _).mono ?_
  rintro e w3 ⟨rfl, hb3⟩
  have bR3 := bR2.call hb3
  have bX3 : Box w3 w2.heap.size r := (Box.new _ _ _).call hb3
  have HW3 := Lib.hid (HW2.out.trans (hb3.mono HW2.out.size))
  have n0 : w2.heap.size ≠ (w.heap.size + 1) := Ne.symm (Nat.ne_of_lt zr)
  clear hb3 bA2 bR2 HW2 a0 a1
  cases q with
  | true =>
    obtain rfl : U = r := by have := HU.out; simpa using this
    have r0 := bR3.c0; have r1 := bR3.c1; have f0 := bR3.f0; have f1 := bR3.f1
    have x0 := bX3.c0; have x1 := bX3.c1
    go_wp2_with fail
    have u4 := bR3.set U
    have v0 := u4.c0; have v1 := u4.c1
    refine bodyPost_ret (v := .agg #[.int .u64 (hi U : Nat), .int .u64 (lo U : Nat)]) (by simp [results, Try.results45, go_sem, v0, v1]) rfl ⟨rfl, ?_⟩
    exact (HW3.out.setCell (by simp) _).setCell (by simp) _
  | false =>
    obtain rfl : U = N := by have := HU.out; simpa using this
    clear HU
    have hW3 := HW3.out
    go_upto_region 4 with fail
    go_cut [4] (fun s4 wx => ∃ g : Nat, s4 = .pointer (some ⟨g, 0, none⟩) ∧ Box wx (w.heap.size + 1) 0 ∧ Box wx g U ∧ g ≠ (w.heap.size + 1) ∧ Hid (Below w.heap.size w wx))
    case first =>
      have mkS : ∀ w', (Box w' (w.heap.size + 1) 0 ∧ Box w' w2.heap.size r ∧ Below w.heap.size w w') → (fun w' => w'.cell? ⟨w2.heap.size, 0, none⟩ = some (.int .u64 (hi r : Nat)) ∧ w'.cell? ⟨w2.heap.size, 1, none⟩ = some (.int .u64 (lo r : Nat)) ∧ Hid (Box w' (w.heap.size + 1) 0 ∧ Box w' w2.heap.size r ∧ Below w.heap.size w w')) w' := fun w' h => ⟨h.2.1.c0, h.2.1.c1, Lib.hid h⟩
      have MKS := Lib.hid mkS; clear mkS
      refine wp_region_held_drew (S := (fun w' => w'.cell? ⟨w2.heap.size, 0, none⟩ = some (.int .u64 (hi r : Nat)) ∧ w'.cell? ⟨w2.heap.size, 1, none⟩ = some (.int .u64 (lo r : Nat)) ∧ Hid (Box w' (w.heap.size + 1) 0 ∧ Box w' w2.heap.size r ∧ Below w.heap.size w w'))) (by kernel_rfl) (MKS.out _ ⟨bR3.drew, bX3.drew, hW3.drew⟩) (fun hHeld => ?_)
      clear bR3 bX3 hW3 HW3
      refine regTake 0 (some 13) (v := ?_) rfl rfl (by kernel_rfl) (by kernel_rfl) (by kernel_rfl) (fun _ _ _ h => h) (by rfl) hHeld ?_ ?_
      rotate_left 1
      · (intro w hSw; (try dsimp only at hSw); go_simp; try with_reducible rfl)
      simp only [Act.put, List.setIfInBounds_toArray, List.set_cons_zero, List.set_cons_succ]
      refine regTwo 1 6 (by kernel_rfl) ?_ ?_
      · have hK := hHeld.2.2.out
        refine stepCall 1 (some 14) (f := 44) (args := ?_) rfl rfl (by rfl) ?_ ?_
        rotate_left 1
        · (go_simp; try with_reducible rfl)
        clear hHeld
        refine (M4.out _).mono ?_
        rintro e wx1 ⟨rfl, hbx⟩
        refine ⟨_, rfl, MKS.out _ ⟨hK.1.call hbx, hK.2.1.call hbx, hK.2.2.trans (hbx.mono hK.2.2.size)⟩, fun hHeld => ?_⟩
        clear hbx hK
        simp only [Act.put, List.setIfInBounds_toArray, List.set_cons_zero, List.set_cons_succ]
        refine regTwo 2 6 (by kernel_rfl) ?_ ?_
        · have hK := hHeld.2.2.out
          refine stepCall 2 (some 15) (f := 68) (args := ?_) rfl rfl (by rfl) ?_ ?_
          rotate_left 1
          · (go_simp; try with_reducible rfl)
          clear hHeld
          refine (M5.out _).mono ?_
          rintro e wx2 ⟨rfl, hbx⟩
          refine ⟨_, rfl, MKS.out _ ⟨hK.1.call hbx, hK.2.1.call hbx, hK.2.2.trans (hbx.mono hK.2.2.size)⟩, fun hHeld => ?_⟩
          clear hbx hK
          simp only [Act.put, List.setIfInBounds_toArray, List.set_cons_zero, List.set_cons_succ]
          refine regTake 3 (some 12) (v := ?_) rfl rfl (by kernel_rfl) (by kernel_rfl) (by kernel_rfl) (fun _ _ _ h => h) (by rfl) hHeld ?_ ?_
          rotate_left 1
          · (intro w hSw; (try dsimp only at hSw); go_simp; try with_reducible rfl)
          simp only [Act.put, List.setIfInBounds_toArray, List.set_cons_zero, List.set_cons_succ]
          refine regTake 4 (some 16) (v := ?_) rfl rfl (by kernel_rfl) (by kernel_rfl) (by kernel_rfl) (fun _ _ _ h => h) (by rfl) hHeld ?_ ?_
          rotate_left 1
          · (intro w hSw; (try dsimp only at hSw); go_simp; try with_reducible rfl)
          simp only [Act.put, List.setIfInBounds_toArray, List.set_cons_zero, List.set_cons_succ]
          refine regTake 5 (some 17) (v := ?_) rfl rfl (by kernel_rfl) (by kernel_rfl) (by kernel_rfl) (fun _ _ _ h => h) (by rfl) hHeld ?_ ?_
          rotate_left 1
          · (intro w hSw; (try dsimp only at hSw); go_simp; try with_reducible rfl)
          simp only [Act.put, List.setIfInBounds_toArray, List.set_cons_zero, List.set_cons_succ]
          have hK := hHeld.2.2.out
          have nz6_0 : (w.heap.size + 1) ≠ wx2.heap.size := Nat.ne_of_lt hK.1.lt
          have nz6_1 : w2.heap.size ≠ wx2.heap.size := Nat.ne_of_lt hK.2.1.lt
          have lz6 : w.heap.size ≤ wx2.heap.size := hK.2.2.size
          refine regDo 6 (some 4) (v := ?_) (w' := ?_) rfl rfl (by kernel_rfl) (by rfl) ?_ ?_ (fun hHeld => ?_)
          rotate_left 2
          · (go_simp; refine ⟨?_, ?_⟩ <;> with_reducible rfl)
          · exact MKS.out _ ⟨hK.1.alloc _, hK.2.1.alloc _, hK.2.2.alloc hK.2.2.size _⟩
          clear hK
          simp only [Act.put, List.setIfInBounds_toArray, List.set_cons_zero, List.set_cons_succ]
          have own6 : Box (wx2.alloc (.cells #[.int .u64 0, .int .u64 0] 55)) wx2.heap.size 0 := Box.new0At rfl
          have hK := hHeld.2.2.out
          refine regStore 7 (w' := ?_) rfl rfl (by kernel_rfl) (by rfl) ?_ ?_ (fun hHeld => ?_)
          rotate_left 1
          · (go_simp; try with_reducible rfl)
          · exact MKS.out _ ⟨hK.1.swap _ nz6_0, hK.2.1.swap _ nz6_1, Below.swap _ hK.2.2 lz6⟩
          clear hK
          have own6 : Box (wx2.alloc (.cells #[.int .u64 (hi U : Nat), .int .u64 (lo U : Nat)] 55)) wx2.heap.size U := Box.newAt rfl
          refine regTake 8 (some 5) (v := ?_) rfl rfl (by kernel_rfl) (by kernel_rfl) (by kernel_rfl) (fun _ _ _ h => h) (by rfl) hHeld ?_ ?_
          rotate_left 1
          · (intro w hSw; (try dsimp only at hSw); go_simp; try with_reducible rfl)
          simp only [Act.put, List.setIfInBounds_toArray, List.set_cons_zero, List.set_cons_succ]
          refine wpAnyH_done (by kernel_rfl) ?_ _
          have hK := hHeld.2.2.out
          clear hHeld
          go_wp2_with fail
          go_meet
          exact ⟨_, rfl, hK.1, own6, Ne.symm nz6_0, Lib.hid hK.2.2⟩
        · have hK := hHeld.2.2.out
          have nz6_0 : (w.heap.size + 1) ≠ wx1.heap.size := Nat.ne_of_lt hK.1.lt
          have nz6_1 : w2.heap.size ≠ wx1.heap.size := Nat.ne_of_lt hK.2.1.lt
          have lz6 : w.heap.size ≤ wx1.heap.size := hK.2.2.size
          refine stepDo 6 (some 4) (v := ?_) (w' := ?_) rfl rfl (by rfl) ?_ ?_ (fun hHeld => ?_)
          rotate_left 2
          · (go_simp; refine ⟨?_, ?_⟩ <;> with_reducible rfl)
          · exact MKS.out _ ⟨hK.1.alloc _, hK.2.1.alloc _, hK.2.2.alloc hK.2.2.size _⟩
          clear hK
          simp only [Act.put, List.setIfInBounds_toArray, List.set_cons_zero, List.set_cons_succ]
          have own6 : Box (wx1.alloc (.cells #[.int .u64 0, .int .u64 0] 55)) wx1.heap.size 0 := Box.new0At rfl
          have hK := hHeld.2.2.out
          refine regCall 2 (some 15) (f := 68) (args := ?_) rfl rfl (by kernel_rfl) (by rfl) ?_ ?_
          rotate_left 1
          · (go_simp; try with_reducible rfl)
          clear hHeld
          refine (M5.out _).mono ?_
          rintro e wx2 ⟨rfl, hbx⟩
          have own6 := own6.call hbx
          refine ⟨_, rfl, MKS.out _ ⟨hK.1.call hbx, hK.2.1.call hbx, hK.2.2.trans (hbx.mono hK.2.2.size)⟩, fun hHeld => ?_⟩
          clear hbx hK
          simp only [Act.put, List.setIfInBounds_toArray, List.set_cons_zero, List.set_cons_succ]
          refine regTake 3 (some 12) (v := ?_) rfl rfl (by kernel_rfl) (by kernel_rfl) (by kernel_rfl) (fun _ _ _ h => h) (by rfl) hHeld ?_ ?_
          rotate_left 1
          · (intro w hSw; (try dsimp only at hSw); go_simp; try with_reducible rfl)
          simp only [Act.put, List.setIfInBounds_toArray, List.set_cons_zero, List.set_cons_succ]
          refine regTake 4 (some 16) (v := ?_) rfl rfl (by kernel_rfl) (by kernel_rfl) (by kernel_rfl) (fun _ _ _ h => h) (by rfl) hHeld ?_ ?_
          rotate_left 1
          · (intro w hSw; (try dsimp only at hSw); go_simp; try with_reducible rfl)
          simp only [Act.put, List.setIfInBounds_toArray, List.set_cons_zero, List.set_cons_succ]
          refine regTake 5 (some 17) (v := ?_) rfl rfl (by kernel_rfl) (by kernel_rfl) (by kernel_rfl) (fun _ _ _ h => h) (by rfl) hHeld ?_ ?_
          rotate_left 1
          · (intro w hSw; (try dsimp only at hSw); go_simp; try with_reducible rfl)
          simp only [Act.put, List.setIfInBounds_toArray, List.set_cons_zero, List.set_cons_succ]
          have hK := hHeld.2.2.out
          have x0 := own6.c0; have x1 := own6.c1; have x2 := own6.f0; have x3 := own6.f1
          refine regStore 7 (w' := ?_) rfl rfl (by kernel_rfl) (by rfl) ?_ ?_ (fun hHeld => ?_)
          rotate_left 1
          · (go_simp; try with_reducible rfl)
          · exact MKS.out _ ⟨(hK.1.other (p := ⟨wx1.heap.size, 0, none⟩) nz6_0 _).other (p := ⟨wx1.heap.size, 1, none⟩) nz6_0 _, (hK.2.1.other (p := ⟨wx1.heap.size, 0, none⟩) nz6_1 _).other (p := ⟨wx1.heap.size, 1, none⟩) nz6_1 _, (hK.2.2.setCell (p := ⟨wx1.heap.size, 0, none⟩) lz6 _).setCell (p := ⟨wx1.heap.size, 1, none⟩) lz6 _⟩
          clear x0 x1 x2 x3 hK
          have own6 := own6.set U
          refine regTake 8 (some 5) (v := ?_) rfl rfl (by kernel_rfl) (by kernel_rfl) (by kernel_rfl) (fun _ _ _ h => h) (by rfl) hHeld ?_ ?_
          rotate_left 1
          · (intro w hSw; (try dsimp only at hSw); go_simp; try with_reducible rfl)
          simp only [Act.put, List.setIfInBounds_toArray, List.set_cons_zero, List.set_cons_succ]
          refine wpAnyH_done (by kernel_rfl) ?_ _
          have hK := hHeld.2.2.out
          clear hHeld
          go_wp2_with fail
          go_meet
          exact ⟨_, rfl, hK.1, own6, Ne.symm nz6_0, Lib.hid hK.2.2⟩
      · have hK := hHeld.2.2.out
        have nz6_0 : (w.heap.size + 1) ≠ w3.drew.heap.size := Nat.ne_of_lt hK.1.lt
        have nz6_1 : w2.heap.size ≠ w3.drew.heap.size := Nat.ne_of_lt hK.2.1.lt
        have lz6 : w.heap.size ≤ w3.drew.heap.size := hK.2.2.size
        refine stepDo 6 (some 4) (v := ?_) (w' := ?_) rfl rfl (by rfl) ?_ ?_ (fun hHeld => ?_)
        rotate_left 2
        · (go_simp; refine ⟨?_, ?_⟩ <;> with_reducible rfl)
        · exact MKS.out _ ⟨hK.1.alloc _, hK.2.1.alloc _, hK.2.2.alloc hK.2.2.size _⟩
        clear hK
        simp only [Act.put, List.setIfInBounds_toArray, List.set_cons_zero, List.set_cons_succ]
        have own6 : Box (w3.drew.alloc (.cells #[.int .u64 0, .int .u64 0] 55)) w3.heap.size 0 := Box.new0At rfl
        have hK := hHeld.2.2.out
        refine regCall 1 (some 14) (f := 44) (args := ?_) rfl rfl (by kernel_rfl) (by rfl) ?_ ?_
        rotate_left 1
        · (go_simp; try with_reducible rfl)
        clear hHeld
        refine (M4.out _).mono ?_
        rintro e wx1 ⟨rfl, hbx⟩
        have own6 := own6.call hbx
        refine ⟨_, rfl, MKS.out _ ⟨hK.1.call hbx, hK.2.1.call hbx, hK.2.2.trans (hbx.mono hK.2.2.size)⟩, fun hHeld => ?_⟩
        clear hbx hK
        simp only [Act.put, List.setIfInBounds_toArray, List.set_cons_zero, List.set_cons_succ]
        have hK := hHeld.2.2.out
        refine regCall 2 (some 15) (f := 68) (args := ?_) rfl rfl (by kernel_rfl) (by rfl) ?_ ?_
        rotate_left 1
        · (go_simp; try with_reducible rfl)
        clear hHeld
        refine (M5.out _).mono ?_
        rintro e wx2 ⟨rfl, hbx⟩
        have own6 := own6.call hbx
        refine ⟨_, rfl, MKS.out _ ⟨hK.1.call hbx, hK.2.1.call hbx, hK.2.2.trans (hbx.mono hK.2.2.size)⟩, fun hHeld => ?_⟩
        clear hbx hK
        simp only [Act.put, List.setIfInBounds_toArray, List.set_cons_zero, List.set_cons_succ]
        refine regTake 3 (some 12) (v := ?_) rfl rfl (by kernel_rfl) (by kernel_rfl) (by kernel_rfl) (fun _ _ _ h => h) (by rfl) hHeld ?_ ?_
        rotate_left 1
        · (intro w hSw; (try dsimp only at hSw); go_simp; try with_reducible rfl)
        simp only [Act.put, List.setIfInBounds_toArray, List.set_cons_zero, List.set_cons_succ]
        refine regTake 4 (some 16) (v := ?_) rfl rfl (by kernel_rfl) (by kernel_rfl) (by kernel_rfl) (fun _ _ _ h => h) (by rfl) hHeld ?_ ?_
        rotate_left 1
        · (intro w hSw; (try dsimp only at hSw); go_simp; try with_reducible rfl)
        simp only [Act.put, List.setIfInBounds_toArray, List.set_cons_zero, List.set_cons_succ]
        refine regTake 5 (some 17) (v := ?_) rfl rfl (by kernel_rfl) (by kernel_rfl) (by kernel_rfl) (fun _ _ _ h => h) (by rfl) hHeld ?_ ?_
        rotate_left 1
        · (intro w hSw; (try dsimp only at hSw); go_simp; try with_reducible rfl)
        simp only [Act.put, List.setIfInBounds_toArray, List.set_cons_zero, List.set_cons_succ]
        have hK := hHeld.2.2.out
        have x0 := own6.c0; have x1 := own6.c1; have x2 := own6.f0; have x3 := own6.f1
        refine regStore 7 (w' := ?_) rfl rfl (by kernel_rfl) (by rfl) ?_ ?_ (fun hHeld => ?_)
        rotate_left 1
        · (go_simp; try with_reducible rfl)
        · exact MKS.out _ ⟨(hK.1.other (p := ⟨w3.heap.size, 0, none⟩) nz6_0 _).other (p := ⟨w3.heap.size, 1, none⟩) nz6_0 _, (hK.2.1.other (p := ⟨w3.heap.size, 0, none⟩) nz6_1 _).other (p := ⟨w3.heap.size, 1, none⟩) nz6_1 _, (hK.2.2.setCell (p := ⟨w3.heap.size, 0, none⟩) lz6 _).setCell (p := ⟨w3.heap.size, 1, none⟩) lz6 _⟩
        clear x0 x1 x2 x3 hK
        have own6 := own6.set U
        refine regTake 8 (some 5) (v := ?_) rfl rfl (by kernel_rfl) (by kernel_rfl) (by kernel_rfl) (fun _ _ _ h => h) (by rfl) hHeld ?_ ?_
        rotate_left 1
        · (intro w hSw; (try dsimp only at hSw); go_simp; try with_reducible rfl)
        simp only [Act.put, List.setIfInBounds_toArray, List.set_cons_zero, List.set_cons_succ]
        refine wpAnyH_done (by kernel_rfl) ?_ _
        have hK := hHeld.2.2.out
        clear hHeld
        go_wp2_with fail
        go_meet
        exact ⟨_, rfl, hK.1, own6, Ne.symm nz6_0, Lib.hid hK.2.2⟩
    case rest =>
      obtain ⟨g, rfl, bR, bG, ng, HW⟩ := hcut
      clear bR3 bX3 hW3 HW3
      have r0 := bR.c0; have r1 := bR.c1; have f0 := bR.f0; have f1 := bR.f1
      have x0 := bG.c0; have x1 := bG.c1
      go_wp2_with fail
      have u4 := bR.set U
      have v0 := u4.c0; have v1 := u4.c1
      refine bodyPost_ret (v := .agg #[.int .u64 (hi U : Nat), .int .u64 (lo U : Nat)]) (by simp [results, Try.results45, go_sem, v0, v1]) rfl ⟨rfl, ?_⟩
      exact (HW.out.setCell (by simp) _).setCell (by simp) _
theorem rup_num (a r : Nat) (ha : a < M128) (hr : IsRoot a r) (w : World) :
    Calls Try.prog 45 #[.agg #[.int .u64 (hi a : Nat), .int .u64 (lo a : Nat)]] w fun e w' => e = .returned (.agg #[.int .u64 (hi (upOf a r) : Nat), .int .u64 (lo (upOf a r) : Nat)]) ∧ Below w.heap.size w w' := by
  have hf := hr.fit ha
  refine rup_core a r (r + 1) _ _ false w (rroot_num a r ha hr) (of_num r hf) (rsquare_num a r ha hr) of_one ?_ (by simp [upOf])
  intro w
  have h := radd_one r hf w
  rw [hi_low r hf, lo_low r hf]
  exact h
end Go.Proofs.Ytacnaencmbnjpaa
