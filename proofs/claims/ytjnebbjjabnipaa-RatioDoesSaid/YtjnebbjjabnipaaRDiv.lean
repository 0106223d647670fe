/- datumref02.Div, the document's division bit by bit, answers how often b goes into a, and what is left; nothing that was in memory before is changed. -/
import Derived.Test.YtjnebbjjabnipaaBits
import Derived.Test.YtjnebbjjabnipaaDiv
import Derived.Test.YtjnebbjjabnipaaRAdd
import Derived.Test.YtjnebbjjabnipaaRSub
import Derived.Test.YtjnebbjjabnipaaRLess
import Derived.Test.YtjnebbjjabnipaaGen
namespace Go.Proofs.Ytjnebbjjabnipaa
open Go.RowKit

theorem radd_bit (d t : Nat) (hd : d < M128) (ht : t < 2) (w : World) :
    Calls Try.prog 50 #[.agg #[.int .u64 (hi d : Nat), .int .u64 (lo d : Nat)], .agg #[.int .u64 0, .int .u64 (t : Nat)]] w fun e w' => e = .returned (.tuple #[.agg #[.int .u64 (hi (addW d t) : Nat), .int .u64 (lo (addW d t) : Nat)], .bool (addO d t)]) ∧ Below w.heap.size w w' := by
  have h := radd_any d t hd (Nat.lt_trans ht (by decide)) w
  rw [show hi t = 0 by unfold hi; omega, show lo t = t by unfold lo; omega] at h
  exact h

set_option maxRecDepth 100000 in
set_option maxHeartbeats 8000000 in
theorem rdiv_any (a b : Nat) (ha : a < M128) (hb : b < M128) (h0 : b ≠ 0) (w : World) :
    Calls Try.prog 49 #[.agg #[.int .u64 (hi a : Nat), .int .u64 (lo a : Nat)], .agg #[.int .u64 (hi b : Nat), .int .u64 (lo b : Nat)]] w fun e w' => e = .returned (.tuple #[.agg #[.int .u64 (hi (a / b) : Nat), .int .u64 (lo (a / b) : Nat)], .agg #[.int .u64 (hi (a % b) : Nat), .int .u64 (lo (a % b) : Nat)]]) ∧ Below w.heap.size w w' := by
  obtain ⟨Q, hQ⟩ : ∃ Q, a / b = Q := ⟨_, rfl⟩
  obtain ⟨R, hR⟩ : ∃ R, a % b = R := ⟨_, rfl⟩
  rw [hQ, hR]
  have HQ := Lib.hid hQ; have HR := Lib.hid hR
  clear hQ hR
  go_enter Try.func49, Try.ntmps49
  go_wp2_with fail
  obtain ⟨W0, hW0⟩ : ∃ W0, ((((((w.alloc (.cells #[.int .u64 (hi a : Nat), .int .u64 (lo a : Nat)] 48)).alloc (.cells #[.int .u64 (hi b : Nat), .int .u64 (lo b : Nat)] 48)).alloc (.cells #[.int .u64 0, .int .u64 0] 48)).alloc (.cells #[.int .u64 0, .int .u64 0] 48)).alloc (.cells #[.int .u64 0, .int .u64 0] 48)).alloc (.cells #[.int .u64 0, .int .u64 0] 48)) = W0 := ⟨_, rfl⟩
  have sz0 : W0.heap.size = w.heap.size + 6 := by rw [← hW0]; simp
  have bA : Box W0 (w.heap.size) a := by rw [← hW0]; exact ((((((Box.new w a 48).alloc _).alloc _).alloc _).alloc _).alloc _)
  have bB : Box W0 (w.heap.size + 1) b := by rw [← hW0]; exact (((((Box.newAt (by simp)).alloc _).alloc _).alloc _).alloc _)
  have b4 : Box W0 (w.heap.size + 1 + 1) 0 := by rw [← hW0]; exact ((((Box.new0At (by simp)).alloc _).alloc _).alloc _)
  have b5 : Box W0 (w.heap.size + 1 + 1 + 1) 0 := by rw [← hW0]; exact (((Box.new0At (by simp)).alloc _).alloc _)
  have b6 : Box W0 (w.heap.size + 1 + 1 + 1 + 1) 0 := by rw [← hW0]; exact ((Box.new0At (by simp)).alloc _)
  have b7 : Box W0 (w.heap.size + 1 + 1 + 1 + 1 + 1) 0 := by rw [← hW0]; exact (Box.new0At (by simp))
  have hd0 : Below w.heap.size w W0 := by rw [← hW0]; exact ((((((Below.refl _ _).alloc (Nat.le_refl _) _).alloc (by simp) _).alloc (by simp; omega) _).alloc (by simp; omega) _).alloc (by simp; omega) _).alloc (by simp; omega) _
  rw [hW0]
  clear hW0
  go_loopw [8] (fun s wr => ∃ (i q r : Nat) (v : Int), i ≤ 128 ∧ v = (i : Int) - 1 ∧ s = .int .i64 v ∧ Long a b i q r ∧ Box wr (w.heap.size + 1 + 1 + 1 + 1) q ∧ Box wr (w.heap.size + 1 + 1 + 1 + 1 + 1) r ∧ But (w.heap.size + 1 + 1 + 1 + 1) (w.heap.size + 1 + 1 + 1 + 1 + 1) W0 wr) (fun s _ => (intOf s + 1).toNat)
  case atStart => exact ⟨128, 0, 0, _, by omega, rfl, rfl, Long.start a b ha h0, b6, b7, But.refl _ _ _⟩
  case round =>
    clear b6 b7
    obtain ⟨i, q, r, v, hi128, hv, rfl, hL, b6, b7, bt0⟩ := hrel
    have rA := bt0.box bA (by omega) (by omega)
    have rB := bt0.box bB (by omega) (by omega)
    cases i with
    | zero =>
      have hneg : v < 0 := by omega
      have hn' : decide (0 ≤ v) = false := by simp; omega
      obtain ⟨e1, e2⟩ := hL.end
      rw [HQ.out] at e1; rw [HR.out] at e2
      rw [e1] at b6; rw [e2] at b7
      have r4 := bt0.box b4 (by omega) (by omega)
      have r5 := bt0.box b5 (by omega) (by omega)
      clear hv hL e1 e2
      have q0 := b6.c0; have q1 := b6.c1; have r0 := b7.c0; have r1 := b7.c1
      have p0 := r4.c0; have p1 := r4.c1; have p2 := r4.f0; have p3 := r4.f1
      have s0 := r5.c0; have s1 := r5.c1; have s2 := r5.f0; have s3 := r5.f1
      go_wp2_with fail
      go_region
      go_wp2_with fail
      have u4 := ((((r4.set Q).other (p := ⟨w.heap.size + 1 + 1 + 1, 0, none⟩) (by simp) (.int .u64 (hi R : Nat))).other (p := ⟨w.heap.size + 1 + 1 + 1, 1, none⟩) (by simp) (.int .u64 (lo R : Nat)))).drew
      have u5 := ((((r5.other (p := ⟨w.heap.size + 1 + 1, 0, none⟩) (by simp) (.int .u64 (hi Q : Nat))).other (p := ⟨w.heap.size + 1 + 1, 1, none⟩) (by simp) (.int .u64 (lo Q : Nat))).set R)).drew
      have v0 := u4.c0; have v1 := u4.c1; have v2 := u5.c0; have v3 := u5.c1
      refine bodyPost_ret (v := .tuple #[.agg #[.int .u64 (hi Q : Nat), .int .u64 (lo Q : Nat)], .agg #[.int .u64 (hi R : Nat), .int .u64 (lo R : Nat)]]) (by simp [results, Try.results49, go_sem, v0, v1, v2, v3]) rfl ⟨rfl, ?_⟩
      exact (((((hd0.trans (bt0.below (by omega) (by omega) (by omega))).setCell (by simp; omega) _).setCell (by simp; omega) _).setCell (by simp; omega) _).setCell (by simp; omega) _).drew
    | succ j =>
      obtain rfl : v = (j : Int) := by omega
      clear hv
      have hrb := hL.lt
      have ht := bitAt_lt a j
      have hl := long_d r (bitAt a j) b hrb hb ht
      have hTk := fun h => hL.take h
      have hLv := fun h => hL.leave h
      have hql := fun h => (hL.take h).q_lt ha h0
      have hdv := hL.mul
      have A1 := radd_any r r (by omega) (by omega)
      have BT := bit_any a j ha (by omega)
      have A2 := radd_bit (addW r r) (bitAt a j) (addW_lt _ _) ht
      have L2 := rless_any (addW (addW r r) (bitAt a j)) b
      have S2 := rsub_any (addW (addW r r) (bitAt a j)) b (addW_lt _ _) hb
      have WT := fun h => with_any q j (by omega) h hdv
      obtain ⟨p, hp⟩ : ∃ p, 2 ^ j = p := ⟨_, rfl⟩
      rw [hp] at hTk hql WT
      obtain ⟨t, ht'⟩ : ∃ t, bitAt a j = t := ⟨_, rfl⟩
      rw [ht'] at ht hl hTk hLv hql BT A2 L2 S2
      obtain ⟨o, ho⟩ : ∃ o, addO r r = o := ⟨_, rfl⟩
      obtain ⟨d1, hd1⟩ : ∃ d1, addW r r = d1 := ⟨_, rfl⟩
      rw [ho, hd1] at hl A1
      rw [hd1] at A2 L2 S2
      obtain ⟨o2, ho2⟩ : ∃ o2, addO d1 t = o2 := ⟨_, rfl⟩
      obtain ⟨d2, hd2⟩ : ∃ d2, addW d1 t = d2 := ⟨_, rfl⟩
      rw [hd2] at hl A2 L2 S2
      rw [ho2] at A2
      clear hp ht' ho hd1 ho2 hd2
      have HL := Lib.hid hl; have HTK := Lib.hid hTk; have HLV := Lib.hid hLv; have HQL := Lib.hid hql
      have HA1 := Lib.hid A1; have HBT := Lib.hid BT; have HA2 := Lib.hid A2; have HL2 := Lib.hid L2; have HS2 := Lib.hid S2; have HWT := Lib.hid WT
      clear hl hTk hLv hql A1 BT A2 L2 S2 WT hdv hL
      have r0 := b7.c0; have r1 := b7.c1
      go_wp2_with fail
      refine (HA1.out _).mono ?_
      rintro e w1 ⟨rfl, hb1⟩
      clear r0 r1
      have rA1 := (rA.call hb1).alloc (.cells #[.int .u64 (hi d1 : Nat), .int .u64 (lo d1 : Nat)] 48)
      have rB1 := (rB.call hb1).alloc (.cells #[.int .u64 (hi d1 : Nat), .int .u64 (lo d1 : Nat)] 48)
      have b61 := (b6.call hb1).alloc (.cells #[.int .u64 (hi d1 : Nat), .int .u64 (lo d1 : Nat)] 48)
      have b71 := (b7.call hb1).alloc (.cells #[.int .u64 (hi d1 : Nat), .int .u64 (lo d1 : Nat)] 48)
      have b9 : Box (w1.alloc (.cells #[.int .u64 (hi d1 : Nat), .int .u64 (lo d1 : Nat)] 48)) w1.heap.size d1 := Box.new _ _ _
      have bt1 := (bt0.call hb1).call ((Below.refl _ _).alloc (Nat.le_refl _) (.cells #[.int .u64 (hi d1 : Nat), .int .u64 (lo d1 : Nat)] 48))
      have s1 := hb1.size
      have s0 := bt0.size
      clear hb1 rA rB b6 b7 bt0
      go_upto_region 7 with fail
      obtain ⟨W1, hW1⟩ : ∃ W1, w1.alloc (.cells #[.int .u64 (hi d1 : Nat), .int .u64 (lo d1 : Nat)] 48) = W1 := ⟨_, rfl⟩
      rw [hW1] at rA1 rB1 b61 b71 b9 bt1 ⊢
      have sW : W1.heap.size = w1.heap.size + 1 := by rw [← hW1]; simp
      clear hW1
      obtain ⟨z, hz'⟩ : ∃ z, w1.heap.size = z := ⟨_, rfl⟩
      rw [hz'] at b9 ⊢
      have hz : w.heap.size ≠ z := by omega
      go_cut [] from 23 to 31 (fun wx => Box wx z d2 ∧ But z z W1 wx)
      case first =>
        refine wp_region_held_drew (S := (fun w' => w.heap.size < w'.heap.size ∧ w'.cell? ⟨w.heap.size, 0, none⟩ = some (.int .u64 (hi a : Nat)) ∧ w'.cell? ⟨w.heap.size, 1, none⟩ = some (.int .u64 (lo a : Nat)))) (by kernel_rfl) ⟨rA1.lt, rA1.c0, rA1.c1⟩ (fun hHeld => ?_)
        have b9 := b9.drew
        have bt : But z z W1 W1.drew := ⟨rfl, rfl, rfl, Nat.le_refl _, fun _ _ _ _ => rfl⟩
        refine regTake 1 (some 25) (v := ?_) rfl rfl (by kernel_rfl) (by kernel_rfl) (by kernel_rfl) (fun _ _ _ h => h) (by rfl) hHeld ?_ ?_
        rotate_left 1
        · (intro w hSw; (try dsimp only at hSw); go_simp; try with_reducible rfl)
        simp only [Act.put, List.setIfInBounds_toArray, List.set_cons_zero, List.set_cons_succ]
        refine regTake 2 (some 26) (v := ?_) rfl rfl (by kernel_rfl) (by kernel_rfl) (by kernel_rfl) (fun _ _ _ h => h) (by rfl) hHeld ?_ ?_
        rotate_left 1
        · (intro w hSw; (try dsimp only at hSw); go_simp; try with_reducible rfl)
        simp only [Act.put, List.setIfInBounds_toArray, List.set_cons_zero, List.set_cons_succ]
        refine regTwo 0 3 (by kernel_rfl) ?_ ?_
        · have x0 := b9.c0; have x1 := b9.c1
          refine stepDo 0 (some 24) (v := ?_) (w' := ?_) rfl rfl (by rfl) ?_ ?_ (fun hHeld => ?_)
          rotate_left 2
          · (go_simp; refine ⟨?_, ?_⟩ <;> with_reducible rfl)
          · exact hHeld
          simp only [Act.put, List.setIfInBounds_toArray, List.set_cons_zero, List.set_cons_succ]
          clear x0 x1
          refine regCall 3 (some 27) (f := 68) (args := ?_) rfl rfl (by kernel_rfl) (by rfl) ?_ ?_
          rotate_left 1
          · (go_simp; try with_reducible rfl)
          refine (HBT.out _).mono ?_
          rintro e wx3 ⟨rfl, hbx⟩
          refine ⟨_, rfl, keep2 hbx hHeld.1 hHeld.2, fun hHeld => ?_⟩
          simp only [Act.put, List.setIfInBounds_toArray, List.set_cons_zero, List.set_cons_succ]
          have b9 := b9.call hbx
          have bt := bt.call hbx
          clear hbx
          refine regCall 4 (some 28) (f := 28) (args := ?_) rfl rfl (by kernel_rfl) (by rfl) ?_ ?_
          rotate_left 1
          · (go_simp; try with_reducible rfl)
          refine (of_any _ _).mono ?_
          rintro e wx4 ⟨rfl, hbx⟩
          refine ⟨_, rfl, keep2 hbx hHeld.1 hHeld.2, fun hHeld => ?_⟩
          simp only [Act.put, List.setIfInBounds_toArray, List.set_cons_zero, List.set_cons_succ]
          have b9 := b9.call hbx
          have bt := bt.call hbx
          clear hbx
          refine regCall 5 (some 29) (f := 50) (args := ?_) rfl rfl (by kernel_rfl) (by rfl) ?_ ?_
          rotate_left 1
          · (go_simp; try with_reducible rfl)
          refine (HA2.out _).mono ?_
          rintro e wx5 ⟨rfl, hbx⟩
          refine ⟨_, rfl, keep2 hbx hHeld.1 hHeld.2, fun hHeld => ?_⟩
          simp only [Act.put, List.setIfInBounds_toArray, List.set_cons_zero, List.set_cons_succ]
          have b9 := b9.call hbx
          have bt := bt.call hbx
          clear hbx
          refine regTake 6 (some 23) (v := ?_) rfl rfl (by kernel_rfl) (by kernel_rfl) (by kernel_rfl) (fun _ _ _ h => h) (by rfl) hHeld ?_ ?_
          rotate_left 1
          · (intro w hSw; (try dsimp only at hSw); go_simp; try with_reducible rfl)
          simp only [Act.put, List.setIfInBounds_toArray, List.set_cons_zero, List.set_cons_succ]
          refine regTake 7 (some 30) (v := ?_) rfl rfl (by kernel_rfl) (by kernel_rfl) (by kernel_rfl) (fun _ _ _ h => h) (by rfl) hHeld ?_ ?_
          rotate_left 1
          · (intro w hSw; (try dsimp only at hSw); go_simp; try with_reducible rfl)
          simp only [Act.put, List.setIfInBounds_toArray, List.set_cons_zero, List.set_cons_succ]
          refine regTake 8 (some 31) (v := ?_) rfl rfl (by kernel_rfl) (by kernel_rfl) (by kernel_rfl) (fun _ _ _ h => h) (by rfl) hHeld ?_ ?_
          rotate_left 1
          · (intro w hSw; (try dsimp only at hSw); go_simp; try with_reducible rfl)
          simp only [Act.put, List.setIfInBounds_toArray, List.set_cons_zero, List.set_cons_succ]
          have x0 := b9.c0; have x1 := b9.c1; have x2 := b9.f0; have x3 := b9.f1
          refine regStore 9 (w' := ?_) rfl rfl (by kernel_rfl) (by rfl) ?_ ?_ (fun hHeld => ?_)
          rotate_left 1
          · (go_simp; try with_reducible rfl)
          · exact keepSet hz (keepSet hz hHeld)
          clear x0 x1 x2 x3 hHeld
          refine wpAnyH_done (by kernel_rfl) ?_ _
          go_wp2_with fail
          go_meet
          exact ⟨b9.set d2, (bt.set (.inl rfl) _).set (.inl rfl) _⟩
        · refine stepCall 3 (some 27) (f := 68) (args := ?_) rfl rfl (by rfl) ?_ ?_
          rotate_left 1
          · (go_simp; try with_reducible rfl)
          refine (HBT.out _).mono ?_
          rintro e wx3 ⟨rfl, hbx⟩
          refine ⟨_, rfl, keep2 hbx hHeld.1 hHeld.2, fun hHeld => ?_⟩
          simp only [Act.put, List.setIfInBounds_toArray, List.set_cons_zero, List.set_cons_succ]
          have b9 := b9.call hbx
          have bt := bt.call hbx
          clear hbx
          refine regTwo 0 4 (by kernel_rfl) ?_ ?_
          · have x0 := b9.c0; have x1 := b9.c1
            refine stepDo 0 (some 24) (v := ?_) (w' := ?_) rfl rfl (by rfl) ?_ ?_ (fun hHeld => ?_)
            rotate_left 2
            · (go_simp; refine ⟨?_, ?_⟩ <;> with_reducible rfl)
            · exact hHeld
            simp only [Act.put, List.setIfInBounds_toArray, List.set_cons_zero, List.set_cons_succ]
            clear x0 x1
            refine regCall 4 (some 28) (f := 28) (args := ?_) rfl rfl (by kernel_rfl) (by rfl) ?_ ?_
            rotate_left 1
            · (go_simp; try with_reducible rfl)
            refine (of_any _ _).mono ?_
            rintro e wx4 ⟨rfl, hbx⟩
            refine ⟨_, rfl, keep2 hbx hHeld.1 hHeld.2, fun hHeld => ?_⟩
            simp only [Act.put, List.setIfInBounds_toArray, List.set_cons_zero, List.set_cons_succ]
            have b9 := b9.call hbx
            have bt := bt.call hbx
            clear hbx
            refine regCall 5 (some 29) (f := 50) (args := ?_) rfl rfl (by kernel_rfl) (by rfl) ?_ ?_
            rotate_left 1
            · (go_simp; try with_reducible rfl)
            refine (HA2.out _).mono ?_
            rintro e wx5 ⟨rfl, hbx⟩
            refine ⟨_, rfl, keep2 hbx hHeld.1 hHeld.2, fun hHeld => ?_⟩
            simp only [Act.put, List.setIfInBounds_toArray, List.set_cons_zero, List.set_cons_succ]
            have b9 := b9.call hbx
            have bt := bt.call hbx
            clear hbx
            refine regTake 6 (some 23) (v := ?_) rfl rfl (by kernel_rfl) (by kernel_rfl) (by kernel_rfl) (fun _ _ _ h => h) (by rfl) hHeld ?_ ?_
            rotate_left 1
            · (intro w hSw; (try dsimp only at hSw); go_simp; try with_reducible rfl)
            simp only [Act.put, List.setIfInBounds_toArray, List.set_cons_zero, List.set_cons_succ]
            refine regTake 7 (some 30) (v := ?_) rfl rfl (by kernel_rfl) (by kernel_rfl) (by kernel_rfl) (fun _ _ _ h => h) (by rfl) hHeld ?_ ?_
            rotate_left 1
            · (intro w hSw; (try dsimp only at hSw); go_simp; try with_reducible rfl)
            simp only [Act.put, List.setIfInBounds_toArray, List.set_cons_zero, List.set_cons_succ]
            refine regTake 8 (some 31) (v := ?_) rfl rfl (by kernel_rfl) (by kernel_rfl) (by kernel_rfl) (fun _ _ _ h => h) (by rfl) hHeld ?_ ?_
            rotate_left 1
            · (intro w hSw; (try dsimp only at hSw); go_simp; try with_reducible rfl)
            simp only [Act.put, List.setIfInBounds_toArray, List.set_cons_zero, List.set_cons_succ]
            have x0 := b9.c0; have x1 := b9.c1; have x2 := b9.f0; have x3 := b9.f1
            refine regStore 9 (w' := ?_) rfl rfl (by kernel_rfl) (by rfl) ?_ ?_ (fun hHeld => ?_)
            rotate_left 1
            · (go_simp; try with_reducible rfl)
            · exact keepSet hz (keepSet hz hHeld)
            clear x0 x1 x2 x3 hHeld
            refine wpAnyH_done (by kernel_rfl) ?_ _
            go_wp2_with fail
            go_meet
            exact ⟨b9.set d2, (bt.set (.inl rfl) _).set (.inl rfl) _⟩
          · refine stepCall 4 (some 28) (f := 28) (args := ?_) rfl rfl (by rfl) ?_ ?_
            rotate_left 1
            · (go_simp; try with_reducible rfl)
            refine (of_any _ _).mono ?_
            rintro e wx4 ⟨rfl, hbx⟩
            refine ⟨_, rfl, keep2 hbx hHeld.1 hHeld.2, fun hHeld => ?_⟩
            simp only [Act.put, List.setIfInBounds_toArray, List.set_cons_zero, List.set_cons_succ]
            have b9 := b9.call hbx
            have bt := bt.call hbx
            clear hbx
            have x0 := b9.c0; have x1 := b9.c1
            refine regDo 0 (some 24) (v := ?_) (w' := ?_) rfl rfl (by kernel_rfl) (by rfl) ?_ ?_ (fun hHeld => ?_)
            rotate_left 2
            · (go_simp; refine ⟨?_, ?_⟩ <;> with_reducible rfl)
            · exact hHeld
            simp only [Act.put, List.setIfInBounds_toArray, List.set_cons_zero, List.set_cons_succ]
            clear x0 x1
            refine regCall 5 (some 29) (f := 50) (args := ?_) rfl rfl (by kernel_rfl) (by rfl) ?_ ?_
            rotate_left 1
            · (go_simp; try with_reducible rfl)
            refine (HA2.out _).mono ?_
            rintro e wx5 ⟨rfl, hbx⟩
            refine ⟨_, rfl, keep2 hbx hHeld.1 hHeld.2, fun hHeld => ?_⟩
            simp only [Act.put, List.setIfInBounds_toArray, List.set_cons_zero, List.set_cons_succ]
            have b9 := b9.call hbx
            have bt := bt.call hbx
            clear hbx
            refine regTake 6 (some 23) (v := ?_) rfl rfl (by kernel_rfl) (by kernel_rfl) (by kernel_rfl) (fun _ _ _ h => h) (by rfl) hHeld ?_ ?_
            rotate_left 1
            · (intro w hSw; (try dsimp only at hSw); go_simp; try with_reducible rfl)
            simp only [Act.put, List.setIfInBounds_toArray, List.set_cons_zero, List.set_cons_succ]
            refine regTake 7 (some 30) (v := ?_) rfl rfl (by kernel_rfl) (by kernel_rfl) (by kernel_rfl) (fun _ _ _ h => h) (by rfl) hHeld ?_ ?_
            rotate_left 1
            · (intro w hSw; (try dsimp only at hSw); go_simp; try with_reducible rfl)
            simp only [Act.put, List.setIfInBounds_toArray, List.set_cons_zero, List.set_cons_succ]
            refine regTake 8 (some 31) (v := ?_) rfl rfl (by kernel_rfl) (by kernel_rfl) (by kernel_rfl) (fun _ _ _ h => h) (by rfl) hHeld ?_ ?_
            rotate_left 1
            · (intro w hSw; (try dsimp only at hSw); go_simp; try with_reducible rfl)
            simp only [Act.put, List.setIfInBounds_toArray, List.set_cons_zero, List.set_cons_succ]
            have x0 := b9.c0; have x1 := b9.c1; have x2 := b9.f0; have x3 := b9.f1
            refine regStore 9 (w' := ?_) rfl rfl (by kernel_rfl) (by rfl) ?_ ?_ (fun hHeld => ?_)
            rotate_left 1
            · (go_simp; try with_reducible rfl)
            · exact keepSet hz (keepSet hz hHeld)
            clear x0 x1 x2 x3 hHeld
            refine wpAnyH_done (by kernel_rfl) ?_ _
            go_wp2_with fail
            go_meet
            exact ⟨b9.set d2, (bt.set (.inl rfl) _).set (.inl rfl) _⟩
      case rest =>
        obtain ⟨b9', btz⟩ := hcut
        clear b9
        have c9 := b9'
        have ctb : Below W0.heap.size W1 wc := btz.below (by omega) (by omega) (by omega)
        have cB := btz.box rB1 (by omega) (by omega)
        have c6 := btz.box b61 (by omega) (by omega)
        have c7 := btz.box b71 (by omega) (by omega)
        have ct := bt1.step ctb
        clear rA1 rB1 b61 b71 bt1 btz b9' ctb
        have m0 := c9.c0; have m1 := c9.c1; have m2 := cB.c0; have m3 := cB.c1
        have sc := ct.size
        have zc := c9.lt
        rcases HL.out with ⟨rfl, hge, hE⟩ | ⟨rfl, rfl, hlt⟩
        · obtain ⟨E, hE'⟩ : ∃ E, subW d2 b = E := ⟨_, rfl⟩
          have hLong := HTK.out hge
          rw [hE'] at hE HS2
          rw [← hE] at hLong
          clear hE hE'
          go_wp2_with fail
          refine (HS2.out _).mono ?_
          rintro e w4 ⟨rfl, hb4⟩
          have c9' := c9.call hb4
          have c6' := c6.call hb4
          have c7' := c7.call hb4
          have ct' := ct.call hb4
          have sy := hb4.size
          clear hb4
          have x0 := c9'.c0; have x1 := c9'.c1; have x2 := c9'.f0; have x3 := c9'.f1
          have y0 := c6'.c0; have y1 := c6'.c1
          have n6 : z ≠ w.heap.size + 1 + 1 + 1 + 1 := by omega
          have n7 : z ≠ w.heap.size + 1 + 1 + 1 + 1 + 1 := by omega
          have n6' := Ne.symm n6
          have n7' := Ne.symm n7
          go_wp2_with fail
          refine (HWT.out (HQL.out hge) _).mono ?_
          rintro e w6 ⟨rfl, hb6⟩
          have k9 : Box w6 z E := (c9'.set E).call hb6
          have k6 : Box w6 (w.heap.size + 1 + 1 + 1 + 1) q := ((c6'.other (p := ⟨z, 0, none⟩) n6' (.int .u64 (hi E : Nat))).other (p := ⟨z, 1, none⟩) n6' (.int .u64 (lo E : Nat))).call hb6
          have k7 : Box w6 (w.heap.size + 1 + 1 + 1 + 1 + 1) r := ((c7'.other (p := ⟨z, 0, none⟩) n7' (.int .u64 (hi E : Nat))).other (p := ⟨z, 1, none⟩) n7' (.int .u64 (lo E : Nat))).call hb6
          have kt : But (w.heap.size + 1 + 1 + 1 + 1) (w.heap.size + 1 + 1 + 1 + 1 + 1) W0 w6 := (ct'.step (((Below.refl _ _).setCell (p := ⟨z, 0, none⟩) (by simp; omega) (.int .u64 (hi E : Nat))).setCell (p := ⟨z, 1, none⟩) (by simp; omega) (.int .u64 (lo E : Nat)))).call hb6
          clear hb6 x0 x1 x2 x3 y0 y1
          have x0 := k9.c0; have x1 := k9.c1
          have y0 := k6.c0; have y1 := k6.c1; have y2 := k6.f0; have y3 := k6.f1
          have g0 := k7.c0; have g1 := k7.c1; have g2 := k7.f0; have g3 := k7.f1
          go_wp2_with fail
          go_roundw
          case rel =>
            exact ⟨j, q + p, E, _, by omega, rfl, rfl, hLong, ((k6.set (q + p)).other (by simp) _).other (by simp) _, ((k7.other (by simp) _).other (by simp) _).set E, (((kt.set (.inl rfl) _).set (.inl rfl) _).set (.inr rfl) _).set (.inr rfl) _⟩
          case measure => simp [intOf]
        · by_cases hge : b ≤ 2 * r + t
          · obtain ⟨E, hE'⟩ : ∃ E, subW (2 * r + t) b = E := ⟨_, rfl⟩
            have hLong := HTK.out hge
            rw [← subW_fit _ _ hge hlt, hE'] at hLong
            rw [hE'] at HS2
            rw [show ltW (2 * r + t) b = false from decide_eq_false (by omega)] at HL2
            obtain ⟨d2, hd2⟩ : ∃ d2, 2 * r + t = d2 := ⟨_, rfl⟩
            rw [hd2] at *
            clear hE'
            go_wp2_with fail
            refine (HL2.out _).mono ?_
            rintro e w3 ⟨rfl, hb3⟩
            have c9 := c9.call hb3
            have c6 := c6.call hb3
            have c7 := c7.call hb3
            have cB := cB.call hb3
            have ct := ct.call hb3
            have s3 := hb3.size
            clear hb3 m0 m1 m2 m3
            have m0 := c9.c0; have m1 := c9.c1; have m2 := cB.c0; have m3 := cB.c1
            go_wp2_with fail
            refine (HS2.out _).mono ?_
            rintro e w4 ⟨rfl, hb4⟩
            have c9' := c9.call hb4
            have c6' := c6.call hb4
            have c7' := c7.call hb4
            have ct' := ct.call hb4
            have sy := hb4.size
            clear hb4
            have x0 := c9'.c0; have x1 := c9'.c1; have x2 := c9'.f0; have x3 := c9'.f1
            have y0 := c6'.c0; have y1 := c6'.c1
            have n6 : z ≠ w.heap.size + 1 + 1 + 1 + 1 := by omega
            have n7 : z ≠ w.heap.size + 1 + 1 + 1 + 1 + 1 := by omega
            have n6' := Ne.symm n6
            have n7' := Ne.symm n7
            go_wp2_with fail
            refine (HWT.out (HQL.out hge) _).mono ?_
            rintro e w6 ⟨rfl, hb6⟩
            have k9 : Box w6 z E := (c9'.set E).call hb6
            have k6 : Box w6 (w.heap.size + 1 + 1 + 1 + 1) q := ((c6'.other (p := ⟨z, 0, none⟩) n6' (.int .u64 (hi E : Nat))).other (p := ⟨z, 1, none⟩) n6' (.int .u64 (lo E : Nat))).call hb6
            have k7 : Box w6 (w.heap.size + 1 + 1 + 1 + 1 + 1) r := ((c7'.other (p := ⟨z, 0, none⟩) n7' (.int .u64 (hi E : Nat))).other (p := ⟨z, 1, none⟩) n7' (.int .u64 (lo E : Nat))).call hb6
            have kt : But (w.heap.size + 1 + 1 + 1 + 1) (w.heap.size + 1 + 1 + 1 + 1 + 1) W0 w6 := (ct'.step (((Below.refl _ _).setCell (p := ⟨z, 0, none⟩) (by simp; omega) (.int .u64 (hi E : Nat))).setCell (p := ⟨z, 1, none⟩) (by simp; omega) (.int .u64 (lo E : Nat)))).call hb6
            clear hb6 x0 x1 x2 x3 y0 y1
            have x0 := k9.c0; have x1 := k9.c1
            have y0 := k6.c0; have y1 := k6.c1; have y2 := k6.f0; have y3 := k6.f1
            have g0 := k7.c0; have g1 := k7.c1; have g2 := k7.f0; have g3 := k7.f1
            go_wp2_with fail
            go_roundw
            case rel =>
              exact ⟨j, q + p, E, _, by omega, rfl, rfl, hLong, ((k6.set (q + p)).other (by simp) _).other (by simp) _, ((k7.other (by simp) _).other (by simp) _).set E, (((kt.set (.inl rfl) _).set (.inl rfl) _).set (.inr rfl) _).set (.inr rfl) _⟩
            case measure => simp [intOf]
          · have hLong := HLV.out (by omega)
            rw [show ltW (2 * r + t) b = true from decide_eq_true (by omega)] at HL2
            obtain ⟨d2, hd2⟩ : ∃ d2, 2 * r + t = d2 := ⟨_, rfl⟩
            rw [hd2] at HL2 hLong m0 m1 c9
            clear hd2 HS2 HTK HLV HQL hlt hge HA2
            go_wp2_with fail
            refine (HL2.out _).mono ?_
            rintro e w3 ⟨rfl, hb3⟩
            have c9 := c9.call hb3
            have c6 := c6.call hb3
            have c7 := c7.call hb3
            have ct := ct.call hb3
            clear hb3 m0 m1 m2 m3
            have m0 := c9.c0; have m1 := c9.c1
            have g0 := c7.c0; have g1 := c7.c1; have g2 := c7.f0; have g3 := c7.f1
            go_wp2_with fail
            go_roundw
            case rel =>
              exact ⟨j, q, d2, _, by omega, rfl, rfl, hLong, (c6.other (by simp) _).other (by simp) _, c7.set d2, (ct.set (.inr rfl) _).set (.inr rfl) _⟩
            case measure => simp [intOf]
end Go.Proofs.Ytjnebbjjabnipaa
