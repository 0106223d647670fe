/- divide.lefts hands out b and what is left at each step, as long as that is not 0. -/
import Derived.Test.YtjnebbjjabnipaaDiv
import Derived.Test.YtjnebbjjabnipaaGcdN
namespace Go.Proofs.Ytjnebbjjabnipaa
open Go.RowKit Go.Shelf

theorem lefts_any (ah al bh bl : Nat) (w : World) :
    Calls Try.prog 48 #[.agg #[.int .u64 ah, .int .u64 al], .agg #[.int .u64 bh, .int .u64 bl]] w fun e w' =>
      e = .returned (.func (.func 67) #[] #[.pointer (some ⟨w.heap.size, 0, none⟩), .pointer (some ⟨w.heap.size + 1, 0, none⟩)]) ∧
      (w.alloc (.cells #[.int .u64 ah, .int .u64 al] 48)).alloc (.cells #[.int .u64 bh, .int .u64 bl] 48) = w' := by
  go_enter Try.func48, Try.ntmps48
  go_wp2
  go_ret
  exact ⟨rfl, rfl⟩

/-- The number in a block, for a measure. -/
def boxVal (W : World) (b : Nat) : Nat :=
  match W.cell? ⟨b, 0, none⟩, W.cell? ⟨b, 1, none⟩ with
  | some (.int _ h), some (.int _ l) => vw h.toNat l.toNat
  | _, _ => 0
theorem boxVal_eq {W : World} {b n : Nat} (h : Box W b n) : boxVal W b = n := by
  unfold boxVal; rw [h.c0, h.c1]; exact vw_hi_lo n
theorem Box.above {B : Nat} {W W' : World} {b n : Nat} (h : Box W b n) (ha : Above B W W') (hb : B ≤ b) : Box W' b n := h.block (ha.block b hb h.lt)

/-- A row that the iterator hands out. -/
def leftRow (a b i : Nat) : Array Value := #[.agg #[.int .u64 (hi (eu a b i).2 : Nat), .int .u64 (lo (eu a b i).2 : Nat)]]

attribute [local go_sem] Oper.semAt_some
set_option maxRecDepth 100000 in
set_option maxHeartbeats 2000000 in
theorem lefts_seq (a b ba bb N : Nat) (ha : a < M128) (hb : b < M128) (hN : (eu a b N).2 = 0) (hN' : ∀ i, i < N → (eu a b i).2 ≠ 0) :
    Seq Try.prog 67 #[.pointer (some ⟨ba, 0, none⟩), .pointer (some ⟨bb, 0, none⟩)] (leftRow a b) N (fun W => Holds W ba a ∧ Holds W bb b) := by
  intro l J Jx W hJ hJx hcap hY hJ0
  obtain ⟨⟨ca0, ca1⟩, cb0, cb1⟩ := hcap 0 W hJ0
  have za := lt_of_cell ca0
  have zb := lt_of_cell cb0
  have HJ := Lib.hid hJ; have HJx := Lib.hid hJx; have HY := Lib.hid hY; have HJ0 := Lib.hid hJ0; have HN := Lib.hid hN; have HN' := Lib.hid hN'
  clear hJ hJx hcap hY hJ0 hN hN'
  go_enter Try.func67, Try.ntmps67
  go_upto_region 0 with fail
  go_cut [4, 5] (fun s4 s5 wx => ∃ x y : Nat, s4 = .pointer (some ⟨x, 0, none⟩) ∧ s5 = .pointer (some ⟨y, 0, none⟩) ∧ x ≠ y ∧ W.heap.size ≤ x ∧ W.heap.size ≤ y ∧ Box wx x a ∧ Box wx y b ∧ Below W.heap.size W wx)
  case first =>
    go_region
    · go_wp2_with fail
      go_meet
      exact ⟨_, _, rfl, rfl, by omega, by omega, by omega, ((Box.newAt (by simp)).alloc _).drew, (Box.newAt (by simp)).drew, (((Below.refl _ _).alloc (by simp) _).alloc (by simp) _).drew⟩
    · go_wp2_with fail
      go_meet
      exact ⟨_, _, rfl, rfl, by omega, by omega, by omega, (Box.newAt (by simp)).drew, ((Box.newAt (by simp)).alloc _).drew, (((Below.refl _ _).alloc (by simp) _).alloc (by simp) _).drew⟩
  case rest =>
    obtain ⟨x, y, rfl, rfl, hxy, hx, hy, bx, bY, hbw⟩ := hcut
    have HB := Lib.hid hbw; clear hbw ca0 ca1 cb0 cb1
    go_wp2_with fail
    refine (wpIn_wide (n := 0)).1 ?_
    gi_loopw [8] (fun _ wr => ∃ i : Nat, i ≤ N ∧ Box wr x (eu a b i).1 ∧ Box wr y (eu a b i).2 ∧ J i wr ∧ W.heap.size ≤ wr.heap.size) (fun _ wr => boxVal wr y)
    case atStart => exact ⟨0, by omega, bx, bY, HJ.out 0 _ _ HJ0.out HB.out, HB.out.size⟩
    case round =>
      clear bx bY
      obtain ⟨i, hiN, bx, bY, hJi, hsz⟩ := hrel
      by_cases hlt : i < N
      · have hne := HN'.out i hlt
        obtain ⟨lx, ly⟩ := eu_lt a b ha hb i
        have hYi := HY.out i wr hlt hJi 0
        unfold leftRow at hYi
        have e1 : (eu a b (i + 1)).1 = (eu a b i).2 := rfl
        have e2 : (eu a b (i + 1)).2 = (eu a b i).1 % (eu a b i).2 := rfl
        obtain ⟨p, hp⟩ : ∃ p, (eu a b i).1 = p := ⟨_, rfl⟩
        obtain ⟨q, hq⟩ : ∃ q, (eu a b i).2 = q := ⟨_, rfl⟩
        rw [hq] at hYi ly hne bY
        rw [hp] at lx bx
        rw [hq] at e1
        rw [hp, hq] at e2
        have hD := div_num p q lx ly hne
        have hm : p % q < q := Nat.mod_lt _ (Nat.pos_of_ne_zero hne)
        obtain ⟨Q, hQ⟩ : ∃ Q, p / q = Q := ⟨_, rfl⟩
        obtain ⟨R, hR⟩ : ∃ R, p % q = R := ⟨_, rfl⟩
        rw [hQ, hR] at hD
        rw [hR] at e2 hm
        have HD := Lib.hid hD; have E1 := Lib.hid e1; have E2 := Lib.hid e2
        clear hD e1 e2 hQ hR hp hq
        obtain ⟨fn, tmps, assign, body, hy', hR⟩ := hYi
        have HR := Lib.hid hR
        clear hR
        have c0 := bY.c0; have c1 := bY.c1
        rcases box_ne2 q hne with h | ⟨h, h'⟩
        all_goals
          gi_wp2_with (fail)
          refine ⟨rfl, (roundIn_any HR.out).mono ?_⟩
          clear hy' c0 c1 h
          rintro e w4 (⟨rfl, hJ4, ha4⟩ | ⟨rfl, hJ4⟩)
          · have s4 := ha4.size
            have bx4 := bx.above ha4 hx
            have by4 := bY.above ha4 hy
            have x0 := bx4.c0; have x1 := bx4.c1; have y0 := by4.c0; have y1 := by4.c1
            clear ha4
            gi_wp2_with (fail)
            refine ⟨trivial, rfl, (callsIn_wide.2 (HD.out _)).mono ?_⟩
            rintro e w5 ⟨rfl, hb5⟩
            have bx5 := bx4.call hb5
            have by5 := by4.call hb5
            have zx := bx5.lt; have zy := by5.lt
            have hJ5 := HJ.out (i + 1) _ _ hJ4 (hb5.mono (by omega))
            have s5 := hb5.size
            clear x0 x1 y0 y1 hb5
            have x0 := bx5.c0; have x1 := bx5.c1; have x2 := bx5.f0; have x3 := bx5.f1
            have y0 := by5.c0; have y1 := by5.c1; have y2 := by5.f0; have y3 := by5.f1
            have hyx := Ne.symm hxy
            have nx : x ≠ w5.heap.size := by omega
            have ny : y ≠ w5.heap.size := by omega
            have nx' : x ≠ w5.heap.size + 1 := by omega
            have ny' : y ≠ w5.heap.size + 1 := by omega
            gi_wp2_with (fail)
            refine wpIn_wide.2 ?_
            go_region
            gi_wp2_with (fail)
            go_roundw
            case rel =>
              refine ⟨i + 1, by omega, ?_, ?_, HJ.out (i + 1) _ _ hJ5 ?_, ?_⟩
              · rw [E1.out]; exact (((((bx5.set q).other hxy _).other hxy _).alloc _).alloc _).drew
              · rw [E2.out]; exact (((((by5.other hyx _).other hyx _).set R).alloc _).alloc _).drew
              · exact ((((((Below.refl _ _).setCell (by simp; omega) _).setCell (by simp; omega) _).setCell (by simp; omega) _).setCell (by simp; omega) _).alloc (by simp; omega) _).alloc (by simp; omega) _ |>.drew
              · simp; omega
            case measure =>
              rw [boxVal_eq bY, boxVal_eq (n := R)]
              · exact hm
              · exact (((((by5.other hyx _).other hyx _).set R).alloc _).alloc _).drew
          · gi_wp2_with (fail)
            go_end0
            exact ⟨⟨_, rfl⟩, .inr hJ4⟩
      · obtain rfl : i = N := by omega
        rw [HN.out] at bY
        have c0 : wr.cell? ⟨y, 0, none⟩ = some (.int .u64 0) := bY.c0
        have c1 : wr.cell? ⟨y, 1, none⟩ = some (.int .u64 0) := bY.c1
        gi_wp2_with (fail)
        refine ⟨fun _ h => (by cases h), ?_⟩
        gi_wp2_with (fail)
        go_end0
        exact ⟨⟨_, rfl⟩, .inl hJi⟩
end Go.Proofs.Ytjnebbjjabnipaa
