/- datumref02.Gcd and .Lowest, the document's, answer the greatest number that divides both, and both divided by it; nothing that was in memory before is changed. -/
import Derived.Test.YtjnebbjjabnipaaRDiv
import Derived.Test.YtjnebbjjabnipaaLefts
namespace Go.Proofs.Ytjnebbjjabnipaa
open Go.RowKit

set_option maxRecDepth 100000 in
set_option maxHeartbeats 2000000 in
theorem rgcd_any (a b : Nat) (ha : a < M128) (hb : b < M128) (w : World) :
    Calls Try.prog 26 #[.agg #[.int .u64 (hi a : Nat), .int .u64 (lo a : Nat)], .agg #[.int .u64 (hi b : Nat), .int .u64 (lo b : Nat)]] w fun e w' => e = .returned (.agg #[.int .u64 (hi (Nat.gcd a b) : Nat), .int .u64 (lo (Nat.gcd a b) : Nat)]) ∧ Below w.heap.size w w' := by
  obtain ⟨N, hN, hN'⟩ := eu_ends b a
  have hG := eu_last a b N hN
  obtain ⟨G, hGG⟩ : ∃ G, Nat.gcd a b = G := ⟨_, rfl⟩
  rw [hGG] at hG ⊢
  have HN := Lib.hid hN; have HN' := Lib.hid hN'; have HG := Lib.hid hG
  clear hN hN' hG hGG
  go_enter Try.func26, Try.ntmps26
  go_wp2_with fail
  obtain ⟨W0, hW0⟩ : ∃ W0, ((((w.alloc (.cells #[.int .u64 (hi a : Nat), .int .u64 (lo a : Nat)] 48)).alloc (.cells #[.int .u64 (hi b : Nat), .int .u64 (lo b : Nat)] 48)).alloc (.cells #[.int .u64 0, .int .u64 0] 48)).alloc (.cells #[.int .u64 0, .int .u64 0] 48)) = W0 := ⟨_, rfl⟩
  have sz0 : W0.heap.size = w.heap.size + 4 := by rw [← hW0]; simp
  have bA : Box W0 (w.heap.size) a := by rw [← hW0]; exact ((((Box.new w a 48).alloc _).alloc _).alloc _)
  have bB : Box W0 (w.heap.size + 1) b := by rw [← hW0]; exact (((Box.newAt (by simp)).alloc _).alloc _)
  have b4 : Box W0 (w.heap.size + 1 + 1) 0 := by rw [← hW0]; exact ((Box.new0At (by simp)).alloc _)
  have b5 : Box W0 (w.heap.size + 1 + 1 + 1) 0 := by rw [← hW0]; exact (Box.new0At (by simp))
  have hd0 : Below w.heap.size w W0 := by rw [← hW0]; exact ((((Below.refl _ _).alloc (Nat.le_refl _) _).alloc (by simp) _).alloc (by simp; omega) _).alloc (by simp; omega) _
  rw [hW0]
  clear hW0
  go_loopw [6] (fun _ wr => ∃ i : Nat, i ≤ N ∧ Box wr (w.heap.size) (eu a b i).1 ∧ Box wr (w.heap.size + 1) (eu a b i).2 ∧ But (w.heap.size) (w.heap.size + 1) W0 wr) (fun _ wr => boxVal wr (w.heap.size + 1))
  case atStart => exact ⟨0, by omega, bA, bB, But.refl _ _ _⟩
  case round =>
    clear bA bB
    obtain ⟨i, hiN, bA, bB, bt⟩ := hrel
    have r4 := bt.box b4 (by omega) (by omega)
    have r5 := bt.box b5 (by omega) (by omega)
    have sr := bt.size
    have f0 : wr.cell? ⟨w.heap.size + 1 + 1 + 1, 0, none⟩ = some (.int .u64 0) := r5.c0
    have f1 : wr.cell? ⟨w.heap.size + 1 + 1 + 1, 1, none⟩ = some (.int .u64 0) := r5.c1
    by_cases hlt : i < N
    · have hne := HN'.out i hlt
      obtain ⟨lx, ly⟩ := eu_lt a b ha hb i
      have e1 : (eu a b (i + 1)).1 = (eu a b i).2 := rfl
      have e2 : (eu a b (i + 1)).2 = (eu a b i).1 % (eu a b i).2 := rfl
      obtain ⟨p, hp⟩ : ∃ p, (eu a b i).1 = p := ⟨_, rfl⟩
      obtain ⟨q, hq⟩ : ∃ q, (eu a b i).2 = q := ⟨_, rfl⟩
      rw [hq] at ly hne bB
      rw [hp] at lx bA
      rw [hq] at e1
      rw [hp, hq] at e2
      have hD := rdiv_any p q lx ly hne
      have hm : p % q < q := Nat.mod_lt _ (Nat.pos_of_ne_zero hne)
      obtain ⟨Q, hQ⟩ : ∃ Q, p / q = Q := ⟨_, rfl⟩
      obtain ⟨R, hR⟩ : ∃ R, p % q = R := ⟨_, rfl⟩
      rw [hQ, hR] at hD
      rw [hR] at e2 hm
      have HD := Lib.hid hD; have E1 := Lib.hid e1; have E2 := Lib.hid e2; have HM := Lib.hid hm
      clear hD e1 e2 hQ hR hp hq hm
      have x0 := bA.c0; have x1 := bA.c1; have y0 := bB.c0; have y1 := bB.c1
      rcases box_ne2 q hne with h | ⟨h, h'⟩
      all_goals
        go_wp2_with fail
        refine (HD.out _).mono ?_
        rintro e w5 ⟨rfl, hb5⟩
        have bA5 := bA.call hb5
        have bB5 := bB.call hb5
        have bt5 := bt.call hb5
        have zx := bA5.lt; have zy := bB5.lt
        have s5 := bt5.size
        clear x0 x1 y0 y1 hb5 f0 f1
        have x0 := bA5.c0; have x1 := bA5.c1; have x2 := bA5.f0; have x3 := bA5.f1
        have y0 := bB5.c0; have y1 := bB5.c1; have y2 := bB5.f0; have y3 := bB5.f1
        have nx : w.heap.size ≠ w5.heap.size := by omega
        have ny : w.heap.size + 1 ≠ w5.heap.size := by omega
        have nx' : w.heap.size ≠ w5.heap.size + 1 := by omega
        have ny' : w.heap.size + 1 ≠ w5.heap.size + 1 := by omega
        go_wp2_with fail
        go_region
        go_wp2_with fail
        go_roundw
        case rel =>
          refine ⟨i + 1, by omega, ?_, ?_, ?_⟩
          · rw [E1.out]; exact (((((bA5.set q).other (by simp) _).other (by simp) _).alloc _).alloc _).drew
          · rw [E2.out]; exact (((((bB5.other (by simp) _).other (by simp) _).set R).alloc _).alloc _).drew
          · exact ((((((bt5.set (.inl rfl) _).set (.inl rfl) _).set (.inr rfl) _).set (.inr rfl) _).call ((Below.refl _ _).alloc (Nat.le_refl _) _)).call ((Below.refl _ _).alloc (Nat.le_refl _) _)).call (Below.refl _ _).drew
        case measure =>
          rw [boxVal_eq bB, boxVal_eq (n := R)]
          · exact HM.out
          · exact (((((bB5.other (by simp) _).other (by simp) _).set R).alloc _).alloc _).drew
    · obtain rfl : i = N := by omega
      rw [HN.out] at bB
      rw [HG.out] at bA
      have y0 : wr.cell? ⟨w.heap.size + 1, 0, none⟩ = some (.int .u64 0) := bB.c0
      have y1 : wr.cell? ⟨w.heap.size + 1, 1, none⟩ = some (.int .u64 0) := bB.c1
      have x0 := bA.c0; have x1 := bA.c1
      have p0 := r4.c0; have p1 := r4.c1; have p2 := r4.f0; have p3 := r4.f1
      go_wp2_with fail
      have u4 := r4.set G
      have v0 := u4.c0; have v1 := u4.c1
      refine bodyPost_ret (v := .agg #[.int .u64 (hi G : Nat), .int .u64 (lo G : Nat)]) (by simp [results, Try.results26, go_sem, v0, v1]) rfl ⟨rfl, ?_⟩
      exact ((hd0.trans (bt.below (by omega) (by omega) (by omega))).setCell (by simp; omega) _).setCell (by simp; omega) _

set_option maxHeartbeats 1000000 in
theorem rlowest_any (a b : Nat) (ha : a < M128) (hb : b < M128) (h0 : b ≠ 0) (w : World) :
    Calls Try.prog 51 #[.agg #[.int .u64 (hi a : Nat), .int .u64 (lo a : Nat)], .agg #[.int .u64 (hi b : Nat), .int .u64 (lo b : Nat)]] w fun e w' => e = .returned (.tuple #[.agg #[.int .u64 (hi (a / Nat.gcd a b) : Nat), .int .u64 (lo (a / Nat.gcd a b) : Nat)], .agg #[.int .u64 (hi (b / Nat.gcd a b) : Nat), .int .u64 (lo (b / Nat.gcd a b) : Nat)]]) ∧ Below w.heap.size w w' := by
  have hG := rgcd_any a b ha hb
  have hg0 : Nat.gcd a b ≠ 0 := fun e => h0 (Nat.eq_zero_of_gcd_eq_zero_right e)
  have hX := rdiv_any a (Nat.gcd a b) ha (gcd_lt a b ha hb) hg0
  have hY := rdiv_any b (Nat.gcd a b) hb (gcd_lt a b ha hb) hg0
  obtain ⟨G, hGG⟩ : ∃ G, Nat.gcd a b = G := ⟨_, rfl⟩
  rw [hGG] at hG hX hY ⊢
  clear hGG hg0
  obtain ⟨x, hx⟩ : ∃ x, a / G = x := ⟨_, rfl⟩
  obtain ⟨y, hy⟩ : ∃ y, b / G = y := ⟨_, rfl⟩
  obtain ⟨r, hr⟩ : ∃ r, a % G = r := ⟨_, rfl⟩
  obtain ⟨s, hs⟩ : ∃ s, b % G = s := ⟨_, rfl⟩
  rw [hx, hr] at hX
  rw [hy, hs] at hY
  rw [hx, hy]
  clear hx hy hr hs
  have HG := Lib.hid hG; have HX := Lib.hid hX; have HY := Lib.hid hY
  clear hG hX hY
  go_enter Try.func51, Try.ntmps51
  go_wp2_with fail
  refine (HG.out _).mono ?_
  rintro e w1 ⟨rfl, hb1⟩
  have bA : Box w1 (w.heap.size) a := ((((Box.new w a 48).alloc _).alloc _).alloc _).call hb1
  have bB : Box w1 (w.heap.size + 1) b := (((Box.newAt (by simp)).alloc _).alloc _).call hb1
  have b4 : Box w1 (w.heap.size + 1 + 1) 0 := ((Box.new0At (by simp)).alloc _).call hb1
  have b5 : Box w1 (w.heap.size + 1 + 1 + 1) 0 := (Box.new0At (by simp)).call hb1
  have zA := bA.lt; have zB := bB.lt; have z4 := b4.lt; have z5 := b5.lt
  have a0 := bA.c0; have a1 := bA.c1
  have hw1 : Below w.heap.size w w1 := (((((Below.refl _ _).alloc (Nat.le_refl _) _).alloc (by simp) _).alloc (by simp; omega) _).alloc (by simp; omega) _).trans (hb1.mono (by simp; omega))
  have HW1 := Lib.hid hw1
  have s1 := hw1.size
  clear hb1 hw1
  go_wp2_with fail
  refine (HX.out _).mono ?_
  rintro e w2 ⟨rfl, hb2⟩
  have bB2 := (bB.alloc (.cells #[.int .u64 (hi G : Nat), .int .u64 (lo G : Nat)] 48)).call hb2
  have b42 := (b4.alloc (.cells #[.int .u64 (hi G : Nat), .int .u64 (lo G : Nat)] 48)).call hb2
  have b52 := (b5.alloc (.cells #[.int .u64 (hi G : Nat), .int .u64 (lo G : Nat)] 48)).call hb2
  have bG2 : Box w2 w1.heap.size G := (Box.new _ _ _).call hb2
  have zG := bG2.lt
  have y0 := bB2.c0; have y1 := bB2.c1; have g0 := bG2.c0; have g1 := bG2.c1
  have hw2 : Below w.heap.size w w2 := (HW1.out.alloc s1 _).trans (hb2.mono (by simp; omega))
  have HW2 := Lib.hid hw2
  have s2 := hw2.size
  have zB2 := bB2.lt
  have zA2 : w.heap.size < w2.heap.size := by omega
  clear hb2 hw2 bA bB b4 b5 a0 a1
  go_wp2_with fail
  refine (HY.out _).mono ?_
  rintro e w3 ⟨rfl, hb3⟩
  have b43 := ((b42.alloc (.cells #[.int .u64 (hi x : Nat), .int .u64 (lo x : Nat)] 48)).alloc (.cells #[.int .u64 (hi r : Nat), .int .u64 (lo r : Nat)] 48)).call hb3
  have b53 := ((b52.alloc (.cells #[.int .u64 (hi x : Nat), .int .u64 (lo x : Nat)] 48)).alloc (.cells #[.int .u64 (hi r : Nat), .int .u64 (lo r : Nat)] 48)).call hb3
  have bX3 : Box w3 w2.heap.size x := ((Box.new _ _ _).alloc _).call hb3
  have hw3 : Below w.heap.size w w3 := ((HW2.out.alloc s2 _).alloc (by simp; omega) _).trans (hb3.mono (by simp; omega))
  have HW3 := Lib.hid hw3
  have s3 := hw3.size
  clear hb3 hw3 b42 b52 y0 y1 g0 g1
  have zX := bX3.lt
  have x0 := bX3.c0; have x1 := bX3.c1
  have p0 := b43.c0; have p1 := b43.c1; have p2 := b43.f0; have p3 := b43.f1
  have q0 := b53.c0; have q1 := b53.c1; have q2 := b53.f0; have q3 := b53.f1
  have z43 := b43.lt; have z53 := b53.lt
  have zA3 : w.heap.size < w3.heap.size := by omega
  have zB3 : w.heap.size + 1 < w3.heap.size := by omega
  have n1 : w2.heap.size ≠ w.heap.size + 1 + 1 := by omega
  have n2 : w2.heap.size ≠ w.heap.size + 1 + 1 + 1 := by omega
  have n3 : w3.heap.size ≠ w.heap.size + 1 + 1 := by omega
  have n4 : w3.heap.size ≠ w.heap.size + 1 + 1 + 1 := by omega
  go_wp2_with fail
  go_region
  go_wp2_with fail
  have u4 := (((((b43.set x).other (p := ⟨w.heap.size + 1 + 1 + 1, 0, none⟩) (by simp) (.int .u64 (hi y : Nat))).other (p := ⟨w.heap.size + 1 + 1 + 1, 1, none⟩) (by simp) (.int .u64 (lo y : Nat))).alloc (.cells #[.int .u64 (hi y : Nat), .int .u64 (lo y : Nat)] 48)).alloc (.cells #[.int .u64 (hi s : Nat), .int .u64 (lo s : Nat)] 48)).drew
  have u5 := (((((b53.other (p := ⟨w.heap.size + 1 + 1, 0, none⟩) (by simp) (.int .u64 (hi x : Nat))).other (p := ⟨w.heap.size + 1 + 1, 1, none⟩) (by simp) (.int .u64 (lo x : Nat))).set y).alloc (.cells #[.int .u64 (hi y : Nat), .int .u64 (lo y : Nat)] 48)).alloc (.cells #[.int .u64 (hi s : Nat), .int .u64 (lo s : Nat)] 48)).drew
  have v0 := u4.c0; have v1 := u4.c1; have v2 := u5.c0; have v3 := u5.c1
  refine bodyPost_ret (v := .tuple #[.agg #[.int .u64 (hi x : Nat), .int .u64 (lo x : Nat)], .agg #[.int .u64 (hi y : Nat), .int .u64 (lo y : Nat)]]) (by simp [results, Try.results51, go_sem, v0, v1, v2, v3]) rfl ⟨rfl, ?_⟩
  exact ((((((HW3.out.setCell (by simp; omega) _).setCell (by simp; omega) _).setCell (by simp; omega) _).setCell (by simp; omega) _).alloc (by simp; omega) _).alloc (by simp; omega) _).drew
end Go.Proofs.Ytjnebbjjabnipaa
