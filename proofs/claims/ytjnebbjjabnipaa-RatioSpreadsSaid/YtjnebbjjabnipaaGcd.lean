/- divide.Gcd answers the greatest number that divides both, and divide.Lowest both divided by it (by 0: ErrZero and zeros); nothing that was in memory before is changed. -/
import Derived.Test.YtjnebbjjabnipaaLefts
namespace Go.Proofs.Ytjnebbjjabnipaa
open Go.RowKit Go.Shelf

attribute [local go_sem] Oper.semAt_some
set_option maxRecDepth 100000 in
set_option maxHeartbeats 2000000 in
theorem gcd_num (a b : Nat) (ha : a < M128) (hb : b < M128) (w : World) :
    Calls Try.prog 25 #[.agg #[.int .u64 (hi a : Nat), .int .u64 (lo a : Nat)], .agg #[.int .u64 (hi b : Nat), .int .u64 (lo b : Nat)]] w fun e w' => e = .returned (.agg #[.int .u64 (hi (Nat.gcd a b) : Nat), .int .u64 (lo (Nat.gcd a b) : Nat)]) ∧ Below w.heap.size w w' := by
  obtain ⟨N, hN, hN'⟩ := eu_ends b a
  have hG := eu_last a b N hN
  obtain ⟨G, hGG⟩ : ∃ G, Nat.gcd a b = G := ⟨_, rfl⟩
  rw [hGG] at hG ⊢
  have HN := Lib.hid hN; have HN' := Lib.hid hN'; have HG := Lib.hid hG
  clear hN hN' hG hGG
  refine calls_of_marks Try.func25 rfl ?_
  simp only [Try.ntmps25, List.size_toArray, List.length_cons, List.length_nil, Nat.reduceAdd, Nat.reduceSub, Array.replicate_succ, Array.replicate_zero, List.push_toArray, List.append_toArray, List.nil_append, List.cons_append]
  go_wp2_with (go_at_call 48; refine (lefts_any _ _ _ _ _).mono ?_; rintro e w' ⟨rfl, rfl⟩)
  obtain ⟨W0, hW0⟩ : ∃ W0, ((((((w.alloc (.cells #[.int .u64 (hi a : Nat), .int .u64 (lo a : Nat)] 48)).alloc (.cells #[.int .u64 (hi b : Nat), .int .u64 (lo b : Nat)] 48)).alloc (.cells #[.int .u64 0, .int .u64 0] 48)).alloc (.cells #[.int .u64 (hi a : Nat), .int .u64 (lo a : Nat)] 48)).alloc (.cells #[.int .u64 (hi a : Nat), .int .u64 (lo a : Nat)] 48)).alloc (.cells #[.int .u64 (hi b : Nat), .int .u64 (lo b : Nat)] 48)) = W0 := ⟨_, rfl⟩
  have sz0 : W0.heap.size = w.heap.size + 6 := by rw [← hW0]; simp
  have g0 : Box W0 (w.heap.size + 1 + 1 + 1) a := by rw [← hW0]; exact ((Box.newAt (by simp)).alloc _).alloc _
  have r0 : Box W0 (w.heap.size + 1 + 1) 0 := by rw [← hW0]; exact (((Box.new0At (by simp)).alloc _).alloc _).alloc _
  have a0 : Box W0 (w.heap.size + 1 + 1 + 1 + 1) a := by rw [← hW0]; exact (Box.newAt (by simp)).alloc _
  have b0 : Box W0 (w.heap.size + 1 + 1 + 1 + 1 + 1) b := by rw [← hW0]; exact Box.newAt (by simp)
  have hd0 : Below w.heap.size w W0 := by rw [← hW0]; exact ((((((Below.refl _ _).alloc (Nat.le_refl _) _).alloc (by simp) _).alloc (by simp; omega) _).alloc (by simp; omega) _).alloc (by simp; omega) _).alloc (by simp; omega) _
  rw [hW0]
  clear hW0
  refine wp_range (gf := 67) (lb := #[(.pointer (some ⟨w.heap.size + 1 + 1 + 1 + 1, 0, none⟩)), (.pointer (some ⟨w.heap.size + 1 + 1 + 1 + 1 + 1, 0, none⟩))]) rfl (enters_of Try.func67 (by kernel_rfl) rfl) (lefts_seq a b _ _ N ha hb HN.out HN'.out) (fun _ => rfl)
    (fun i W => Box W (w.heap.size + 1 + 1 + 1) (eu a b i).1 ∧ But (w.heap.size + 1 + 1 + 1) (w.heap.size + 1 + 1 + 1) W0 W)
    (fun _ _ => False)
    (fun i X Y ⟨h1, h2⟩ hxy => ⟨h1.below hxy (by omega), h2.step hxy⟩)
    (fun _ _ _ h _ => h)
    (fun i X ⟨h1, h2⟩ => ⟨(h2.box a0 (by omega) (by omega)).holds, (h2.box b0 (by omega) (by omega)).holds⟩)
    ⟨g0, But.refl _ _ _⟩
    (fun i a' W' => ∃ b6 : Nat, w.heap.size + 6 ≤ b6 ∧ a' = { tmps := #[(.agg #[.int .u64 (hi a : Nat), .int .u64 (lo a : Nat)]), (.agg #[.int .u64 (hi b : Nat), .int .u64 (lo b : Nat)]), (.pointer (some ⟨w.heap.size, 0, none⟩)), (.pointer (some ⟨w.heap.size + 1, 0, none⟩)), (.pointer (some ⟨w.heap.size + 1 + 1, 0, none⟩)), (.pointer (some ⟨w.heap.size + 1 + 1 + 1, 0, none⟩)), (.pointer (some ⟨b6, 0, none⟩)), (.agg #[.int .u64 (hi a : Nat), .int .u64 (lo a : Nat)]), (.agg #[.int .u64 (hi a : Nat), .int .u64 (lo a : Nat)]), (.agg #[.int .u64 (hi b : Nat), .int .u64 (lo b : Nat)]), (.func (.func 67) #[] #[(.pointer (some ⟨w.heap.size + 1 + 1 + 1 + 1, 0, none⟩)), (.pointer (some ⟨w.heap.size + 1 + 1 + 1 + 1 + 1, 0, none⟩))]), (.agg #[.int .u64 (hi (eu a b i).2 : Nat), .int .u64 (lo (eu a b i).2 : Nat)]), undef, undef], defers := [] } ∧ Holds W' b6 (eu a b i).2)
    (fun i a' X l r o hl ⟨b6, h1, h2, h3⟩ => ⟨b6, h1, h2, cell_putObj o hl h3.1, cell_putObj o hl h3.2⟩)
    ?assign ?body ?done ?stop
  case assign =>
    rintro l i W m K hi ⟨h1, h2⟩ hlt hK'
    have HKK := Lib.hid hK'
    clear hK'
    unfold leftRow
    gi_wp2
    exact HKK.out _ _ ((Above.refl _ _).alloc _) ⟨h1.alloc _, h2.call ((Below.refl _ _).alloc (Nat.le_refl _) _)⟩ ⟨W.heap.size, by omega, rfl, (Box.new _ _ _).holds⟩
  case body =>
    rintro l i a' W m hi ⟨h1, h2⟩ ⟨b6, l6, rfl, h6⟩ hlt
    have e1 : (eu a b (i + 1)).1 = (eu a b i).2 := rfl
    have E1 := Lib.hid e1; clear e1
    obtain ⟨c0, c1⟩ := h6
    have d0 := h1.c0; have d1 := h1.c1; have d2 := h1.f0; have d3 := h1.f1
    gi_wp2_with (fail)
    refine (show Above W0.heap.size W _ ∧ _ from ⟨((Above.refl _ _).setCell (by simp; omega) _).setCell (by simp; omega) _, ?_, (h2.set (.inl rfl) _).set (.inl rfl) _⟩)
    rw [E1.out]
    exact h1.set _
  case done =>
    rintro D W hD ⟨h1, h2⟩ hdef
    rw [HG.out] at h1
    have h4 := h2.box r0 (by omega) (by omega)
    have c0 := h1.c0; have c1 := h1.c1; have d0 := h4.c0; have d1 := h4.c1; have d2 := h4.f0; have d3 := h4.f1
    go_wp2_with (fail)
    have u4 := (h4.set G).put (l := D) (.deferred none) (by omega)
    have v0 := u4.c0; have v1 := u4.c1
    refine (show bodyPostM _ _ _ _ _ .ret _ _ from post_mark (v := .agg #[.int .u64 (hi G : Nat), .int .u64 (lo G : Nat)]) ?_ ?_ ⟨rfl, ?_⟩)
    · exact (Below.heap_setCell _ _ _ _ (by simp; omega)).trans ((Below.heap_setCell _ _ _ _ (by simp; omega)).trans hdef)
    · simp [results, Try.results25, go_sem, v0, v1]
    · exact (((hd0.trans (h2.below (by omega) (by omega) (by omega))).setCell (by simp; omega) _).setCell (by simp; omega) _).trans (below_putObj _ _ (by omega))
  case stop =>
    rintro D t W hD h hdef
    exact h.elim

theorem lowest_zero (a : Nat) (w : World) :
    Calls Try.prog 45 #[.agg #[.int .u64 (hi a : Nat), .int .u64 (lo a : Nat)], .agg #[.int .u64 0, .int .u64 0]] w fun e w' => e = .returned (.tuple #[.agg #[.int .u64 0, .int .u64 0], .agg #[.int .u64 0, .int .u64 0], .int .i64 4]) ∧ Below w.heap.size w w' := by
  go_enter Try.func45, Try.ntmps45
  go_wp2_with (fail)
  exact bodyPost_ret (v := .tuple #[.agg #[.int .u64 0, .int .u64 0], .agg #[.int .u64 0, .int .u64 0], .int .i64 4]) (by simp [results, Try.results45, go_sem]) rfl ⟨rfl, by repeat first | exact Below.refl _ _ | refine Below.setCell ?_ (by simp; omega) _ | refine Below.alloc ?_ (by simp; omega) _ | refine Below.alloc ?_ (by simp) _⟩

set_option maxHeartbeats 1000000 in
theorem lowest_num (a b : Nat) (ha : a < M128) (hb : b < M128) (h0 : b ≠ 0) (w : World) :
    Calls Try.prog 45 #[.agg #[.int .u64 (hi a : Nat), .int .u64 (lo a : Nat)], .agg #[.int .u64 (hi b : Nat), .int .u64 (lo b : Nat)]] w fun e w' => e = .returned (.tuple #[.agg #[.int .u64 (hi (a / Nat.gcd a b) : Nat), .int .u64 (lo (a / Nat.gcd a b) : Nat)], .agg #[.int .u64 (hi (b / Nat.gcd a b) : Nat), .int .u64 (lo (b / Nat.gcd a b) : Nat)], .int .i64 0]) ∧ Below w.heap.size w w' := by
  have hG := gcd_num a b ha hb
  have hg0 : Nat.gcd a b ≠ 0 := fun e => h0 (Nat.eq_zero_of_gcd_eq_zero_right e)
  have hX := div_num a (Nat.gcd a b) ha (gcd_lt a b ha hb) hg0
  have hY := div_num b (Nat.gcd a b) hb (gcd_lt a b ha hb) hg0
  obtain ⟨G, hGG⟩ : ∃ G, Nat.gcd a b = G := ⟨_, rfl⟩
  rw [hGG] at hG hX hY ⊢
  clear hGG hg0
  obtain ⟨x, hx⟩ : ∃ x, a / G = x := ⟨_, rfl⟩
  obtain ⟨y, hy⟩ : ∃ y, b / G = y := ⟨_, rfl⟩
  obtain ⟨r, hr⟩ : ∃ r, a % G = r := ⟨_, rfl⟩
  obtain ⟨s, hs⟩ : ∃ s, b % G = s := ⟨_, rfl⟩
  rw [hx, hr] at hX
  rw [hy, hs] at hY
  rw [hx, hy]
  clear hx hy hr hs
  have HG := Lib.hid hG; have HX := Lib.hid hX; have HY := Lib.hid hY
  clear hG hX hY
  go_enter Try.func45, Try.ntmps45
  go_upto_region 1 with fail
  go_cut [16] (fun s wx => s = .bool false ∧ ((((w.alloc (.cells #[.int .u64 (hi a : Nat), .int .u64 (lo a : Nat)] 48)).alloc (.cells #[.int .u64 (hi b : Nat), .int .u64 (lo b : Nat)] 48)).alloc (.cells #[.int .u64 0, .int .u64 0] 48)).alloc (.cells #[.int .u64 0, .int .u64 0] 48)) = wx)
  case first =>
    rcases box_ne2 b h0 with h | ⟨h, h'⟩
    all_goals (go_wp2_with (fail); go_meet; exact ⟨rfl, rfl⟩)
  case rest =>
    obtain ⟨rfl, rfl⟩ := hcut
    go_wp2_with fail
    refine (HG.out _).mono ?_
    rintro e w1 ⟨rfl, hb1⟩
    have bA : Box w1 (w.heap.size) a := ((((Box.new w a 48).alloc _).alloc _).alloc _).call hb1
    have bB : Box w1 (w.heap.size + 1) b := (((Box.newAt (by simp)).alloc _).alloc _).call hb1
    have b4 : Box w1 (w.heap.size + 1 + 1) 0 := ((Box.new0At (by simp)).alloc _).call hb1
    have b5 : Box w1 (w.heap.size + 1 + 1 + 1) 0 := (Box.new0At (by simp)).call hb1
    have zA := bA.lt; have zB := bB.lt; have z4 := b4.lt; have z5 := b5.lt
    have a0 := bA.c0; have a1 := bA.c1
    have hw1 : Below w.heap.size w w1 := (((((Below.refl _ _).alloc (Nat.le_refl _) _).alloc (by simp) _).alloc (by simp; omega) _).alloc (by simp; omega) _).trans (hb1.mono (by simp; omega))
    have HW1 := Lib.hid hw1
    have s1 := hw1.size
    clear hb1 hw1
    go_wp2_with fail
    refine (HX.out _).mono ?_
    rintro e w2 ⟨rfl, hb2⟩
    have bB2 := (bB.alloc (.cells #[.int .u64 (hi G : Nat), .int .u64 (lo G : Nat)] 48)).call hb2
    have b42 := (b4.alloc (.cells #[.int .u64 (hi G : Nat), .int .u64 (lo G : Nat)] 48)).call hb2
    have b52 := (b5.alloc (.cells #[.int .u64 (hi G : Nat), .int .u64 (lo G : Nat)] 48)).call hb2
    have bG2 : Box w2 w1.heap.size G := (Box.new _ _ _).call hb2
    have zG := bG2.lt
    have y0 := bB2.c0; have y1 := bB2.c1; have g0 := bG2.c0; have g1 := bG2.c1
    have hw2 : Below w.heap.size w w2 := (HW1.out.alloc s1 _).trans (hb2.mono (by simp; omega))
    have HW2 := Lib.hid hw2
    have s2 := hw2.size
    have zB2 := bB2.lt
    have zA2 : w.heap.size < w2.heap.size := by omega
    clear hb2 hw2 bA bB b4 b5 a0 a1
    go_wp2_with fail
    refine (HY.out _).mono ?_
    rintro e w3 ⟨rfl, hb3⟩
    have b43 := ((b42.alloc (.cells #[.int .u64 (hi x : Nat), .int .u64 (lo x : Nat)] 48)).alloc (.cells #[.int .u64 (hi r : Nat), .int .u64 (lo r : Nat)] 48)).call hb3
    have b53 := ((b52.alloc (.cells #[.int .u64 (hi x : Nat), .int .u64 (lo x : Nat)] 48)).alloc (.cells #[.int .u64 (hi r : Nat), .int .u64 (lo r : Nat)] 48)).call hb3
    have bX3 : Box w3 w2.heap.size x := ((Box.new _ _ _).alloc _).call hb3
    have hw3 : Below w.heap.size w w3 := ((HW2.out.alloc s2 _).alloc (by simp; omega) _).trans (hb3.mono (by simp; omega))
    have HW3 := Lib.hid hw3
    have s3 := hw3.size
    clear hb3 hw3 b42 b52 y0 y1 g0 g1
    have zX := bX3.lt
    have x0 := bX3.c0; have x1 := bX3.c1
    have p0 := b43.c0; have p1 := b43.c1; have p2 := b43.f0; have p3 := b43.f1
    have q0 := b53.c0; have q1 := b53.c1; have q2 := b53.f0; have q3 := b53.f1
    have z43 := b43.lt; have z53 := b53.lt
    have zA3 : w.heap.size < w3.heap.size := by omega
    have zB3 : w.heap.size + 1 < w3.heap.size := by omega
    have n1 : w2.heap.size ≠ w.heap.size + 1 + 1 := by omega
    have n2 : w2.heap.size ≠ w.heap.size + 1 + 1 + 1 := by omega
    have n3 : w3.heap.size ≠ w.heap.size + 1 + 1 := by omega
    have n4 : w3.heap.size ≠ w.heap.size + 1 + 1 + 1 := by omega
    go_wp2_with fail
    go_region
    go_wp2_with fail
    have u4 := (((((b43.set x).other (p := ⟨w.heap.size + 1 + 1 + 1, 0, none⟩) (by simp) (.int .u64 (hi y : Nat))).other (p := ⟨w.heap.size + 1 + 1 + 1, 1, none⟩) (by simp) (.int .u64 (lo y : Nat))).alloc (.cells #[.int .u64 (hi y : Nat), .int .u64 (lo y : Nat)] 48)).alloc (.cells #[.int .u64 (hi s : Nat), .int .u64 (lo s : Nat)] 48)).drew
    have u5 := (((((b53.other (p := ⟨w.heap.size + 1 + 1, 0, none⟩) (by simp) (.int .u64 (hi x : Nat))).other (p := ⟨w.heap.size + 1 + 1, 1, none⟩) (by simp) (.int .u64 (lo x : Nat))).set y).alloc (.cells #[.int .u64 (hi y : Nat), .int .u64 (lo y : Nat)] 48)).alloc (.cells #[.int .u64 (hi s : Nat), .int .u64 (lo s : Nat)] 48)).drew
    have v0 := u4.c0; have v1 := u4.c1; have v2 := u5.c0; have v3 := u5.c1
    refine bodyPost_ret (v := .tuple #[.agg #[.int .u64 (hi x : Nat), .int .u64 (lo x : Nat)], .agg #[.int .u64 (hi y : Nat), .int .u64 (lo y : Nat)], .int .i64 0]) (by simp [results, Try.results45, go_sem, v0, v1, v2, v3]) rfl ⟨rfl, ?_⟩
    exact ((((((HW3.out.setCell (by simp; omega) _).setCell (by simp; omega) _).setCell (by simp; omega) _).setCell (by simp; omega) _).alloc (by simp; omega) _).alloc (by simp; omega) _).drew
end Go.Proofs.Ytjnebbjjabnipaa
