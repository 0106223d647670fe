/- divide.Div answers how often b goes into a, and what is left; by 0 it answers ErrZero and zeros; nothing that was in memory before is changed. -/
import Derived.Test.YtacnaencmbnjpaaBox
import Derived.Test.YtacnaencmbnjpaaWMul
import Derived.Test.YtacnaencmbnjpaaWAdd
import Derived.ScopeJumps
import Derived.WalkMore
namespace Go.Proofs.Ytacnaencmbnjpaa
open Go.RowKit Go.Shelf

theorem div_zero (a : Nat) (w : World) :
    Calls Try.prog 76 #[.agg #[.int .u64 (hi a : Nat), .int .u64 (lo a : Nat)], .agg #[.int .u64 0, .int .u64 0]] w fun e w' => e = .returned (.tuple #[.agg #[.int .u64 0, .int .u64 0], .agg #[.int .u64 0, .int .u64 0], .int .i64 4]) ∧ Below w.heap.size w w' := by
  go_enter Try.func76, Try.ntmps76
  go_wp2_with (fail)
  refine wp_scope_straight ?_
  go_wp2_with (fail)
  rw [Exit.noGoto_ret]
  exact bodyPost_ret (v := .tuple #[.agg #[.int .u64 0, .int .u64 0], .agg #[.int .u64 0, .int .u64 0], .int .i64 4]) (by simp [results, Try.results76, go_sem]) rfl ⟨rfl, by repeat first | exact Below.refl _ _ | refine Below.setCell ?_ (by simp; omega) _ | refine Below.alloc ?_ (by simp; omega) _ | refine Below.alloc ?_ (by simp) _⟩

/-- What is so behind Div's loop. -/
structure Gone (a b B D g k : Nat) (w W : World) : Prop where
  boxG : Box W g (a / b)
  boxK : Box W k (a % b)
  box4 : Box W (B + 1 + 1) 0
  box5 : Box W (B + 1 + 1 + 1) 0
  below : Below B w W
  mark : W.heap[D]? = some (.deferred (some []))
  late : B + 4 ≤ D
  lateG : B + 4 ≤ g
  lateK : B + 4 ≤ k

/-- The frame and the world where both ways out of the loop meet. -/
def AfterJ (a b : Nat) (w : World) (a' : Act) (W' : World) : Prop := ∃ (D g k : Nat) (t9 t10 t11 t12 t13 t14 t15 t16 t17 t18 t19 t20 t21 t22 t23 t24 t25 t26 t27 t28 t29 t30 t31 t32 t33 t34 t35 t36 t37 t38 t39 t40 t41 t42 t43 : Value), a' = { tmps := #[(.agg #[.int .u64 (hi a : Nat), .int .u64 (lo a : Nat)]), (.agg #[.int .u64 (hi b : Nat), .int .u64 (lo b : Nat)]), (.pointer (some ⟨w.heap.size, 0, none⟩)), (.pointer (some ⟨w.heap.size + 1, 0, none⟩)), (.pointer (some ⟨w.heap.size + 1 + 1, 0, none⟩)), (.pointer (some ⟨w.heap.size + 1 + 1 + 1, 0, none⟩)), (.int .i64 0), (.pointer (some ⟨g, 0, none⟩)), (.pointer (some ⟨k, 0, none⟩)), t9, t10, t11, t12, t13, t14, t15, t16, t17, t18, t19, t20, t21, t22, t23, t24, t25, t26, t27, t28, t29, t30, t31, t32, t33, t34, t35, t36, t37, t38, t39, t40, t41, t42, t43], defers := [{ target := .collected D, args := #[] }] } ∧ Gone a b w.heap.size D g k w W'

attribute [local go_sem] Oper.semAt_some
set_option maxRecDepth 100000 in
set_option maxHeartbeats 2000000 in
theorem div_num (a b : Nat) (ha : a < M128) (hb : b < M128) (h0 : b ≠ 0) (w : World) :
    Calls Try.prog 76 #[.agg #[.int .u64 (hi a : Nat), .int .u64 (lo a : Nat)], .agg #[.int .u64 (hi b : Nat), .int .u64 (lo b : Nat)]] w fun e w' => e = .returned (.tuple #[.agg #[.int .u64 (hi (a / b) : Nat), .int .u64 (lo (a / b) : Nat)], .agg #[.int .u64 (hi (a % b) : Nat), .int .u64 (lo (a % b) : Nat)], .int .i64 0]) ∧ Below w.heap.size w w' := by
  refine calls_of_marks Try.func76 rfl ?_
  simp only [Try.ntmps76, List.size_toArray, List.length_cons, List.length_nil, Nat.reduceAdd, Nat.reduceSub, Array.replicate_succ, Array.replicate_zero, List.push_toArray, List.append_toArray, List.nil_append, List.cons_append]
  go_wp2_with (fail)
  refine wp_scope_jumps 0 (AfterJ a b w) (fun _ _ => 0) (by rfl) ?first ?pass
  case pass =>
    rintro a' W ⟨D, g, k, t9, t10, t11, t12, t13, t14, t15, t16, t17, t18, t19, t20, t21, t22, t23, t24, t25, t26, t27, t28, t29, t30, t31, t32, t33, t34, t35, t36, t37, t38, t39, t40, t41, t42, t43, rfl, hG⟩
    have HG' := Lib.hid hG
    have g0 := hG.boxG.c0; have g1 := hG.boxG.c1; have k0 := hG.boxK.c0; have k1 := hG.boxK.c1
    have p0 := hG.box4.c0; have p1 := hG.box4.c1; have p2 := hG.box4.f0; have p3 := hG.box4.f1
    have q0 := hG.box5.c0; have q1 := hG.box5.c1; have q2 := hG.box5.f0; have q3 := hG.box5.f1
    have n1 := hG.lateG; have n2 := hG.lateK; have n3 := hG.late
    clear hG
    have m1 : g ≠ w.heap.size + 1 + 1 := by omega
    have m2 : g ≠ w.heap.size + 1 + 1 + 1 := by omega
    have m3 : k ≠ w.heap.size + 1 + 1 := by omega
    have m4 : k ≠ w.heap.size + 1 + 1 + 1 := by omega
    go_wp2_with (fail)
    go_region
    all_goals go_wp2_with (fail)
    have hG := HG'.out
    have u4 : Box ((((((W.setCell ⟨w.heap.size + 1 + 1, 0, none⟩ (.int .u64 (hi (a / b) : Nat))).setCell ⟨w.heap.size + 1 + 1, 1, none⟩ (.int .u64 (lo (a / b) : Nat))).setCell ⟨w.heap.size + 1 + 1 + 1, 0, none⟩ (.int .u64 (hi (a % b) : Nat))).setCell ⟨w.heap.size + 1 + 1 + 1, 1, none⟩ (.int .u64 (lo (a % b) : Nat))).drew).putObj D (.deferred none)) (w.heap.size + 1 + 1) (a / b) := ((((hG.box4.set _).other (by simp) _).other (by simp) _).drew).put _ (by omega)
    have u5 : Box ((((((W.setCell ⟨w.heap.size + 1 + 1, 0, none⟩ (.int .u64 (hi (a / b) : Nat))).setCell ⟨w.heap.size + 1 + 1, 1, none⟩ (.int .u64 (lo (a / b) : Nat))).setCell ⟨w.heap.size + 1 + 1 + 1, 0, none⟩ (.int .u64 (hi (a % b) : Nat))).setCell ⟨w.heap.size + 1 + 1 + 1, 1, none⟩ (.int .u64 (lo (a % b) : Nat))).drew).putObj D (.deferred none)) (w.heap.size + 1 + 1 + 1) (a % b) := (((((hG.box5.other (by simp) _).other (by simp) _).set _)).drew).put _ (by omega)
    have v0 := u4.c0; have v1 := u4.c1; have v2 := u5.c0; have v3 := u5.c1
    refine (show bodyPostM _ _ _ _ _ .ret _ _ from post_mark (v := .tuple #[.agg #[.int .u64 (hi (a / b) : Nat), .int .u64 (lo (a / b) : Nat)], .agg #[.int .u64 (hi (a % b) : Nat), .int .u64 (lo (a % b) : Nat)], .int .i64 0]) ?_ ?_ ⟨rfl, ?_⟩)
    · exact ((Below.heap_setCell _ _ _ _ (by simp; omega)).trans ((Below.heap_setCell _ _ _ _ (by simp; omega)).trans ((Below.heap_setCell _ _ _ _ (by simp; omega)).trans ((Below.heap_setCell _ _ _ _ (by simp; omega)).trans hG.mark))))
    · simp [results, Try.results76, go_sem, v0, v1, v2, v3]
    · exact (((((hG.below.setCell (by simp; omega) _).setCell (by simp; omega) _).setCell (by simp; omega) _).setCell (by simp; omega) _).drew).trans (below_putObj _ _ (by omega))
  case first =>
    go_upto_region 1 with fail
    go_cut [13] from 11 to 13 (fun s wx => s = .bool false ∧ ((((w.alloc (Obj.cells #[.int .u64 (hi a : Nat), .int .u64 (lo a : Nat)] 55)).alloc (Obj.cells #[.int .u64 (hi b : Nat), .int .u64 (lo b : Nat)] 55)).alloc (Obj.cells #[.int .u64 0, .int .u64 0] 55)).alloc (Obj.cells #[.int .u64 0, .int .u64 0] 55)) = wx)
    case first =>
      rcases box_ne2 b h0 with h | ⟨h, h'⟩
      all_goals (go_wp2_with (fail); go_meet; exact ⟨rfl, rfl⟩)
    case rest =>
    obtain ⟨rfl, rfl⟩ := hcut
    go_upto_region 3 with fail
    go_cut [7, 8] from 16 to 17 (fun s7 s8 wx => ∃ g k : Nat, s7 = (.pointer (some ⟨g, 0, none⟩)) ∧ s8 = (.pointer (some ⟨k, 0, none⟩)) ∧ g ≠ k ∧ w.heap.size + 4 ≤ g ∧ w.heap.size + 4 ≤ k ∧ Box wx g 0 ∧ Box wx k a ∧ Below (w.heap.size + 4) ((((w.alloc (Obj.cells #[.int .u64 (hi a : Nat), .int .u64 (lo a : Nat)] 55)).alloc (Obj.cells #[.int .u64 (hi b : Nat), .int .u64 (lo b : Nat)] 55)).alloc (Obj.cells #[.int .u64 0, .int .u64 0] 55)).alloc (Obj.cells #[.int .u64 0, .int .u64 0] 55)) wx)
    case first =>
      go_region
      · go_wp2_with fail
        go_meet
        exact ⟨_, _, rfl, rfl, by omega, by omega, by omega, ((Box.new0At (by simp)).alloc _).drew, (Box.newAt (by simp)).drew, (((Below.refl _ _).alloc (by simp) _).alloc (by simp) _).drew⟩
      · go_wp2_with fail
        go_meet
        exact ⟨_, _, rfl, rfl, by omega, by omega, by omega, (Box.new0At (by simp)).drew, ((Box.newAt (by simp)).alloc _).drew, (((Below.refl _ _).alloc (by simp) _).alloc (by simp) _).drew⟩
    case rest =>
      obtain ⟨g, k, rfl, rfl, hgk, hg, hk, hG, hK, hbw⟩ := hcut
      have wsz : w.heap.size + 4 ≤ wc.heap.size := by have := hbw.size; simp at this; omega
      have bA : Box wc w.heap.size a := ((((Box.new w a 55).alloc _).alloc _).alloc _).below hbw (by omega)
      have bB : Box wc (w.heap.size + 1) b := (((Box.newAt (by simp)).alloc _).alloc _).below hbw (by omega)
      have b4 : Box wc (w.heap.size + 1 + 1) 0 := ((Box.new0At (by simp)).alloc _).below hbw (by omega)
      have b5 : Box wc (w.heap.size + 1 + 1 + 1) 0 := (Box.new0At (by simp)).below hbw (by omega)
      have hw : Below w.heap.size w wc := (((((Below.refl _ _).alloc (Nat.le_refl _) _).alloc (by simp) _).alloc (by simp; omega) _).alloc (by simp; omega) _).trans (hbw.mono (by omega))
      have cA0 := bA.c0; have cA1 := bA.c1; have cB0 := bB.c0; have cB1 := bB.c1
      have HG := Lib.hid hG; have HK := Lib.hid hK; have HA := Lib.hid bA; have HB := Lib.hid bB; have H4 := Lib.hid b4; have H5 := Lib.hid b5; have HW := Lib.hid hw
      clear hG hK bA bB b4 b5 hw hbw
      go_wp2_with (go_at_call 88; refine (parts_any _ _ _ _ _).mono ?_; rintro e w' ⟨rfl, rfl⟩)
      clear cA0 cA1 cB0 cB1
      obtain ⟨W0, hW0⟩ : ∃ W0, (wc.alloc (Obj.cells #[.int .u64 (hi a : Nat), .int .u64 (lo a : Nat)] 55)).alloc (Obj.cells #[.int .u64 (hi b : Nat), .int .u64 (lo b : Nat)] 55) = W0 := ⟨_, rfl⟩
      have sz0 : W0.heap.size = wc.heap.size + 2 := by rw [← hW0]; simp
      have hw0 : Below wc.heap.size wc W0 := by rw [← hW0]; exact ((Below.refl _ _).alloc (Nat.le_refl _) _).alloc (by simp) _
      have zg := HG.out.lt
      have zk := HK.out.lt
      have a0 : Box W0 wc.heap.size a := by rw [← hW0]; exact (Box.new _ _ _).alloc _
      have b0 : Box W0 (wc.heap.size + 1) b := by rw [← hW0]; exact Box.newAt (by simp)
      have hd0 : Below w.heap.size w W0 := HW.out.trans (hw0.mono (by omega))
      rw [hW0]
      refine wp_range (gf := 92) (lb := #[(.pointer (some ⟨wc.heap.size, 0, none⟩)), (.pointer (some ⟨wc.heap.size + 1, 0, none⟩))]) rfl (enters_of Try.func92 (by kernel_rfl) rfl) (parts_seq a b _ _ ha hb h0) (fun _ => rfl)
        (fun i W => ∃ q r, Taken a b i q r ∧ Box W g q ∧ Box W k r ∧ But g k W0 W)
        (fun t W => t = 0 ∧ Box W g (a / b) ∧ Box W k (a % b) ∧ But g k W0 W)
        (fun i X Y ⟨q, r, h1, h2, h3, h4⟩ hxy => ⟨q, r, h1, h2.below hxy (by omega), h3.below hxy (by omega), h4.step hxy⟩)
        (fun t X Y ⟨h1, h2, h3, h4⟩ hxy => ⟨h1, h2.below hxy (by omega), h3.below hxy (by omega), h4.step hxy⟩)
        (fun i X ⟨q, r, h1, h2, h3, h4⟩ => ⟨(h4.box a0 (by omega) (by omega)).holds, (h4.box b0 (by omega) (by omega)).holds⟩)
        ⟨0, a, Taken.start a b ha hb h0, HG.out.below hw0 zg, HK.out.below hw0 zk, But.refl _ _ _⟩
        (fun i a' W' => ∃ b9 b10 : Nat, wc.heap.size + 2 ≤ b9 ∧ wc.heap.size + 2 ≤ b10 ∧ a' = { tmps := #[(.agg #[.int .u64 (hi a : Nat), .int .u64 (lo a : Nat)]), (.agg #[.int .u64 (hi b : Nat), .int .u64 (lo b : Nat)]), (.pointer (some ⟨w.heap.size, 0, none⟩)), (.pointer (some ⟨w.heap.size + 1, 0, none⟩)), (.pointer (some ⟨w.heap.size + 1 + 1, 0, none⟩)), (.pointer (some ⟨w.heap.size + 1 + 1 + 1, 0, none⟩)), (.int .i64 0), (.pointer (some ⟨g, 0, none⟩)), (.pointer (some ⟨k, 0, none⟩)), (.pointer (some ⟨b9, 0, none⟩)), (.pointer (some ⟨b10, 0, none⟩)), u11, u12, (.bool false), undef, undef, u16, u17, (.agg #[.int .u64 (hi a : Nat), .int .u64 (lo a : Nat)]), (.agg #[.int .u64 (hi b : Nat), .int .u64 (lo b : Nat)]), (.func (.func 92) #[] #[(.pointer (some ⟨wc.heap.size, 0, none⟩)), (.pointer (some ⟨wc.heap.size + 1, 0, none⟩))]), (.agg #[.int .u64 (hi (b * 2 ^ (parts a b - 1 - i)) : Nat), .int .u64 (lo (b * 2 ^ (parts a b - 1 - i)) : Nat)]), (.agg #[.int .u64 (hi (2 ^ (parts a b - 1 - i)) : Nat), .int .u64 (lo (2 ^ (parts a b - 1 - i)) : Nat)]), undef, undef, undef, undef, undef, undef, undef, undef, undef, undef, undef, undef, undef, undef, undef, undef, undef, undef, undef, undef, undef], defers := [] } ∧ Holds W' b9 (b * 2 ^ (parts a b - 1 - i)) ∧ Holds W' b10 (2 ^ (parts a b - 1 - i)))
        (fun i a' X l r o hl ⟨b9, b10, h1, h2, h3, h4, h5⟩ => ⟨b9, b10, h1, h2, h3, ⟨cell_putObj o hl h4.1, cell_putObj o hl h4.2⟩, ⟨cell_putObj o hl h5.1, cell_putObj o hl h5.2⟩⟩)
        ?assign ?body ?done ?stop
      case assign =>
        rintro l i W m K hi ⟨q, r, h1, h2, h3, h4⟩ hlt hK'
        have HKK := Lib.hid hK'
        clear hK'
        unfold partRow
        gi_wp2
        exact HKK.out _ _ (((Above.refl _ _).alloc _).alloc _) ⟨q, r, h1, (h2.alloc _).alloc _, (h3.alloc _).alloc _, (h4.call ((Below.refl _ _).alloc (Nat.le_refl _) _)).call ((Below.refl _ _).alloc (Nat.le_refl _) _)⟩
          ⟨W.heap.size, W.heap.size + 1, by omega, by omega, rfl, ((Box.new _ _ _).alloc _).holds, (Box.newAt (by simp)).holds⟩
      case body =>
        rintro l i a' W m hi ⟨q, r, h1, h2, h3, h4⟩ ⟨b9, b10, l9, l10, rfl, h9, h10⟩ hlt
        have hr := h1.r_lt ha
        have hpf := parts_fit a b i ha hb h0
        have htf : 2 ^ (parts a b - 1 - i) < M128 := pow_fit _ (by have := parts_le a b ha hb h0; omega)
        have hskip := fun c => h1.skip c
        have htake := fun c => h1.take hi c
        have hq := fun c => (h1.take hi c).q_lt ha h0
        obtain ⟨X, hX⟩ : ∃ X, b * 2 ^ (parts a b - 1 - i) = X := ⟨_, rfl⟩
        obtain ⟨T, hT⟩ : ∃ T, 2 ^ (parts a b - 1 - i) = T := ⟨_, rfl⟩
        rw [hX] at hskip htake hq hpf h9 ⊢
        rw [hT] at hq htake htf h10 ⊢
        clear hX hT
        have hbB : Box W (w.heap.size + 1) b := h4.box (HB.out.below hw0 (by omega)) (by omega) (by omega)
        have HH1 := Lib.hid h1; have HS := Lib.hid hskip; have HT := Lib.hid htake; have HQ := Lib.hid hq
        have n9 : b9 ≠ k := by omega
        have n10 : b10 ≠ k := by omega
        have z9 := lt_of_cell h9.1
        have z10 := lt_of_cell h10.1
        clear h1 hskip htake hq hW0
        have L1 := less_num r b hr hb
        obtain ⟨k0, k1, _, _⟩ := h3
        obtain ⟨p0, p1, _, _⟩ := hbB
        have h3 : Box W k r := ⟨k0, k1, by assumption, by assumption⟩
        by_cases c1 : r < b
        · rw [show ltW r b = true from decide_eq_true c1] at L1
          have HL1 := Lib.hid L1; clear L1
          gi_wp2_with (fail)
          refine ⟨trivial, noDepth, (CallsIn.inRound l (callsIn_wide.2 (HL1.out _))).mono ?_⟩
          rintro e w1 ⟨rfl, hb1⟩
          clear k0 k1 p0 p1
          gi_wp2_with (fail)
          refine wpIn_goto ?_
          obtain ⟨e1, e2⟩ := Taken.end HH1.out.whole c1
          refine (show Above W0.heap.size W w1 ∧ _ ∧ _ ∧ _ ∧ _ from ⟨(Above.refl _ _).of hb1, rfl, ?_, ?_, h4.call hb1⟩)
          · rw [← e1]; exact h2.call hb1
          · rw [← e2]; exact h3.call hb1
        · rw [show ltW r b = false from decide_eq_false c1] at L1
          have HL1 := Lib.hid L1; clear L1
          gi_wp2_with (fail)
          refine ⟨trivial, noDepth, (CallsIn.inRound l (callsIn_wide.2 (HL1.out _))).mono ?_⟩
          rintro e w1 ⟨rfl, hb1⟩
          clear k0 k1 p0 p1
          obtain ⟨y9, d90, d91⟩ := keep2 hb1 z9 h9
          obtain ⟨y10, d100, d101⟩ := keep2 hb1 z10 h10
          have h31 := h3.call hb1
          have h21 := h2.call hb1
          have k10 := h31.c0; have k11 := h31.c1
          have L2 := less_num r X hr hpf
          have HB1 := Lib.hid hb1; clear hb1
          by_cases c2 : r < X
          · rw [show ltW r X = true from decide_eq_true c2] at L2
            have HL2 := Lib.hid L2; clear L2
            gi_wp2_with (fail)
            refine ⟨trivial, noDepth, (CallsIn.inRound l (callsIn_wide.2 (HL2.out _))).mono ?_⟩
            rintro e w2 ⟨rfl, hb2⟩
            clear k10 k11 d90 d91
            gi_wp2_with (fail)
            exact (show Above W0.heap.size W w2 ∧ _ from ⟨((Above.refl _ _).of HB1.out).of hb2, q, r, HS.out c2, h21.call hb2, h31.call hb2, (h4.call HB1.out).call hb2⟩)
          · rw [show ltW r X = false from decide_eq_false c2] at L2
            have HL2 := Lib.hid L2; clear L2
            have SB := sub_num r X hr hpf
            rw [subW_fit r X (by omega) hr] at SB
            have AD := add_num q T
            rw [addW_fit q T (HQ.out c2)] at AD
            have HTk := HT.out c2
            obtain ⟨R, hR⟩ : ∃ R, r - X = R := ⟨_, rfl⟩
            obtain ⟨Y, hY⟩ : ∃ Y, q + T = Y := ⟨_, rfl⟩
            rw [hR] at SB HTk
            rw [hY] at AD HTk
            clear hR hY
            have HSB := Lib.hid SB; have HAD := Lib.hid AD; have HTK := Lib.hid HTk
            clear SB AD HTk
            gi_wp2_with (fail)
            refine ⟨trivial, noDepth, (CallsIn.inRound l (callsIn_wide.2 (HL2.out _))).mono ?_⟩
            rintro e w2 ⟨rfl, hb2⟩
            obtain ⟨x9, e90, e91⟩ := keep2 hb2 y9 ⟨d90, d91⟩
            obtain ⟨x10, e100, e101⟩ := keep2 hb2 y10 ⟨d100, d101⟩
            have h32 := h31.call hb2
            have h22 := h21.call hb2
            have k20 := h32.c0; have k21 := h32.c1
            have HB2 := Lib.hid hb2
            clear hb2 d90 d91 d100 d101 k10 k11
            gi_wp2_with (fail)
            refine ⟨trivial, noDepth, (CallsIn.inRound l (callsIn_wide.2 (HSB.out _))).mono ?_⟩
            rintro e w3 ⟨rfl, hb3⟩
            obtain ⟨v10, f100, f101⟩ := keep2 hb3 x10 ⟨e100, e101⟩
            have h33 := h32.call hb3
            have h23 := h22.call hb3
            have k30 := h33.c0; have k31 := h33.c1; have k32 := h33.f0; have k33 := h33.f1
            have g30 := h23.c0; have g31 := h23.c1
            have HB3 := Lib.hid hb3
            clear hb3 e90 e91 e100 e101 k20 k21
            gi_wp2_with (fail)
            refine ⟨trivial, noDepth, (CallsIn.inRound l (callsIn_wide.2 (HAD.out _))).mono ?_⟩
            rintro e w4 ⟨rfl, hb4⟩
            have h34 : Box w4 k R := (h33.set R).call hb4
            have h24 : Box w4 g q := ((h23.other hgk _).other hgk _).call hb4
            have g40 := h24.c0; have g41 := h24.c1; have g42 := h24.f0; have g43 := h24.f1
            have HB4 := Lib.hid hb4
            clear hb4 k30 k31 k32 k33 g30 g31 f100 f101
            gi_wp2_with (fail)
            exact (show Above W0.heap.size W _ ∧ _ from ⟨((((((((Above.refl _ _).of HB1.out).of HB2.out).of HB3.out).setCell (by simp; omega) _).setCell (by simp; omega) _).of HB4.out).setCell (by simp; omega) _).setCell (by simp; omega) _, Y, R, HTK.out, h24.set Y, (h34.other (Ne.symm hgk) _).other (Ne.symm hgk) _,
              (((((((h4.call HB1.out).call HB2.out).call HB3.out).set (.inr rfl) _).set (.inr rfl) _).call HB4.out).set (.inl rfl) _).set (.inl rfl) _⟩)
      case done =>
        rintro D W hD ⟨q, r, h1, h2, h3, h4⟩ hdef
        obtain ⟨e1, e2⟩ := Taken.end h1.whole h1.last
        rw [e1] at h2; rw [e2] at h3
        have hG : Gone a b w.heap.size D g k w W := ⟨h2, h3, h4.box (H4.out.below hw0 (by omega)) (by omega) (by omega), h4.box (H5.out.below hw0 (by omega)) (by omega) (by omega), hd0.trans (h4.below (by omega) (by omega) (by omega)), hdef, by omega, by omega, by omega⟩
        clear h1 h2 h3 h4 e1 e2 hW0 hdef
        go_wp2_with (fail)
        refine wp_label ?_
        have HG' := Lib.hid hG
        have g0 := hG.boxG.c0; have g1 := hG.boxG.c1; have k0 := hG.boxK.c0; have k1 := hG.boxK.c1
        have p0 := hG.box4.c0; have p1 := hG.box4.c1; have p2 := hG.box4.f0; have p3 := hG.box4.f1
        have q0 := hG.box5.c0; have q1 := hG.box5.c1; have q2 := hG.box5.f0; have q3 := hG.box5.f1
        have n1 := hG.lateG; have n2 := hG.lateK; have n3 := hG.late
        clear hG
        have m1 : g ≠ w.heap.size + 1 + 1 := by omega
        have m2 : g ≠ w.heap.size + 1 + 1 + 1 := by omega
        have m3 : k ≠ w.heap.size + 1 + 1 := by omega
        have m4 : k ≠ w.heap.size + 1 + 1 + 1 := by omega
        go_wp2_with (fail)
        go_region
        all_goals go_wp2_with (fail)
        have hG := HG'.out
        have u4 : Box ((((((W.setCell ⟨w.heap.size + 1 + 1, 0, none⟩ (.int .u64 (hi (a / b) : Nat))).setCell ⟨w.heap.size + 1 + 1, 1, none⟩ (.int .u64 (lo (a / b) : Nat))).setCell ⟨w.heap.size + 1 + 1 + 1, 0, none⟩ (.int .u64 (hi (a % b) : Nat))).setCell ⟨w.heap.size + 1 + 1 + 1, 1, none⟩ (.int .u64 (lo (a % b) : Nat))).drew).putObj D (.deferred none)) (w.heap.size + 1 + 1) (a / b) := ((((hG.box4.set _).other (by simp) _).other (by simp) _).drew).put _ (by omega)
        have u5 : Box ((((((W.setCell ⟨w.heap.size + 1 + 1, 0, none⟩ (.int .u64 (hi (a / b) : Nat))).setCell ⟨w.heap.size + 1 + 1, 1, none⟩ (.int .u64 (lo (a / b) : Nat))).setCell ⟨w.heap.size + 1 + 1 + 1, 0, none⟩ (.int .u64 (hi (a % b) : Nat))).setCell ⟨w.heap.size + 1 + 1 + 1, 1, none⟩ (.int .u64 (lo (a % b) : Nat))).drew).putObj D (.deferred none)) (w.heap.size + 1 + 1 + 1) (a % b) := (((((hG.box5.other (by simp) _).other (by simp) _).set _)).drew).put _ (by omega)
        have v0 := u4.c0; have v1 := u4.c1; have v2 := u5.c0; have v3 := u5.c1
        refine (show bodyPostM _ _ _ _ _ .ret _ _ from post_mark (v := .tuple #[.agg #[.int .u64 (hi (a / b) : Nat), .int .u64 (lo (a / b) : Nat)], .agg #[.int .u64 (hi (a % b) : Nat), .int .u64 (lo (a % b) : Nat)], .int .i64 0]) ?_ ?_ ⟨rfl, ?_⟩)
        · exact ((Below.heap_setCell _ _ _ _ (by simp; omega)).trans ((Below.heap_setCell _ _ _ _ (by simp; omega)).trans ((Below.heap_setCell _ _ _ _ (by simp; omega)).trans ((Below.heap_setCell _ _ _ _ (by simp; omega)).trans hG.mark))))
        · simp [results, Try.results76, go_sem, v0, v1, v2, v3]
        · exact (((((hG.below.setCell (by simp; omega) _).setCell (by simp; omega) _).setCell (by simp; omega) _).setCell (by simp; omega) _).drew).trans (below_putObj _ _ (by omega))
      case stop =>
        rintro D t W hD ⟨rfl, h2, h3, h4⟩ hdef
        refine (show (0 : Nat) = 0 ∧ AfterJ a b w _ W from ⟨rfl, D, g, k, _, _, _, _, _, _, _, _, _, _, _, _, _, _, _, _, _, _, _, _, _, _, _, _, _, _, _, _, _, _, _, _, _, _, _, rfl, ?_⟩)
        exact ⟨h2, h3, h4.box (H4.out.below hw0 (by omega)) (by omega) (by omega), h4.box (H5.out.below hw0 (by omega)) (by omega) (by omega), hd0.trans (h4.below (by omega) (by omega) (by omega)), hdef, by omega, by omega, by omega⟩
end Go.Proofs.Ytacnaencmbnjpaa
