/- token.number, token.piece. -/
import Derived.Test.YticgmbhdcegoeaaDoorTokC
namespace Go.Proofs.YticgmbhdcegoeaaDoor
open Go.RowKit

theorem mark_core (n : Nat) (k x : Int) (hk : (if n = 123 then 3 else if n = 125 then 4 else if n = 59 then 5 else 0 : Int) = k) (hx : (if k = 0 then 7 else 0 : Int) = x) (w : World) :
    Calls Tryd.prog 37 #[.int .u8 (n : Nat)] w fun e w' => e = .returned (.tuple #[.int .i64 k, .int .i64 x]) ∧ w = w' := by
  obtain ⟨z, hz⟩ : ∃ z : Int, z = (n : Int) := ⟨_, rfl⟩
  rw [← hz]
  by_cases h1 : n = 123
  · rw [if_pos h1] at hk
    obtain rfl : z = 123 := by omega
    subst hk
    rw [if_neg (by decide)] at hx
    subst hx
    clear hz h1
    go_enter Tryd.func37, Tryd.ntmps37
    go_wp2
    go_ret2
    exact ⟨rfl, rfl⟩
  rw [if_neg h1] at hk
  by_cases h2 : n = 125
  · rw [if_pos h2] at hk
    obtain rfl : z = 125 := by omega
    subst hk
    rw [if_neg (by decide)] at hx
    subst hx
    clear hz h1 h2
    go_enter Tryd.func37, Tryd.ntmps37
    go_wp2
    go_ret2
    exact ⟨rfl, rfl⟩
  rw [if_neg h2] at hk
  by_cases h3 : n = 59
  · rw [if_pos h3] at hk
    obtain rfl : z = 59 := by omega
    subst hk
    rw [if_neg (by decide)] at hx
    subst hx
    clear hz h1 h2 h3
    go_enter Tryd.func37, Tryd.ntmps37
    go_wp2
    go_ret2
    exact ⟨rfl, rfl⟩
  rw [if_neg h3] at hk
  subst hk
  rw [if_pos rfl] at hx
  subst hx
  have b1 : (z == 123) = false := beq_false_of_ne (by omega)
  have b2 : (z == 125) = false := beq_false_of_ne (by omega)
  have b3 : (z == 59) = false := beq_false_of_ne (by omega)
  clear hz h1 h2 h3
  go_enter Tryd.func37, Tryd.ntmps37
  go_wp2
  go_ret2
  exact ⟨rfl, rfl⟩

/-! ### A number -/
def numOut : Except Int (Int × Nat) → Value
  | .error e => .tuple #[tokV 0 [] 0 0, .int .i64 0, .int .i64 e]
  | .ok (v, n) => .tuple #[tokV 2 [] v 0, .int .i64 (n : Nat), .int .i64 0]
/-- The digits ahead of anything else, by plain names. -/
structure Digs (d t : List UInt8) (n v h : Nat) : Prop where
  span : spanLen isDigit d = n
  take : d.take n = t
  val : valD t 0 = v
  head : 0 < n → bt t 0 = h
  all : ∀ b ∈ t, isDigit b = true
  len : t.length = n
theorem Digs.mk' (d : List UInt8) : Digs d (d.take (spanLen isDigit d)) (spanLen isDigit d) (valD (d.take (spanLen isDigit d)) 0) (d.headD 0).toNat := by
  refine ⟨rfl, rfl, rfl, fun h => ?_, spanLen_take isDigit d, by rw [List.length_take]; have := spanLen_le isDigit d; omega⟩
  cases d with
  | nil => exact absurd h (by decide)
  | cons b r =>
    cases e : spanLen isDigit (b :: r) with
    | zero => rw [e] at h; exact absurd h (by decide)
    | succ k => rfl
theorem rd_box (d : List UInt8) (w : World) : Rd d 0 (w.heap.size + 1) ((w.alloc (.cells #[.int .i64 0, .string ⟨#[]⟩, .int .i64 0, .int .i64 0] 30)).alloc (.cells #[.string (bs d), .int .i64 0] 69)) := by
  have := Has.new (w.alloc (.cells #[.int .i64 0, .string ⟨#[]⟩, .int .i64 0, .int .i64 0] 30)) [.string (bs d), .int .i64 0] 69
  rw [show (w.alloc (.cells #[.int .i64 0, .string ⟨#[]⟩, .int .i64 0, .int .i64 0] 30)).heap.size = w.heap.size + 1 by simp] at this
  exact this
theorem rd_kept {d : List UInt8} {w w3 : World} (h3 : Below (w.heap.size + 1) ((w.alloc (.cells #[.int .i64 0, .string ⟨#[]⟩, .int .i64 0, .int .i64 0] 30)).alloc (.cells #[.string (bs d), .int .i64 0] 69)) w3) :
    Has w3 w.heap.size zeroTok 30 ∧ Below w.heap.size w w3 :=
  ⟨((Has.new w zeroTok 30).alloc _).below h3 (by omega), (((Below.refl _ w).alloc (Nat.le_refl _) _).alloc (by simp) _).trans (h3.mono (by omega))⟩
set_option maxHeartbeats 1000000 in
theorem number_core (l d t : List UInt8) (below : Bool) (n v h : Nat) (w : World) (hd : numD l = d) (hb : decide ((l.headD 0).toNat = 45) = below) (hD : Digs d t n v h) (hl : d.length ≤ 100000) (hE : Env w) (r : Except Int (Int × Nat))
    (hr : r = if n = 0 then .error 7 else if (h = 48 ∧ (1 < n ∨ below = true)) ∨ 1000000000 < v then .error 3 else .ok (sgn below v, if below = true then n + 1 else n)) :
    Calls Tryd.prog 36 #[.string (bs l)] w fun e w' => e = .returned (numOut r) ∧ Below w.heap.size w w' := by
  have hcut := cut_minus l
  rw [hd, hb] at hcut
  clear hd hb
  have hn : n ≤ d.length := by rw [← hD.span]; exact spanLen_le _ _
  have hsli : ∀ w, (Instr.slice 9 (.string (bs d)) none (some (.int .i64 ((n : Nat) : Int))) none).run Tryd.prog w = .ok (.string (bs t)) w := fun w => by
    rw [run_slice_hi w _ d .i64 n Tryd.underlying9 hn, hD.take]
  have hW : ∀ W b B, Rd d 0 b W → B ≤ b → Calls Tryd.prog 31 #[nextOf b, .func (.func 35) #[] #[]] W fun e w' => e = .returned (.int .i64 (n : Nat)) ∧ Below B W w' := fun W b B hR hB => by
    have := run_digits d b B W hR hB hl
    rw [hD.span] at this
    exact this
  have hlen := hD.len
  have hst := bs_size t
  by_cases c0 : n = 0
  · rw [if_pos c0] at hr
    subst hr
    have ht : t = [] := List.eq_nil_of_length_eq_zero (by omega)
    subst ht
    have C0 := Lib.hid c0
    clear hst hlen hD c0
    go_enter Tryd.func36, Tryd.ntmps36
    go_wp2_with fail
    refine (hcut _).mono ?_
    rintro e w2 ⟨rfl, rfl⟩
    go_wp2_with fail
    refine (bytesOf_any d _).mono ?_
    rintro e w2 ⟨rfl, rfl⟩
    have hR := rd_box d w
    go_wp2_with fail
    refine (hW _ _ (w.heap.size + 1) hR (Nat.le_refl _)).mono ?_
    rintro e w3 ⟨rfl, h3⟩
    obtain ⟨hH, hb⟩ := rd_kept h3
    clear h3 hR hW hcut
    obtain ⟨⟨c0, c1, c2, c3⟩, ⟨f0, f1, f2, f3⟩⟩ := hH.four
    have hq := bs_toList ([] : List UInt8)
    go_wp2
    refine bodyPost_ret (v := .tuple #[tokV 0 [] 0 0, .int .i64 0, .int .i64 7]) (by simp [results, Tryd.results36, go_sem, tokV, bs, *]) rfl ⟨rfl, below_four hb (Nat.le_refl _) _ _ _ _⟩
  rw [if_neg c0] at hr
  have ht : t ≠ [] := fun e => c0 (by rw [← hlen, e]; rfl)
  have hq1 : (bs t).toList = t := bs_toList t
  have hq2 : (t == []) = false := by
    cases t with
    | nil => exact absurd rfl ht
    | cons a b => rfl
  have hq3 : t.isEmpty = false := by
    cases t with
    | nil => exact absurd rfl ht
    | cons a b => rfl
  have hidx : ∀ w, (Instr.index 9 (.string (bs t)) (.int .i64 0)).run Tryd.prog w = .ok (.int .u8 (h : Nat)) w := fun w => by
    have := run_index_bs (P := Tryd.prog) w 9 t .i64 0 Tryd.underlying9 (by omega)
    rw [hD.head (by omega)] at this
    exact this
  have hv := hD.val
  have hok : ∀ W, v < 9223372036854775808 → Calls Tryd.prog 46 #[.string (bs t)] W fun e w' => e = .returned (.tuple #[.int .i64 (v : Nat), .nilIface]) ∧ Below W.heap.size W w' := fun W hv2 => by
    have := atoi_ok t ht hD.all (by omega) (by rw [hv]; exact hv2) W
    rw [hv] at this
    exact this
  have hfar : ¬ v < 9223372036854775808 → ∀ W, Env W → Calls Tryd.prog 46 #[.string (bs t)] W fun e w' => ∃ n tp p, e = .returned (.tuple #[.int .i64 n, .iface tp p]) ∧ Below W.heap.size W w' := fun hv2 W hE =>
    atoi_far t ht hD.all (by omega) (by rw [hv]; exact hv2) W hE
  have hlm : n ≤ 100000 := by omega
  have hn1 : n ≠ 0 := c0
  rw [hlen] at hst
  clear hv hD hlen hn hl ht c0
  obtain ⟨z, hz⟩ : ∃ z : Int, z = (h : Int) := ⟨_, rfl⟩
  rw [← hz] at hidx
  by_cases c1 : h = 48
  · obtain rfl : z = 48 := by omega
    clear hz
    cases below
    · by_cases c2 : 1 < n
      · rw [if_pos (Or.inl ⟨c1, Or.inl c2⟩)] at hr
        subst hr
        clear c1 hok hfar
        go_enter Tryd.func36, Tryd.ntmps36
        go_wp2_with fail
        refine (hcut _).mono ?_
        rintro e w2 ⟨rfl, rfl⟩
        go_wp2_with fail
        refine (bytesOf_any d _).mono ?_
        rintro e w2 ⟨rfl, rfl⟩
        have hR := rd_box d w
        go_wp2_with fail
        refine (hW _ _ (w.heap.size + 1) hR (Nat.le_refl _)).mono ?_
        rintro e w3 ⟨rfl, h3⟩
        obtain ⟨hH, hb⟩ := rd_kept h3
        clear h3 hR hW hcut
        obtain ⟨⟨c0, c1, c2, c3⟩, ⟨f0, f1, f2, f3⟩⟩ := hH.four
        go_wp2
        refine bodyPost_ret (v := .tuple #[tokV 0 [] 0 0, .int .i64 0, .int .i64 3]) (by simp [results, Tryd.results36, go_sem, tokV, bs, *]) rfl ⟨rfl, below_four hb (Nat.le_refl _) _ _ _ _⟩
      · have c2' : ¬ (1 : Int) < (n : Int) := by omega
        by_cases c3 : 1000000000 < v
        · rw [if_pos (Or.inr c3)] at hr
          subst hr
          by_cases c4 : v < 9223372036854775808
          · replace hok := fun W => hok W c4
            clear c1 c4 hfar
            go_enter Tryd.func36, Tryd.ntmps36
            go_wp2_with fail
            refine (hcut _).mono ?_
            rintro e w2 ⟨rfl, rfl⟩
            go_wp2_with fail
            refine (bytesOf_any d _).mono ?_
            rintro e w2 ⟨rfl, rfl⟩
            have hR := rd_box d w
            go_wp2_with fail
            refine (hW _ _ (w.heap.size + 1) hR (Nat.le_refl _)).mono ?_
            rintro e w3 ⟨rfl, h3⟩
            obtain ⟨hH, hb⟩ := rd_kept h3
            clear h3 hR hW hcut
            have hE3 := hE.below hb
            go_wp2_with fail
            refine (hok _).mono ?_
            rintro e w4 ⟨rfl, h4⟩
            replace hH := hH.call h4
            replace hb := hb.trans (h4.mono hb.size)
            clear h4 hE3 hok
            obtain ⟨⟨c0, c1, c2, c3⟩, ⟨f0, f1, f2, f3⟩⟩ := hH.four
            go_wp2
            refine bodyPost_ret (v := .tuple #[tokV 0 [] 0 0, .int .i64 0, .int .i64 3]) (by simp [results, Tryd.results36, go_sem, tokV, bs, *]) rfl ⟨rfl, below_four hb (Nat.le_refl _) _ _ _ _⟩
          · replace hfar := hfar c4
            clear c1 c4 c3 hok
            go_enter Tryd.func36, Tryd.ntmps36
            go_wp2_with fail
            refine (hcut _).mono ?_
            rintro e w2 ⟨rfl, rfl⟩
            go_wp2_with fail
            refine (bytesOf_any d _).mono ?_
            rintro e w2 ⟨rfl, rfl⟩
            have hR := rd_box d w
            go_wp2_with fail
            refine (hW _ _ (w.heap.size + 1) hR (Nat.le_refl _)).mono ?_
            rintro e w3 ⟨rfl, h3⟩
            obtain ⟨hH, hb⟩ := rd_kept h3
            clear h3 hR hW hcut
            have hE3 := hE.below hb
            go_wp2_with fail
            refine (hfar _ hE3).mono ?_
            rintro e w4 ⟨an, atp, ap, rfl, h4⟩
            replace hH := hH.call h4
            replace hb := hb.trans (h4.mono hb.size)
            clear h4 hE3 hfar
            obtain ⟨⟨c0, c1, c2, c3⟩, ⟨f0, f1, f2, f3⟩⟩ := hH.four
            go_wp2
            refine bodyPost_ret (v := .tuple #[tokV 0 [] 0 0, .int .i64 0, .int .i64 3]) (by simp [results, Tryd.results36, go_sem, tokV, bs, *]) rfl ⟨rfl, below_four hb (Nat.le_refl _) _ _ _ _⟩
        · rw [if_neg (by rintro (⟨_, h | h⟩ | h); exact c2 h; exact absurd h (by decide); exact c3 h), if_neg (by decide)] at hr
          subst hr
          replace hok := fun W => hok W (by omega)
          clear c1 hfar
          go_enter Tryd.func36, Tryd.ntmps36
          go_wp2_with fail
          refine (hcut _).mono ?_
          rintro e w2 ⟨rfl, rfl⟩
          go_wp2_with fail
          refine (bytesOf_any d _).mono ?_
          rintro e w2 ⟨rfl, rfl⟩
          have hR := rd_box d w
          go_wp2_with fail
          refine (hW _ _ (w.heap.size + 1) hR (Nat.le_refl _)).mono ?_
          rintro e w3 ⟨rfl, h3⟩
          obtain ⟨hH, hb⟩ := rd_kept h3
          clear h3 hR hW hcut
          have hE3 := hE.below hb
          go_wp2_with fail
          refine (hok _).mono ?_
          rintro e w4 ⟨rfl, h4⟩
          replace hH := hH.call h4
          replace hb := hb.trans (h4.mono hb.size)
          clear h4 hE3 hok
          obtain ⟨⟨c0, c1, c2, c3⟩, ⟨f0, f1, f2, f3⟩⟩ := hH.four
          go_wp2
          refine bodyPost_ret (v := .tuple #[tokV 2 [] (v : Nat) 0, .int .i64 (n : Nat), .int .i64 0]) (by simp [results, Tryd.results36, go_sem, tokV, bs, *]) rfl ⟨rfl, below_four hb (Nat.le_refl _) _ _ _ _⟩
    · rw [if_pos (Or.inl ⟨c1, Or.inr rfl⟩)] at hr
      subst hr
      clear c1 hok hfar
      go_enter Tryd.func36, Tryd.ntmps36
      go_wp2_with fail
      refine (hcut _).mono ?_
      rintro e w2 ⟨rfl, rfl⟩
      go_wp2_with fail
      refine (bytesOf_any d _).mono ?_
      rintro e w2 ⟨rfl, rfl⟩
      have hR := rd_box d w
      go_wp2_with fail
      refine (hW _ _ (w.heap.size + 1) hR (Nat.le_refl _)).mono ?_
      rintro e w3 ⟨rfl, h3⟩
      obtain ⟨hH, hb⟩ := rd_kept h3
      clear h3 hR hW hcut
      obtain ⟨⟨c0, c1, c2, c3⟩, ⟨f0, f1, f2, f3⟩⟩ := hH.four
      go_wp2
      refine bodyPost_ret (v := .tuple #[tokV 0 [] 0 0, .int .i64 0, .int .i64 3]) (by simp [results, Tryd.results36, go_sem, tokV, bs, *]) rfl ⟨rfl, below_four hb (Nat.le_refl _) _ _ _ _⟩
  · have b1 : (z == 48) = false := beq_false_of_ne (by omega)
    by_cases c3 : 1000000000 < v
    · rw [if_pos (Or.inr c3)] at hr
      subst hr
      by_cases c4 : v < 9223372036854775808
      · replace hok := fun W => hok W c4
        clear c1 c4 hfar hz
        go_enter Tryd.func36, Tryd.ntmps36
        go_wp2_with fail
        refine (hcut _).mono ?_
        rintro e w2 ⟨rfl, rfl⟩
        go_wp2_with fail
        refine (bytesOf_any d _).mono ?_
        rintro e w2 ⟨rfl, rfl⟩
        have hR := rd_box d w
        go_wp2_with fail
        refine (hW _ _ (w.heap.size + 1) hR (Nat.le_refl _)).mono ?_
        rintro e w3 ⟨rfl, h3⟩
        obtain ⟨hH, hb⟩ := rd_kept h3
        clear h3 hR hW hcut
        have hE3 := hE.below hb
        go_wp2_with fail
        refine (hok _).mono ?_
        rintro e w4 ⟨rfl, h4⟩
        replace hH := hH.call h4
        replace hb := hb.trans (h4.mono hb.size)
        clear h4 hE3 hok
        obtain ⟨⟨c0, c1, c2, c3⟩, ⟨f0, f1, f2, f3⟩⟩ := hH.four
        go_wp2
        refine bodyPost_ret (v := .tuple #[tokV 0 [] 0 0, .int .i64 0, .int .i64 3]) (by simp [results, Tryd.results36, go_sem, tokV, bs, *]) rfl ⟨rfl, below_four hb (Nat.le_refl _) _ _ _ _⟩
      · replace hfar := hfar c4
        clear c1 c4 c3 hok hz
        go_enter Tryd.func36, Tryd.ntmps36
        go_wp2_with fail
        refine (hcut _).mono ?_
        rintro e w2 ⟨rfl, rfl⟩
        go_wp2_with fail
        refine (bytesOf_any d _).mono ?_
        rintro e w2 ⟨rfl, rfl⟩
        have hR := rd_box d w
        go_wp2_with fail
        refine (hW _ _ (w.heap.size + 1) hR (Nat.le_refl _)).mono ?_
        rintro e w3 ⟨rfl, h3⟩
        obtain ⟨hH, hb⟩ := rd_kept h3
        clear h3 hR hW hcut
        have hE3 := hE.below hb
        go_wp2_with fail
        refine (hfar _ hE3).mono ?_
        rintro e w4 ⟨an, atp, ap, rfl, h4⟩
        replace hH := hH.call h4
        replace hb := hb.trans (h4.mono hb.size)
        clear h4 hE3 hfar
        obtain ⟨⟨c0, c1, c2, c3⟩, ⟨f0, f1, f2, f3⟩⟩ := hH.four
        go_wp2
        refine bodyPost_ret (v := .tuple #[tokV 0 [] 0 0, .int .i64 0, .int .i64 3]) (by simp [results, Tryd.results36, go_sem, tokV, bs, *]) rfl ⟨rfl, below_four hb (Nat.le_refl _) _ _ _ _⟩
    · rw [if_neg (by rintro (⟨h, _⟩ | h); exact c1 h; exact c3 h)] at hr
      replace hok := fun W => hok W (by omega)
      clear c1 hfar hz
      cases below
      · rw [if_neg (by decide)] at hr
        subst hr
        go_enter Tryd.func36, Tryd.ntmps36
        go_wp2_with fail
        refine (hcut _).mono ?_
        rintro e w2 ⟨rfl, rfl⟩
        go_wp2_with fail
        refine (bytesOf_any d _).mono ?_
        rintro e w2 ⟨rfl, rfl⟩
        have hR := rd_box d w
        go_wp2_with fail
        refine (hW _ _ (w.heap.size + 1) hR (Nat.le_refl _)).mono ?_
        rintro e w3 ⟨rfl, h3⟩
        obtain ⟨hH, hb⟩ := rd_kept h3
        clear h3 hR hW hcut
        have hE3 := hE.below hb
        go_wp2_with fail
        refine (hok _).mono ?_
        rintro e w4 ⟨rfl, h4⟩
        replace hH := hH.call h4
        replace hb := hb.trans (h4.mono hb.size)
        clear h4 hE3 hok
        obtain ⟨⟨c0, c1, c2, c3⟩, ⟨f0, f1, f2, f3⟩⟩ := hH.four
        go_wp2
        refine bodyPost_ret (v := .tuple #[tokV 2 [] (v : Nat) 0, .int .i64 (n : Nat), .int .i64 0]) (by simp [results, Tryd.results36, go_sem, tokV, bs, *]) rfl ⟨rfl, below_four hb (Nat.le_refl _) _ _ _ _⟩
      · rw [if_pos rfl] at hr
        subst hr
        go_enter Tryd.func36, Tryd.ntmps36
        go_wp2_with fail
        refine (hcut _).mono ?_
        rintro e w2 ⟨rfl, rfl⟩
        go_wp2_with fail
        refine (bytesOf_any d _).mono ?_
        rintro e w2 ⟨rfl, rfl⟩
        have hR := rd_box d w
        go_wp2_with fail
        refine (hW _ _ (w.heap.size + 1) hR (Nat.le_refl _)).mono ?_
        rintro e w3 ⟨rfl, h3⟩
        obtain ⟨hH, hb⟩ := rd_kept h3
        clear h3 hR hW hcut
        have hE3 := hE.below hb
        go_wp2_with fail
        refine (hok _).mono ?_
        rintro e w4 ⟨rfl, h4⟩
        replace hH := hH.call h4
        replace hb := hb.trans (h4.mono hb.size)
        clear h4 hE3 hok
        obtain ⟨⟨c0, c1, c2, c3⟩, ⟨f0, f1, f2, f3⟩⟩ := hH.four
        go_wp2
        refine bodyPost_ret (v := .tuple #[tokV 2 [] (-(v : Nat)) 0, .int .i64 ((n + 1 : Nat) : Int), .int .i64 0]) (by simp [results, Tryd.results36, go_sem, tokV, bs, *]; omega) rfl ⟨rfl, below_four hb (Nat.le_refl _) _ _ _ _⟩
end Go.Proofs.YticgmbhdcegoeaaDoor
