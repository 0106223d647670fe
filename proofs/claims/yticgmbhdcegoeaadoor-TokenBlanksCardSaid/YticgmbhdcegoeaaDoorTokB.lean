/- token.run: how many bytes fit; token.blanks. -/
import Derived.Test.YticgmbhdcegoeaaDoorTokA
namespace Go.Proofs.YticgmbhdcegoeaaDoor
open Go.RowKit

theorem ret_nat {a b : Nat} (h : a = b) : Ending.returned (.int .i64 (a : Nat)) = Ending.returned (.int .i64 (b : Nat)) := by rw [h]
/-- What was read at a place: a byte, or that there is none. -/
def NextAt (l : List UInt8) (k b x : Nat) (m : Bool) (w : World) : Prop := (k < l.length ∧ x = bt l k ∧ m = true ∧ Rd l (k + 1) b w) ∨ (k = l.length ∧ x = 0 ∧ m = false ∧ Rd l k b w)
theorem NextAt.lt {l : List UInt8} {k b x : Nat} {m : Bool} {w : World} (h : NextAt l k b x m w) : x < 256 := by
  rcases h with ⟨_, h, _⟩ | ⟨_, h, _⟩
  · rw [h]; exact bt_lt l k
  · omega
theorem next_any (l : List UInt8) (k b : Nat) (w : World) (h : Rd l k b w) (hk : k ≤ l.length) (hm : l.length ≤ 100000) :
    Calls Tryd.prog 44 #[.pointer (some ⟨b, 0, none⟩)] w fun e w' => ∃ x m, e = .returned (.tuple #[.int .u8 (x : Nat), .bool m]) ∧ NextAt l k b x m w' ∧ Only b w w' := by
  by_cases c : k < l.length
  · exact (next_more l k b w h c hm).mono fun e w' ⟨he, h1, h2⟩ => ⟨bt l k, true, he, Or.inl ⟨c, rfl, rfl, h1⟩, h2⟩
  · exact (next_end l k b w h (by omega)).mono fun e w' ⟨he, h1, h2⟩ => ⟨0, false, he, Or.inr ⟨by omega, rfl, rfl, h1⟩, h2⟩

def RunD (l : List UInt8) (b B : Nat) (w : World) (n x m : Value) (wr : World) : Prop :=
  ∃ (k y : Nat) (z : Bool), k ≤ spanLen isDigit l ∧ n = .int .i64 (k : Nat) ∧ x = .int .u8 (y : Nat) ∧ m = .bool z ∧ NextAt l k b y z wr ∧ Below B w wr
set_option maxHeartbeats 1000000 in
theorem run_digits (l : List UInt8) (b B : Nat) (w : World) (h : Rd l 0 b w) (hB : B ≤ b) (hm : l.length ≤ 100000) :
    Calls Tryd.prog 31 #[nextOf b, .func (.func 35) #[] #[]] w fun e w' => e = .returned (.int .i64 (spanLen isDigit l : Nat)) ∧ Below B w w' := by
  have hsl := spanLen_le isDigit l
  unfold nextOf
  go_enter Tryd.func31, Tryd.ntmps31
  go_wp2_with fail
  refine (next_any l 0 b w h (Nat.zero_le _) hm).mono ?_
  rintro e w1 ⟨x, m, rfl, h1, h2⟩
  have hb1 := h2.below hB
  clear h2
  go_wp2
  go_loopw [5, 6, 7] (RunD l b B w) (fun n _ _ _ => l.length - (intOf n).toNat)
  case atStart => exact ⟨0, x, m, Nat.zero_le _, rfl, rfl, rfl, h1, hb1⟩
  case round =>
    obtain ⟨k, y, z, hk, rfl, rfl, rfl, hn, hb⟩ := hrel
    clear h1 hb1
    have hy := hn.lt
    rcases hn with ⟨hkl, e1, e2, hr⟩ | ⟨hkl, e1, e2, hr⟩
    · subst e2
      cases hd : digB y
      · have HS := Lib.hid (spanLen_stop isDigit l k hk (Or.inr (by rw [← hd, e1]; rfl)))
        clear e1
        go_wp2_with fail
        refine (isDigit_any y hy _).mono ?_
        rintro e w2 ⟨rfl, rfl⟩
        rw [hd]
        clear hd
        go_wp2
        go_ret
        exact ⟨ret_nat HS.out, hb⟩
      · have HS := Lib.hid (spanLen_step isDigit l k hk hkl (by rw [← hd, e1]; rfl))
        clear e1
        go_wp2_with fail
        refine (isDigit_any y hy _).mono ?_
        rintro e w2 ⟨rfl, rfl⟩
        rw [hd]
        clear hd
        go_wp2_with fail
        refine (next_any l (k + 1) b _ hr (by omega) hm).mono ?_
        rintro e w3 ⟨x', m', rfl, h3, h4⟩
        have hb3 := hb.trans (h4.below hB)
        clear h4
        go_wp2
        go_roundw
        case rel => exact ⟨k + 1, x', m', HS.out, by go_num, rfl, rfl, h3, hb3⟩
        case measure => simp [intOf]; omega
    · subst e2
      have HS := Lib.hid (spanLen_stop isDigit l k hk (Or.inl (by omega)))
      clear e1 hkl
      go_wp2
      go_ret
      exact ⟨ret_nat HS.out, hb⟩

/-- Whether a remark goes on is kept in a cell. -/
def RunB (l : List UInt8) (b c B : Nat) (w : World) (n x m : Value) (wr : World) : Prop :=
  ∃ (k y : Nat) (z : Bool), k ≤ skipN false l ∧ n = .int .i64 (k : Nat) ∧ x = .int .u8 (y : Nat) ∧ m = .bool z ∧ NextAt l k b y z wr ∧ boxOf (inRem false l k) c wr ∧ Below B w wr
set_option maxHeartbeats 1000000 in
theorem run_blanks (l : List UInt8) (b c B : Nat) (w : World) (h : Rd l 0 b w) (hc : boxOf false c w) (hbc : b ≠ c) (hB : B ≤ b) (hC : B ≤ c) (hm : l.length ≤ 100000) :
    Calls Tryd.prog 31 #[nextOf b, .func (.func 33) #[] #[.pointer (some ⟨c, 0, none⟩)]] w fun e w' => e = .returned (.int .i64 (skipN false l : Nat)) ∧ Below B w w' := by
  have hsl := skipN_le false l
  unfold nextOf
  go_enter Tryd.func31, Tryd.ntmps31
  go_wp2_with fail
  refine (next_any l 0 b w h (Nat.zero_le _) hm).mono ?_
  rintro e w1 ⟨x, m, rfl, h1, h2⟩
  have hb1 := h2.below hB
  have hc1 : boxOf false c w1 := h2.has (Ne.symm hbc) hc
  clear h2
  go_wp2
  go_loopw [5, 6, 7] (RunB l b c B w) (fun n _ _ _ => l.length - (intOf n).toNat)
  case atStart => exact ⟨0, x, m, Nat.zero_le _, rfl, rfl, rfl, h1, hc1, hb1⟩
  case round =>
    obtain ⟨k, y, z, hk, rfl, rfl, rfl, hn, hcr, hb⟩ := hrel
    clear h1 hb1 hc1 hc
    have hy := hn.lt
    rcases hn with ⟨hkl, e1, e2, hr⟩ | ⟨hkl, e1, e2, hr⟩
    · subst e2
      have HK := blank_core (inRem false l k) _ _ y rfl rfl c wr hcr
      have hr2 : Rd l (k + 1) b (wr.setCell ⟨c, 0, none⟩ (.bool (remB (inRem false l k) y))) := hr.other hbc _
      have hc2 : boxOf (remB (inRem false l k) y) c (wr.setCell ⟨c, 0, none⟩ (.bool (remB (inRem false l k) y))) := hcr.set 0 _
      have hb2 : Below B w (wr.setCell ⟨c, 0, none⟩ (.bool (remB (inRem false l k) y))) := hb.setCell hC _
      have he3 : remB (inRem false l k) y = inRem false l (k + 1) := by rw [inRem_succ false l k hkl, e1]; rfl
      rw [he3] at HK hr2 hc2 hb2
      clear hr hcr hb he3
      generalize wr.setCell ⟨c, 0, none⟩ (.bool (inRem false l (k + 1))) = w2 at HK hr2 hc2 hb2
      cases hd : fitB (inRem false l k) y
      · have HS := Lib.hid (skipN_stop false l k hk (Or.inr (by rw [e1] at hd; exact hd)))
        rw [hd] at HK
        have HK' := Lib.hid HK
        clear e1 hd HK
        go_wp2_with fail
        refine HK'.out.mono ?_
        rintro e w2' ⟨rfl, rfl⟩
        go_wp2
        go_ret
        exact ⟨ret_nat HS.out, hb2⟩
      · have HS := Lib.hid (skipN_step false l k hk hkl (by rw [e1] at hd; exact hd))
        rw [hd] at HK
        have HK' := Lib.hid HK
        clear e1 hd HK
        go_wp2_with fail
        refine HK'.out.mono ?_
        rintro e w2' ⟨rfl, rfl⟩
        go_wp2_with fail
        refine (next_any l (k + 1) b _ hr2 (by omega) hm).mono ?_
        rintro e w3 ⟨x', m', rfl, h3, h4⟩
        have hb3 := hb2.trans (h4.below hB)
        have hc3 : boxOf (inRem false l (k + 1)) c w3 := h4.has (Ne.symm hbc) hc2
        clear h4
        go_wp2
        go_roundw
        case rel => exact ⟨k + 1, x', m', HS.out, by go_num, rfl, rfl, h3, hc3, hb3⟩
        case measure => simp [intOf]; omega
    · subst e2
      have HS := Lib.hid (skipN_stop false l k hk (Or.inl (by omega)))
      clear e1 hkl
      go_wp2
      go_ret
      exact ⟨ret_nat HS.out, hb⟩
theorem blanks_any (l : List UInt8) (w : World) (hm : l.length ≤ 100000) :
    Calls Tryd.prog 19 #[.string (bs l)] w fun e w' => e = .returned (.int .i64 (skipN false l : Nat)) ∧ Below w.heap.size w w' := by
  go_enter Tryd.func19, Tryd.ntmps19
  go_wp2_with fail
  refine (bytesOf_any l _).mono ?_
  rintro e w2 ⟨rfl, rfl⟩
  have hc : boxOf false w.heap.size ((w.alloc (.cells #[.bool false] 4)).alloc (.cells #[.string (bs l), .int .i64 0] 69)) := (Has.new w [.bool false] 4).alloc _
  have hr : Rd l 0 (w.heap.size + 1) ((w.alloc (.cells #[.bool false] 4)).alloc (.cells #[.string (bs l), .int .i64 0] 69)) := by
    have := Has.new (w.alloc (.cells #[.bool false] 4)) [.string (bs l), .int .i64 0] 69
    rw [show (w.alloc (.cells #[.bool false] 4)).heap.size = w.heap.size + 1 by simp] at this
    exact this
  have hb : Below w.heap.size w ((w.alloc (.cells #[.bool false] 4)).alloc (.cells #[.string (bs l), .int .i64 0] 69)) := ((Below.refl _ _).alloc (Nat.le_refl _) _).alloc (by simp) _
  go_wp2_with fail
  refine (run_blanks l (w.heap.size + 1) w.heap.size w.heap.size _ hr hc (by omega) (by omega) (by omega) hm).mono ?_
  rintro e w2 ⟨rfl, h2⟩
  go_wp2
  go_ret
  exact ⟨rfl, hb.trans h2⟩
end Go.Proofs.YticgmbhdcegoeaaDoor
