/- divide.Div answers how often b goes into a, and what is left; by 0 it answers ErrZero and zeros; nothing that was in memory before is changed. -/
import Derived.Test.YtjnebbjjabnipaaNum
import Derived.Lib.ItoaNum
import Derived.Test.YtjnebbjjabnipaaFrame
import Derived.Test.YtjnebbjjabnipaaBase
import Derived.Shelf.Strconv.Itoa0
import Derived.Test.YtjnebbjjabnipaaBoxes
import Derived.Shelf.Abstract
import Derived.Shelf.RegionOpen
import Derived.OwnWalkIn
import Derived.TacticsInMore
import Derived.LoopNIn
import Derived.LoopIn
import Derived.StillTailTactics
import Derived.Test.YtjnebbjjabnipaaWMul
import Derived.Test.YtjnebbjjabnipaaWAdd
import Derived.ScopeJumps
import Derived.WalkMore
/- Plain numbers: how many bits a number has, and division by taking away doublings, the greatest first. No Go in sight. -/
namespace Go.Proofs.Ytjnebbjjabnipaa

/-- How many bits a wide number has. -/
def blen (n : Nat) : Nat := if hi n = 0 then Lib.bitLen (lo n) else 64 + Lib.bitLen (hi n)
theorem blen_zero : blen 0 = 0 := by decide
theorem bitLen_bounds (x : Nat) (h : x < B64) (h0 : x ≠ 0) : 1 ≤ Lib.bitLen x ∧ 2 ^ (Lib.bitLen x - 1) ≤ x ∧ x < 2 ^ Lib.bitLen x ∧ Lib.bitLen x ≤ 64 := by
  obtain ⟨a, b, c⟩ := Lib.bitLenAux_bounds 64 x (by rw [← B64_pow]; exact h) h0
  exact ⟨a, b, c, Lib.bitLen_le x 64 (Nat.le_refl _) (by rw [← B64_pow]; exact h)⟩
theorem blen_bounds (n : Nat) (h : n < M128) (h0 : n ≠ 0) : 1 ≤ blen n ∧ 2 ^ (blen n - 1) ≤ n ∧ n < 2 ^ blen n ∧ blen n ≤ 128 := by
  have e := vw_hi_lo n
  unfold vw at e
  have hl := lo_lt n
  have hh := hi_lt n h
  unfold blen
  by_cases c : hi n = 0
  · rw [if_pos c]
    have : lo n = n := by rw [c] at e; omega
    obtain ⟨h1, h2, h3, h4⟩ := bitLen_bounds (lo n) hl (by omega)
    rw [this] at h1 h2 h3 h4 ⊢
    exact ⟨h1, h2, h3, by omega⟩
  · rw [if_neg c]
    obtain ⟨h1, h2, h3, h4⟩ := bitLen_bounds (hi n) hh c
    obtain ⟨L, hL⟩ : ∃ L, Lib.bitLen (hi n) = L + 1 := ⟨Lib.bitLen (hi n) - 1, by omega⟩
    rw [hL] at h1 h2 h3 h4 ⊢
    simp only [Nat.add_sub_cancel] at h2
    have p1 : 2 ^ (64 + (L + 1) - 1) = 2 ^ L * 18446744073709551616 := by rw [show 64 + (L + 1) - 1 = L + 64 by omega, Nat.pow_add]
    have p2 : 2 ^ (64 + (L + 1)) = 2 ^ (L + 1) * 18446744073709551616 := by rw [Nat.add_comm, Nat.pow_add]
    have q1 := Nat.mul_le_mul_right 18446744073709551616 h2
    have q2 := Nat.mul_le_mul_right 18446744073709551616 (show hi n + 1 ≤ 2 ^ (L + 1) by omega)
    rw [Nat.add_mul, Nat.one_mul] at q2
    unfold B64 at hl
    refine ⟨by clear p1 p2 q1 q2 h2 h3; omega, ?_, ?_, by clear p1 p2 q1 q2 h2 h3; omega⟩
    · rw [p1]; clear p1 p2 q2 h2 h3; exact Nat.le_trans q1 (Nat.le_trans (Nat.le_add_right _ (lo n)) (Nat.le_of_eq e))
    · rw [p2]; clear p1 p2 q1 h2 h3; exact Nat.lt_of_le_of_lt (Nat.le_of_eq e.symm) (Nat.lt_of_lt_of_le (Nat.add_lt_add_left hl _) q2)
theorem blen_le (n : Nat) (h : n < M128) : blen n ≤ 128 := by
  by_cases c : n = 0
  · rw [c, blen_zero]; omega
  · exact (blen_bounds n h c).2.2.2

/-- How many doublings of b may go into a. -/
def parts (a b : Nat) : Nat := blen a + 1 - blen b
theorem parts_le (a b : Nat) (ha : a < M128) (hb : b < M128) (h0 : b ≠ 0) : parts a b ≤ 128 := by
  have := blen_le a ha; have := (blen_bounds b hb h0).1
  unfold parts; omega
theorem parts_start (a b : Nat) (ha : a < M128) (hb : b < M128) (h0 : b ≠ 0) : a < b * 2 ^ parts a b := by
  obtain ⟨b1, b2, b3, b4⟩ := blen_bounds b hb h0
  by_cases c : a = 0
  · subst c
    exact Nat.mul_pos (Nat.pos_of_ne_zero h0) (Nat.two_pow_pos _)
  obtain ⟨a1, a2, a3, a4⟩ := blen_bounds a ha c
  have h1 := Nat.mul_le_mul_right (2 ^ parts a b) b2
  rw [← Nat.pow_add] at h1
  have h2 : 2 ^ blen a ≤ 2 ^ (blen b - 1 + parts a b) := Nat.pow_le_pow_right (by omega) (by unfold parts; omega)
  omega
theorem parts_fit (a b i : Nat) (ha : a < M128) (hb : b < M128) (h0 : b ≠ 0) : b * 2 ^ (parts a b - 1 - i) < M128 := by
  obtain ⟨b1, b2, b3, b4⟩ := blen_bounds b hb h0
  have la := blen_le a ha
  have h1 := Nat.mul_lt_mul_of_lt_of_le b3 (Nat.le_refl (2 ^ (parts a b - 1 - i))) (Nat.two_pow_pos _)
  rw [← Nat.pow_add] at h1
  have h2 : 2 ^ (blen b + (parts a b - 1 - i)) ≤ 2 ^ 128 := Nat.pow_le_pow_right (by omega) (by unfold parts; omega)
  rw [M128_pow]
  omega
theorem pow_fit (k : Nat) (h : k < 128) : 2 ^ k < M128 := by rw [M128_pow]; exact Nat.pow_lt_pow_right (by omega) h

/-- What is kept through the rounds: q is how often b was taken, r what is left. -/
structure Taken (a b i q r : Nat) : Prop where
  whole : a = q * b + r
  left : r < b * 2 ^ (parts a b - i)
theorem Taken.start (a b : Nat) (ha : a < M128) (hb : b < M128) (h0 : b ≠ 0) : Taken a b 0 0 a := ⟨by omega, by rw [Nat.sub_zero]; exact parts_start a b ha hb h0⟩
theorem pow_pred (n i : Nat) (h : i < n) (b : Nat) : b * 2 ^ (n - i) = 2 * (b * 2 ^ (n - 1 - i)) := by
  rw [show n - i = n - 1 - i + 1 by omega, Nat.pow_succ, Nat.mul_comm _ 2, Nat.mul_left_comm]
theorem Taken.skip {a b i q r : Nat} (h : Taken a b i q r) (hl : r < b * 2 ^ (parts a b - 1 - i)) : Taken a b (i + 1) q r :=
  ⟨h.whole, by rw [show parts a b - (i + 1) = parts a b - 1 - i by omega]; exact hl⟩
theorem Taken.take {a b i q r : Nat} (h : Taken a b i q r) (hi : i < parts a b) (hl : ¬ r < b * 2 ^ (parts a b - 1 - i)) :
    Taken a b (i + 1) (q + 2 ^ (parts a b - 1 - i)) (r - b * 2 ^ (parts a b - 1 - i)) := by
  have e := h.left
  rw [pow_pred _ _ hi] at e
  have w := h.whole
  refine ⟨?_, ?_⟩
  · rw [Nat.add_mul, Nat.mul_comm (2 ^ _) b]; omega
  · rw [show parts a b - (i + 1) = parts a b - 1 - i by omega]; omega
theorem Taken.r_lt {a b i q r : Nat} (h : Taken a b i q r) (ha : a < M128) : r < M128 := by have := h.whole; omega
theorem Taken.q_lt {a b i q r : Nat} (h : Taken a b i q r) (ha : a < M128) (h0 : b ≠ 0) : q < M128 := by
  have := h.whole
  have : q ≤ q * b := Nat.le_mul_of_pos_right q (Nat.pos_of_ne_zero h0)
  omega
theorem Taken.end {a b q r : Nat} (h : a = q * b + r) (hr : r < b) : q = a / b ∧ r = a % b := by
  subst h
  have hb : 0 < b := by omega
  rw [Nat.mul_comm]
  exact ⟨by rw [Nat.mul_add_div hb, Nat.div_eq_of_lt hr]; omega, by rw [Nat.mul_add_mod, Nat.mod_eq_of_lt hr]⟩
theorem Taken.last {a b q r : Nat} (h : Taken a b (parts a b) q r) : r < b := by have := h.left; rw [Nat.sub_self] at this; omega
end Go.Proofs.Ytjnebbjjabnipaa

/- math-bits Len64, divide.length and divide.power: how many bits a number has, and the powers of two; nothing that was in memory before is changed. -/
namespace Go.Proofs.Ytjnebbjjabnipaa
open Go.RowKit Go.Lib

/-- The library's contract of Len64, laid at this translation's numbers. -/
def len64_ren : Go.Shelf.Ren := ⟨fun | 129 => 86 | n => n, fun | 53 => 46 | 46 => 112 | 3 => 3 | 4 => 4 | 5 => 5 | 9 => 9 | n => n, fun | n => n⟩
theorem len64_lays : Go.Proofs.Lays.n129 Try.prog len64_ren := {
  mixed := by kernel_rfl
  f129 := Try.func86.trans (congrArg some (by kernel_rfl))
  t3 := Try.underlying3
  a3 := Try.isAgg3
  z3 := Try.sizeOf3
  v3 := Try.zeroValue3
  t4 := Try.underlying4
  a4 := Try.isAgg4
  z4 := Try.sizeOf4
  v4 := Try.zeroValue4
  t5 := Try.underlying5
  a5 := Try.isAgg5
  z5 := Try.sizeOf5
  v5 := Try.zeroValue5
  t9 := Try.underlying9
  a9 := Try.isAgg9
  z9 := Try.sizeOf9
  v9 := Try.zeroValue9
  t46 := Try.underlying112
  a46 := Try.isAgg112
  z46 := Try.sizeOf112
  v46 := Try.zeroValue112
  t53 := Try.underlying46
  a53 := Try.isAgg46
  z53 := Try.sizeOf46
  v53 := Try.zeroValue46 }
theorem len64_any (x : Nat) (hx : x < B64) (w : World) :
    Calls Try.prog 86 #[.int .u64 x] w fun e w' => e = .returned (.int .i64 (Lib.bitLen x : Nat)) ∧ w = w' := by
  unfold B64 at hx
  exact (Any.bits_Len64 len64_lays x w (by omega) (by omega)).mono fun e w' ⟨h1, h2⟩ => ⟨h1, h2.symm⟩

theorem length_core (h l p q : Nat) (w : World) (m : ∀ w, Calls Try.prog 86 #[.int .u64 h] w fun e w' => e = .returned (.int .i64 (p : Nat)) ∧ w = w')
    (m' : ∀ w, Calls Try.prog 86 #[.int .u64 l] w fun e w' => e = .returned (.int .i64 (q : Nat)) ∧ w = w') (hp : p ≤ 64) :
    Calls Try.prog 84 #[.agg #[.int .u64 h, .int .u64 l]] w fun e w' => e = .returned (.int .i64 ((if h = 0 then q else 64 + p : Nat) : Nat)) ∧ w.alloc (.cells #[.int .u64 h, .int .u64 l] 48) = w' := by
  have M := Lib.hid m; have M' := Lib.hid m'; clear m m'
  by_cases c : h = 0
  · rw [if_pos c]
    have c1 : ((h : Int) != 0) = false := by simp [c]
    clear c
    go_enter Try.func84, Try.ntmps84
    go_wp2_with (go_at_call 86; refine (M'.out _).mono ?_; rintro e w' ⟨rfl, rfl⟩)
    go_ret
    exact ⟨rfl, rfl⟩
  · rw [if_neg c]
    have c1 : ((h : Int) != 0) = true := by simp; omega
    clear c
    go_enter Try.func84, Try.ntmps84
    go_wp2_with (go_at_call 86; refine (M.out _).mono ?_; rintro e w' ⟨rfl, rfl⟩)
    go_ret
    exact ⟨by simp, rfl⟩
theorem length_num (n : Nat) (hn : n < M128) (w : World) :
    Calls Try.prog 84 #[.agg #[.int .u64 (hi n : Nat), .int .u64 (lo n : Nat)]] w fun e w' => e = .returned (.int .i64 (blen n : Nat)) ∧ w.alloc (.cells #[.int .u64 (hi n : Nat), .int .u64 (lo n : Nat)] 48) = w' :=
  have le (x : Nat) (hx : x < B64) : Lib.bitLen x ≤ 64 := Lib.bitLen_le x 64 (Nat.le_refl _) (by rw [← B64_pow]; exact hx)
  length_core _ _ _ _ w (len64_any _ (hi_lt n hn)) (len64_any _ (lo_lt n)) (le _ (hi_lt n hn))

theorem power_low (k : Nat) (hk : k < 64) (w : World) :
    Calls Try.prog 85 #[.int .i64 (k : Nat)] w fun e w' => e = .returned (.agg #[.int .u64 0, .int .u64 (2 ^ k : Nat)]) ∧ Below w.heap.size w w' := by
  have s := shl1 k hk
  obtain ⟨P, hP⟩ : ∃ P : Nat, 2 ^ k = P := ⟨_, rfl⟩
  rw [hP] at s ⊢
  clear hP
  have c : ¬ (64 : Int) ≤ k := by omega
  go_enter Try.func85, Try.ntmps85
  go_wp2
  exact bodyPost_ret (v := .agg #[.int .u64 0, .int .u64 (P : Nat)]) (by simp [results, Try.results85, go_sem]) rfl ⟨rfl, (Below.refl _ _).alloc (Nat.le_refl _) _⟩
theorem power_high (k : Nat) (hk : k < 64) (w : World) :
    Calls Try.prog 85 #[.int .i64 ((64 + k : Nat) : Nat)] w fun e w' => e = .returned (.agg #[.int .u64 (2 ^ k : Nat), .int .u64 0]) ∧ Below w.heap.size w w' := by
  have s := shl1 k hk
  obtain ⟨P, hP⟩ : ∃ P : Nat, 2 ^ k = P := ⟨_, rfl⟩
  rw [hP] at s ⊢
  clear hP
  obtain ⟨K, hK⟩ : ∃ K : Int, ((64 + k : Nat) : Int) = K := ⟨_, rfl⟩
  rw [hK]
  have c : (64 : Int) ≤ K := by omega
  have c2 : K ≤ 127 := by omega
  have s' : IntKind.u64.wrap (2 ^ (K - 64).toNat) = ((P : Nat) : Int) := by rw [← s, show (K - 64).toNat = k by omega]
  clear s hK hk
  go_enter Try.func85, Try.ntmps85
  go_wp2
  exact bodyPost_ret (v := .agg #[.int .u64 (P : Nat), .int .u64 0]) (by simp [results, Try.results85, go_sem]) rfl ⟨rfl, (Below.refl _ _).alloc (Nat.le_refl _) _⟩
theorem power_num (k : Nat) (hk : k < 128) (w : World) :
    Calls Try.prog 85 #[.int .i64 (k : Nat)] w fun e w' => e = .returned (.agg #[.int .u64 (hi (2 ^ k) : Nat), .int .u64 (lo (2 ^ k) : Nat)]) ∧ Below w.heap.size w w' := by
  by_cases c : k < 64
  · have h : 2 ^ k < B64 := by rw [B64_pow]; exact Nat.pow_lt_pow_right (by omega) c
    have e1 : hi (2 ^ k) = 0 := by unfold hi; unfold B64 at h; exact Nat.div_eq_of_lt h
    have e2 : lo (2 ^ k) = 2 ^ k := by unfold lo; unfold B64 at h; exact Nat.mod_eq_of_lt h
    rw [e1, e2]
    exact power_low k c w
  · obtain ⟨j, rfl⟩ : ∃ j, k = 64 + j := ⟨k - 64, by omega⟩
    have e : 2 ^ (64 + j) = vw (2 ^ j) 0 := by unfold vw; rw [Nat.add_comm, Nat.pow_add, show (2 : Nat) ^ 64 = 18446744073709551616 by decide, Nat.add_zero]
    rw [e, hi_vw _ _ (by decide), lo_vw _ _ (by decide)]
    exact power_high j (by omega) w
end Go.Proofs.Ytjnebbjjabnipaa

/- divide.parts hands out b times each power of two, and that power, from the one that is as long as a down to b itself. -/
namespace Go.Proofs.Ytjnebbjjabnipaa
open Go.RowKit Go.Shelf

theorem parts_any (ah al bh bl : Nat) (w : World) :
    Calls Try.prog 82 #[.agg #[.int .u64 ah, .int .u64 al], .agg #[.int .u64 bh, .int .u64 bl]] w fun e w' =>
      e = .returned (.func (.func 83) #[] #[.pointer (some ⟨w.heap.size, 0, none⟩), .pointer (some ⟨w.heap.size + 1, 0, none⟩)]) ∧
      (w.alloc (.cells #[.int .u64 ah, .int .u64 al] 48)).alloc (.cells #[.int .u64 bh, .int .u64 bl] 48) = w' := by
  go_enter Try.func82, Try.ntmps82
  go_wp2
  go_ret
  exact ⟨rfl, rfl⟩

/-- A row that the iterator hands out. -/
def partRow (a b i : Nat) : Array Value :=
  #[.agg #[.int .u64 (hi (b * 2 ^ (parts a b - 1 - i)) : Nat), .int .u64 (lo (b * 2 ^ (parts a b - 1 - i)) : Nat)], .agg #[.int .u64 (hi (2 ^ (parts a b - 1 - i)) : Nat), .int .u64 (lo (2 ^ (parts a b - 1 - i)) : Nat)]]

theorem roundIn_any {m m' : Nat} {P : Program} {l : Nat} {f : FuncId} {tmps : Array Value} {assign body : Code} {w : World} {R : Ending → World → Prop} (h : RoundIn Fence.wide m P l f tmps assign body w R) : RoundIn Fence.wide m' P l f tmps assign body w R :=
  ⟨h.1, fun c cs _ => h.2 c cs (room_wide _)⟩
theorem below_at {n : Nat} {x y z : World} (h : Below n x y) (hn : n ≤ y.heap.size) (k : Below y.heap.size y z) : Below n x z := h.trans (k.mono hn)

attribute [local go_sem] Oper.semAt_some
set_option maxRecDepth 100000 in
set_option maxHeartbeats 2000000 in
theorem parts_seq (a b ba bb : Nat) (ha : a < M128) (hb : b < M128) (h0 : b ≠ 0) :
    Seq Try.prog 83 #[.pointer (some ⟨ba, 0, none⟩), .pointer (some ⟨bb, 0, none⟩)] (partRow a b) (parts a b) (fun W => Holds W ba a ∧ Holds W bb b) := by
  intro l J Jx W hJ hJx hcap hY hJ0
  obtain ⟨⟨ca0, ca1⟩, cb0, cb1⟩ := hcap 0 W hJ0
  have za := lt_of_cell ca0
  have zb := lt_of_cell cb0
  have HJ := Lib.hid hJ; have HJx := Lib.hid hJx; have HC := Lib.hid hcap; have HY := Lib.hid hY; have HJ0 := Lib.hid hJ0
  clear hJ hJx hcap hY hJ0
  have la := blen_le a ha
  have lb := blen_le b hb
  obtain ⟨N, hN⟩ : ∃ N, parts a b = N := ⟨_, rfl⟩
  have HN := Lib.hid hN
  have hw : IntKind.i64.wrap ((blen a : Int) - (blen b : Int)) = (blen a : Int) - (blen b : Int) := by rw [IntKind.wrap_i64]; omega
  have HW := Lib.hid hw; clear hw
  go_enter Try.func83, Try.ntmps83
  clear hN
  go_upto_region 0 with fail
  go_cut [4] (fun s wx => s = .int .i64 ((blen a : Int) - (blen b : Int)) ∧ Below W.heap.size W wx)
  case first =>
    go_region_held3 (fun w' => w'.cell? ⟨ba, 0, none⟩ = some (.int .u64 (hi a : Nat)) ∧ w'.cell? ⟨ba, 1, none⟩ = some (.int .u64 (lo a : Nat)) ∧ w'.cell? ⟨bb, 0, none⟩ = some (.int .u64 (hi b : Nat)) ∧ w'.cell? ⟨bb, 1, none⟩ = some (.int .u64 (lo b : Nat))) (simp [go_sem, *])
      (first | (go_at_call 84; ((with_reducible refine (length_num a ha _).mono ?_); rintro e w' ⟨rfl, rfl⟩)) | (go_at_call 84; ((with_reducible refine (length_num b hb _).mono ?_); rintro e w' ⟨rfl, rfl⟩)))
    all_goals (go_wp2_with fail; go_meet)
    all_goals (refine ⟨congrArg _ HW.out, ?_⟩)
    all_goals (repeat first | exact Below.refl _ _ | refine Below.drew ?_ | refine Below.alloc ?_ (by simp) _)
  case rest =>
    obtain ⟨rfl, hbw⟩ := hcut
    have HB := Lib.hid hbw; clear hbw ca0 ca1 cb0 cb1
    go_wp2_with fail
    refine (wpIn_wide (n := 0)).1 ?_
    gi_loopw [4] (fun s wr => ∃ (i : Nat) (v : Int), i ≤ N ∧ v = (blen a : Int) - (blen b : Int) - i ∧ s = .int .i64 v ∧ J i wr ∧ W.heap.size ≤ wr.heap.size) (fun s _ => (intOf s + 1).toNat)
    case atStart => exact ⟨0, _, by omega, by omega, rfl, HJ.out 0 _ _ HJ0.out HB.out, HB.out.size⟩
    case round =>
      obtain ⟨i, v, hiN, hv, rfl, hJi, hsz⟩ := hrel
      by_cases hlt : i < N
      · obtain ⟨⟨ca0, ca1⟩, cb0, cb1⟩ := HC.out i wr hJi
        obtain ⟨k, hk⟩ : ∃ k, parts a b - 1 - i = k := ⟨_, rfl⟩
        have hN := HN.out
        obtain rfl : v = (k : Int) := by have hN' := hN; unfold parts at hN' hk; omega
        have hk1 : k < 128 := by have := parts_le a b ha hb h0; omega
        have hP := power_num k hk1
        have hT := times_fit b (2 ^ k) hb (pow_fit k hk1) (by have := parts_fit a b i ha hb h0; rwa [hk] at this)
        have hrow : partRow a b i = #[.agg #[.int .u64 (hi (b * 2 ^ k) : Nat), .int .u64 (lo (b * 2 ^ k) : Nat)], .agg #[.int .u64 (hi (2 ^ k) : Nat), .int .u64 (lo (2 ^ k) : Nat)]] := by unfold partRow; rw [hk]
        have hYi := fun W1 hJ' => HY.out i W1 (by omega) hJ' 0
        rw [hrow] at hYi
        obtain ⟨th, hth⟩ : ∃ x, hi (2 ^ k) = x := ⟨_, rfl⟩
        obtain ⟨tl, htl⟩ : ∃ x, lo (2 ^ k) = x := ⟨_, rfl⟩
        obtain ⟨xh, hxh⟩ : ∃ x, hi (b * 2 ^ k) = x := ⟨_, rfl⟩
        obtain ⟨xl, hxl⟩ : ∃ x, lo (b * 2 ^ k) = x := ⟨_, rfl⟩
        rw [hth, htl] at hP hT hYi
        rw [hxh, hxl] at hT hYi
        have HP := Lib.hid hP; have HT := Lib.hid hT; have HYi := Lib.hid hYi
        have HK : Hid ((k : Int) = (blen a : Int) - (blen b : Int) - i) := hv
        have zr := lt_of_cell cb0
        clear hP hT hYi hrow hth htl hxh hxl hN hk hv ca0 ca1
        gi_wp2_with (fail)
        refine ⟨trivial, rfl, (callsIn_wide.2 (HP.out _)).mono ?_⟩
        rintro e w1 ⟨rfl, hb1⟩
        obtain ⟨z1, c10, c11⟩ := keep2 hb1 zr ⟨cb0, cb1⟩
        have s1 := hb1.size
        have HB1 := Lib.hid hb1
        clear hb1 cb0 cb1
        gi_wp2_with (fail)
        refine ⟨trivial, rfl, (callsIn_wide.2 (HT.out _)).mono ?_⟩
        rintro e w2 ⟨rfl, hb2⟩
        obtain ⟨z2, c20, c21⟩ := keep2 hb2 (b := w1.heap.size) (x := .int .u64 th) (y := .int .u64 tl) (by simp) (by simp [go_sem])
        have s2 := hb2.size
        have HB2 := Lib.hid hb2
        have hb3 : Below wr.heap.size wr (w2.alloc (.cells #[.int .u64 xh, .int .u64 xl] 48)) := (below_at (below_at (below_at (Below.refl _ _) (Nat.le_refl _) HB1.out) s1 ((Below.refl _ _).alloc (Nat.le_refl _) _)) (by simp; omega) hb2).alloc (by simp at s2; omega) _
        obtain ⟨fn, tmps, assign, body, hy, hR⟩ := HYi.out (w2.alloc (.cells #[.int .u64 xh, .int .u64 xl] 48)) (HJ.out i _ _ hJi (hb3.mono hsz))
        have HR := Lib.hid hR
        have s3 := hb3.size
        have HB3 := Lib.hid hb3
        clear hb2 hb3 hR c10 c11 z1
        gi_wp2_with (fail)
        refine ⟨rfl, (roundIn_any HR.out).mono ?_⟩
        clear hy HYi HT HP c20 c21
        rintro e w4 (⟨rfl, hJ4, ha4⟩ | ⟨rfl, hJ4⟩)
        · have s4 := ha4.size
          have HA := Lib.hid ha4
          clear ha4
          gi_wp2_with (fail)
          go_roundw
          case rel => exact ⟨i + 1, _, by omega, by have := HK.out; omega, rfl, hJ4, by simp at s4; omega⟩
          case measure => simp [intOf]
        · gi_wp2_with (fail)
          refine bodyPost_ret (results_none rfl _ _ _) rfl ?_
          exact ⟨⟨_, rfl⟩, .inr hJ4⟩
      · have hn : v < 0 := by have hN := HN.out; unfold parts at hN; omega
        have hn' : decide (0 ≤ v) = false := by simp; omega
        obtain rfl : i = N := by omega
        clear hlt hiN hv
        gi_wp2_with (fail)
        go_end0
        exact ⟨⟨_, rfl⟩, .inl (by rw [HN.out]; exact hJi)⟩
end Go.Proofs.Ytjnebbjjabnipaa

/- Boxes beside a range over parts. -/
namespace Go.Proofs.Ytjnebbjjabnipaa
open Go.RowKit
theorem noDepth {m : Nat} (h : Fence.wide.depth.isSome = true) : 1 ≤ m := by simp [Fence.wide] at h
end Go.Proofs.Ytjnebbjjabnipaa

/- divide.Div answers how often b goes into a, and what is left; by 0 it answers ErrZero and zeros; nothing that was in memory before is changed. -/
namespace Go.Proofs.Ytjnebbjjabnipaa
open Go.RowKit Go.Shelf

theorem div_zero (a : Nat) (w : World) :
    Calls Try.prog 66 #[.agg #[.int .u64 (hi a : Nat), .int .u64 (lo a : Nat)], .agg #[.int .u64 0, .int .u64 0]] w fun e w' => e = .returned (.tuple #[.agg #[.int .u64 0, .int .u64 0], .agg #[.int .u64 0, .int .u64 0], .int .i64 4]) ∧ Below w.heap.size w w' := by
  go_enter Try.func66, Try.ntmps66
  go_wp2_with (fail)
  refine wp_scope_straight ?_
  go_wp2_with (fail)
  rw [Exit.noGoto_ret]
  exact bodyPost_ret (v := .tuple #[.agg #[.int .u64 0, .int .u64 0], .agg #[.int .u64 0, .int .u64 0], .int .i64 4]) (by simp [results, Try.results66, go_sem]) rfl ⟨rfl, by repeat first | exact Below.refl _ _ | refine Below.setCell ?_ (by simp; omega) _ | refine Below.alloc ?_ (by simp; omega) _ | refine Below.alloc ?_ (by simp) _⟩

/-- What is so behind Div's loop. -/
structure Gone (a b B D g k : Nat) (w W : World) : Prop where
  boxG : Box W g (a / b)
  boxK : Box W k (a % b)
  box4 : Box W (B + 1 + 1) 0
  box5 : Box W (B + 1 + 1 + 1) 0
  below : Below B w W
  mark : W.heap[D]? = some (.deferred (some []))
  late : B + 4 ≤ D
  lateG : B + 4 ≤ g
  lateK : B + 4 ≤ k

/-- The frame and the world where both ways out of the loop meet. -/
def AfterJ (a b : Nat) (w : World) (a' : Act) (W' : World) : Prop := ∃ (D g k : Nat) (t9 t10 t11 t12 t13 t14 t15 t16 t17 t18 t19 t20 t21 t22 t23 t24 t25 t26 t27 t28 t29 t30 t31 t32 t33 t34 t35 t36 t37 t38 t39 t40 t41 t42 t43 : Value), a' = { tmps := #[(.agg #[.int .u64 (hi a : Nat), .int .u64 (lo a : Nat)]), (.agg #[.int .u64 (hi b : Nat), .int .u64 (lo b : Nat)]), (.pointer (some ⟨w.heap.size, 0, none⟩)), (.pointer (some ⟨w.heap.size + 1, 0, none⟩)), (.pointer (some ⟨w.heap.size + 1 + 1, 0, none⟩)), (.pointer (some ⟨w.heap.size + 1 + 1 + 1, 0, none⟩)), (.int .i64 0), (.pointer (some ⟨g, 0, none⟩)), (.pointer (some ⟨k, 0, none⟩)), t9, t10, t11, t12, t13, t14, t15, t16, t17, t18, t19, t20, t21, t22, t23, t24, t25, t26, t27, t28, t29, t30, t31, t32, t33, t34, t35, t36, t37, t38, t39, t40, t41, t42, t43], defers := [{ target := .collected D, args := #[] }] } ∧ Gone a b w.heap.size D g k w W'

attribute [local go_sem] Oper.semAt_some
set_option maxRecDepth 100000 in
set_option maxHeartbeats 2000000 in
theorem div_num (a b : Nat) (ha : a < M128) (hb : b < M128) (h0 : b ≠ 0) (w : World) :
    Calls Try.prog 66 #[.agg #[.int .u64 (hi a : Nat), .int .u64 (lo a : Nat)], .agg #[.int .u64 (hi b : Nat), .int .u64 (lo b : Nat)]] w fun e w' => e = .returned (.tuple #[.agg #[.int .u64 (hi (a / b) : Nat), .int .u64 (lo (a / b) : Nat)], .agg #[.int .u64 (hi (a % b) : Nat), .int .u64 (lo (a % b) : Nat)], .int .i64 0]) ∧ Below w.heap.size w w' := by
  refine calls_of_marks Try.func66 rfl ?_
  simp only [Try.ntmps66, List.size_toArray, List.length_cons, List.length_nil, Nat.reduceAdd, Nat.reduceSub, Array.replicate_succ, Array.replicate_zero, List.push_toArray, List.append_toArray, List.nil_append, List.cons_append]
  go_wp2_with (fail)
  refine wp_scope_jumps 0 (AfterJ a b w) (fun _ _ => 0) (by rfl) ?first ?pass
  case pass =>
    rintro a' W ⟨D, g, k, t9, t10, t11, t12, t13, t14, t15, t16, t17, t18, t19, t20, t21, t22, t23, t24, t25, t26, t27, t28, t29, t30, t31, t32, t33, t34, t35, t36, t37, t38, t39, t40, t41, t42, t43, rfl, hG⟩
    have HG' := Lib.hid hG
    have g0 := hG.boxG.c0; have g1 := hG.boxG.c1; have k0 := hG.boxK.c0; have k1 := hG.boxK.c1
    have p0 := hG.box4.c0; have p1 := hG.box4.c1; have p2 := hG.box4.f0; have p3 := hG.box4.f1
    have q0 := hG.box5.c0; have q1 := hG.box5.c1; have q2 := hG.box5.f0; have q3 := hG.box5.f1
    have n1 := hG.lateG; have n2 := hG.lateK; have n3 := hG.late
    clear hG
    have m1 : g ≠ w.heap.size + 1 + 1 := by omega
    have m2 : g ≠ w.heap.size + 1 + 1 + 1 := by omega
    have m3 : k ≠ w.heap.size + 1 + 1 := by omega
    have m4 : k ≠ w.heap.size + 1 + 1 + 1 := by omega
    go_wp2_with (fail)
    go_region
    all_goals go_wp2_with (fail)
    have hG := HG'.out
    have u4 : Box ((((((W.setCell ⟨w.heap.size + 1 + 1, 0, none⟩ (.int .u64 (hi (a / b) : Nat))).setCell ⟨w.heap.size + 1 + 1, 1, none⟩ (.int .u64 (lo (a / b) : Nat))).setCell ⟨w.heap.size + 1 + 1 + 1, 0, none⟩ (.int .u64 (hi (a % b) : Nat))).setCell ⟨w.heap.size + 1 + 1 + 1, 1, none⟩ (.int .u64 (lo (a % b) : Nat))).drew).putObj D (.deferred none)) (w.heap.size + 1 + 1) (a / b) := ((((hG.box4.set _).other (by simp) _).other (by simp) _).drew).put _ (by omega)
    have u5 : Box ((((((W.setCell ⟨w.heap.size + 1 + 1, 0, none⟩ (.int .u64 (hi (a / b) : Nat))).setCell ⟨w.heap.size + 1 + 1, 1, none⟩ (.int .u64 (lo (a / b) : Nat))).setCell ⟨w.heap.size + 1 + 1 + 1, 0, none⟩ (.int .u64 (hi (a % b) : Nat))).setCell ⟨w.heap.size + 1 + 1 + 1, 1, none⟩ (.int .u64 (lo (a % b) : Nat))).drew).putObj D (.deferred none)) (w.heap.size + 1 + 1 + 1) (a % b) := (((((hG.box5.other (by simp) _).other (by simp) _).set _)).drew).put _ (by omega)
    have v0 := u4.c0; have v1 := u4.c1; have v2 := u5.c0; have v3 := u5.c1
    refine (show bodyPostM _ _ _ _ _ .ret _ _ from post_mark (v := .tuple #[.agg #[.int .u64 (hi (a / b) : Nat), .int .u64 (lo (a / b) : Nat)], .agg #[.int .u64 (hi (a % b) : Nat), .int .u64 (lo (a % b) : Nat)], .int .i64 0]) ?_ ?_ ⟨rfl, ?_⟩)
    · exact ((Below.heap_setCell _ _ _ _ (by simp; omega)).trans ((Below.heap_setCell _ _ _ _ (by simp; omega)).trans ((Below.heap_setCell _ _ _ _ (by simp; omega)).trans ((Below.heap_setCell _ _ _ _ (by simp; omega)).trans hG.mark))))
    · simp [results, Try.results66, go_sem, v0, v1, v2, v3]
    · exact (((((hG.below.setCell (by simp; omega) _).setCell (by simp; omega) _).setCell (by simp; omega) _).setCell (by simp; omega) _).drew).trans (below_putObj _ _ (by omega))
  case first =>
    go_upto_region 1 with fail
    go_cut [13] from 11 to 13 (fun s wx => s = .bool false ∧ ((((w.alloc (Obj.cells #[.int .u64 (hi a : Nat), .int .u64 (lo a : Nat)] 48)).alloc (Obj.cells #[.int .u64 (hi b : Nat), .int .u64 (lo b : Nat)] 48)).alloc (Obj.cells #[.int .u64 0, .int .u64 0] 48)).alloc (Obj.cells #[.int .u64 0, .int .u64 0] 48)) = wx)
    case first =>
      rcases box_ne2 b h0 with h | ⟨h, h'⟩
      all_goals (go_wp2_with (fail); go_meet; exact ⟨rfl, rfl⟩)
    case rest =>
    obtain ⟨rfl, rfl⟩ := hcut
    go_upto_region 3 with fail
    go_cut [7, 8] from 16 to 17 (fun s7 s8 wx => ∃ g k : Nat, s7 = (.pointer (some ⟨g, 0, none⟩)) ∧ s8 = (.pointer (some ⟨k, 0, none⟩)) ∧ g ≠ k ∧ w.heap.size + 4 ≤ g ∧ w.heap.size + 4 ≤ k ∧ Box wx g 0 ∧ Box wx k a ∧ Below (w.heap.size + 4) ((((w.alloc (Obj.cells #[.int .u64 (hi a : Nat), .int .u64 (lo a : Nat)] 48)).alloc (Obj.cells #[.int .u64 (hi b : Nat), .int .u64 (lo b : Nat)] 48)).alloc (Obj.cells #[.int .u64 0, .int .u64 0] 48)).alloc (Obj.cells #[.int .u64 0, .int .u64 0] 48)) wx)
    case first =>
      go_region
      · go_wp2_with fail
        go_meet
        exact ⟨_, _, rfl, rfl, by omega, by omega, by omega, ((Box.new0At (by simp)).alloc _).drew, (Box.newAt (by simp)).drew, (((Below.refl _ _).alloc (by simp) _).alloc (by simp) _).drew⟩
      · go_wp2_with fail
        go_meet
        exact ⟨_, _, rfl, rfl, by omega, by omega, by omega, (Box.new0At (by simp)).drew, ((Box.newAt (by simp)).alloc _).drew, (((Below.refl _ _).alloc (by simp) _).alloc (by simp) _).drew⟩
    case rest =>
      obtain ⟨g, k, rfl, rfl, hgk, hg, hk, hG, hK, hbw⟩ := hcut
      have wsz : w.heap.size + 4 ≤ wc.heap.size := by have := hbw.size; simp at this; omega
      have bA : Box wc w.heap.size a := ((((Box.new w a 48).alloc _).alloc _).alloc _).below hbw (by omega)
      have bB : Box wc (w.heap.size + 1) b := (((Box.newAt (by simp)).alloc _).alloc _).below hbw (by omega)
      have b4 : Box wc (w.heap.size + 1 + 1) 0 := ((Box.new0At (by simp)).alloc _).below hbw (by omega)
      have b5 : Box wc (w.heap.size + 1 + 1 + 1) 0 := (Box.new0At (by simp)).below hbw (by omega)
      have hw : Below w.heap.size w wc := (((((Below.refl _ _).alloc (Nat.le_refl _) _).alloc (by simp) _).alloc (by simp; omega) _).alloc (by simp; omega) _).trans (hbw.mono (by omega))
      have cA0 := bA.c0; have cA1 := bA.c1; have cB0 := bB.c0; have cB1 := bB.c1
      have HG := Lib.hid hG; have HK := Lib.hid hK; have HA := Lib.hid bA; have HB := Lib.hid bB; have H4 := Lib.hid b4; have H5 := Lib.hid b5; have HW := Lib.hid hw
      clear hG hK bA bB b4 b5 hw hbw
      go_wp2_with (go_at_call 82; refine (parts_any _ _ _ _ _).mono ?_; rintro e w' ⟨rfl, rfl⟩)
      clear cA0 cA1 cB0 cB1
      obtain ⟨W0, hW0⟩ : ∃ W0, (wc.alloc (Obj.cells #[.int .u64 (hi a : Nat), .int .u64 (lo a : Nat)] 48)).alloc (Obj.cells #[.int .u64 (hi b : Nat), .int .u64 (lo b : Nat)] 48) = W0 := ⟨_, rfl⟩
      have sz0 : W0.heap.size = wc.heap.size + 2 := by rw [← hW0]; simp
      have hw0 : Below wc.heap.size wc W0 := by rw [← hW0]; exact ((Below.refl _ _).alloc (Nat.le_refl _) _).alloc (by simp) _
      have zg := HG.out.lt
      have zk := HK.out.lt
      have a0 : Box W0 wc.heap.size a := by rw [← hW0]; exact (Box.new _ _ _).alloc _
      have b0 : Box W0 (wc.heap.size + 1) b := by rw [← hW0]; exact Box.newAt (by simp)
      have hd0 : Below w.heap.size w W0 := HW.out.trans (hw0.mono (by omega))
      rw [hW0]
      refine wp_range (gf := 83) (lb := #[(.pointer (some ⟨wc.heap.size, 0, none⟩)), (.pointer (some ⟨wc.heap.size + 1, 0, none⟩))]) rfl (enters_of Try.func83 (by kernel_rfl) rfl) (parts_seq a b _ _ ha hb h0) (fun _ => rfl)
        (fun i W => ∃ q r, Taken a b i q r ∧ Box W g q ∧ Box W k r ∧ But g k W0 W)
        (fun t W => t = 0 ∧ Box W g (a / b) ∧ Box W k (a % b) ∧ But g k W0 W)
        (fun i X Y ⟨q, r, h1, h2, h3, h4⟩ hxy => ⟨q, r, h1, h2.below hxy (by omega), h3.below hxy (by omega), h4.step hxy⟩)
        (fun t X Y ⟨h1, h2, h3, h4⟩ hxy => ⟨h1, h2.below hxy (by omega), h3.below hxy (by omega), h4.step hxy⟩)
        (fun i X ⟨q, r, h1, h2, h3, h4⟩ => ⟨(h4.box a0 (by omega) (by omega)).holds, (h4.box b0 (by omega) (by omega)).holds⟩)
        ⟨0, a, Taken.start a b ha hb h0, HG.out.below hw0 zg, HK.out.below hw0 zk, But.refl _ _ _⟩
        (fun i a' W' => ∃ b9 b10 : Nat, wc.heap.size + 2 ≤ b9 ∧ wc.heap.size + 2 ≤ b10 ∧ a' = { tmps := #[(.agg #[.int .u64 (hi a : Nat), .int .u64 (lo a : Nat)]), (.agg #[.int .u64 (hi b : Nat), .int .u64 (lo b : Nat)]), (.pointer (some ⟨w.heap.size, 0, none⟩)), (.pointer (some ⟨w.heap.size + 1, 0, none⟩)), (.pointer (some ⟨w.heap.size + 1 + 1, 0, none⟩)), (.pointer (some ⟨w.heap.size + 1 + 1 + 1, 0, none⟩)), (.int .i64 0), (.pointer (some ⟨g, 0, none⟩)), (.pointer (some ⟨k, 0, none⟩)), (.pointer (some ⟨b9, 0, none⟩)), (.pointer (some ⟨b10, 0, none⟩)), u11, u12, (.bool false), undef, undef, u16, u17, (.agg #[.int .u64 (hi a : Nat), .int .u64 (lo a : Nat)]), (.agg #[.int .u64 (hi b : Nat), .int .u64 (lo b : Nat)]), (.func (.func 83) #[] #[(.pointer (some ⟨wc.heap.size, 0, none⟩)), (.pointer (some ⟨wc.heap.size + 1, 0, none⟩))]), (.agg #[.int .u64 (hi (b * 2 ^ (parts a b - 1 - i)) : Nat), .int .u64 (lo (b * 2 ^ (parts a b - 1 - i)) : Nat)]), (.agg #[.int .u64 (hi (2 ^ (parts a b - 1 - i)) : Nat), .int .u64 (lo (2 ^ (parts a b - 1 - i)) : Nat)]), undef, undef, undef, undef, undef, undef, undef, undef, undef, undef, undef, undef, undef, undef, undef, undef, undef, undef, undef, undef, undef], defers := [] } ∧ Holds W' b9 (b * 2 ^ (parts a b - 1 - i)) ∧ Holds W' b10 (2 ^ (parts a b - 1 - i)))
        (fun i a' X l r o hl ⟨b9, b10, h1, h2, h3, h4, h5⟩ => ⟨b9, b10, h1, h2, h3, ⟨cell_putObj o hl h4.1, cell_putObj o hl h4.2⟩, ⟨cell_putObj o hl h5.1, cell_putObj o hl h5.2⟩⟩)
        ?assign ?body ?done ?stop
      case assign =>
        rintro l i W m K hi ⟨q, r, h1, h2, h3, h4⟩ hlt hK'
        have HKK := Lib.hid hK'
        clear hK'
        unfold partRow
        gi_wp2
        exact HKK.out _ _ (((Above.refl _ _).alloc _).alloc _) ⟨q, r, h1, (h2.alloc _).alloc _, (h3.alloc _).alloc _, (h4.call ((Below.refl _ _).alloc (Nat.le_refl _) _)).call ((Below.refl _ _).alloc (Nat.le_refl _) _)⟩
          ⟨W.heap.size, W.heap.size + 1, by omega, by omega, rfl, ((Box.new _ _ _).alloc _).holds, (Box.newAt (by simp)).holds⟩
      case body =>
        rintro l i a' W m hi ⟨q, r, h1, h2, h3, h4⟩ ⟨b9, b10, l9, l10, rfl, h9, h10⟩ hlt
        have hr := h1.r_lt ha
        have hpf := parts_fit a b i ha hb h0
        have htf : 2 ^ (parts a b - 1 - i) < M128 := pow_fit _ (by have := parts_le a b ha hb h0; omega)
        have hskip := fun c => h1.skip c
        have htake := fun c => h1.take hi c
        have hq := fun c => (h1.take hi c).q_lt ha h0
        obtain ⟨X, hX⟩ : ∃ X, b * 2 ^ (parts a b - 1 - i) = X := ⟨_, rfl⟩
        obtain ⟨T, hT⟩ : ∃ T, 2 ^ (parts a b - 1 - i) = T := ⟨_, rfl⟩
        rw [hX] at hskip htake hq hpf h9 ⊢
        rw [hT] at hq htake htf h10 ⊢
        clear hX hT
        have hbB : Box W (w.heap.size + 1) b := h4.box (HB.out.below hw0 (by omega)) (by omega) (by omega)
        have HH1 := Lib.hid h1; have HS := Lib.hid hskip; have HT := Lib.hid htake; have HQ := Lib.hid hq
        have n9 : b9 ≠ k := by omega
        have n10 : b10 ≠ k := by omega
        have z9 := lt_of_cell h9.1
        have z10 := lt_of_cell h10.1
        clear h1 hskip htake hq hW0
        have L1 := less_num r b hr hb
        obtain ⟨k0, k1, _, _⟩ := h3
        obtain ⟨p0, p1, _, _⟩ := hbB
        have h3 : Box W k r := ⟨k0, k1, by assumption, by assumption⟩
        by_cases c1 : r < b
        · rw [show ltW r b = true from decide_eq_true c1] at L1
          have HL1 := Lib.hid L1; clear L1
          gi_wp2_with (fail)
          refine ⟨trivial, noDepth, (CallsIn.inRound l (callsIn_wide.2 (HL1.out _))).mono ?_⟩
          rintro e w1 ⟨rfl, hb1⟩
          clear k0 k1 p0 p1
          gi_wp2_with (fail)
          refine wpIn_goto ?_
          obtain ⟨e1, e2⟩ := Taken.end HH1.out.whole c1
          refine (show Above W0.heap.size W w1 ∧ _ ∧ _ ∧ _ ∧ _ from ⟨(Above.refl _ _).of hb1, rfl, ?_, ?_, h4.call hb1⟩)
          · rw [← e1]; exact h2.call hb1
          · rw [← e2]; exact h3.call hb1
        · rw [show ltW r b = false from decide_eq_false c1] at L1
          have HL1 := Lib.hid L1; clear L1
          gi_wp2_with (fail)
          refine ⟨trivial, noDepth, (CallsIn.inRound l (callsIn_wide.2 (HL1.out _))).mono ?_⟩
          rintro e w1 ⟨rfl, hb1⟩
          clear k0 k1 p0 p1
          obtain ⟨y9, d90, d91⟩ := keep2 hb1 z9 h9
          obtain ⟨y10, d100, d101⟩ := keep2 hb1 z10 h10
          have h31 := h3.call hb1
          have h21 := h2.call hb1
          have k10 := h31.c0; have k11 := h31.c1
          have L2 := less_num r X hr hpf
          have HB1 := Lib.hid hb1; clear hb1
          by_cases c2 : r < X
          · rw [show ltW r X = true from decide_eq_true c2] at L2
            have HL2 := Lib.hid L2; clear L2
            gi_wp2_with (fail)
            refine ⟨trivial, noDepth, (CallsIn.inRound l (callsIn_wide.2 (HL2.out _))).mono ?_⟩
            rintro e w2 ⟨rfl, hb2⟩
            clear k10 k11 d90 d91
            gi_wp2_with (fail)
            exact (show Above W0.heap.size W w2 ∧ _ from ⟨((Above.refl _ _).of HB1.out).of hb2, q, r, HS.out c2, h21.call hb2, h31.call hb2, (h4.call HB1.out).call hb2⟩)
          · rw [show ltW r X = false from decide_eq_false c2] at L2
            have HL2 := Lib.hid L2; clear L2
            have SB := sub_num r X hr hpf
            rw [subW_fit r X (by omega) hr] at SB
            have AD := add_num q T
            rw [addW_fit q T (HQ.out c2)] at AD
            have HTk := HT.out c2
            obtain ⟨R, hR⟩ : ∃ R, r - X = R := ⟨_, rfl⟩
            obtain ⟨Y, hY⟩ : ∃ Y, q + T = Y := ⟨_, rfl⟩
            rw [hR] at SB HTk
            rw [hY] at AD HTk
            clear hR hY
            have HSB := Lib.hid SB; have HAD := Lib.hid AD; have HTK := Lib.hid HTk
            clear SB AD HTk
            gi_wp2_with (fail)
            refine ⟨trivial, noDepth, (CallsIn.inRound l (callsIn_wide.2 (HL2.out _))).mono ?_⟩
            rintro e w2 ⟨rfl, hb2⟩
            obtain ⟨x9, e90, e91⟩ := keep2 hb2 y9 ⟨d90, d91⟩
            obtain ⟨x10, e100, e101⟩ := keep2 hb2 y10 ⟨d100, d101⟩
            have h32 := h31.call hb2
            have h22 := h21.call hb2
            have k20 := h32.c0; have k21 := h32.c1
            have HB2 := Lib.hid hb2
            clear hb2 d90 d91 d100 d101 k10 k11
            gi_wp2_with (fail)
            refine ⟨trivial, noDepth, (CallsIn.inRound l (callsIn_wide.2 (HSB.out _))).mono ?_⟩
            rintro e w3 ⟨rfl, hb3⟩
            obtain ⟨v10, f100, f101⟩ := keep2 hb3 x10 ⟨e100, e101⟩
            have h33 := h32.call hb3
            have h23 := h22.call hb3
            have k30 := h33.c0; have k31 := h33.c1; have k32 := h33.f0; have k33 := h33.f1
            have g30 := h23.c0; have g31 := h23.c1
            have HB3 := Lib.hid hb3
            clear hb3 e90 e91 e100 e101 k20 k21
            gi_wp2_with (fail)
            refine ⟨trivial, noDepth, (CallsIn.inRound l (callsIn_wide.2 (HAD.out _))).mono ?_⟩
            rintro e w4 ⟨rfl, hb4⟩
            have h34 : Box w4 k R := (h33.set R).call hb4
            have h24 : Box w4 g q := ((h23.other hgk _).other hgk _).call hb4
            have g40 := h24.c0; have g41 := h24.c1; have g42 := h24.f0; have g43 := h24.f1
            have HB4 := Lib.hid hb4
            clear hb4 k30 k31 k32 k33 g30 g31 f100 f101
            gi_wp2_with (fail)
            exact (show Above W0.heap.size W _ ∧ _ from ⟨((((((((Above.refl _ _).of HB1.out).of HB2.out).of HB3.out).setCell (by simp; omega) _).setCell (by simp; omega) _).of HB4.out).setCell (by simp; omega) _).setCell (by simp; omega) _, Y, R, HTK.out, h24.set Y, (h34.other (Ne.symm hgk) _).other (Ne.symm hgk) _,
              (((((((h4.call HB1.out).call HB2.out).call HB3.out).set (.inr rfl) _).set (.inr rfl) _).call HB4.out).set (.inl rfl) _).set (.inl rfl) _⟩)
      case done =>
        rintro D W hD ⟨q, r, h1, h2, h3, h4⟩ hdef
        obtain ⟨e1, e2⟩ := Taken.end h1.whole h1.last
        rw [e1] at h2; rw [e2] at h3
        have hG : Gone a b w.heap.size D g k w W := ⟨h2, h3, h4.box (H4.out.below hw0 (by omega)) (by omega) (by omega), h4.box (H5.out.below hw0 (by omega)) (by omega) (by omega), hd0.trans (h4.below (by omega) (by omega) (by omega)), hdef, by omega, by omega, by omega⟩
        clear h1 h2 h3 h4 e1 e2 hW0 hdef
        go_wp2_with (fail)
        refine wp_label ?_
        have HG' := Lib.hid hG
        have g0 := hG.boxG.c0; have g1 := hG.boxG.c1; have k0 := hG.boxK.c0; have k1 := hG.boxK.c1
        have p0 := hG.box4.c0; have p1 := hG.box4.c1; have p2 := hG.box4.f0; have p3 := hG.box4.f1
        have q0 := hG.box5.c0; have q1 := hG.box5.c1; have q2 := hG.box5.f0; have q3 := hG.box5.f1
        have n1 := hG.lateG; have n2 := hG.lateK; have n3 := hG.late
        clear hG
        have m1 : g ≠ w.heap.size + 1 + 1 := by omega
        have m2 : g ≠ w.heap.size + 1 + 1 + 1 := by omega
        have m3 : k ≠ w.heap.size + 1 + 1 := by omega
        have m4 : k ≠ w.heap.size + 1 + 1 + 1 := by omega
        go_wp2_with (fail)
        go_region
        all_goals go_wp2_with (fail)
        have hG := HG'.out
        have u4 : Box ((((((W.setCell ⟨w.heap.size + 1 + 1, 0, none⟩ (.int .u64 (hi (a / b) : Nat))).setCell ⟨w.heap.size + 1 + 1, 1, none⟩ (.int .u64 (lo (a / b) : Nat))).setCell ⟨w.heap.size + 1 + 1 + 1, 0, none⟩ (.int .u64 (hi (a % b) : Nat))).setCell ⟨w.heap.size + 1 + 1 + 1, 1, none⟩ (.int .u64 (lo (a % b) : Nat))).drew).putObj D (.deferred none)) (w.heap.size + 1 + 1) (a / b) := ((((hG.box4.set _).other (by simp) _).other (by simp) _).drew).put _ (by omega)
        have u5 : Box ((((((W.setCell ⟨w.heap.size + 1 + 1, 0, none⟩ (.int .u64 (hi (a / b) : Nat))).setCell ⟨w.heap.size + 1 + 1, 1, none⟩ (.int .u64 (lo (a / b) : Nat))).setCell ⟨w.heap.size + 1 + 1 + 1, 0, none⟩ (.int .u64 (hi (a % b) : Nat))).setCell ⟨w.heap.size + 1 + 1 + 1, 1, none⟩ (.int .u64 (lo (a % b) : Nat))).drew).putObj D (.deferred none)) (w.heap.size + 1 + 1 + 1) (a % b) := (((((hG.box5.other (by simp) _).other (by simp) _).set _)).drew).put _ (by omega)
        have v0 := u4.c0; have v1 := u4.c1; have v2 := u5.c0; have v3 := u5.c1
        refine (show bodyPostM _ _ _ _ _ .ret _ _ from post_mark (v := .tuple #[.agg #[.int .u64 (hi (a / b) : Nat), .int .u64 (lo (a / b) : Nat)], .agg #[.int .u64 (hi (a % b) : Nat), .int .u64 (lo (a % b) : Nat)], .int .i64 0]) ?_ ?_ ⟨rfl, ?_⟩)
        · exact ((Below.heap_setCell _ _ _ _ (by simp; omega)).trans ((Below.heap_setCell _ _ _ _ (by simp; omega)).trans ((Below.heap_setCell _ _ _ _ (by simp; omega)).trans ((Below.heap_setCell _ _ _ _ (by simp; omega)).trans hG.mark))))
        · simp [results, Try.results66, go_sem, v0, v1, v2, v3]
        · exact (((((hG.below.setCell (by simp; omega) _).setCell (by simp; omega) _).setCell (by simp; omega) _).setCell (by simp; omega) _).drew).trans (below_putObj _ _ (by omega))
      case stop =>
        rintro D t W hD ⟨rfl, h2, h3, h4⟩ hdef
        refine (show (0 : Nat) = 0 ∧ AfterJ a b w _ W from ⟨rfl, D, g, k, _, _, _, _, _, _, _, _, _, _, _, _, _, _, _, _, _, _, _, _, _, _, _, _, _, _, _, _, _, _, _, _, _, _, _, rfl, ?_⟩)
        exact ⟨h2, h3, h4.box (H4.out.below hw0 (by omega)) (by omega) (by omega), h4.box (H5.out.below hw0 (by omega)) (by omega) (by omega), hd0.trans (h4.below (by omega) (by omega) (by omega)), hdef, by omega, by omega, by omega⟩
end Go.Proofs.Ytjnebbjjabnipaa
