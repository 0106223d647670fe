/- datumref01.Whole: the wide number of eight pieces of 16 bits, the lowest first; nothing that was in memory before is changed. -/
import Derived.Test.YtfafkdbflmennaaNum
import Derived.Test.YtfafkdbflmennaaBase
import Derived.OwnWalk
import Derived.Laws.AppendOwn
/- Plain numbers: rows of words told by a function; pieces of 16 bits; pieces that may be greater, each with what is carried. -/
namespace Go.Proofs.Ytfafkdbflmennaa
/-- The first n answers of f, and as words. -/
def fl (f : Nat → Nat) (n : Nat) : List Nat := (List.range n).map f
def u64s (l : List Nat) : List Value := List.map (fun x : Nat => Value.int .u64 (x : Int)) l
theorem u64s_append (l m : List Nat) : u64s (l ++ m) = u64s l ++ u64s m := by simp [u64s]
theorem fl_zero (f : Nat → Nat) : fl f 0 = [] := rfl
theorem fl_succ (f : Nat → Nat) (n : Nat) : fl f (n + 1) = fl f n ++ [f n] := by simp [fl, List.range_succ]
theorem u64s_snoc (f : Nat → Nat) (n : Nat) : u64s (fl f (n + 1)) = u64s (fl f n) ++ [.int .u64 (f n : Nat)] := by rw [fl_succ, u64s_append]; rfl
theorem u64s_get (f : Nat → Nat) (n j : Nat) (h : j < n) : (u64s (fl f n))[j]? = some (.int .u64 (f j : Nat)) := by
  simp [u64s, fl, h]
theorem fl_congr (f f' : Nat → Nat) (n : Nat) (h : ∀ j, j < n → f j = f' j) : fl f n = fl f' n := by
  unfold fl
  exact List.map_congr_left fun j hj => h j (List.mem_range.1 hj)

/-- What is carried behind the first k, and what is left of number j. -/
def carC (f : Nat → Nat) : Nat → Nat
  | 0 => 0
  | k + 1 => (f k + carC f k) / 65536
def carM (f : Nat → Nat) (j : Nat) : Nat := (f j + carC f j) % 65536
/-- All n, and what is carried at last. -/
def carL (f : Nat → Nat) (n j : Nat) : Nat := if j < n then carM f j else carC f n
theorem carL_lt (f : Nat → Nat) (n j : Nat) (h : j < n) : carL f n j = carM f j := if_pos h
theorem carL_end (f : Nat → Nat) (n : Nat) : carL f n n = carC f n := if_neg (Nat.lt_irrefl n)
theorem carM_lt (f : Nat → Nat) (j : Nat) : carM f j < 65536 := Nat.mod_lt _ (by omega)
theorem fl_carL (f : Nat → Nat) (n : Nat) : fl (carL f n) (n + 1) = fl (carM f) n ++ [carC f n] := by
  rw [fl_succ, carL_end, fl_congr (carL f n) (carM f) n (fun j h => carL_lt f n j h)]
theorem carC_le (f : Nat → Nat) (h : ∀ j, f j < 1099511627776) : ∀ k, carC f k < 1099511627776
  | 0 => by simp [carC]
  | k + 1 => by
    have := carC_le f h k
    have := h k
    simp only [carC]
    omega

/-- The number of k pieces, the lowest first. -/
def vTo (f : Nat → Nat) : Nat → Nat
  | 0 => 0
  | k + 1 => vTo f k + f k * 65536 ^ k
theorem vTo_congr (f f' : Nat → Nat) : ∀ k, (∀ j, j < k → f j = f' j) → vTo f k = vTo f' k
  | 0, _ => rfl
  | k + 1, h => by simp only [vTo]; rw [vTo_congr f f' k (fun j hj => h j (by omega)), h k (by omega)]
theorem carry_vTo (f : Nat → Nat) : ∀ k, vTo (carM f) k + carC f k * 65536 ^ k = vTo f k
  | 0 => by simp [vTo, carC]
  | k + 1 => by
    have ih := carry_vTo f k
    simp only [vTo, carC, carM]
    rw [← ih]
    have h := Nat.div_add_mod (f k + carC f k) 65536
    have e : 65536 ^ (k + 1) = 65536 * 65536 ^ k := by rw [Nat.pow_succ, Nat.mul_comm]
    rw [e]
    generalize 65536 ^ k = P at *
    generalize vTo (fun j => (f j + carC f j) % 65536) k = A at *
    generalize f k = x at *
    generalize carC f k = c at *
    have e2 : (x + c) / 65536 * (65536 * P) = 65536 * ((x + c) / 65536) * P := by rw [← Nat.mul_assoc, Nat.mul_comm ((x + c) / 65536) 65536]
    rw [e2]
    have e3 : (x + c) % 65536 * P + 65536 * ((x + c) / 65536) * P = (x + c) * P := by rw [← Nat.add_mul, Nat.add_comm, h]
    have e4 : (x + c) * P = x * P + c * P := Nat.add_mul _ _ _
    show _ = vTo (carM f) k + c * P + x * P
    have e5 : vTo (fun j => (f j + carC f j) % 65536) k = vTo (carM f) k := rfl
    omega
/-- Piece j of 16 bits. -/
def pc (n j : Nat) : Nat := n / 65536 ^ j % 65536
theorem pc_lt (n j : Nat) : pc n j < 65536 := Nat.mod_lt _ (by omega)
theorem vTo_pc (n : Nat) (h : n < M128) : vTo (pc n) 8 = n := by
  unfold M128 at h
  simp only [vTo, pc, Nat.reducePow]
  omega
theorem vTo_add (f g : Nat → Nat) : ∀ k, vTo (fun j => f j + g j) k = vTo f k + vTo g k
  | 0 => rfl
  | k + 1 => by
    simp only [vTo]
    rw [vTo_add f g k, Nat.add_mul]
    omega
theorem vTo_lt (f : Nat → Nat) (h : ∀ j, f j < 65536) : ∀ k, vTo f k < 65536 ^ k
  | 0 => by simp [vTo]
  | k + 1 => by
    have ih := vTo_lt f h k
    have h1 := h k
    simp only [vTo]
    have e : 65536 ^ (k + 1) = 65536 * 65536 ^ k := by rw [Nat.pow_succ, Nat.mul_comm]
    rw [e]
    have := Nat.mul_le_mul_right (65536 ^ k) (show f k ≤ 65535 by omega)
    omega
theorem pieces_nums (n : Nat) : fl (pc n) 8 = [lo n % 65536, lo n / 65536 % 65536, lo n / 4294967296 % 65536, lo n / 281474976710656 % 65536, hi n % 65536, hi n / 65536 % 65536, hi n / 4294967296 % 65536, hi n / 281474976710656 % 65536] := by
  have h0 : pc n 0 = lo n % 65536 := by simp only [pc, lo, Nat.reducePow] <;> omega
  have h1 : pc n 1 = lo n / 65536 % 65536 := by simp only [pc, lo, Nat.reducePow] <;> omega
  have h2 : pc n 2 = lo n / 4294967296 % 65536 := by simp only [pc, lo, Nat.reducePow] <;> omega
  have h3 : pc n 3 = lo n / 281474976710656 % 65536 := by simp only [pc, lo, Nat.reducePow] <;> omega
  have h4 : pc n 4 = hi n % 65536 := by simp only [pc, hi, Nat.reducePow] <;> omega
  have h5 : pc n 5 = hi n / 65536 % 65536 := by simp only [pc, hi, Nat.reducePow] <;> omega
  have h6 : pc n 6 = hi n / 4294967296 % 65536 := by simp only [pc, hi, Nat.reducePow] <;> omega
  have h7 : pc n 7 = hi n / 281474976710656 % 65536 := by simp only [pc, hi, Nat.reducePow] <;> omega
  rw [← h0, ← h1, ← h2, ← h3, ← h4, ← h5, ← h6, ← h7]
  rfl
end Go.Proofs.Ytfafkdbflmennaa

/- Plain numbers: the product of two wide numbers, piece by piece. -/
namespace Go.Proofs.Ytfafkdbflmennaa
/-- What pieces i and K - i make together. -/
def cvT (f g : Nat → Nat) (i K : Nat) : Nat := if i ≤ K ∧ K - i < 8 then f i * g (K - i) else 0
/-- .. of the first i. -/
def cvTo (f g : Nat → Nat) (K : Nat) : Nat → Nat
  | 0 => 0
  | i + 1 => cvTo f g K i + cvT f g i K
theorem cvT_lt (f g : Nat → Nat) (hf : ∀ j, f j < 65536) (hg : ∀ j, g j < 65536) (i K : Nat) : cvT f g i K ≤ 4294836225 := by
  unfold cvT
  split
  · have := Nat.mul_le_mul (show f i ≤ 65535 by have := hf i; omega) (show g (K - i) ≤ 65535 by have := hg (K - i); omega)
    omega
  · omega
theorem cvTo_le (f g : Nat → Nat) (hf : ∀ j, f j < 65536) (hg : ∀ j, g j < 65536) (K : Nat) : ∀ i, cvTo f g K i ≤ i * 4294836225
  | 0 => by simp [cvTo]
  | i + 1 => by
    have := cvTo_le f g hf hg K i
    have := cvT_lt f g hf hg i K
    simp only [cvTo]
    rw [Nat.add_mul]
    omega
theorem vTo_below (f g : Nat → Nat) (i : Nat) : ∀ n, n ≤ i → vTo (cvT f g i) n = 0
  | 0, _ => rfl
  | n + 1, h => by
    simp only [vTo]
    rw [vTo_below f g i n (by omega)]
    have : cvT f g i n = 0 := by unfold cvT; rw [if_neg (by omega)]
    rw [this]; simp
theorem vTo_within (f g : Nat → Nat) (i : Nat) : ∀ m, m ≤ 8 → vTo (cvT f g i) (i + m) = f i * 65536 ^ i * vTo g m
  | 0, _ => by rw [Nat.add_zero, vTo_below f g i i (Nat.le_refl _)]; simp [vTo]
  | m + 1, h => by
    rw [← Nat.add_assoc]
    simp only [vTo]
    rw [vTo_within f g i m (by omega), Nat.mul_add]
    have : cvT f g i (i + m) = f i * g m := by unfold cvT; rw [if_pos (by omega), Nat.add_sub_cancel_left]
    rw [this, Nat.pow_add]
    congr 1
    rw [Nat.mul_assoc, Nat.mul_assoc]
    congr 1
    rw [← Nat.mul_assoc, ← Nat.mul_assoc, Nat.mul_comm (g m)]
theorem vTo_succ (f : Nat → Nat) (k : Nat) : vTo f (k + 1) = vTo f k + f k * 65536 ^ k := rfl
theorem vTo_beyond (f g : Nat → Nat) (i m : Nat) : vTo (cvT f g i) (i + 8 + m) = f i * 65536 ^ i * vTo g 8 := by
  have h8 := vTo_within f g i 8 (by omega)
  generalize f i * 65536 ^ i * vTo g 8 = R at *
  induction m with
  | zero => rw [Nat.add_zero]; exact h8
  | succ m ih =>
    have e : cvT f g i (i + 8 + m) = 0 := by unfold cvT; rw [if_neg (by omega)]
    rw [← Nat.add_assoc, vTo_succ, ih, e, Nat.zero_mul, Nat.add_zero]
theorem vTo_cvTo (f g : Nat → Nat) : ∀ i, i ≤ 8 → vTo (fun K => cvTo f g K i) 16 = vTo f i * vTo g 8
  | 0, _ => by
    have : ∀ n, vTo (fun K => cvTo f g K 0) n = 0 := by
      intro n
      induction n with
      | zero => rfl
      | succ n ih => simp only [vTo]; rw [ih]; simp [cvTo]
    rw [this]; simp [vTo]
  | i + 1, h => by
    have e : vTo (fun K => cvTo f g K (i + 1)) 16 = vTo (fun K => cvTo f g K i) 16 + vTo (cvT f g i) 16 := vTo_add (fun K => cvTo f g K i) (cvT f g i) 16
    have e2 := vTo_beyond f g i (8 - i)
    rw [show i + 8 + (8 - i) = 16 by omega] at e2
    rw [e, vTo_cvTo f g i (by omega), e2, ← Nat.add_mul]
    rfl
/-- Is any of f 8, f 9 .. greater than 0? -/
def anyB (f : Nat → Nat) : Nat → Bool
  | 0 => false
  | k + 1 => anyB f k || decide (0 < f (8 + k))
theorem anyB_true (f : Nat → Nat) : ∀ k, anyB f k = true ↔ ∃ j, j < k ∧ 0 < f (8 + j)
  | 0 => by simp [anyB]
  | k + 1 => by
    simp only [anyB, Bool.or_eq_true, decide_eq_true_eq]
    rw [anyB_true f k]
    constructor
    · rintro (⟨j, hj, h⟩ | h)
      · exact ⟨j, by omega, h⟩
      · exact ⟨k, by omega, h⟩
    · rintro ⟨j, hj, h⟩
      by_cases e : j = k
      · subst e; exact .inr h
      · exact .inl ⟨j, by omega, h⟩
theorem rtimes_nums (a b : Nat) (ha : a < M128) (hb : b < M128) : vTo (carL (fun K => cvTo (pc a) (pc b) K 8) 16) 8 = mulW a b ∧ anyB (carL (fun K => cvTo (pc a) (pc b) K 8) 16) 9 = mulO a b := by
  have t := vTo_cvTo (pc a) (pc b) 8 (by omega)
  rw [vTo_pc a ha, vTo_pc b hb] at t
  generalize hF : (fun K => cvTo (pc a) (pc b) K 8) = F at *
  have s := carry_vTo F 16
  rw [t] at s
  have e8 := vTo_congr (carL F 16) (carM F) 8 (fun j hj => carL_lt _ _ _ (by omega))
  have l8 := vTo_lt (carM F) (carM_lt _) 8
  have l16 := vTo_lt (carM F) (carM_lt _) 16
  have x : vTo (carM F) 16 = vTo (carM F) 8 + 340282366920938463463374607431768211456 * (carM F 8 + carM F 9 * 65536 + carM F 10 * 4294967296 + carM F 11 * 281474976710656 + carM F 12 * 18446744073709551616 + carM F 13 * 1208925819614629174706176 + carM F 14 * 79228162514264337593543950336 + carM F 15 * 5192296858534827628530496329220096) := by
    simp only [vTo, Nat.reducePow]
    omega
  have hab : a * b < 340282366920938463463374607431768211456 * 340282366920938463463374607431768211456 := by
    unfold M128 at ha hb
    have := Nat.mul_le_mul (show a ≤ 340282366920938463463374607431768211455 by omega) (show b ≤ 340282366920938463463374607431768211455 by omega)
    omega
  simp only [Nat.reducePow] at s l8 l16
  have c0 : carC F 16 = 0 := by omega
  rw [c0, Nat.zero_mul, Nat.add_zero] at s
  refine ⟨?_, ?_⟩
  · rw [e8]; unfold mulW; omega
  · have h : anyB (carL F 16) 9 = true ↔ 340282366920938463463374607431768211456 ≤ a * b := by
      rw [anyB_true]
      constructor
      · rintro ⟨j, hj, h⟩
        by_cases hj8 : j = 8
        · subst hj8
          rw [show 8 + 8 = 16 from rfl, carL_end, c0] at h
          omega
        · rw [carL_lt F 16 (8 + j) (by omega)] at h
          have : j = 0 ∨ j = 1 ∨ j = 2 ∨ j = 3 ∨ j = 4 ∨ j = 5 ∨ j = 6 ∨ j = 7 := by omega
          rcases this with rfl | rfl | rfl | rfl | rfl | rfl | rfl | rfl <;> simp only [Nat.reduceAdd] at h <;> omega
      · intro h
        have hx : 0 < carM F 8 ∨ 0 < carM F 9 ∨ 0 < carM F 10 ∨ 0 < carM F 11 ∨ 0 < carM F 12 ∨ 0 < carM F 13 ∨ 0 < carM F 14 ∨ 0 < carM F 15 := by omega
        rcases hx with h | h | h | h | h | h | h | h
        · exact ⟨0, by omega, by rw [carL_lt F 16 _ (by omega)]; exact h⟩
        · exact ⟨1, by omega, by rw [carL_lt F 16 _ (by omega)]; exact h⟩
        · exact ⟨2, by omega, by rw [carL_lt F 16 _ (by omega)]; exact h⟩
        · exact ⟨3, by omega, by rw [carL_lt F 16 _ (by omega)]; exact h⟩
        · exact ⟨4, by omega, by rw [carL_lt F 16 _ (by omega)]; exact h⟩
        · exact ⟨5, by omega, by rw [carL_lt F 16 _ (by omega)]; exact h⟩
        · exact ⟨6, by omega, by rw [carL_lt F 16 _ (by omega)]; exact h⟩
        · exact ⟨7, by omega, by rw [carL_lt F 16 _ (by omega)]; exact h⟩
    unfold mulO
    rw [Bool.eq_iff_iff, h, decide_eq_true_eq]
end Go.Proofs.Ytfafkdbflmennaa

/- A slice of words of 64 bits that a call makes for itself: one more word appended. -/
namespace Go.Proofs.Ytfafkdbflmennaa
open Go.RowKit

theorem info64 : (Try.prog.info? 34).map (fun i => (i.zero, i.size, i.bytes)) = some (some (.int .u64 0), 1, 8) := by kernel_rfl

theorem ownsRow_base {w : World} {base base' : Nat} {e : TypeId} {size : Nat} {v : Value} {n : Nat} {xs : List Value} (h : w.ownsRow base e size v n xs) (hb : base' ≤ base) : w.ownsRow base' e size v n xs := by
  obtain ⟨h1, h2⟩ := h
  refine ⟨h1, ?_⟩
  rcases h2 with h2 | ⟨g, cap, cur, e1, e2, e3⟩
  · exact .inl h2
  · exact .inr ⟨g, cap, cur, e1, Nat.le_trans hb e2, e3⟩

/-- A call has answered a slice of n words, told by f, in new memory; nothing that was there is changed. -/
def RowOut (f : Nat → Nat) (n : Nat) (w : World) (e : Ending) (w' : World) : Prop :=
  ∃ g cap, e = .returned (.slice (some ⟨g, 0, none⟩) n cap) ∧ w.heap.size ≤ g ∧ g < w'.heap.size ∧ n ≤ cap ∧ (∀ j, j < n → w'.cell? ⟨g, j, none⟩ = some (.int .u64 (f j : Nat))) ∧ (∀ j, w'.frozen? ⟨g, j, none⟩ = false) ∧ Below w.heap.size w w'
theorem row_cells {w : World} {base n : Nat} {v : Value} {f : Nat → Nat} (hn : 0 < n) (h : w.ownsRow base 34 1 v n (u64s (fl f n))) :
    ∃ g cap, v = .slice (some ⟨g, 0, none⟩) n cap ∧ base ≤ g ∧ g < w.heap.size ∧ n ≤ cap ∧ (∀ j, j < n → w.cell? ⟨g, j, none⟩ = some (.int .u64 (f j : Nat))) ∧ (∀ j, w.frozen? ⟨g, j, none⟩ = false) := by
  obtain ⟨_, h2⟩ := h
  rcases h2 with ⟨_, h0⟩ | ⟨g, cap, cur, hv, hb, hcur, hle, _, hs, ht⟩
  · omega
  · refine ⟨g, cap, hv, hb, (Array.getElem?_eq_some_iff.1 hcur).1, hle, fun j hj => ?_, fun j => ?_⟩
    · have e := u64s_get f n j hj
      rw [← ht, Nat.mul_one, List.getElem?_take, if_pos hj] at e
      rw [cell_of_row w g j cur _ (0, 0) hcur]
      simpa using e
    · simp [World.frozen?, hcur]
theorem RowOut.of_own {f : Nat → Nat} {n : Nat} {w w' : World} {e : Ending} {v : Value} (hn : 0 < n) (he : e = .returned v) (ho : w'.ownsRow w.heap.size 34 1 v n (u64s (fl f n))) (hb : Below w.heap.size w w') : RowOut f n w e w' := by
  obtain ⟨g, cap, rfl, h1, h2, h3, h4, h5⟩ := row_cells hn ho
  exact ⟨g, cap, he, h1, h2, h3, h4, h5, hb⟩

/-- 'append(s, x)' of one word, s a row of the call's own. -/
theorem append1 {w : World} {ops : Array Oper} {rest : List Oper} {o : Oper} {a : Act} {Q : Exit → Act → World → Prop} (hgd : o.guard = none) (s x : Operand)
    (ho : o.op = .call { callee := .builtin .append, args := #[s, x], argTypes := #[83, 83] })
    (base : Nat) (v : Value) (n : Nat) (xs : List Value) (hs : a.eval s = v) (hown : w.ownsRow base 34 1 v n xs)
    (b : Nat) (c : Int) (hx : a.eval x = .slice (some ⟨b, 0, none⟩) 1 1) (hc : w.cell? ⟨b, 0, none⟩ = some (.int .u64 c)) (hn : n < 1000000) (hbase : base ≤ w.heap.size)
    (h : ∀ v' w', w'.ownsRow base 34 1 v' (n + 1) (xs ++ [.int .u64 c]) → w.grownBy w' v.ownBlock → wpList Try.prog ops Q rest (a.put o.dst v') w') : wpList Try.prog ops Q (o :: rest) a w := by
  obtain ⟨i, hi, hz0, hz1, hz2⟩ := info_parts info64
  refine wpList_append_own w hgd s x 83 ho base 34 i (.int .u64 0) 1 8 Try.underlying83 hi hz0 hz1 hz2 rfl (by decide) v n xs hs hown ⟨b, 0, none⟩ 1 1 [.int .u64 c] hx rfl ?_ ?_ ?_ ?_ hbase (fun v' w' h1 h2 _ => h v' w' h1 h2)
  · intro j u hj
    cases j with
    | zero => simp at hj; subst hj; exact hc
    | succ j => simp at hj
  · intro u hu; simp at hu; subst hu; rfl
  · unfold maxLen; omega
  · omega

/-- The same as an operation of a region that draws its order. -/
theorem regAppend1 {ops : Array Oper} {Q : Exit → Act → World → Prop} {md : Region.Mode} {S : World → Prop} (i : Nat) (d : Option Tmp) {oi : Oper} {fuel : Nat} {listed : Array Bool} {a : Act} {w : World} (hi : ops[i]? = some oi) (hd : oi.dst = d)
    (hr : Region.ready md ops listed = [i]) (hw : Region.wanted oi (yielded ops a.tmps) = true) (s x : Operand)
    (ho : oi.op = .call { callee := .builtin .append, args := #[s, x], argTypes := #[83, 83] })
    (base : Nat) (v : Value) (n : Nat) (xs : List Value) (hs : a.eval s = v) (hown : w.ownsRow base 34 1 v n xs)
    (b : Nat) (c : Int) (hx : a.eval x = .slice (some ⟨b, 0, none⟩) 1 1) (hc : w.cell? ⟨b, 0, none⟩ = some (.int .u64 c)) (hn : n < 1000000) (hbase : base ≤ w.heap.size)
    (h : ∀ v' w', w'.ownsRow base 34 1 v' (n + 1) (xs ++ [.int .u64 c]) → w.grownBy w' v.ownBlock → S w' ∧ (S w' → wpAnyH Try.prog md ops Q S fuel (listed.setIfInBounds i true) (a.put d v') w')) : wpAnyH Try.prog md ops Q S (fuel + 1) listed a w := by
  subst hd
  refine wpAnyH_ready (rs := [i]) hr (by simp) (AllReadyH.cons hi (fun K hK => ?_) AllReadyH.nil)
  rw [if_pos hw]
  obtain ⟨i, hi, hz0, hz1, hz2⟩ := info_parts info64
  refine wp_append_own w s x 83 ho base 34 i (.int .u64 0) 1 8 Try.underlying83 hi hz0 hz1 hz2 rfl (by decide) v n xs hs hown ⟨b, 0, none⟩ 1 1 [.int .u64 c] hx rfl ?_ ?_ ?_ ?_ hbase (fun v' w' h1 h2 _ => hK.out _ _ (h v' w' h1 h2).1 (h v' w' h1 h2).2)
  · intro j u hj
    cases j with
    | zero => simp at hj; subst hj; exact hc
    | succ j => simp at hj
  · intro u hu; simp at hu; subst hu; rfl
  · unfold maxLen; omega
  · omega
end Go.Proofs.Ytfafkdbflmennaa

/- datumref01.Pieces: the eight pieces of 16 bits of a wide number, the lowest first, in a slice of the call's own; nothing that was in memory before is changed. -/
namespace Go.Proofs.Ytfafkdbflmennaa
open Go.RowKit
set_option maxHeartbeats 4000000 in
theorem pieces_core (ah al : Nat) (w : World) :
    Calls Try.prog 41 #[.agg #[.int .u64 ah, .int .u64 al]] w fun e w' => ∃ v, e = .returned v ∧ w'.ownsRow w.heap.size 34 1 v 8 [.int .u64 ((al : Int) % 65536), .int .u64 ((al : Int) / 65536 % 65536), .int .u64 ((al : Int) / 4294967296 % 65536), .int .u64 ((al : Int) / 281474976710656 % 65536), .int .u64 ((ah : Int) % 65536), .int .u64 ((ah : Int) / 65536 % 65536), .int .u64 ((ah : Int) / 4294967296 % 65536), .int .u64 ((ah : Int) / 281474976710656 % 65536)] ∧ Below w.heap.size w w' := by
  have own0 : ((w.alloc (.cells #[.int .u64 ah, .int .u64 al] 36)).alloc (.cells #[] 34)).ownsRow (w.heap.size + 1) 34 1 (.slice (some ⟨w.heap.size + 1, 0, none⟩) 0 0) 0 [] := by
    have := World.ownsRow_made (base := w.heap.size + 1) (e := 34) (size := 1) (w.alloc (.cells #[.int .u64 ah, .int .u64 al] 36)) #[] 0 (by simp) (by unfold maxLen; omega) (by simp)
    simpa using this
  have O0 := Lib.hid own0; clear own0
  have B0 := Lib.hid (show Below (w.heap.size + 1) (w.alloc (.cells #[.int .u64 ah, .int .u64 al] 36)) ((w.alloc (.cells #[.int .u64 ah, .int .u64 al] 36)).alloc (.cells #[] 34)) from (Below.refl _ _).alloc (by simp) _)
  go_enter Try.func41, Try.ntmps41
  go_wp2_with fail
  refine wp_loop_rounds 5 ?_
  rw [rounds_succ]
  go_wp2_with (at_builtin; refine append1 rfl _ _ rfl (w.heap.size + 1) _ 0 _ rfl (O0.out.alloc _) (w.heap.size + 1 + 1) ((al : Int) % 65536) rfl ?c0a (by omega) ?c0b ?_)
  case c0a => simp [go_sem]
  case c0b => simp
  intro v1 w1 O G
  have B1 := Lib.hid ((B0.out.alloc (by simp) _).grown G (by simp) (fun k hk => (O0.out.lt k hk).1))
  have O1 := Lib.hid O; clear O G O0 B0
  have z1 : w.heap.size + 1 ≤ w1.heap.size := by have := B1.out.size; simp at this; omega
  have d1 := B1.out.cell (p := ⟨w.heap.size, 1, none⟩) (by simp)
  simp [go_sem] at d1
  go_wp2_with fail
  rw [rounds_succ]
  go_wp2_with (at_builtin; refine append1 rfl _ _ rfl (w.heap.size + 1) _ 1 _ rfl (O1.out.alloc _) w1.heap.size ((al : Int) / 65536 % 65536) rfl ?c1a (by omega) ?c1b ?_)
  case c1a => simp [go_sem]
  case c1b => (simp; omega)
  intro v2 w2 O G
  have B2 := Lib.hid ((B1.out.alloc (by omega) _).grown G (by (simp; omega)) (fun k hk => (O1.out.lt k hk).1))
  have O2 := Lib.hid O; clear O G O1 B1
  have z2 : w.heap.size + 1 ≤ w2.heap.size := by have := B2.out.size; simp at this; omega
  have d2 := B2.out.cell (p := ⟨w.heap.size, 1, none⟩) (by simp)
  simp [go_sem] at d2
  clear z1 d1
  go_wp2_with fail
  rw [rounds_succ]
  go_wp2_with (at_builtin; refine append1 rfl _ _ rfl (w.heap.size + 1) _ 2 _ rfl (O2.out.alloc _) w2.heap.size ((al : Int) / 4294967296 % 65536) rfl ?c2a (by omega) ?c2b ?_)
  case c2a => simp [go_sem]
  case c2b => (simp; omega)
  intro v3 w3 O G
  have B3 := Lib.hid ((B2.out.alloc (by omega) _).grown G (by (simp; omega)) (fun k hk => (O2.out.lt k hk).1))
  have O3 := Lib.hid O; clear O G O2 B2
  have z3 : w.heap.size + 1 ≤ w3.heap.size := by have := B3.out.size; simp at this; omega
  have d3 := B3.out.cell (p := ⟨w.heap.size, 1, none⟩) (by simp)
  simp [go_sem] at d3
  clear z2 d2
  go_wp2_with fail
  rw [rounds_succ]
  go_wp2_with (at_builtin; refine append1 rfl _ _ rfl (w.heap.size + 1) _ 3 _ rfl (O3.out.alloc _) w3.heap.size ((al : Int) / 281474976710656 % 65536) rfl ?c3a (by omega) ?c3b ?_)
  case c3a => simp [go_sem]
  case c3b => (simp; omega)
  intro v4 w4 O G
  have B4 := Lib.hid ((B3.out.alloc (by omega) _).grown G (by (simp; omega)) (fun k hk => (O3.out.lt k hk).1))
  have O4 := Lib.hid O; clear O G O3 B3
  have z4 : w.heap.size + 1 ≤ w4.heap.size := by have := B4.out.size; simp at this; omega
  have d4 := B4.out.cell (p := ⟨w.heap.size, 0, none⟩) (by simp)
  simp [go_sem] at d4
  clear z3 d3
  go_wp2_with fail
  rw [rounds_succ]
  go_wp2_with fail
  refine wp_loop_rounds 5 ?_
  rw [rounds_succ]
  go_wp2_with (at_builtin; refine append1 rfl _ _ rfl (w.heap.size + 1) _ 4 _ rfl (O4.out.alloc _) w4.heap.size ((ah : Int) % 65536) rfl ?c4a (by omega) ?c4b ?_)
  case c4a => simp [go_sem]
  case c4b => (simp; omega)
  intro v5 w5 O G
  have B5 := Lib.hid ((B4.out.alloc (by omega) _).grown G (by (simp; omega)) (fun k hk => (O4.out.lt k hk).1))
  have O5 := Lib.hid O; clear O G O4 B4
  have z5 : w.heap.size + 1 ≤ w5.heap.size := by have := B5.out.size; simp at this; omega
  have d5 := B5.out.cell (p := ⟨w.heap.size, 0, none⟩) (by simp)
  simp [go_sem] at d5
  clear z4 d4
  go_wp2_with fail
  rw [rounds_succ]
  go_wp2_with (at_builtin; refine append1 rfl _ _ rfl (w.heap.size + 1) _ 5 _ rfl (O5.out.alloc _) w5.heap.size ((ah : Int) / 65536 % 65536) rfl ?c5a (by omega) ?c5b ?_)
  case c5a => simp [go_sem]
  case c5b => (simp; omega)
  intro v6 w6 O G
  have B6 := Lib.hid ((B5.out.alloc (by omega) _).grown G (by (simp; omega)) (fun k hk => (O5.out.lt k hk).1))
  have O6 := Lib.hid O; clear O G O5 B5
  have z6 : w.heap.size + 1 ≤ w6.heap.size := by have := B6.out.size; simp at this; omega
  have d6 := B6.out.cell (p := ⟨w.heap.size, 0, none⟩) (by simp)
  simp [go_sem] at d6
  clear z5 d5
  go_wp2_with fail
  rw [rounds_succ]
  go_wp2_with (at_builtin; refine append1 rfl _ _ rfl (w.heap.size + 1) _ 6 _ rfl (O6.out.alloc _) w6.heap.size ((ah : Int) / 4294967296 % 65536) rfl ?c6a (by omega) ?c6b ?_)
  case c6a => simp [go_sem]
  case c6b => (simp; omega)
  intro v7 w7 O G
  have B7 := Lib.hid ((B6.out.alloc (by omega) _).grown G (by (simp; omega)) (fun k hk => (O6.out.lt k hk).1))
  have O7 := Lib.hid O; clear O G O6 B6
  have z7 : w.heap.size + 1 ≤ w7.heap.size := by have := B7.out.size; simp at this; omega
  have d7 := B7.out.cell (p := ⟨w.heap.size, 0, none⟩) (by simp)
  simp [go_sem] at d7
  clear z6 d6
  go_wp2_with fail
  rw [rounds_succ]
  go_wp2_with (at_builtin; refine append1 rfl _ _ rfl (w.heap.size + 1) _ 7 _ rfl (O7.out.alloc _) w7.heap.size ((ah : Int) / 281474976710656 % 65536) rfl ?c7a (by omega) ?c7b ?_)
  case c7a => simp [go_sem]
  case c7b => (simp; omega)
  intro v8 w8 O G
  have B8 := Lib.hid ((B7.out.alloc (by omega) _).grown G (by (simp; omega)) (fun k hk => (O7.out.lt k hk).1))
  have O8 := Lib.hid O; clear O G O7 B7
  have z8 : w.heap.size + 1 ≤ w8.heap.size := by have := B8.out.size; simp at this; omega
  have d8 := B8.out.cell (p := ⟨w.heap.size, 0, none⟩) (by simp)
  simp [go_sem] at d8
  clear z7 d7
  go_wp2_with fail
  rw [rounds_succ]
  go_wp2_with fail
  go_ret
  refine ⟨_, rfl, ?_, ?_⟩
  · have h := O8.out
    exact ownsRow_base h (by omega)
  · exact ((Below.refl _ _).alloc (Nat.le_refl _) _).trans (B8.out.mono (by omega))

theorem pieces_any (n : Nat) (w : World) :
    Calls Try.prog 41 #[.agg #[.int .u64 (hi n : Nat), .int .u64 (lo n : Nat)]] w (RowOut (pc n) 8 w) := by
  refine (pieces_core (hi n) (lo n) w).mono fun e w' ⟨v, he, ho, hb⟩ => ?_
  refine RowOut.of_own (by omega) he ?_ hb
  have e : u64s (fl (pc n) 8) = [.int .u64 (((lo n : Nat) : Int) % 65536), .int .u64 (((lo n : Nat) : Int) / 65536 % 65536), .int .u64 (((lo n : Nat) : Int) / 4294967296 % 65536), .int .u64 (((lo n : Nat) : Int) / 281474976710656 % 65536), .int .u64 (((hi n : Nat) : Int) % 65536), .int .u64 (((hi n : Nat) : Int) / 65536 % 65536), .int .u64 (((hi n : Nat) : Int) / 4294967296 % 65536), .int .u64 (((hi n : Nat) : Int) / 281474976710656 % 65536)] := by
    rw [pieces_nums n]
    simp only [u64s, List.map_cons, List.map_nil, Int.natCast_emod, Int.natCast_ediv]
    rfl
  rw [e]
  exact ho
end Go.Proofs.Ytfafkdbflmennaa

/- datumref01.Carried: each piece with what was carried, modulo 65536, and at last what is carried, in a slice of the call's own; nothing that was in memory before is changed. -/
namespace Go.Proofs.Ytfafkdbflmennaa
open Go.RowKit

theorem carry_step {x c : Nat} (hx : x < 1099511627776) (hc : c < 1099511627776) : IntKind.u64.wrap ((x : Int) + (c : Int)) = ((x + c : Nat) : Int) := by
  rw [IntKind.wrap_u64]; omega

set_option maxHeartbeats 2000000 in
theorem carried_own (f : Nat → Nat) (g n cap : Nat) (w : World) (hn : n ≤ 100) (hx : ∀ j, f j < 1099511627776) (hg : g < w.heap.size)
    (hc : ∀ j, j < n → w.cell? ⟨g, j, none⟩ = some (.int .u64 (f j : Nat))) :
    Calls Try.prog 42 #[.slice (some ⟨g, 0, none⟩) n cap] w fun e w' => ∃ v, e = .returned v ∧ w'.ownsRow w.heap.size 34 1 v (n + 1) (u64s (fl (carL f n) (n + 1))) ∧ Below w.heap.size w w' := by
  have own0 : (w.alloc (.cells #[] 34)).ownsRow w.heap.size 34 1 (.slice (some ⟨w.heap.size, 0, none⟩) 0 0) 0 (u64s (fl (carM f) 0)) := by
    exact World.ownsRow_made (base := w.heap.size) (e := 34) (size := 1) w #[] 0 (Nat.le_refl _) (by unfold maxLen; omega) (by simp)
  have O0 := Lib.hid own0; clear own0
  have HC := Lib.hid hc; clear hc
  have HX := Lib.hid hx; clear hx
  go_enter Try.func42, Try.ntmps42
  go_wp2_with fail
  go_loopw [3, 4, 10] (fun v c i wr => ∃ k : Nat, k ≤ n ∧ i = .int .i64 k ∧ c = .int .u64 (carC f k : Nat) ∧ Hid (wr.ownsRow w.heap.size 34 1 v k (u64s (fl (carM f) k))) ∧ Hid (Below w.heap.size w wr)) (fun _ _ i _ => n - (intOf i).toNat)
  case atStart => exact ⟨0, Nat.zero_le _, rfl, rfl, O0, Lib.hid ((Below.refl _ _).alloc (Nat.le_refl _) _)⟩
  case round =>
    obtain ⟨k, hk, rfl, rfl, O, B⟩ := hrel
    have zr := B.out.size
    by_cases hlt : k < n
    · have hcell : wr.cell? ⟨g, k, none⟩ = some (.int .u64 (f k : Nat)) := (B.out.cell (p := ⟨g, k, none⟩) hg).trans (HC.out k hlt)
      have bx := HX.out k
      have bc := carC_le f HX.out k
      have Hc : Hid (carC f (k + 1) = (f k + carC f k) / 65536) := rfl
      have Ho : Hid (u64s (fl (carM f) (k + 1)) = u64s (fl (carM f) k) ++ [.int .u64 (((f k + carC f k) % 65536 : Nat) : Int)]) := u64s_snoc (carM f) k
      generalize f k = x at *
      generalize carC f k = c at *
      generalize u64s (fl (carM f) k) = out at *
      have hw := carry_step bx bc
      go_wp2_with (at_builtin; refine append1 rfl _ _ rfl w.heap.size _ k _ rfl (O.out.alloc _) wr.heap.size (((x + c : Nat) : Int) % 65536) rfl ?c1 ?c2 ?c3 ?_)
      case c1 => simp [go_sem]
      case c2 => omega
      case c3 => (simp; omega)
      intro v1 w1 O1 G1
      have B1 := Lib.hid ((B.out.alloc (by omega) _).grown G1 (by simp; omega) (fun k hk => (O.out.lt k hk).1))
      have HO := Lib.hid O1; clear O1 G1 zr
      have z1 := B1.out.size
      go_wp2_with fail
      go_roundw
      case rel =>
        refine ⟨k + 1, by omega, by go_num, congrArg (Value.int .u64) (by rw [Hc.out]; omega), ?_, B1⟩
        have e : (((x : Int) + (c : Int)) % 65536) = (((x + c) % 65536 : Nat) : Int) := by omega
        have h := HO.out
        rw [e, ← Ho.out] at h
        exact Lib.hid h
      case measure => simp [intOf]; omega
    · have hkn : k = n := by omega
      have HK := Lib.hid hkn; clear hkn
      go_wp2_with (at_builtin; refine append1 rfl _ _ rfl w.heap.size _ k _ rfl (O.out.alloc _) wr.heap.size ((carC f k : Nat) : Int) rfl ?d1 ?d2 ?d3 ?_)
      case d1 => simp [go_sem]
      case d2 => omega
      case d3 => (simp; omega)
      intro v1 w1 O1 G1
      have B1 := Lib.hid ((B.out.alloc (by omega) _).grown G1 (by simp; omega) (fun k hk => (O.out.lt k hk).1))
      have HO := Lib.hid O1; clear O1 G1
      go_wp2_with fail
      go_ret
      have e := HK.out
      subst e
      refine ⟨_, rfl, ?_, B1.out⟩
      rw [fl_carL, u64s_append]
      exact HO.out
/-- .. its cells. -/
theorem carried_any (f : Nat → Nat) (g n cap : Nat) (w : World) (hn : n ≤ 100) (hx : ∀ j, f j < 1099511627776) (hg : g < w.heap.size)
    (hc : ∀ j, j < n → w.cell? ⟨g, j, none⟩ = some (.int .u64 (f j : Nat))) :
    Calls Try.prog 42 #[.slice (some ⟨g, 0, none⟩) n cap] w (RowOut (carL f n) (n + 1) w) :=
  (carried_own f g n cap w hn hx hg hc).mono fun e w' ⟨v, he, ho, hb⟩ => RowOut.of_own (by omega) he ho hb
end Go.Proofs.Ytfafkdbflmennaa

/- datumref01.Whole: the wide number of eight pieces of 16 bits, the lowest first; nothing that was in memory before is changed. -/
namespace Go.Proofs.Ytfafkdbflmennaa
open Go.RowKit
set_option maxHeartbeats 4000000 in
theorem whole_core (x0 x1 x2 x3 x4 x5 x6 x7 ly1 ly2 ly3 hy1 hy2 hy3 l1 l2 l3 h1 h2 h3 g n cap : Nat) (w : World) (hn : 8 ≤ n) (hg : g < w.heap.size)
    (la0 : IntKind.u64.wrap (x0 : Int) = (x0 : Nat))
    (la1 : IntKind.u64.wrap ((x1 : Int) * 65536) = (ly1 : Nat)) (lb1 : IntKind.u64.wrap ((x0 : Int) + (ly1 : Int)) = (l1 : Nat))
    (la2 : IntKind.u64.wrap ((x2 : Int) * 4294967296) = (ly2 : Nat)) (lb2 : IntKind.u64.wrap ((l1 : Int) + (ly2 : Int)) = (l2 : Nat))
    (la3 : IntKind.u64.wrap ((x3 : Int) * 281474976710656) = (ly3 : Nat)) (lb3 : IntKind.u64.wrap ((l2 : Int) + (ly3 : Int)) = (l3 : Nat))
    (ha0 : IntKind.u64.wrap (x4 : Int) = (x4 : Nat))
    (ha1 : IntKind.u64.wrap ((x5 : Int) * 65536) = (hy1 : Nat)) (hb1 : IntKind.u64.wrap ((x4 : Int) + (hy1 : Int)) = (h1 : Nat))
    (ha2 : IntKind.u64.wrap ((x6 : Int) * 4294967296) = (hy2 : Nat)) (hb2 : IntKind.u64.wrap ((h1 : Int) + (hy2 : Int)) = (h2 : Nat))
    (ha3 : IntKind.u64.wrap ((x7 : Int) * 281474976710656) = (hy3 : Nat)) (hb3 : IntKind.u64.wrap ((h2 : Int) + (hy3 : Int)) = (h3 : Nat))
    (c0 : w.cell? ⟨g, 0, none⟩ = some (.int .u64 x0))
    (c1 : w.cell? ⟨g, 1, none⟩ = some (.int .u64 x1))
    (c2 : w.cell? ⟨g, 2, none⟩ = some (.int .u64 x2))
    (c3 : w.cell? ⟨g, 3, none⟩ = some (.int .u64 x3))
    (c4 : w.cell? ⟨g, 4, none⟩ = some (.int .u64 x4))
    (c5 : w.cell? ⟨g, 5, none⟩ = some (.int .u64 x5))
    (c6 : w.cell? ⟨g, 6, none⟩ = some (.int .u64 x6))
    (c7 : w.cell? ⟨g, 7, none⟩ = some (.int .u64 x7)) :
    Calls Try.prog 43 #[.slice (some ⟨g, 0, none⟩) n cap] w fun e w' => e = .returned (.agg #[.int .u64 (h3 : Nat), .int .u64 (l3 : Nat)]) ∧ Below w.heap.size w w' := by
  have n0 : 0 < n := by omega
  have j0 : (0 : Int) < (n : Int) := by omega
  have n1 : 1 < n := by omega
  have j1 : (1 : Int) < (n : Int) := by omega
  have n2 : 2 < n := by omega
  have j2 : (2 : Int) < (n : Int) := by omega
  have n3 : 3 < n := by omega
  have j3 : (3 : Int) < (n : Int) := by omega
  have n4 : 4 < n := by omega
  have j4 : (4 : Int) < (n : Int) := by omega
  have n5 : 5 < n := by omega
  have j5 : (5 : Int) < (n : Int) := by omega
  have n6 : 6 < n := by omega
  have j6 : (6 : Int) < (n : Int) := by omega
  have n7 : 7 < n := by omega
  have j7 : (7 : Int) < (n : Int) := by omega
  clear hn
  have u0 : IntKind.u64.wrap 0 = 0 := by decide
  have u1 : IntKind.u64.wrap 1 = 1 := by decide
  have u2 : IntKind.u64.wrap 2 = 2 := by decide
  have u3 : IntKind.u64.wrap 3 = 3 := by decide
  have u4 : IntKind.u64.wrap 16 = 16 := by decide
  have u5 : IntKind.u64.wrap 32 = 32 := by decide
  have u6 : IntKind.u64.wrap 48 = 48 := by decide
  have i4 : IntKind.i64.wrap 4 = 4 := by decide
  have i5 : IntKind.i64.wrap 5 = 5 := by decide
  have i6 : IntKind.i64.wrap 6 = 6 := by decide
  have i7 : IntKind.i64.wrap 7 = 7 := by decide
  go_enter Try.func43, Try.ntmps43
  go_wp2_with fail
  refine wp_loop_rounds 5 ?_
  rw [rounds_succ]
  go_wp2_with fail
  refine wp_region_held_drew (S := fun w' => w'.cell? ⟨g, 0, none⟩ = some (.int .u64 x0)) (by kernel_rfl) (by simp [go_sem, *]) (fun hHeld => ?_)
  refine regTake 0 (some 10) (v := ?_) rfl rfl (by kernel_rfl) (by kernel_rfl) (by kernel_rfl) (fun _ _ _ h => h) (by rfl) hHeld ?_ ?_
  rotate_left 1
  · (intro w hSw; (try dsimp only at hSw); go_simp; try with_reducible rfl)
  simp only [Act.put, List.setIfInBounds_toArray, List.set_cons_zero, List.set_cons_succ]
  refine regTake 2 (some 12) (v := ?_) rfl rfl (by kernel_rfl) (by kernel_rfl) (by kernel_rfl) (fun _ _ _ h => h) (by rfl) hHeld ?_ ?_
  rotate_left 1
  · (intro w hSw; (try dsimp only at hSw); go_simp; try with_reducible rfl)
  simp only [Act.put, List.setIfInBounds_toArray, List.set_cons_zero, List.set_cons_succ]
  refine regTake 3 (some 13) (v := ?_) rfl rfl (by kernel_rfl) (by kernel_rfl) (by kernel_rfl) (fun _ _ _ h => h) (by rfl) hHeld ?_ ?_
  rotate_left 1
  · (intro w hSw; (try dsimp only at hSw); go_simp; try with_reducible rfl)
  simp only [Act.put, List.setIfInBounds_toArray, List.set_cons_zero, List.set_cons_succ]
  refine regTake 4 (some 14) (v := ?_) rfl rfl (by kernel_rfl) (by kernel_rfl) (by kernel_rfl) (fun _ _ _ h => h) (by rfl) hHeld ?_ ?_
  rotate_left 1
  · (intro w hSw; (try dsimp only at hSw); go_simp; try with_reducible rfl)
  simp only [Act.put, List.setIfInBounds_toArray, List.set_cons_zero, List.set_cons_succ]
  refine regTake 5 (some 15) (v := ?_) rfl rfl (by kernel_rfl) (by kernel_rfl) (by kernel_rfl) (fun _ _ _ h => h) (by rfl) hHeld ?_ ?_
  rotate_left 1
  · (intro w hSw; (try dsimp only at hSw); go_simp; try with_reducible rfl)
  simp only [Act.put, List.setIfInBounds_toArray, List.set_cons_zero, List.set_cons_succ]
  refine regTake 6 (some 16) (v := ?_) rfl rfl (by kernel_rfl) (by kernel_rfl) (by kernel_rfl) (fun _ _ _ h => h) (by rfl) hHeld ?_ ?_
  rotate_left 1
  · (intro w hSw; (try dsimp only at hSw); go_simp; try with_reducible rfl)
  simp only [Act.put, List.setIfInBounds_toArray, List.set_cons_zero, List.set_cons_succ]
  refine regTake 7 (some 17) (v := ?_) rfl rfl (by kernel_rfl) (by kernel_rfl) (by kernel_rfl) (fun _ _ _ h => h) (by rfl) hHeld ?_ ?_
  rotate_left 1
  · (intro w hSw; (try dsimp only at hSw); go_simp; try with_reducible rfl)
  simp only [Act.put, List.setIfInBounds_toArray, List.set_cons_zero, List.set_cons_succ]
  refine regTake 8 (some 18) (v := ?_) rfl rfl (by kernel_rfl) (by kernel_rfl) (by kernel_rfl) (fun _ _ _ h => h) (by rfl) hHeld ?_ ?_
  rotate_left 1
  · (intro w hSw; (try dsimp only at hSw); go_simp; try with_reducible rfl)
  simp only [Act.put, List.setIfInBounds_toArray, List.set_cons_zero, List.set_cons_succ]
  refine regTake 9 (some 19) (v := ?_) rfl rfl (by kernel_rfl) (by kernel_rfl) (by kernel_rfl) (fun _ _ _ h => h) (by rfl) hHeld ?_ ?_
  rotate_left 1
  · (intro w hSw; (try dsimp only at hSw); go_simp; try with_reducible rfl)
  simp only [Act.put, List.setIfInBounds_toArray, List.set_cons_zero, List.set_cons_succ]
  refine regDo 1 (some 11) (v := ?_) (w' := ?_) rfl rfl (by kernel_rfl) (by rfl) ?_ ?_ (fun hHeld => ?_)
  rotate_left 2
  · (go_simp; refine ⟨?_, ?_⟩ <;> with_reducible rfl)
  · exact hHeld
  simp only [Act.put, List.setIfInBounds_toArray, List.set_cons_zero, List.set_cons_succ]
  refine regTake 10 (some 20) (v := ?_) rfl rfl (by kernel_rfl) (by kernel_rfl) (by kernel_rfl) (fun _ _ _ h => h) (by rfl) hHeld ?_ ?_
  rotate_left 1
  · (intro w hSw; (try dsimp only at hSw); go_simp; try with_reducible rfl)
  simp only [Act.put, List.setIfInBounds_toArray, List.set_cons_zero, List.set_cons_succ]
  refine regTake 11 (some 21) (v := ?_) rfl rfl (by kernel_rfl) (by kernel_rfl) (by kernel_rfl) (fun _ _ _ h => h) (by rfl) hHeld ?_ ?_
  rotate_left 1
  · (intro w hSw; (try dsimp only at hSw); go_simp; try with_reducible rfl)
  simp only [Act.put, List.setIfInBounds_toArray, List.set_cons_zero, List.set_cons_succ]
  refine regStore 12 (w' := ?_) rfl rfl (by kernel_rfl) (by rfl) ?_ ?_ (fun hHeld => ?_)
  rotate_left 1
  · (go_simp; try with_reducible rfl)
  · (simp [go_sem, *]; done)
  clear hHeld
  refine wpAnyH_done (by kernel_rfl) ?_ _
  go_wp2_with fail
  refine wp_region_held_drew (S := fun w' => w'.cell? ⟨g, 4, none⟩ = some (.int .u64 x4)) (by kernel_rfl) (by simp [go_sem, *]) (fun hHeld => ?_)
  refine regTake 0 (some 22) (v := ?_) rfl rfl (by kernel_rfl) (by kernel_rfl) (by kernel_rfl) (fun _ _ _ h => h) (by rfl) hHeld ?_ ?_
  rotate_left 1
  · (intro w hSw; (try dsimp only at hSw); go_simp; try with_reducible rfl)
  simp only [Act.put, List.setIfInBounds_toArray, List.set_cons_zero, List.set_cons_succ]
  refine regTake 2 (some 24) (v := ?_) rfl rfl (by kernel_rfl) (by kernel_rfl) (by kernel_rfl) (fun _ _ _ h => h) (by rfl) hHeld ?_ ?_
  rotate_left 1
  · (intro w hSw; (try dsimp only at hSw); go_simp; try with_reducible rfl)
  simp only [Act.put, List.setIfInBounds_toArray, List.set_cons_zero, List.set_cons_succ]
  refine regTake 3 (some 25) (v := ?_) rfl rfl (by kernel_rfl) (by kernel_rfl) (by kernel_rfl) (fun _ _ _ h => h) (by rfl) hHeld ?_ ?_
  rotate_left 1
  · (intro w hSw; (try dsimp only at hSw); go_simp; try with_reducible rfl)
  simp only [Act.put, List.setIfInBounds_toArray, List.set_cons_zero, List.set_cons_succ]
  refine regTake 4 (some 26) (v := ?_) rfl rfl (by kernel_rfl) (by kernel_rfl) (by kernel_rfl) (fun _ _ _ h => h) (by rfl) hHeld ?_ ?_
  rotate_left 1
  · (intro w hSw; (try dsimp only at hSw); go_simp; try with_reducible rfl)
  simp only [Act.put, List.setIfInBounds_toArray, List.set_cons_zero, List.set_cons_succ]
  refine regTake 5 (some 27) (v := ?_) rfl rfl (by kernel_rfl) (by kernel_rfl) (by kernel_rfl) (fun _ _ _ h => h) (by rfl) hHeld ?_ ?_
  rotate_left 1
  · (intro w hSw; (try dsimp only at hSw); go_simp; try with_reducible rfl)
  simp only [Act.put, List.setIfInBounds_toArray, List.set_cons_zero, List.set_cons_succ]
  refine regTake 6 (some 28) (v := ?_) rfl rfl (by kernel_rfl) (by kernel_rfl) (by kernel_rfl) (fun _ _ _ h => h) (by rfl) hHeld ?_ ?_
  rotate_left 1
  · (intro w hSw; (try dsimp only at hSw); go_simp; try with_reducible rfl)
  simp only [Act.put, List.setIfInBounds_toArray, List.set_cons_zero, List.set_cons_succ]
  refine regTake 7 (some 29) (v := ?_) rfl rfl (by kernel_rfl) (by kernel_rfl) (by kernel_rfl) (fun _ _ _ h => h) (by rfl) hHeld ?_ ?_
  rotate_left 1
  · (intro w hSw; (try dsimp only at hSw); go_simp; try with_reducible rfl)
  simp only [Act.put, List.setIfInBounds_toArray, List.set_cons_zero, List.set_cons_succ]
  refine regTake 8 (some 30) (v := ?_) rfl rfl (by kernel_rfl) (by kernel_rfl) (by kernel_rfl) (fun _ _ _ h => h) (by rfl) hHeld ?_ ?_
  rotate_left 1
  · (intro w hSw; (try dsimp only at hSw); go_simp; try with_reducible rfl)
  simp only [Act.put, List.setIfInBounds_toArray, List.set_cons_zero, List.set_cons_succ]
  refine regTake 9 (some 31) (v := ?_) rfl rfl (by kernel_rfl) (by kernel_rfl) (by kernel_rfl) (fun _ _ _ h => h) (by rfl) hHeld ?_ ?_
  rotate_left 1
  · (intro w hSw; (try dsimp only at hSw); go_simp; try with_reducible rfl)
  simp only [Act.put, List.setIfInBounds_toArray, List.set_cons_zero, List.set_cons_succ]
  refine regTake 10 (some 32) (v := ?_) rfl rfl (by kernel_rfl) (by kernel_rfl) (by kernel_rfl) (fun _ _ _ h => h) (by rfl) hHeld ?_ ?_
  rotate_left 1
  · (intro w hSw; (try dsimp only at hSw); go_simp; try with_reducible rfl)
  simp only [Act.put, List.setIfInBounds_toArray, List.set_cons_zero, List.set_cons_succ]
  refine regDo 1 (some 23) (v := ?_) (w' := ?_) rfl rfl (by kernel_rfl) (by rfl) ?_ ?_ (fun hHeld => ?_)
  rotate_left 2
  · (go_simp; refine ⟨?_, ?_⟩ <;> with_reducible rfl)
  · exact hHeld
  simp only [Act.put, List.setIfInBounds_toArray, List.set_cons_zero, List.set_cons_succ]
  refine regTake 11 (some 33) (v := ?_) rfl rfl (by kernel_rfl) (by kernel_rfl) (by kernel_rfl) (fun _ _ _ h => h) (by rfl) hHeld ?_ ?_
  rotate_left 1
  · (intro w hSw; (try dsimp only at hSw); go_simp; try with_reducible rfl)
  simp only [Act.put, List.setIfInBounds_toArray, List.set_cons_zero, List.set_cons_succ]
  refine regTake 12 (some 34) (v := ?_) rfl rfl (by kernel_rfl) (by kernel_rfl) (by kernel_rfl) (fun _ _ _ h => h) (by rfl) hHeld ?_ ?_
  rotate_left 1
  · (intro w hSw; (try dsimp only at hSw); go_simp; try with_reducible rfl)
  simp only [Act.put, List.setIfInBounds_toArray, List.set_cons_zero, List.set_cons_succ]
  refine regStore 13 (w' := ?_) rfl rfl (by kernel_rfl) (by rfl) ?_ ?_ (fun hHeld => ?_)
  rotate_left 1
  · (go_simp; try with_reducible rfl)
  · (simp [go_sem, *]; done)
  clear hHeld
  refine wpAnyH_done (by kernel_rfl) ?_ _
  go_wp2_with fail
  rw [rounds_succ]
  go_wp2_with fail
  refine wp_region_held_drew (S := fun w' => w'.cell? ⟨g, 1, none⟩ = some (.int .u64 x1)) (by kernel_rfl) (by simp [go_sem, *]) (fun hHeld => ?_)
  refine regTake 0 (some 10) (v := ?_) rfl rfl (by kernel_rfl) (by kernel_rfl) (by kernel_rfl) (fun _ _ _ h => h) (by rfl) hHeld ?_ ?_
  rotate_left 1
  · (intro w hSw; (try dsimp only at hSw); go_simp; try with_reducible rfl)
  simp only [Act.put, List.setIfInBounds_toArray, List.set_cons_zero, List.set_cons_succ]
  refine regTake 2 (some 12) (v := ?_) rfl rfl (by kernel_rfl) (by kernel_rfl) (by kernel_rfl) (fun _ _ _ h => h) (by rfl) hHeld ?_ ?_
  rotate_left 1
  · (intro w hSw; (try dsimp only at hSw); go_simp; try with_reducible rfl)
  simp only [Act.put, List.setIfInBounds_toArray, List.set_cons_zero, List.set_cons_succ]
  refine regTake 3 (some 13) (v := ?_) rfl rfl (by kernel_rfl) (by kernel_rfl) (by kernel_rfl) (fun _ _ _ h => h) (by rfl) hHeld ?_ ?_
  rotate_left 1
  · (intro w hSw; (try dsimp only at hSw); go_simp; try with_reducible rfl)
  simp only [Act.put, List.setIfInBounds_toArray, List.set_cons_zero, List.set_cons_succ]
  refine regTake 4 (some 14) (v := ?_) rfl rfl (by kernel_rfl) (by kernel_rfl) (by kernel_rfl) (fun _ _ _ h => h) (by rfl) hHeld ?_ ?_
  rotate_left 1
  · (intro w hSw; (try dsimp only at hSw); go_simp; try with_reducible rfl)
  simp only [Act.put, List.setIfInBounds_toArray, List.set_cons_zero, List.set_cons_succ]
  refine regTake 5 (some 15) (v := ?_) rfl rfl (by kernel_rfl) (by kernel_rfl) (by kernel_rfl) (fun _ _ _ h => h) (by rfl) hHeld ?_ ?_
  rotate_left 1
  · (intro w hSw; (try dsimp only at hSw); go_simp; try with_reducible rfl)
  simp only [Act.put, List.setIfInBounds_toArray, List.set_cons_zero, List.set_cons_succ]
  refine regTake 6 (some 16) (v := ?_) rfl rfl (by kernel_rfl) (by kernel_rfl) (by kernel_rfl) (fun _ _ _ h => h) (by rfl) hHeld ?_ ?_
  rotate_left 1
  · (intro w hSw; (try dsimp only at hSw); go_simp; try with_reducible rfl)
  simp only [Act.put, List.setIfInBounds_toArray, List.set_cons_zero, List.set_cons_succ]
  refine regTake 7 (some 17) (v := ?_) rfl rfl (by kernel_rfl) (by kernel_rfl) (by kernel_rfl) (fun _ _ _ h => h) (by rfl) hHeld ?_ ?_
  rotate_left 1
  · (intro w hSw; (try dsimp only at hSw); go_simp; try with_reducible rfl)
  simp only [Act.put, List.setIfInBounds_toArray, List.set_cons_zero, List.set_cons_succ]
  refine regTake 8 (some 18) (v := ?_) rfl rfl (by kernel_rfl) (by kernel_rfl) (by kernel_rfl) (fun _ _ _ h => h) (by rfl) hHeld ?_ ?_
  rotate_left 1
  · (intro w hSw; (try dsimp only at hSw); go_simp; try with_reducible rfl)
  simp only [Act.put, List.setIfInBounds_toArray, List.set_cons_zero, List.set_cons_succ]
  refine regTake 9 (some 19) (v := ?_) rfl rfl (by kernel_rfl) (by kernel_rfl) (by kernel_rfl) (fun _ _ _ h => h) (by rfl) hHeld ?_ ?_
  rotate_left 1
  · (intro w hSw; (try dsimp only at hSw); go_simp; try with_reducible rfl)
  simp only [Act.put, List.setIfInBounds_toArray, List.set_cons_zero, List.set_cons_succ]
  refine regDo 1 (some 11) (v := ?_) (w' := ?_) rfl rfl (by kernel_rfl) (by rfl) ?_ ?_ (fun hHeld => ?_)
  rotate_left 2
  · (go_simp; refine ⟨?_, ?_⟩ <;> with_reducible rfl)
  · exact hHeld
  simp only [Act.put, List.setIfInBounds_toArray, List.set_cons_zero, List.set_cons_succ]
  refine regTake 10 (some 20) (v := ?_) rfl rfl (by kernel_rfl) (by kernel_rfl) (by kernel_rfl) (fun _ _ _ h => h) (by rfl) hHeld ?_ ?_
  rotate_left 1
  · (intro w hSw; (try dsimp only at hSw); go_simp; try with_reducible rfl)
  simp only [Act.put, List.setIfInBounds_toArray, List.set_cons_zero, List.set_cons_succ]
  refine regTake 11 (some 21) (v := ?_) rfl rfl (by kernel_rfl) (by kernel_rfl) (by kernel_rfl) (fun _ _ _ h => h) (by rfl) hHeld ?_ ?_
  rotate_left 1
  · (intro w hSw; (try dsimp only at hSw); go_simp; try with_reducible rfl)
  simp only [Act.put, List.setIfInBounds_toArray, List.set_cons_zero, List.set_cons_succ]
  refine regStore 12 (w' := ?_) rfl rfl (by kernel_rfl) (by rfl) ?_ ?_ (fun hHeld => ?_)
  rotate_left 1
  · (go_simp; try with_reducible rfl)
  · (simp [go_sem, *]; done)
  clear hHeld
  refine wpAnyH_done (by kernel_rfl) ?_ _
  go_wp2_with fail
  refine wp_region_held_drew (S := fun w' => w'.cell? ⟨g, 5, none⟩ = some (.int .u64 x5)) (by kernel_rfl) (by simp [go_sem, *]) (fun hHeld => ?_)
  refine regTake 0 (some 22) (v := ?_) rfl rfl (by kernel_rfl) (by kernel_rfl) (by kernel_rfl) (fun _ _ _ h => h) (by rfl) hHeld ?_ ?_
  rotate_left 1
  · (intro w hSw; (try dsimp only at hSw); go_simp; try with_reducible rfl)
  simp only [Act.put, List.setIfInBounds_toArray, List.set_cons_zero, List.set_cons_succ]
  refine regTake 2 (some 24) (v := ?_) rfl rfl (by kernel_rfl) (by kernel_rfl) (by kernel_rfl) (fun _ _ _ h => h) (by rfl) hHeld ?_ ?_
  rotate_left 1
  · (intro w hSw; (try dsimp only at hSw); go_simp; try with_reducible rfl)
  simp only [Act.put, List.setIfInBounds_toArray, List.set_cons_zero, List.set_cons_succ]
  refine regTake 3 (some 25) (v := ?_) rfl rfl (by kernel_rfl) (by kernel_rfl) (by kernel_rfl) (fun _ _ _ h => h) (by rfl) hHeld ?_ ?_
  rotate_left 1
  · (intro w hSw; (try dsimp only at hSw); go_simp; try with_reducible rfl)
  simp only [Act.put, List.setIfInBounds_toArray, List.set_cons_zero, List.set_cons_succ]
  refine regTake 4 (some 26) (v := ?_) rfl rfl (by kernel_rfl) (by kernel_rfl) (by kernel_rfl) (fun _ _ _ h => h) (by rfl) hHeld ?_ ?_
  rotate_left 1
  · (intro w hSw; (try dsimp only at hSw); go_simp; try with_reducible rfl)
  simp only [Act.put, List.setIfInBounds_toArray, List.set_cons_zero, List.set_cons_succ]
  refine regTake 5 (some 27) (v := ?_) rfl rfl (by kernel_rfl) (by kernel_rfl) (by kernel_rfl) (fun _ _ _ h => h) (by rfl) hHeld ?_ ?_
  rotate_left 1
  · (intro w hSw; (try dsimp only at hSw); go_simp; try with_reducible rfl)
  simp only [Act.put, List.setIfInBounds_toArray, List.set_cons_zero, List.set_cons_succ]
  refine regTake 6 (some 28) (v := ?_) rfl rfl (by kernel_rfl) (by kernel_rfl) (by kernel_rfl) (fun _ _ _ h => h) (by rfl) hHeld ?_ ?_
  rotate_left 1
  · (intro w hSw; (try dsimp only at hSw); go_simp; try with_reducible rfl)
  simp only [Act.put, List.setIfInBounds_toArray, List.set_cons_zero, List.set_cons_succ]
  refine regTake 7 (some 29) (v := ?_) rfl rfl (by kernel_rfl) (by kernel_rfl) (by kernel_rfl) (fun _ _ _ h => h) (by rfl) hHeld ?_ ?_
  rotate_left 1
  · (intro w hSw; (try dsimp only at hSw); go_simp; try with_reducible rfl)
  simp only [Act.put, List.setIfInBounds_toArray, List.set_cons_zero, List.set_cons_succ]
  refine regTake 8 (some 30) (v := ?_) rfl rfl (by kernel_rfl) (by kernel_rfl) (by kernel_rfl) (fun _ _ _ h => h) (by rfl) hHeld ?_ ?_
  rotate_left 1
  · (intro w hSw; (try dsimp only at hSw); go_simp; try with_reducible rfl)
  simp only [Act.put, List.setIfInBounds_toArray, List.set_cons_zero, List.set_cons_succ]
  refine regTake 9 (some 31) (v := ?_) rfl rfl (by kernel_rfl) (by kernel_rfl) (by kernel_rfl) (fun _ _ _ h => h) (by rfl) hHeld ?_ ?_
  rotate_left 1
  · (intro w hSw; (try dsimp only at hSw); go_simp; try with_reducible rfl)
  simp only [Act.put, List.setIfInBounds_toArray, List.set_cons_zero, List.set_cons_succ]
  refine regTake 10 (some 32) (v := ?_) rfl rfl (by kernel_rfl) (by kernel_rfl) (by kernel_rfl) (fun _ _ _ h => h) (by rfl) hHeld ?_ ?_
  rotate_left 1
  · (intro w hSw; (try dsimp only at hSw); go_simp; try with_reducible rfl)
  simp only [Act.put, List.setIfInBounds_toArray, List.set_cons_zero, List.set_cons_succ]
  refine regDo 1 (some 23) (v := ?_) (w' := ?_) rfl rfl (by kernel_rfl) (by rfl) ?_ ?_ (fun hHeld => ?_)
  rotate_left 2
  · (go_simp; refine ⟨?_, ?_⟩ <;> with_reducible rfl)
  · exact hHeld
  simp only [Act.put, List.setIfInBounds_toArray, List.set_cons_zero, List.set_cons_succ]
  refine regTake 11 (some 33) (v := ?_) rfl rfl (by kernel_rfl) (by kernel_rfl) (by kernel_rfl) (fun _ _ _ h => h) (by rfl) hHeld ?_ ?_
  rotate_left 1
  · (intro w hSw; (try dsimp only at hSw); go_simp; try with_reducible rfl)
  simp only [Act.put, List.setIfInBounds_toArray, List.set_cons_zero, List.set_cons_succ]
  refine regTake 12 (some 34) (v := ?_) rfl rfl (by kernel_rfl) (by kernel_rfl) (by kernel_rfl) (fun _ _ _ h => h) (by rfl) hHeld ?_ ?_
  rotate_left 1
  · (intro w hSw; (try dsimp only at hSw); go_simp; try with_reducible rfl)
  simp only [Act.put, List.setIfInBounds_toArray, List.set_cons_zero, List.set_cons_succ]
  refine regStore 13 (w' := ?_) rfl rfl (by kernel_rfl) (by rfl) ?_ ?_ (fun hHeld => ?_)
  rotate_left 1
  · (go_simp; try with_reducible rfl)
  · (simp [go_sem, *]; done)
  clear hHeld
  refine wpAnyH_done (by kernel_rfl) ?_ _
  go_wp2_with fail
  rw [rounds_succ]
  go_wp2_with fail
  refine wp_region_held_drew (S := fun w' => w'.cell? ⟨g, 2, none⟩ = some (.int .u64 x2)) (by kernel_rfl) (by simp [go_sem, *]) (fun hHeld => ?_)
  refine regTake 0 (some 10) (v := ?_) rfl rfl (by kernel_rfl) (by kernel_rfl) (by kernel_rfl) (fun _ _ _ h => h) (by rfl) hHeld ?_ ?_
  rotate_left 1
  · (intro w hSw; (try dsimp only at hSw); go_simp; try with_reducible rfl)
  simp only [Act.put, List.setIfInBounds_toArray, List.set_cons_zero, List.set_cons_succ]
  refine regTake 2 (some 12) (v := ?_) rfl rfl (by kernel_rfl) (by kernel_rfl) (by kernel_rfl) (fun _ _ _ h => h) (by rfl) hHeld ?_ ?_
  rotate_left 1
  · (intro w hSw; (try dsimp only at hSw); go_simp; try with_reducible rfl)
  simp only [Act.put, List.setIfInBounds_toArray, List.set_cons_zero, List.set_cons_succ]
  refine regTake 3 (some 13) (v := ?_) rfl rfl (by kernel_rfl) (by kernel_rfl) (by kernel_rfl) (fun _ _ _ h => h) (by rfl) hHeld ?_ ?_
  rotate_left 1
  · (intro w hSw; (try dsimp only at hSw); go_simp; try with_reducible rfl)
  simp only [Act.put, List.setIfInBounds_toArray, List.set_cons_zero, List.set_cons_succ]
  refine regTake 4 (some 14) (v := ?_) rfl rfl (by kernel_rfl) (by kernel_rfl) (by kernel_rfl) (fun _ _ _ h => h) (by rfl) hHeld ?_ ?_
  rotate_left 1
  · (intro w hSw; (try dsimp only at hSw); go_simp; try with_reducible rfl)
  simp only [Act.put, List.setIfInBounds_toArray, List.set_cons_zero, List.set_cons_succ]
  refine regTake 5 (some 15) (v := ?_) rfl rfl (by kernel_rfl) (by kernel_rfl) (by kernel_rfl) (fun _ _ _ h => h) (by rfl) hHeld ?_ ?_
  rotate_left 1
  · (intro w hSw; (try dsimp only at hSw); go_simp; try with_reducible rfl)
  simp only [Act.put, List.setIfInBounds_toArray, List.set_cons_zero, List.set_cons_succ]
  refine regTake 6 (some 16) (v := ?_) rfl rfl (by kernel_rfl) (by kernel_rfl) (by kernel_rfl) (fun _ _ _ h => h) (by rfl) hHeld ?_ ?_
  rotate_left 1
  · (intro w hSw; (try dsimp only at hSw); go_simp; try with_reducible rfl)
  simp only [Act.put, List.setIfInBounds_toArray, List.set_cons_zero, List.set_cons_succ]
  refine regTake 7 (some 17) (v := ?_) rfl rfl (by kernel_rfl) (by kernel_rfl) (by kernel_rfl) (fun _ _ _ h => h) (by rfl) hHeld ?_ ?_
  rotate_left 1
  · (intro w hSw; (try dsimp only at hSw); go_simp; try with_reducible rfl)
  simp only [Act.put, List.setIfInBounds_toArray, List.set_cons_zero, List.set_cons_succ]
  refine regTake 8 (some 18) (v := ?_) rfl rfl (by kernel_rfl) (by kernel_rfl) (by kernel_rfl) (fun _ _ _ h => h) (by rfl) hHeld ?_ ?_
  rotate_left 1
  · (intro w hSw; (try dsimp only at hSw); go_simp; try with_reducible rfl)
  simp only [Act.put, List.setIfInBounds_toArray, List.set_cons_zero, List.set_cons_succ]
  refine regTake 9 (some 19) (v := ?_) rfl rfl (by kernel_rfl) (by kernel_rfl) (by kernel_rfl) (fun _ _ _ h => h) (by rfl) hHeld ?_ ?_
  rotate_left 1
  · (intro w hSw; (try dsimp only at hSw); go_simp; try with_reducible rfl)
  simp only [Act.put, List.setIfInBounds_toArray, List.set_cons_zero, List.set_cons_succ]
  refine regDo 1 (some 11) (v := ?_) (w' := ?_) rfl rfl (by kernel_rfl) (by rfl) ?_ ?_ (fun hHeld => ?_)
  rotate_left 2
  · (go_simp; refine ⟨?_, ?_⟩ <;> with_reducible rfl)
  · exact hHeld
  simp only [Act.put, List.setIfInBounds_toArray, List.set_cons_zero, List.set_cons_succ]
  refine regTake 10 (some 20) (v := ?_) rfl rfl (by kernel_rfl) (by kernel_rfl) (by kernel_rfl) (fun _ _ _ h => h) (by rfl) hHeld ?_ ?_
  rotate_left 1
  · (intro w hSw; (try dsimp only at hSw); go_simp; try with_reducible rfl)
  simp only [Act.put, List.setIfInBounds_toArray, List.set_cons_zero, List.set_cons_succ]
  refine regTake 11 (some 21) (v := ?_) rfl rfl (by kernel_rfl) (by kernel_rfl) (by kernel_rfl) (fun _ _ _ h => h) (by rfl) hHeld ?_ ?_
  rotate_left 1
  · (intro w hSw; (try dsimp only at hSw); go_simp; try with_reducible rfl)
  simp only [Act.put, List.setIfInBounds_toArray, List.set_cons_zero, List.set_cons_succ]
  refine regStore 12 (w' := ?_) rfl rfl (by kernel_rfl) (by rfl) ?_ ?_ (fun hHeld => ?_)
  rotate_left 1
  · (go_simp; try with_reducible rfl)
  · (simp [go_sem, *]; done)
  clear hHeld
  refine wpAnyH_done (by kernel_rfl) ?_ _
  go_wp2_with fail
  refine wp_region_held_drew (S := fun w' => w'.cell? ⟨g, 6, none⟩ = some (.int .u64 x6)) (by kernel_rfl) (by simp [go_sem, *]) (fun hHeld => ?_)
  refine regTake 0 (some 22) (v := ?_) rfl rfl (by kernel_rfl) (by kernel_rfl) (by kernel_rfl) (fun _ _ _ h => h) (by rfl) hHeld ?_ ?_
  rotate_left 1
  · (intro w hSw; (try dsimp only at hSw); go_simp; try with_reducible rfl)
  simp only [Act.put, List.setIfInBounds_toArray, List.set_cons_zero, List.set_cons_succ]
  refine regTake 2 (some 24) (v := ?_) rfl rfl (by kernel_rfl) (by kernel_rfl) (by kernel_rfl) (fun _ _ _ h => h) (by rfl) hHeld ?_ ?_
  rotate_left 1
  · (intro w hSw; (try dsimp only at hSw); go_simp; try with_reducible rfl)
  simp only [Act.put, List.setIfInBounds_toArray, List.set_cons_zero, List.set_cons_succ]
  refine regTake 3 (some 25) (v := ?_) rfl rfl (by kernel_rfl) (by kernel_rfl) (by kernel_rfl) (fun _ _ _ h => h) (by rfl) hHeld ?_ ?_
  rotate_left 1
  · (intro w hSw; (try dsimp only at hSw); go_simp; try with_reducible rfl)
  simp only [Act.put, List.setIfInBounds_toArray, List.set_cons_zero, List.set_cons_succ]
  refine regTake 4 (some 26) (v := ?_) rfl rfl (by kernel_rfl) (by kernel_rfl) (by kernel_rfl) (fun _ _ _ h => h) (by rfl) hHeld ?_ ?_
  rotate_left 1
  · (intro w hSw; (try dsimp only at hSw); go_simp; try with_reducible rfl)
  simp only [Act.put, List.setIfInBounds_toArray, List.set_cons_zero, List.set_cons_succ]
  refine regTake 5 (some 27) (v := ?_) rfl rfl (by kernel_rfl) (by kernel_rfl) (by kernel_rfl) (fun _ _ _ h => h) (by rfl) hHeld ?_ ?_
  rotate_left 1
  · (intro w hSw; (try dsimp only at hSw); go_simp; try with_reducible rfl)
  simp only [Act.put, List.setIfInBounds_toArray, List.set_cons_zero, List.set_cons_succ]
  refine regTake 6 (some 28) (v := ?_) rfl rfl (by kernel_rfl) (by kernel_rfl) (by kernel_rfl) (fun _ _ _ h => h) (by rfl) hHeld ?_ ?_
  rotate_left 1
  · (intro w hSw; (try dsimp only at hSw); go_simp; try with_reducible rfl)
  simp only [Act.put, List.setIfInBounds_toArray, List.set_cons_zero, List.set_cons_succ]
  refine regTake 7 (some 29) (v := ?_) rfl rfl (by kernel_rfl) (by kernel_rfl) (by kernel_rfl) (fun _ _ _ h => h) (by rfl) hHeld ?_ ?_
  rotate_left 1
  · (intro w hSw; (try dsimp only at hSw); go_simp; try with_reducible rfl)
  simp only [Act.put, List.setIfInBounds_toArray, List.set_cons_zero, List.set_cons_succ]
  refine regTake 8 (some 30) (v := ?_) rfl rfl (by kernel_rfl) (by kernel_rfl) (by kernel_rfl) (fun _ _ _ h => h) (by rfl) hHeld ?_ ?_
  rotate_left 1
  · (intro w hSw; (try dsimp only at hSw); go_simp; try with_reducible rfl)
  simp only [Act.put, List.setIfInBounds_toArray, List.set_cons_zero, List.set_cons_succ]
  refine regTake 9 (some 31) (v := ?_) rfl rfl (by kernel_rfl) (by kernel_rfl) (by kernel_rfl) (fun _ _ _ h => h) (by rfl) hHeld ?_ ?_
  rotate_left 1
  · (intro w hSw; (try dsimp only at hSw); go_simp; try with_reducible rfl)
  simp only [Act.put, List.setIfInBounds_toArray, List.set_cons_zero, List.set_cons_succ]
  refine regTake 10 (some 32) (v := ?_) rfl rfl (by kernel_rfl) (by kernel_rfl) (by kernel_rfl) (fun _ _ _ h => h) (by rfl) hHeld ?_ ?_
  rotate_left 1
  · (intro w hSw; (try dsimp only at hSw); go_simp; try with_reducible rfl)
  simp only [Act.put, List.setIfInBounds_toArray, List.set_cons_zero, List.set_cons_succ]
  refine regDo 1 (some 23) (v := ?_) (w' := ?_) rfl rfl (by kernel_rfl) (by rfl) ?_ ?_ (fun hHeld => ?_)
  rotate_left 2
  · (go_simp; refine ⟨?_, ?_⟩ <;> with_reducible rfl)
  · exact hHeld
  simp only [Act.put, List.setIfInBounds_toArray, List.set_cons_zero, List.set_cons_succ]
  refine regTake 11 (some 33) (v := ?_) rfl rfl (by kernel_rfl) (by kernel_rfl) (by kernel_rfl) (fun _ _ _ h => h) (by rfl) hHeld ?_ ?_
  rotate_left 1
  · (intro w hSw; (try dsimp only at hSw); go_simp; try with_reducible rfl)
  simp only [Act.put, List.setIfInBounds_toArray, List.set_cons_zero, List.set_cons_succ]
  refine regTake 12 (some 34) (v := ?_) rfl rfl (by kernel_rfl) (by kernel_rfl) (by kernel_rfl) (fun _ _ _ h => h) (by rfl) hHeld ?_ ?_
  rotate_left 1
  · (intro w hSw; (try dsimp only at hSw); go_simp; try with_reducible rfl)
  simp only [Act.put, List.setIfInBounds_toArray, List.set_cons_zero, List.set_cons_succ]
  refine regStore 13 (w' := ?_) rfl rfl (by kernel_rfl) (by rfl) ?_ ?_ (fun hHeld => ?_)
  rotate_left 1
  · (go_simp; try with_reducible rfl)
  · (simp [go_sem, *]; done)
  clear hHeld
  refine wpAnyH_done (by kernel_rfl) ?_ _
  go_wp2_with fail
  rw [rounds_succ]
  go_wp2_with fail
  refine wp_region_held_drew (S := fun w' => w'.cell? ⟨g, 3, none⟩ = some (.int .u64 x3)) (by kernel_rfl) (by simp [go_sem, *]) (fun hHeld => ?_)
  refine regTake 0 (some 10) (v := ?_) rfl rfl (by kernel_rfl) (by kernel_rfl) (by kernel_rfl) (fun _ _ _ h => h) (by rfl) hHeld ?_ ?_
  rotate_left 1
  · (intro w hSw; (try dsimp only at hSw); go_simp; try with_reducible rfl)
  simp only [Act.put, List.setIfInBounds_toArray, List.set_cons_zero, List.set_cons_succ]
  refine regTake 2 (some 12) (v := ?_) rfl rfl (by kernel_rfl) (by kernel_rfl) (by kernel_rfl) (fun _ _ _ h => h) (by rfl) hHeld ?_ ?_
  rotate_left 1
  · (intro w hSw; (try dsimp only at hSw); go_simp; try with_reducible rfl)
  simp only [Act.put, List.setIfInBounds_toArray, List.set_cons_zero, List.set_cons_succ]
  refine regTake 3 (some 13) (v := ?_) rfl rfl (by kernel_rfl) (by kernel_rfl) (by kernel_rfl) (fun _ _ _ h => h) (by rfl) hHeld ?_ ?_
  rotate_left 1
  · (intro w hSw; (try dsimp only at hSw); go_simp; try with_reducible rfl)
  simp only [Act.put, List.setIfInBounds_toArray, List.set_cons_zero, List.set_cons_succ]
  refine regTake 4 (some 14) (v := ?_) rfl rfl (by kernel_rfl) (by kernel_rfl) (by kernel_rfl) (fun _ _ _ h => h) (by rfl) hHeld ?_ ?_
  rotate_left 1
  · (intro w hSw; (try dsimp only at hSw); go_simp; try with_reducible rfl)
  simp only [Act.put, List.setIfInBounds_toArray, List.set_cons_zero, List.set_cons_succ]
  refine regTake 5 (some 15) (v := ?_) rfl rfl (by kernel_rfl) (by kernel_rfl) (by kernel_rfl) (fun _ _ _ h => h) (by rfl) hHeld ?_ ?_
  rotate_left 1
  · (intro w hSw; (try dsimp only at hSw); go_simp; try with_reducible rfl)
  simp only [Act.put, List.setIfInBounds_toArray, List.set_cons_zero, List.set_cons_succ]
  refine regTake 6 (some 16) (v := ?_) rfl rfl (by kernel_rfl) (by kernel_rfl) (by kernel_rfl) (fun _ _ _ h => h) (by rfl) hHeld ?_ ?_
  rotate_left 1
  · (intro w hSw; (try dsimp only at hSw); go_simp; try with_reducible rfl)
  simp only [Act.put, List.setIfInBounds_toArray, List.set_cons_zero, List.set_cons_succ]
  refine regTake 7 (some 17) (v := ?_) rfl rfl (by kernel_rfl) (by kernel_rfl) (by kernel_rfl) (fun _ _ _ h => h) (by rfl) hHeld ?_ ?_
  rotate_left 1
  · (intro w hSw; (try dsimp only at hSw); go_simp; try with_reducible rfl)
  simp only [Act.put, List.setIfInBounds_toArray, List.set_cons_zero, List.set_cons_succ]
  refine regTake 8 (some 18) (v := ?_) rfl rfl (by kernel_rfl) (by kernel_rfl) (by kernel_rfl) (fun _ _ _ h => h) (by rfl) hHeld ?_ ?_
  rotate_left 1
  · (intro w hSw; (try dsimp only at hSw); go_simp; try with_reducible rfl)
  simp only [Act.put, List.setIfInBounds_toArray, List.set_cons_zero, List.set_cons_succ]
  refine regTake 9 (some 19) (v := ?_) rfl rfl (by kernel_rfl) (by kernel_rfl) (by kernel_rfl) (fun _ _ _ h => h) (by rfl) hHeld ?_ ?_
  rotate_left 1
  · (intro w hSw; (try dsimp only at hSw); go_simp; try with_reducible rfl)
  simp only [Act.put, List.setIfInBounds_toArray, List.set_cons_zero, List.set_cons_succ]
  refine regDo 1 (some 11) (v := ?_) (w' := ?_) rfl rfl (by kernel_rfl) (by rfl) ?_ ?_ (fun hHeld => ?_)
  rotate_left 2
  · (go_simp; refine ⟨?_, ?_⟩ <;> with_reducible rfl)
  · exact hHeld
  simp only [Act.put, List.setIfInBounds_toArray, List.set_cons_zero, List.set_cons_succ]
  refine regTake 10 (some 20) (v := ?_) rfl rfl (by kernel_rfl) (by kernel_rfl) (by kernel_rfl) (fun _ _ _ h => h) (by rfl) hHeld ?_ ?_
  rotate_left 1
  · (intro w hSw; (try dsimp only at hSw); go_simp; try with_reducible rfl)
  simp only [Act.put, List.setIfInBounds_toArray, List.set_cons_zero, List.set_cons_succ]
  refine regTake 11 (some 21) (v := ?_) rfl rfl (by kernel_rfl) (by kernel_rfl) (by kernel_rfl) (fun _ _ _ h => h) (by rfl) hHeld ?_ ?_
  rotate_left 1
  · (intro w hSw; (try dsimp only at hSw); go_simp; try with_reducible rfl)
  simp only [Act.put, List.setIfInBounds_toArray, List.set_cons_zero, List.set_cons_succ]
  refine regStore 12 (w' := ?_) rfl rfl (by kernel_rfl) (by rfl) ?_ ?_ (fun hHeld => ?_)
  rotate_left 1
  · (go_simp; try with_reducible rfl)
  · (simp [go_sem, *]; done)
  clear hHeld
  refine wpAnyH_done (by kernel_rfl) ?_ _
  go_wp2_with fail
  refine wp_region_held_drew (S := fun w' => w'.cell? ⟨g, 7, none⟩ = some (.int .u64 x7)) (by kernel_rfl) (by simp [go_sem, *]) (fun hHeld => ?_)
  refine regTake 0 (some 22) (v := ?_) rfl rfl (by kernel_rfl) (by kernel_rfl) (by kernel_rfl) (fun _ _ _ h => h) (by rfl) hHeld ?_ ?_
  rotate_left 1
  · (intro w hSw; (try dsimp only at hSw); go_simp; try with_reducible rfl)
  simp only [Act.put, List.setIfInBounds_toArray, List.set_cons_zero, List.set_cons_succ]
  refine regTake 2 (some 24) (v := ?_) rfl rfl (by kernel_rfl) (by kernel_rfl) (by kernel_rfl) (fun _ _ _ h => h) (by rfl) hHeld ?_ ?_
  rotate_left 1
  · (intro w hSw; (try dsimp only at hSw); go_simp; try with_reducible rfl)
  simp only [Act.put, List.setIfInBounds_toArray, List.set_cons_zero, List.set_cons_succ]
  refine regTake 3 (some 25) (v := ?_) rfl rfl (by kernel_rfl) (by kernel_rfl) (by kernel_rfl) (fun _ _ _ h => h) (by rfl) hHeld ?_ ?_
  rotate_left 1
  · (intro w hSw; (try dsimp only at hSw); go_simp; try with_reducible rfl)
  simp only [Act.put, List.setIfInBounds_toArray, List.set_cons_zero, List.set_cons_succ]
  refine regTake 4 (some 26) (v := ?_) rfl rfl (by kernel_rfl) (by kernel_rfl) (by kernel_rfl) (fun _ _ _ h => h) (by rfl) hHeld ?_ ?_
  rotate_left 1
  · (intro w hSw; (try dsimp only at hSw); go_simp; try with_reducible rfl)
  simp only [Act.put, List.setIfInBounds_toArray, List.set_cons_zero, List.set_cons_succ]
  refine regTake 5 (some 27) (v := ?_) rfl rfl (by kernel_rfl) (by kernel_rfl) (by kernel_rfl) (fun _ _ _ h => h) (by rfl) hHeld ?_ ?_
  rotate_left 1
  · (intro w hSw; (try dsimp only at hSw); go_simp; try with_reducible rfl)
  simp only [Act.put, List.setIfInBounds_toArray, List.set_cons_zero, List.set_cons_succ]
  refine regTake 6 (some 28) (v := ?_) rfl rfl (by kernel_rfl) (by kernel_rfl) (by kernel_rfl) (fun _ _ _ h => h) (by rfl) hHeld ?_ ?_
  rotate_left 1
  · (intro w hSw; (try dsimp only at hSw); go_simp; try with_reducible rfl)
  simp only [Act.put, List.setIfInBounds_toArray, List.set_cons_zero, List.set_cons_succ]
  refine regTake 7 (some 29) (v := ?_) rfl rfl (by kernel_rfl) (by kernel_rfl) (by kernel_rfl) (fun _ _ _ h => h) (by rfl) hHeld ?_ ?_
  rotate_left 1
  · (intro w hSw; (try dsimp only at hSw); go_simp; try with_reducible rfl)
  simp only [Act.put, List.setIfInBounds_toArray, List.set_cons_zero, List.set_cons_succ]
  refine regTake 8 (some 30) (v := ?_) rfl rfl (by kernel_rfl) (by kernel_rfl) (by kernel_rfl) (fun _ _ _ h => h) (by rfl) hHeld ?_ ?_
  rotate_left 1
  · (intro w hSw; (try dsimp only at hSw); go_simp; try with_reducible rfl)
  simp only [Act.put, List.setIfInBounds_toArray, List.set_cons_zero, List.set_cons_succ]
  refine regTake 9 (some 31) (v := ?_) rfl rfl (by kernel_rfl) (by kernel_rfl) (by kernel_rfl) (fun _ _ _ h => h) (by rfl) hHeld ?_ ?_
  rotate_left 1
  · (intro w hSw; (try dsimp only at hSw); go_simp; try with_reducible rfl)
  simp only [Act.put, List.setIfInBounds_toArray, List.set_cons_zero, List.set_cons_succ]
  refine regTake 10 (some 32) (v := ?_) rfl rfl (by kernel_rfl) (by kernel_rfl) (by kernel_rfl) (fun _ _ _ h => h) (by rfl) hHeld ?_ ?_
  rotate_left 1
  · (intro w hSw; (try dsimp only at hSw); go_simp; try with_reducible rfl)
  simp only [Act.put, List.setIfInBounds_toArray, List.set_cons_zero, List.set_cons_succ]
  refine regDo 1 (some 23) (v := ?_) (w' := ?_) rfl rfl (by kernel_rfl) (by rfl) ?_ ?_ (fun hHeld => ?_)
  rotate_left 2
  · (go_simp; refine ⟨?_, ?_⟩ <;> with_reducible rfl)
  · exact hHeld
  simp only [Act.put, List.setIfInBounds_toArray, List.set_cons_zero, List.set_cons_succ]
  refine regTake 11 (some 33) (v := ?_) rfl rfl (by kernel_rfl) (by kernel_rfl) (by kernel_rfl) (fun _ _ _ h => h) (by rfl) hHeld ?_ ?_
  rotate_left 1
  · (intro w hSw; (try dsimp only at hSw); go_simp; try with_reducible rfl)
  simp only [Act.put, List.setIfInBounds_toArray, List.set_cons_zero, List.set_cons_succ]
  refine regTake 12 (some 34) (v := ?_) rfl rfl (by kernel_rfl) (by kernel_rfl) (by kernel_rfl) (fun _ _ _ h => h) (by rfl) hHeld ?_ ?_
  rotate_left 1
  · (intro w hSw; (try dsimp only at hSw); go_simp; try with_reducible rfl)
  simp only [Act.put, List.setIfInBounds_toArray, List.set_cons_zero, List.set_cons_succ]
  refine regStore 13 (w' := ?_) rfl rfl (by kernel_rfl) (by rfl) ?_ ?_ (fun hHeld => ?_)
  rotate_left 1
  · (go_simp; try with_reducible rfl)
  · (simp [go_sem, *]; done)
  clear hHeld
  refine wpAnyH_done (by kernel_rfl) ?_ _
  go_wp2_with fail
  rw [rounds_succ]
  go_wp2_with fail
  refine bodyPost_ret (v := .agg #[.int .u64 (h3 : Nat), .int .u64 (l3 : Nat)]) (by simp [results, Try.results43, go_sem]) rfl ⟨rfl, ?_⟩
  repeat first | exact Below.refl _ _ | refine Below.drew ?_ | refine Below.alloc ?_ (by simp) _

theorem shl16 (x p : Nat) (hx : x * p < B64) : IntKind.u64.wrap ((x : Int) * (p : Int)) = ((x * p : Nat) : Int) := by
  unfold B64 at hx; rw [IntKind.wrap_u64]
  have : ((x * p : Nat) : Int) = (x : Int) * (p : Int) := Int.natCast_mul x p
  rw [← this]; omega
theorem addU (x y : Nat) (h : x + y < B64) : IntKind.u64.wrap ((x : Int) + (y : Int)) = ((x + y : Nat) : Int) := by
  unfold B64 at h; rw [IntKind.wrap_u64]; omega
theorem wrapU1 (x : Nat) (h : x < B64) : IntKind.u64.wrap (x : Int) = ((x : Nat) : Int) := by
  unfold B64 at h; rw [IntKind.wrap_u64]; omega
/-- datumref01.Whole of pieces that are told by f. -/
theorem wholeR_any (f : Nat → Nat) (g n cap : Nat) (w : World) (hn : 8 ≤ n) (hf : ∀ j, j < 8 → f j < 65536) (hg : g < w.heap.size)
    (hc : ∀ j, j < n → w.cell? ⟨g, j, none⟩ = some (.int .u64 (f j : Nat))) :
    Calls Try.prog 43 #[.slice (some ⟨g, 0, none⟩) n cap] w fun e w' => e = .returned (.agg #[.int .u64 (hi (vTo f 8) : Nat), .int .u64 (lo (vTo f 8) : Nat)]) ∧ Below w.heap.size w w' := by
  have f0 := hf 0 (by omega); have f1 := hf 1 (by omega); have f2 := hf 2 (by omega); have f3 := hf 3 (by omega)
  have f4 := hf 4 (by omega); have f5 := hf 5 (by omega); have f6 := hf 6 (by omega); have f7 := hf 7 (by omega)
  have h := whole_core (f 0) (f 1) (f 2) (f 3) (f 4) (f 5) (f 6) (f 7) _ _ _ _ _ _ _ _ _ _ _ _ g n cap w hn hg
    (wrapU1 _ (by unfold B64; omega)) (shl16 (f 1) 65536 (by unfold B64; omega)) (addU _ _ (by unfold B64; omega)) (shl16 (f 2) 4294967296 (by unfold B64; omega)) (addU _ _ (by unfold B64; omega)) (shl16 (f 3) 281474976710656 (by unfold B64; omega)) (addU _ _ (by unfold B64; omega))
    (wrapU1 _ (by unfold B64; omega)) (shl16 (f 5) 65536 (by unfold B64; omega)) (addU _ _ (by unfold B64; omega)) (shl16 (f 6) 4294967296 (by unfold B64; omega)) (addU _ _ (by unfold B64; omega)) (shl16 (f 7) 281474976710656 (by unfold B64; omega)) (addU _ _ (by unfold B64; omega))
    (hc 0 (by omega)) (hc 1 (by omega)) (hc 2 (by omega)) (hc 3 (by omega)) (hc 4 (by omega)) (hc 5 (by omega)) (hc 6 (by omega)) (hc 7 (by omega))
  have e1 : f 4 + f 5 * 65536 + f 6 * 4294967296 + f 7 * 281474976710656 = hi (vTo f 8) := by
    simp only [vTo, hi, Nat.reducePow]; omega
  have e2 : f 0 + f 1 * 65536 + f 2 * 4294967296 + f 3 * 281474976710656 = lo (vTo f 8) := by
    simp only [vTo, lo, Nat.reducePow]; omega
  rw [e1, e2] at h
  exact h
end Go.Proofs.Ytfafkdbflmennaa
