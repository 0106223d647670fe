/- Plain numbers: rows of words told by a function; pieces of 16 bits; pieces that may be greater, each with what is carried. -/
import Derived.Test.YtacnaencmbnjpaaNum
namespace Go.Proofs.Ytacnaencmbnjpaa
/-- The first n answers of f, and as words. -/
def fl (f : Nat → Nat) (n : Nat) : List Nat := (List.range n).map f
def u64s (l : List Nat) : List Value := List.map (fun x : Nat => Value.int .u64 (x : Int)) l
theorem u64s_append (l m : List Nat) : u64s (l ++ m) = u64s l ++ u64s m := by simp [u64s]
theorem fl_zero (f : Nat → Nat) : fl f 0 = [] := rfl
theorem fl_succ (f : Nat → Nat) (n : Nat) : fl f (n + 1) = fl f n ++ [f n] := by simp [fl, List.range_succ]
theorem u64s_snoc (f : Nat → Nat) (n : Nat) : u64s (fl f (n + 1)) = u64s (fl f n) ++ [.int .u64 (f n : Nat)] := by rw [fl_succ, u64s_append]; rfl
theorem u64s_get (f : Nat → Nat) (n j : Nat) (h : j < n) : (u64s (fl f n))[j]? = some (.int .u64 (f j : Nat)) := by
  simp [u64s, fl, h]
theorem fl_congr (f f' : Nat → Nat) (n : Nat) (h : ∀ j, j < n → f j = f' j) : fl f n = fl f' n := by
  unfold fl
  exact List.map_congr_left fun j hj => h j (List.mem_range.1 hj)

/-- What is carried behind the first k, and what is left of number j. -/
def carC (f : Nat → Nat) : Nat → Nat
  | 0 => 0
  | k + 1 => (f k + carC f k) / 65536
def carM (f : Nat → Nat) (j : Nat) : Nat := (f j + carC f j) % 65536
/-- All n, and what is carried at last. -/
def carL (f : Nat → Nat) (n j : Nat) : Nat := if j < n then carM f j else carC f n
theorem carL_lt (f : Nat → Nat) (n j : Nat) (h : j < n) : carL f n j = carM f j := if_pos h
theorem carL_end (f : Nat → Nat) (n : Nat) : carL f n n = carC f n := if_neg (Nat.lt_irrefl n)
theorem carM_lt (f : Nat → Nat) (j : Nat) : carM f j < 65536 := Nat.mod_lt _ (by omega)
theorem fl_carL (f : Nat → Nat) (n : Nat) : fl (carL f n) (n + 1) = fl (carM f) n ++ [carC f n] := by
  rw [fl_succ, carL_end, fl_congr (carL f n) (carM f) n (fun j h => carL_lt f n j h)]
theorem carC_le (f : Nat → Nat) (h : ∀ j, f j < 1099511627776) : ∀ k, carC f k < 1099511627776
  | 0 => by simp [carC]
  | k + 1 => by
    have := carC_le f h k
    have := h k
    simp only [carC]
    omega

/-- The number of k pieces, the lowest first. -/
def vTo (f : Nat → Nat) : Nat → Nat
  | 0 => 0
  | k + 1 => vTo f k + f k * 65536 ^ k
theorem vTo_congr (f f' : Nat → Nat) : ∀ k, (∀ j, j < k → f j = f' j) → vTo f k = vTo f' k
  | 0, _ => rfl
  | k + 1, h => by simp only [vTo]; rw [vTo_congr f f' k (fun j hj => h j (by omega)), h k (by omega)]
theorem carry_vTo (f : Nat → Nat) : ∀ k, vTo (carM f) k + carC f k * 65536 ^ k = vTo f k
  | 0 => by simp [vTo, carC]
  | k + 1 => by
    have ih := carry_vTo f k
    simp only [vTo, carC, carM]
    rw [← ih]
    have h := Nat.div_add_mod (f k + carC f k) 65536
    have e : 65536 ^ (k + 1) = 65536 * 65536 ^ k := by rw [Nat.pow_succ, Nat.mul_comm]
    rw [e]
    generalize 65536 ^ k = P at *
    generalize vTo (fun j => (f j + carC f j) % 65536) k = A at *
    generalize f k = x at *
    generalize carC f k = c at *
    have e2 : (x + c) / 65536 * (65536 * P) = 65536 * ((x + c) / 65536) * P := by rw [← Nat.mul_assoc, Nat.mul_comm ((x + c) / 65536) 65536]
    rw [e2]
    have e3 : (x + c) % 65536 * P + 65536 * ((x + c) / 65536) * P = (x + c) * P := by rw [← Nat.add_mul, Nat.add_comm, h]
    have e4 : (x + c) * P = x * P + c * P := Nat.add_mul _ _ _
    show _ = vTo (carM f) k + c * P + x * P
    have e5 : vTo (fun j => (f j + carC f j) % 65536) k = vTo (carM f) k := rfl
    omega
/-- Piece j of 16 bits. -/
def pc (n j : Nat) : Nat := n / 65536 ^ j % 65536
theorem pc_lt (n j : Nat) : pc n j < 65536 := Nat.mod_lt _ (by omega)
theorem vTo_pc (n : Nat) (h : n < M128) : vTo (pc n) 8 = n := by
  unfold M128 at h
  simp only [vTo, pc, Nat.reducePow]
  omega
theorem vTo_add (f g : Nat → Nat) : ∀ k, vTo (fun j => f j + g j) k = vTo f k + vTo g k
  | 0 => rfl
  | k + 1 => by
    simp only [vTo]
    rw [vTo_add f g k, Nat.add_mul]
    omega
theorem vTo_lt (f : Nat → Nat) (h : ∀ j, f j < 65536) : ∀ k, vTo f k < 65536 ^ k
  | 0 => by simp [vTo]
  | k + 1 => by
    have ih := vTo_lt f h k
    have h1 := h k
    simp only [vTo]
    have e : 65536 ^ (k + 1) = 65536 * 65536 ^ k := by rw [Nat.pow_succ, Nat.mul_comm]
    rw [e]
    have := Nat.mul_le_mul_right (65536 ^ k) (show f k ≤ 65535 by omega)
    omega
theorem pieces_nums (n : Nat) : fl (pc n) 8 = [lo n % 65536, lo n / 65536 % 65536, lo n / 4294967296 % 65536, lo n / 281474976710656 % 65536, hi n % 65536, hi n / 65536 % 65536, hi n / 4294967296 % 65536, hi n / 281474976710656 % 65536] := by
  have h0 : pc n 0 = lo n % 65536 := by simp only [pc, lo, Nat.reducePow] <;> omega
  have h1 : pc n 1 = lo n / 65536 % 65536 := by simp only [pc, lo, Nat.reducePow] <;> omega
  have h2 : pc n 2 = lo n / 4294967296 % 65536 := by simp only [pc, lo, Nat.reducePow] <;> omega
  have h3 : pc n 3 = lo n / 281474976710656 % 65536 := by simp only [pc, lo, Nat.reducePow] <;> omega
  have h4 : pc n 4 = hi n % 65536 := by simp only [pc, hi, Nat.reducePow] <;> omega
  have h5 : pc n 5 = hi n / 65536 % 65536 := by simp only [pc, hi, Nat.reducePow] <;> omega
  have h6 : pc n 6 = hi n / 4294967296 % 65536 := by simp only [pc, hi, Nat.reducePow] <;> omega
  have h7 : pc n 7 = hi n / 281474976710656 % 65536 := by simp only [pc, hi, Nat.reducePow] <;> omega
  rw [← h0, ← h1, ← h2, ← h3, ← h4, ← h5, ← h6, ← h7]
  rfl
end Go.Proofs.Ytacnaencmbnjpaa
