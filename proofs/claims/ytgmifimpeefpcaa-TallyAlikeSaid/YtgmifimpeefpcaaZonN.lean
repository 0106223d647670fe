/- Classes as numbers: the class of a deviation and a variance, masks, hulls, ends. -/
import Derived.RowKit
namespace Go.Proofs.Ytgmifimpeefpcaa

/-- How many of 1, 2, 3 have a square that, times the variance, is less than the deviation's square. -/
def cntN (s v : Nat) : Nat := (if v < s then 1 else 0) + (if 4 * v < s then 1 else 0) + (if 9 * v < s then 1 else 0)
def sqN (d : Int) : Nat := d.natAbs * d.natAbs
def clsN (d : Int) (v : Nat) : Int := if d = 0 then 0 else if d < 0 then -(((1 + cntN (sqN d) v : Nat)) : Int) else ((1 + cntN (sqN d) v : Nat) : Int)
theorem cntN_le (s v : Nat) : cntN s v ≤ 3 := by unfold cntN; split <;> split <;> split <;> omega
theorem cntN_sq {s t : Nat} (h : s ≤ t) (v : Nat) : cntN s v ≤ cntN t v := by unfold cntN; split <;> split <;> split <;> split <;> split <;> split <;> omega
theorem cntN_var {u v : Nat} (h : u ≤ v) (s : Nat) : cntN s v ≤ cntN s u := by unfold cntN; split <;> split <;> split <;> split <;> split <;> split <;> omega
theorem sqN_le {a b : Int} (h : a.natAbs ≤ b.natAbs) : sqN a ≤ sqN b := Nat.mul_le_mul h h
theorem sqN_neg (a : Int) : sqN (-a) = sqN a := by unfold sqN; rw [Int.natAbs_neg]
theorem clsN_zero (v : Nat) : clsN 0 v = 0 := if_pos rfl
theorem clsN_pos {d : Int} (h : 0 < d) (v : Nat) : clsN d v = ((1 + cntN (sqN d) v : Nat) : Int) := by unfold clsN; rw [if_neg (by omega), if_neg (by omega)]
theorem clsN_below {d : Int} (h : d < 0) (v : Nat) : clsN d v = -((1 + cntN (sqN d) v : Nat) : Int) := by unfold clsN; rw [if_neg (by omega), if_pos h]
theorem clsN_neg (d : Int) (v : Nat) : clsN (-d) v = - clsN d v := by
  rcases Int.lt_trichotomy d 0 with h | h | h
  · rw [clsN_below h, clsN_pos (by omega), sqN_neg]; omega
  · subst h; rfl
  · rw [clsN_pos h, clsN_below (by omega), sqN_neg]
theorem clsN_bounds (d : Int) (v : Nat) : -4 ≤ clsN d v ∧ clsN d v ≤ 4 := by
  have := cntN_le (sqN d) v
  rcases Int.lt_trichotomy d 0 with h | h | h
  · rw [clsN_below h]; omega
  · subst h; rw [clsN_zero]; omega
  · rw [clsN_pos h]; omega
theorem clsN_eq_zero (d : Int) (v : Nat) : clsN d v = 0 ↔ d = 0 := by
  rcases Int.lt_trichotomy d 0 with h | h | h
  · rw [clsN_below h]; omega
  · subst h; simp [clsN_zero]
  · rw [clsN_pos h]; omega
/-- It rises with the deviation. -/
theorem clsN_rise {a b : Int} (h : a ≤ b) (v : Nat) : clsN a v ≤ clsN b v := by
  rcases Int.lt_trichotomy a 0 with ha | ha | ha
  · rcases Int.lt_trichotomy b 0 with hb | hb | hb
    · rw [clsN_below ha, clsN_below hb]
      have := cntN_sq (sqN_le (a := b) (b := a) (by omega)) v
      omega
    · subst hb; rw [clsN_below ha, clsN_zero]; omega
    · rw [clsN_below ha, clsN_pos hb]; omega
  · subst ha
    rw [clsN_zero]
    rcases Int.lt_trichotomy b 0 with hb | hb | hb
    · omega
    · subst hb; rw [clsN_zero]; omega
    · rw [clsN_pos hb]; omega
  · rw [clsN_pos ha, clsN_pos (by omega : 0 < b)]
    have := cntN_sq (sqN_le (a := a) (b := b) (by omega)) v
    omega
/-- It falls, away from 0, with the variance. -/
theorem clsN_fall {u v : Nat} (h : u ≤ v) {b : Int} (hb : 0 ≤ b) : clsN b v ≤ clsN b u := by
  rcases Int.lt_trichotomy b 0 with c | c | c
  · omega
  · subst c; rw [clsN_zero, clsN_zero]; omega
  · rw [clsN_pos c, clsN_pos c]
    have := cntN_var h (sqN b)
    omega
theorem clsN_fall' {u v : Nat} (h : u ≤ v) {b : Int} (hb : b ≤ 0) : clsN b u ≤ clsN b v := by
  rcases Int.lt_trichotomy b 0 with c | c | c
  · rw [clsN_below c, clsN_below c]
    have := cntN_var h (sqN b)
    omega
  · subst c; rw [clsN_zero, clsN_zero]; omega
  · omega
/-- Between two variances it is between both classes, whichever is the lesser one. -/
theorem clsN_mid {u v x : Nat} (h1 : u ≤ v) (h2 : v ≤ x) (b : Int) : min (clsN b u) (clsN b x) ≤ clsN b v ∧ clsN b v ≤ max (clsN b u) (clsN b x) := by
  rcases Int.le_total 0 b with c | c
  · have := clsN_fall h1 c; have := clsN_fall h2 c; omega
  · have := clsN_fall' h1 c; have := clsN_fall' h2 c; omega

/-! ### Masks -/
/-- The least and the greatest class that a box of deviations and variances has. -/
def leastN (a b : Int) (u v : Nat) : Int := min (min (clsN a u) (clsN a v)) (min (clsN b u) (clsN b v))
def mostN (a b : Int) (u v : Nat) : Int := max (max (clsN a u) (clsN a v)) (max (clsN b u) (clsN b v))
theorem box_has {a b d : Int} {u v x : Nat} (h1 : a ≤ d) (h2 : d ≤ b) (h3 : u ≤ x) (h4 : x ≤ v) : leastN a b u v ≤ clsN d x ∧ clsN d x ≤ mostN a b u v := by
  have r1 := clsN_rise h1 x
  have r2 := clsN_rise h2 x
  have m1 := clsN_mid h3 h4 a
  have m2 := clsN_mid h3 h4 b
  unfold leastN mostN
  omega
theorem box_one (d : Int) (v : Nat) : leastN d d v v = clsN d v ∧ mostN d d v v = clsN d v := by unfold leastN mostN; omega
theorem box_bounds (a b : Int) (u v : Nat) : -4 ≤ leastN a b u v ∧ leastN a b u v ≤ mostN a b u v ∧ mostN a b u v ≤ 4 := by
  have c1 := clsN_bounds a u; have c2 := clsN_bounds a v; have c3 := clsN_bounds b u; have c4 := clsN_bounds b v
  unfold leastN mostN
  omega
/-- The mask of all classes from one to another, both told as 0 to 8. -/
def betwN (l : Nat) : Nat → Nat
  | 0 => 0
  | k + 1 => betwN l k + 2 ^ (l + k)
def bitB (m : Int) (c : Int) : Bool := decide (1 ≤ m ∧ m ≤ 511) && (decide (-4 ≤ c ∧ c ≤ 4) && decide (m.toNat / 2 ^ (c + 4).toNat % 2 = 1))
/-- The mask of classes from l to g. -/
def maskN (l g : Int) : Int := (betwN (l + 4).toNat (g - l + 1).toNat : Nat)
theorem mask_tab : ∀ l : Fin 9, ∀ g : Fin 9, l.val ≤ g.val → (1 ≤ maskN ((l.val : Int) - 4) ((g.val : Int) - 4) ∧ maskN ((l.val : Int) - 4) ((g.val : Int) - 4) ≤ 511) ∧ ∀ c : Fin 9, bitB (maskN ((l.val : Int) - 4) ((g.val : Int) - 4)) ((c.val : Int) - 4) = (decide (l.val ≤ c.val) && decide (c.val ≤ g.val)) := by decide +kernel
theorem mask_has {l g c : Int} (h1 : -4 ≤ l) (h2 : l ≤ g) (h3 : g ≤ 4) (hc : l ≤ c ∧ c ≤ g) : bitB (maskN l g) c = true := by
  have := (mask_tab ⟨(l + 4).toNat, by omega⟩ ⟨(g + 4).toNat, by omega⟩ (by show (l + 4).toNat ≤ (g + 4).toNat; omega)).2 ⟨(c + 4).toNat, by omega⟩
  have e1 : (((l + 4).toNat : Nat) : Int) - 4 = l := by omega
  have e2 : (((g + 4).toNat : Nat) : Int) - 4 = g := by omega
  have e3 : (((c + 4).toNat : Nat) : Int) - 4 = c := by omega
  dsimp only at this
  rw [e1, e2, e3] at this
  rw [this, Bool.and_eq_true, decide_eq_true_eq, decide_eq_true_eq]
  omega
theorem mask_bounds {l g : Int} (h1 : -4 ≤ l) (h2 : l ≤ g) (h3 : g ≤ 4) : 1 ≤ maskN l g ∧ maskN l g ≤ 511 := by
  have := (mask_tab ⟨(l + 4).toNat, by omega⟩ ⟨(g + 4).toNat, by omega⟩ (by show (l + 4).toNat ≤ (g + 4).toNat; omega)).1
  have e1 : (((l + 4).toNat : Nat) : Int) - 4 = l := by omega
  have e2 : (((g + 4).toNat : Nat) : Int) - 4 = g := by omega
  dsimp only at this
  rw [e1, e2] at this
  exact this
/-- All classes that a mask has, rising. -/
def classesN (m : Int) : List Int := [-4, -3, -2, -1, 0, 1, 2, 3, 4].filter (bitB m)
theorem one_classes {c : Int} (h1 : -4 ≤ c) (h2 : c ≤ 4) : classesN (maskN c c) = [c] := by
  have tab : ∀ k : Fin 9, classesN (maskN ((k.val : Int) - 4) ((k.val : Int) - 4)) = [(k.val : Int) - 4] := by decide +kernel
  have := tab ⟨(c + 4).toNat, by omega⟩
  have e : (((c + 4).toNat : Nat) : Int) - 4 = c := by omega
  dsimp only at this
  rwa [e] at this
theorem classes_some {m : Int} (h1 : 1 ≤ m) (h2 : m ≤ 511) : classesN m ≠ [] := by
  have tab : ∀ k : Fin 512, 1 ≤ k.val → classesN (k.val : Int) ≠ [] := by decide +kernel
  have := tab ⟨m.toNat, by omega⟩ (by show 1 ≤ m.toNat; omega)
  have e : ((m.toNat : Nat) : Int) = m := by omega
  dsimp only at this
  rwa [e] at this
/-- How many of the first j numbers have a square that, times v, is less than s. -/
def cntK (s v : Nat) : Nat → Nat
  | 0 => 0
  | j + 1 => cntK s v j + (if (j + 1) * (j + 1) * v < s then 1 else 0)
theorem cntK_all (s v : Nat) : cntK s v 3 = cntN s v := by
  unfold cntN
  simp only [cntK, Nat.zero_add]
  rw [show 1 * 1 * v = v by omega, show (1 + 1) * (1 + 1) * v = 4 * v by omega, show (2 + 1) * (2 + 1) * v = 9 * v by omega]
theorem cntK_le (s v : Nat) : ∀ j, cntK s v j ≤ j
  | 0 => Nat.le_refl _
  | j + 1 => by have := cntK_le s v j; unfold cntK; split <;> omega
end Go.Proofs.Ytgmifimpeefpcaa
