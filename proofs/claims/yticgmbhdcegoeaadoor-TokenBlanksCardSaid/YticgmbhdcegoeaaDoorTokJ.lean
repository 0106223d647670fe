/- The reference of stage 7: one token of any kind, and all of a text. -/
import Derived.Test.YticgmbhdcegoeaaDoorTokI
namespace Go.Proofs.YticgmbhdcegoeaaDoor
open Go.RowKit

theorem rone_mark (l : List UInt8) (a h : Nat) (m : Int) (w : World) (ha : a < l.length) (hh : bt l a = h)
    (hk : (h = 123 ∧ m = 3) ∨ (h = 125 ∧ m = 4) ∨ (h = 59 ∧ m = 5)) :
    Calls Tryd.prog 22 #[.string (bs l), .int .i64 (a : Nat)] w fun e w' => e = .returned (roneOut a (.ok (m, [], 0, 1))) ∧ Below w.heap.size w w' := by
  have hidx := idx_at l a ha
  rw [hh] at hidx
  have hz := bs_size l
  obtain ⟨y, hy⟩ : ∃ y : Int, y = (h : Int) := ⟨_, rfl⟩
  rw [← hy] at hidx
  rcases hk with ⟨h1, rfl⟩ | ⟨h1, rfl⟩ | ⟨h1, rfl⟩
  · obtain rfl : y = 123 := by omega
    clear h1 hy hh
    go_enter Tryd.func22, Tryd.ntmps22
    go_wp2
    exact bodyPost_ret (v := .tuple #[tokV 3 [] 0 (a : Nat), .int .i64 1, .int .i64 0]) (by simp [results, Tryd.results22, go_sem, tokV, bs]) rfl ⟨rfl, (Below.refl _ _).alloc (Nat.le_refl _) _⟩
  · obtain rfl : y = 125 := by omega
    clear h1 hy hh
    go_enter Tryd.func22, Tryd.ntmps22
    go_wp2
    exact bodyPost_ret (v := .tuple #[tokV 4 [] 0 (a : Nat), .int .i64 1, .int .i64 0]) (by simp [results, Tryd.results22, go_sem, tokV, bs]) rfl ⟨rfl, (Below.refl _ _).alloc (Nat.le_refl _) _⟩
  · obtain rfl : y = 59 := by omega
    clear h1 hy hh
    go_enter Tryd.func22, Tryd.ntmps22
    go_wp2
    exact bodyPost_ret (v := .tuple #[tokV 5 [] 0 (a : Nat), .int .i64 1, .int .i64 0]) (by simp [results, Tryd.results22, go_sem, tokV, bs]) rfl ⟨rfl, (Below.refl _ _).alloc (Nat.le_refl _) _⟩
def numTok : Except Int (Int × Nat) → Except Int (Int × List UInt8 × Int × Nat)
  | .error e => .error e
  | .ok (v, n) => .ok (2, [], v, n)
theorem one_num {b : UInt8} (t : List UInt8) (h : b.toNat = 45 ∨ isDigit b = true) : oneN (b :: t) = numTok (numberN (b :: t)) := by
  rw [oneN_num t h]
  cases numberN (b :: t) with
  | error e => rfl
  | ok x => rfl
theorem rone_num (l : List UInt8) (a h : Nat) (w : World) (hm : l.length ≤ 100000) (ha : a < l.length) (hh : bt l a = h) (h45 : h = 45 ∨ digB h = true) (r : Except Int (Int × Nat)) (hr : numberN (l.drop a) = r) (hr0 : ∀ e, r = .error e → e ≠ 0) :
    Calls Tryd.prog 22 #[.string (bs l), .int .i64 (a : Nat)] w fun e w' => e = .returned (roneOut a (numTok r)) ∧ Below w.heap.size w w' := by
  have hidx := idx_at l a ha
  rw [hh] at hidx
  have hz := bs_size l
  have h256 : h < 256 := by rw [← hh]; exact bt_lt l a
  have hnum := fun W => rnumber_any l a W hm ha
  rw [hr] at hnum
  obtain ⟨y, hy⟩ : ∃ y : Int, y = (h : Int) := ⟨_, rfl⟩
  rw [← hy] at hidx
  have hdg := digit_any h h256
  rw [← hy] at hdg
  have hr48 : digB h = true → 48 ≤ h ∧ h ≤ 57 := fun e => of_decide_eq_true e
  have b1 : (y == 123) = false := beq_false_of_ne (by rcases h45 with c | c; omega; have := hr48 c; omega)
  have b2 : (y == 125) = false := beq_false_of_ne (by rcases h45 with c | c; omega; have := hr48 c; omega)
  have b3 : (y == 59) = false := beq_false_of_ne (by rcases h45 with c | c; omega; have := hr48 c; omega)
  clear hr hh hr48
  by_cases c : h = 45
  · obtain rfl : y = 45 := by omega
    clear c hy hdg h45 h256
    cases r with
    | error e =>
      have b5 : (e == 0) = false := beq_false_of_ne (hr0 e rfl)
      have b6 : (e != 0) = true := bne_iff_ne.2 (hr0 e rfl)
      clear hr0
      unfold rnumOut at hnum
      go_enter Tryd.func22, Tryd.ntmps22
      go_wp2_with fail
      refine (hnum _).mono ?_
      rintro e w2 ⟨rfl, rfl⟩
      go_wp2
      exact bodyPost_ret (v := .tuple #[tokV 0 [] 0 0, .int .i64 0, .int .i64 e]) (by simp [results, Tryd.results22, go_sem, tokV, bs]) rfl ⟨rfl, (Below.refl _ _).alloc (Nat.le_refl _) _⟩
    | ok x =>
      obtain ⟨v, n⟩ := x
      clear hr0
      unfold rnumOut at hnum
      go_enter Tryd.func22, Tryd.ntmps22
      go_wp2_with fail
      refine (hnum _).mono ?_
      rintro e w2 ⟨rfl, rfl⟩
      go_wp2
      exact bodyPost_ret (v := .tuple #[tokV 2 [] v (a : Nat), .int .i64 (n : Nat), .int .i64 0]) (by simp [results, Tryd.results22, go_sem, tokV, bs]) rfl ⟨rfl, (Below.refl _ _).alloc (Nat.le_refl _) _⟩
  · rw [h45.resolve_left c] at hdg
    have b4 : (y == 45) = false := beq_false_of_ne (by omega)
    clear c hy h45 h256
    cases r with
    | error e =>
      have b5 : (e == 0) = false := beq_false_of_ne (hr0 e rfl)
      have b6 : (e != 0) = true := bne_iff_ne.2 (hr0 e rfl)
      clear hr0
      unfold rnumOut at hnum
      go_enter Tryd.func22, Tryd.ntmps22
      go_wp2_with fail
      refine (hdg _).mono ?_
      rintro e w2 ⟨rfl, rfl⟩
      clear hdg
      go_wp2_with fail
      refine (hnum _).mono ?_
      rintro e w2 ⟨rfl, rfl⟩
      go_wp2
      exact bodyPost_ret (v := .tuple #[tokV 0 [] 0 0, .int .i64 0, .int .i64 e]) (by simp [results, Tryd.results22, go_sem, tokV, bs]) rfl ⟨rfl, (Below.refl _ _).alloc (Nat.le_refl _) _⟩
    | ok x =>
      obtain ⟨v, n⟩ := x
      clear hr0
      unfold rnumOut at hnum
      go_enter Tryd.func22, Tryd.ntmps22
      go_wp2_with fail
      refine (hdg _).mono ?_
      rintro e w2 ⟨rfl, rfl⟩
      clear hdg
      go_wp2_with fail
      refine (hnum _).mono ?_
      rintro e w2 ⟨rfl, rfl⟩
      go_wp2
      exact bodyPost_ret (v := .tuple #[tokV 2 [] v (a : Nat), .int .i64 (n : Nat), .int .i64 0]) (by simp [results, Tryd.results22, go_sem, tokV, bs]) rfl ⟨rfl, (Below.refl _ _).alloc (Nat.le_refl _) _⟩
theorem rone_any (l : List UInt8) (a : Nat) (w : World) (hm : l.length ≤ 100000) (ha : a < l.length) :
    Calls Tryd.prog 22 #[.string (bs l), .int .i64 (a : Nat)] w fun e w' => e = .returned (roneOut a (oneN (l.drop a))) ∧ Below w.heap.size w w' := by
  have hd : l.drop a = l.getD a 0 :: l.drop (a + 1) := by rw [List.drop_eq_getElem_cons ha, List.getD_eq_getElem?_getD, List.getElem?_eq_getElem ha]; rfl
  by_cases c1 : (l.getD a 0).toNat = 123
  · rw [hd, oneN_open _ c1]; exact rone_mark l a _ 3 w ha rfl (Or.inl ⟨c1, rfl⟩)
  by_cases c2 : (l.getD a 0).toNat = 125
  · rw [hd, oneN_close _ c2]; exact rone_mark l a _ 4 w ha rfl (Or.inr (Or.inl ⟨c2, rfl⟩))
  by_cases c3 : (l.getD a 0).toNat = 59
  · rw [hd, oneN_end _ c3]; exact rone_mark l a _ 5 w ha rfl (Or.inr (Or.inr ⟨c3, rfl⟩))
  by_cases c4 : (l.getD a 0).toNat = 45 ∨ isDigit (l.getD a 0) = true
  · have := rone_num l a _ w hm ha rfl c4 _ rfl (fun e h => numberN_err h)
    rw [hd] at this ⊢
    rw [one_num _ c4]
    exact this
  · have h5 : digB (bt l a) = false := by
      have : isDigit (l.getD a 0) = false := by simpa using fun e => c4 (Or.inr e)
      exact this
    refine rone_word l ((l.drop a).take (spanLen isLetter (l.drop a))) a _ _ w hm ha rfl c1 c2 c3 (fun e => c4 (Or.inl e)) h5 rfl rfl _ ?_
    rw [hd]
    exact oneN_word _ c1 c2 c3 c4
end Go.Proofs.YticgmbhdcegoeaaDoor
