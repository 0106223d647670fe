/- The reference's Digits, text and Print; token.written and Print. -/
import Derived.Test.YticgmbhdcegoeaaDoorTokS
import Derived.Laws.IdiomStrings
namespace Go.Proofs.YticgmbhdcegoeaaDoor
open Go.RowKit

set_option maxRecDepth 100000 in
theorem digits_low (n : Nat) (h : n < 10) (w : World) :
    Calls Tryd.prog 43 #[.int .i64 (n : Nat)] w fun e w' => e = .returned (.string (bs (digN n))) ∧ Below w.heap.size w w' := by
  rw [digN_low n h]
  have hb := (Below.refl w.heap.size w).alloc (Nat.le_refl _) (.cells #[.int .u8 ((48 : Int) + (n : Int))] 5)
  have hcv : (convert 47 9 (.slice (some ⟨w.heap.size, 0, none⟩) 1 1)).run Tryd.prog (w.alloc (.cells #[.int .u8 ((48 : Int) + (n : Int))] 5)) = .ok (.string (bs [UInt8.ofNat (48 + n)])) (w.alloc (.cells #[.int .u8 ((48 : Int) + (n : Int))] 5)) := by
    refine run_convert_bytes_back (P := Tryd.prog) _ _ _ 5 ⟨w.heap.size, 0, none⟩ 1 [UInt8.ofNat (48 + n)] Tryd.underlying47 Tryd.underlying5 Tryd.underlying9 fun j hj => ?_
    have hj0 : j = 0 := by simp at hj; exact hj
    subst hj0
    have hc := (Has.new w [.int .u8 ((48 : Int) + (n : Int))] 5).cell 0
    have e : ([UInt8.ofNat (48 + n)] : List UInt8)[0].toNat = 48 + n := byte_of _ (by omega)
    rw [e, show (⟨w.heap.size, 0, none⟩ : Addr).add 0 = ⟨w.heap.size, 0, none⟩ from rfl]
    exact hc
  generalize ([UInt8.ofNat (48 + n)] : List UInt8) = D at hcv
  go_enter Tryd.func43, Tryd.ntmps43
  go_wp2_with fail
  go_ret
  exact ⟨rfl, hb⟩
theorem digits_len (n : Nat) (h : n < 100000000000) : (digN n).length ≤ 11 := digN_len 11 n (by omega) (by decide)
set_option maxRecDepth 100000 in
theorem digits_nat (n : Nat) : n < 100000000000 → ∀ w : World, Calls Tryd.prog 43 #[.int .i64 (n : Nat)] w fun e w' => e = .returned (.string (bs (digN n))) ∧ Below w.heap.size w w' := by
  induction n using Nat.strongRecOn with
  | _ n ih =>
    intro hn w
    by_cases h : n < 10
    · exact digits_low n h w
    · have hq := ih (n / 10) (by omega) (by omega)
      have hr := ih (n % 10) (by omega) (by omega)
      have e1 : digN n = digN (n / 10) ++ digN (n % 10) := by rw [digN_high n h, digN_low (n % 10) (by omega)]
      have l1 := digits_len (n / 10) (by omega)
      have l2 := digits_len (n % 10) (by omega)
      have hadd : ∀ W, (Op.stringOp .add (bs (digN (n / 10))) (bs (digN (n % 10)))).run Tryd.prog W = .ok (.string (bs (digN n))) W := fun W => by
        rw [run_add_bs W _ _ (by omega), ← e1]
      have hqn : (((n / 10 : Nat) : Nat) : Int) = (n : Int) / 10 := by omega
      have hrn : (((n % 10 : Nat) : Nat) : Int) = (n : Int) % 10 := by omega
      rw [hqn] at hq
      rw [hrn] at hr
      generalize digN (n / 10) = A at hq hadd
      generalize digN (n % 10) = B at hr hadd
      generalize digN n = D at hadd
      clear ih e1 l1 l2 hqn hrn
      have h10 : 10 ≤ n := by omega
      clear h
      go_enter Tryd.func43, Tryd.ntmps43
      go_wp2_with fail
      refine (hq _).mono ?_
      rintro e w2 ⟨rfl, h2⟩
      go_wp2_with fail
      refine (hr _).mono ?_
      rintro e w3 ⟨rfl, h3⟩
      clear hq hr
      go_wp2_with fail
      go_ret
      exact ⟨rfl, h2.trans (h3.mono h2.size)⟩
set_option maxRecDepth 100000 in
theorem digits_any (z : Int) (h1 : -10000000000 ≤ z) (h2 : z ≤ 10000000000) (w : World) :
    Calls Tryd.prog 43 #[.int .i64 z] w fun e w' => e = .returned (.string (bs (digZ z))) ∧ Below w.heap.size w w' := by
  by_cases hz : z < 0
  · have hq := digits_nat z.natAbs (by omega)
    have hl := digits_len z.natAbs (by omega)
    have hadd : ∀ W, (Op.stringOp .add ⟨#[45]⟩ (bs (digN z.natAbs))).run Tryd.prog W = .ok (.string (bs (digZ z))) W := fun W => by
      rw [digZ_neg hz]
      exact run_add_bs W [45] _ (by simp; omega)
    have hzn : ((z.natAbs : Nat) : Int) = -z := by omega
    rw [hzn] at hq
    generalize digN z.natAbs = A at hq hadd hl
    generalize digZ z = D at hadd
    clear hzn
    go_enter Tryd.func43, Tryd.ntmps43
    go_wp2_with fail

    refine (hq _).mono ?_
    rintro e w2 ⟨rfl, h2⟩
    go_wp2_with fail
    go_ret
    exact ⟨rfl, h2⟩
  · have hq := digits_nat z.natAbs (by omega) w
    rw [show ((z.natAbs : Nat) : Int) = z by omega] at hq
    rw [digZ_pos hz]
    exact hq
set_option maxRecDepth 100000 in
theorem rtext_any (k : Int) (t : List UInt8) (v p : Int) (hR : RightN k t v) (w : World) :
    Calls Tryd.prog 30 #[tokV k t v p] w fun e w' => e = .returned (.string (bs (textN k t v))) ∧ Below w.heap.size w w' := by
  rcases hR with ⟨rfl, -, -, -, rfl⟩ | ⟨rfl, rfl, h1, h2⟩ | ⟨hk, rfl, rfl⟩
  · show Calls _ _ _ _ fun e w' => e = .returned (.string (bs t)) ∧ _
    obtain ⟨c0, c1, c2, c3⟩ := tok_new w 1 0 p t
    have hb := (Below.refl w.heap.size w).alloc (Nat.le_refl _) (.cells #[.int .i64 1, .string (bs t), .int .i64 0, .int .i64 p] 30)
    unfold tokV
    go_enter Tryd.func30, Tryd.ntmps30
    go_wp2_with fail
    go_ret
    exact ⟨rfl, hb⟩
  · show Calls _ _ _ _ fun e w' => e = .returned (.string (bs (digZ v))) ∧ _
    obtain ⟨c0, c1, c2, c3⟩ := tok_new w 2 v p []
    have hb := (Below.refl w.heap.size w).alloc (Nat.le_refl _) (.cells #[.int .i64 2, .string (bs []), .int .i64 v, .int .i64 p] 30)
    unfold tokV
    have hd := digits_any v (by omega) (by omega)
    generalize digZ v = D at hd ⊢
    go_enter Tryd.func30, Tryd.ntmps30
    go_wp2_with fail
    refine (hd _).mono ?_
    rintro e w2 ⟨rfl, h2⟩
    go_wp2_with fail
    go_ret
    exact ⟨rfl, hb.trans (h2.mono (by simp))⟩
  · rcases hk with rfl | rfl | rfl
    · show Calls _ _ _ _ fun e w' => e = .returned (.string (bs [123])) ∧ _
      obtain ⟨c0, c1, c2, c3⟩ := tok_new w 3 0 p []
      have hb := (Below.refl w.heap.size w).alloc (Nat.le_refl _) (.cells #[.int .i64 3, .string (bs []), .int .i64 0, .int .i64 p] 30)
      unfold tokV
      have hsl : ∀ w, (Instr.slice 9 (.string ⟨#[123, 125, 59]⟩) (some (.int .i64 0)) (some (.int .i64 1)) none).run Tryd.prog w = .ok (.string (bs [123])) w := fun w => run_slice_bs (P := Tryd.prog) w 9 [123, 125, 59] .i64 .i64 0 1 Tryd.underlying9 (by decide) (by decide)
      go_enter Tryd.func30, Tryd.ntmps30
      go_wp2_with fail
      go_ret
      exact ⟨rfl, hb⟩
    · show Calls _ _ _ _ fun e w' => e = .returned (.string (bs [125])) ∧ _
      obtain ⟨c0, c1, c2, c3⟩ := tok_new w 4 0 p []
      have hb := (Below.refl w.heap.size w).alloc (Nat.le_refl _) (.cells #[.int .i64 4, .string (bs []), .int .i64 0, .int .i64 p] 30)
      unfold tokV
      have hsl : ∀ w, (Instr.slice 9 (.string ⟨#[123, 125, 59]⟩) (some (.int .i64 1)) (some (.int .i64 2)) none).run Tryd.prog w = .ok (.string (bs [125])) w := fun w => run_slice_bs (P := Tryd.prog) w 9 [123, 125, 59] .i64 .i64 1 2 Tryd.underlying9 (by decide) (by decide)
      go_enter Tryd.func30, Tryd.ntmps30
      go_wp2_with fail
      go_ret
      exact ⟨rfl, hb⟩
    · show Calls _ _ _ _ fun e w' => e = .returned (.string (bs [59])) ∧ _
      obtain ⟨c0, c1, c2, c3⟩ := tok_new w 5 0 p []
      have hb := (Below.refl w.heap.size w).alloc (Nat.le_refl _) (.cells #[.int .i64 5, .string (bs []), .int .i64 0, .int .i64 p] 30)
      unfold tokV
      have hsl : ∀ w, (Instr.slice 9 (.string ⟨#[123, 125, 59]⟩) (some (.int .i64 2)) (some (.int .i64 3)) none).run Tryd.prog w = .ok (.string (bs [59])) w := fun w => run_slice_bs (P := Tryd.prog) w 9 [123, 125, 59] .i64 .i64 2 3 Tryd.underlying9 (by decide) (by decide)
      go_enter Tryd.func30, Tryd.ntmps30
      go_wp2_with fail
      go_ret
      exact ⟨rfl, hb⟩
set_option maxRecDepth 100000 in
theorem written_any (k : Int) (t : List UInt8) (v p : Int) (hR : RightN k t v) (w : World) (hE : Env w) :
    Calls Tryd.prog 25 #[tokV k t v p] w fun e w' => e = .returned (.string (bs (textN k t v))) ∧ Below w.heap.size w w' := by
  rcases hR with ⟨rfl, -, -, -, rfl⟩ | ⟨rfl, rfl, h1, h2⟩ | ⟨hk, rfl, rfl⟩
  · show Calls _ _ _ _ fun e w' => e = .returned (.string (bs t)) ∧ _
    obtain ⟨c0, c1, c2, c3⟩ := tok_new w 1 0 p t
    have hb := (Below.refl w.heap.size w).alloc (Nat.le_refl _) (.cells #[.int .i64 1, .string (bs t), .int .i64 0, .int .i64 p] 30)
    unfold tokV
    go_enter Tryd.func25, Tryd.ntmps25
    go_wp2_with fail
    go_ret
    exact ⟨rfl, hb⟩
  · show Calls _ _ _ _ fun e w' => e = .returned (.string (bs (digZ v))) ∧ _
    obtain ⟨c0, c1, c2, c3⟩ := tok_new w 2 v p []
    have hb := (Below.refl w.heap.size w).alloc (Nat.le_refl _) (.cells #[.int .i64 2, .string (bs []), .int .i64 v, .int .i64 p] 30)
    unfold tokV
    have hd := itoa_any v (by omega) (by omega) _ (hE.alloc (.cells #[.int .i64 2, .string (bs []), .int .i64 v, .int .i64 p] 30))
    generalize digZ v = D at hd ⊢
    go_enter Tryd.func25, Tryd.ntmps25
    go_wp2_with fail
    refine hd.mono ?_
    rintro e w2 ⟨rfl, h2⟩
    go_wp2_with fail
    go_ret
    exact ⟨rfl, hb.trans (h2.mono (by simp))⟩
  · rcases hk with rfl | rfl | rfl
    · show Calls _ _ _ _ fun e w' => e = .returned (.string (bs [123])) ∧ _
      obtain ⟨c0, c1, c2, c3⟩ := tok_new w 3 0 p []
      have hb := (Below.refl w.heap.size w).alloc (Nat.le_refl _) (.cells #[.int .i64 3, .string (bs []), .int .i64 0, .int .i64 p] 30)
      unfold tokV
      go_enter Tryd.func25, Tryd.ntmps25
      go_wp2_with fail
      go_ret
      exact ⟨rfl, hb⟩
    · show Calls _ _ _ _ fun e w' => e = .returned (.string (bs [125])) ∧ _
      obtain ⟨c0, c1, c2, c3⟩ := tok_new w 4 0 p []
      have hb := (Below.refl w.heap.size w).alloc (Nat.le_refl _) (.cells #[.int .i64 4, .string (bs []), .int .i64 0, .int .i64 p] 30)
      unfold tokV
      go_enter Tryd.func25, Tryd.ntmps25
      go_wp2_with fail
      go_ret
      exact ⟨rfl, hb⟩
    · show Calls _ _ _ _ fun e w' => e = .returned (.string (bs [59])) ∧ _
      obtain ⟨c0, c1, c2, c3⟩ := tok_new w 5 0 p []
      have hb := (Below.refl w.heap.size w).alloc (Nat.le_refl _) (.cells #[.int .i64 5, .string (bs []), .int .i64 0, .int .i64 p] 30)
      unfold tokV
      go_enter Tryd.func25, Tryd.ntmps25
      go_wp2_with fail
      go_ret
      exact ⟨rfl, hb⟩
end Go.Proofs.YticgmbhdcegoeaaDoor
