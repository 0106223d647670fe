/- nelson's tell. -/
import Derived.Test.YtjonpcpcokapkaaNelPk
import Derived.Test.YtjonpcpcokapkaaNelI
namespace Go.Proofs.Ytjonpcpcokapkaa
open Go.RowKit

theorem sizeRow (w : World) : (sizeOf 22).run Try.prog w = .ok 1 w := by kernel_rfl
theorem elemRows : (Try.prog).elem 46 = 22 := by kernel_rfl
theorem slice_loR (ao : Option Addr) (n cap k : Nat) (hk : k ≤ n) (hn : n ≤ cap) :
    ∃ ao', (∀ w, (Instr.slice 46 (.slice ao n cap) (some (.int .i64 (k : Int))) none none).run Try.prog w = .ok (.slice ao' (n - k) (cap - k)) w) ∧ ∀ w L, ReadsR w (.slice ao n cap) L → ReadsR w (.slice ao' (n - k) (cap - k)) (L.drop k) := by
  refine ⟨if cap = k then ao else ao.map (·.add (k * 1)), fun w => ?_, fun w xs h => ?_⟩
  · have h := run_slice_l (P := Try.prog) w 46 ao n cap (by rw [elemRows]; exact Try.underlying46) .i64 (k : Int) (by omega) (by omega)
    rw [h, elemRows, sizeRow]
    simp only [Result.andThen, sliced, Int.toNat_natCast]
  · obtain ⟨ao1, cap1, e, h2, h3, h4⟩ := h
    injection e with e1 e2 e3
    subst e1 e2 e3
    refine ⟨_, cap - k, by rw [List.length_drop], by rw [List.length_drop]; omega, by omega, fun i hi => ?_⟩
    rw [List.length_drop] at hi
    obtain ⟨b, off, u, rfl, h6, h7, h8⟩ := h4 (k + i) (by omega)
    refine ⟨b, off + k, u, ?_, h6, ?_, ?_⟩
    · rw [if_neg (by omega)]
      simp only [Option.map_some, Nat.mul_one]
      unfold Addr.add
      split <;> simp_all
    · rw [Nat.add_assoc, h7]
    · rw [List.getD_eq_getElem?_getD, List.getElem?_drop]
      rwa [List.getD_eq_getElem?_getD] at h8
/-- The functions of the rules. -/
def ruleF (r : Nat) : FuncId := ([33, 34, 35, 36, 37, 38, 39, 40] : List FuncId).getD (r - 1) 0
theorem ruleF_rule (r : Nat) (h1 : 1 ≤ r) (h8 : r ≤ 8) : RuleC r (ruleF r) := by
  obtain rfl | rfl | rfl | rfl | rfl | rfl | rfl | rfl : r = 1 ∨ r = 2 ∨ r = 3 ∨ r = 4 ∨ r = 5 ∨ r = 6 ∨ r = 7 ∨ r = 8 := by omega
  · exact ruleC1
  · exact ruleC2
  · exact ruleC3
  · exact ruleC4
  · exact ruleC5
  · exact ruleC6
  · exact ruleC7
  · exact ruleC8
theorem rules_at (i : Nat) (hi : i < 8) (w : World) : (Instr.index 58 (.agg #[.func (.func 33) #[] #[], .func (.func 34) #[] #[], .func (.func 35) #[] #[], .func (.func 36) #[] #[], .func (.func 37) #[] #[], .func (.func 38) #[] #[], .func (.func 39) #[] #[], .func (.func 40) #[] #[]]) (.int .i64 (i : Nat))).run Try.prog w = .ok (.func (.func (ruleF (i + 1))) #[] #[]) w := by
  rcases (by omega : i = 0 ∨ i = 1 ∨ i = 2 ∨ i = 3 ∨ i = 4 ∨ i = 5 ∨ i = 6 ∨ i = 7) with rfl | rfl | rfl | rfl | rfl | rfl | rfl | rfl <;> kernel_rfl
def lensV : List Value := [.int .i64 1, .int .i64 9, .int .i64 6, .int .i64 14, .int .i64 3, .int .i64 5, .int .i64 15, .int .i64 8]
theorem lens_at (i : Nat) (hi : i < 8) : lensV[i]? = some (.int .i64 (longN (i + 1) : Nat)) := by
  rcases (by omega : i = 0 ∨ i = 1 ∨ i = 2 ∨ i = 3 ∨ i = 4 ∨ i = 5 ∨ i = 6 ∨ i = 7) with rfl | rfl | rfl | rfl | rfl | rfl | rfl | rfl <;> rfl
theorem run_store_fn {P : Program} {a : Addr} {m : Mode} {w : World} (f : Fn) (b c : Array Value) : (store a (.func f b c) m).run P w = stored P w a (.func f b c) m := run_store P w a _ m rfl
/-- Four blocks were made. -/
structure Four (w w2 : World) (A B C D : List Value) (TA TB TC TD : TypeId) : Prop where
  below : Below w.heap.size w w2
  a : Has w2 w.heap.size A TA
  b : Has w2 (w.heap.size + 1) B TB
  c : Has w2 (w.heap.size + 2) C TC
  d : Has w2 (w.heap.size + 3) D TD
theorem four (w : World) (A B C D : List Value) (TA TB TC TD : TypeId) : Four w ((((w.alloc (.cells A.toArray TA)).alloc (.cells B.toArray TB)).alloc (.cells C.toArray TC)).alloc (.cells D.toArray TD)) A B C D TA TB TC TD := by
  obtain ⟨h1, h2, h3, h4⟩ := three w A B C TA TB TC
  have hs : (((w.alloc (.cells A.toArray TA)).alloc (.cells B.toArray TB)).alloc (.cells C.toArray TC)).heap.size = w.heap.size + 3 := by simp
  refine ⟨h1.alloc h1.size _, h2.alloc _, h3.alloc _, h4.alloc _, ?_⟩
  have := Has.new (((w.alloc (.cells A.toArray TA)).alloc (.cells B.toArray TB)).alloc (.cells C.toArray TC)) D TD
  rw [hs] at this
  exact this
theorem telC_zero (T : Nat → Int) (i : Nat) (h : i < 8) (h0 : T (i + 1) = 0) : telC T (i + 1) = telC T i := by
  rw [← telC_set T i h, h0]
  rcases (by omega : i = 0 ∨ i = 1 ∨ i = 2 ∨ i = 3 ∨ i = 4 ∨ i = 5 ∨ i = 6 ∨ i = 7) with rfl | rfl | rfl | rfl | rfl | rfl | rfl | rfl <;> rfl
theorem longN_le (r : Nat) (h : r ≤ 8) : longN r ≤ 15 := by
  have : ∀ k : Fin 9, longN k.val ≤ 15 := by decide
  exact this ⟨r, by omega⟩
/-- What is told of the first i rules. -/
def TolRel (T : Nat → Int) (w : World) (y : Value) (wr : World) : Prop :=
  ∃ i : Nat, i ≤ 8 ∧ y = .int .i64 (i : Nat) ∧ Has wr w.heap.size (telC T 0) 31 ∧ Has wr (w.heap.size + 2) lensV 31 ∧ Has wr (w.heap.size + 3) (telC T i) 31 ∧ Below w.heap.size w wr
attribute [local go_sem] run_store_fn
set_option linter.unusedSimpArgs false in
set_option linter.unusedVariables false in
set_option maxHeartbeats 8000000 in
set_option maxRecDepth 100000 in
theorem tellC_core (T : Nat → Int) (pts : List (List Int)) (ao : Option Addr) (n cap : Nat) (hn : pts.length = n) (w : World) (hn1 : n ≤ 1000) (hcap : n ≤ cap) (hrd : ReadsR w (.slice ao n cap) pts)
    (h0 : ∀ r : Nat, 1 ≤ r → r ≤ 8 → n < longN r → T r = 0)
    (hT : ∀ r : Nat, 1 ≤ r → r ≤ 8 → longN r ≤ n → ∀ W v, ReadsR W v (pts.drop (n - longN r)) → Calls Try.prog 41 #[v, .func (.func (ruleF r)) #[] #[]] W fun e w' => e = .returned (.int .i64 (T r)) ∧ Below W.heap.size W w') :
    Calls Try.prog 25 #[.slice ao n cap] w fun e w' => e = .returned (.agg (telC T 8).toArray) ∧ Below w.heap.size w w' := by
  have MT := Lib.hid hT; have M0 := Lib.hid h0; have HRD := Lib.hid hrd
  obtain ⟨w2, hw2⟩ : ∃ w2, ((((w.alloc (.cells #[.int .i64 0, .int .i64 0, .int .i64 0, .int .i64 0, .int .i64 0, .int .i64 0, .int .i64 0, .int .i64 0] 31)).alloc (.cells #[.func (.func 33) #[] #[], .func (.func 34) #[] #[], .func (.func 35) #[] #[], .func (.func 36) #[] #[], .func (.func 37) #[] #[], .func (.func 38) #[] #[], .func (.func 39) #[] #[], .func (.func 40) #[] #[]] 58)).alloc (.cells #[.int .i64 1, .int .i64 9, .int .i64 6, .int .i64 14, .int .i64 3, .int .i64 5, .int .i64 15, .int .i64 8] 31)).alloc (.cells #[.int .i64 0, .int .i64 0, .int .i64 0, .int .i64 0, .int .i64 0, .int .i64 0, .int .i64 0, .int .i64 0] 31)) = w2 := ⟨_, rfl⟩
  have hi : Four w w2 [.int .i64 0, .int .i64 0, .int .i64 0, .int .i64 0, .int .i64 0, .int .i64 0, .int .i64 0, .int .i64 0] [.func (.func 33) #[] #[], .func (.func 34) #[] #[], .func (.func 35) #[] #[], .func (.func 36) #[] #[], .func (.func 37) #[] #[], .func (.func 38) #[] #[], .func (.func 39) #[] #[], .func (.func 40) #[] #[]] lensV [.int .i64 0, .int .i64 0, .int .i64 0, .int .i64 0, .int .i64 0, .int .i64 0, .int .i64 0, .int .i64 0] 31 58 31 31 := by rw [← hw2]; exact four w _ _ _ _ _ _ _ _
  have HI := Lib.hid hi; have HW2 := Lib.hid hw2
  have hS := Lib.hid (show TolRel T w (.int .i64 0) w2 from ⟨0, by omega, rfl, hi.a, hi.c, hi.d, hi.below⟩)
  clear hi hw2 hT h0 hrd hn
  go_enter Try.func25, Try.ntmps25
  go_upto_region 4 with fail
  rw [HW2.out]
  obtain ⟨FV, hFV⟩ : ∃ V : Value, .agg #[.func (.func 33) #[] #[], .func (.func 34) #[] #[], .func (.func 35) #[] #[], .func (.func 36) #[] #[], .func (.func 37) #[] #[], .func (.func 38) #[] #[], .func (.func 39) #[] #[], .func (.func 40) #[] #[]] = V := ⟨_, rfl⟩
  have HFV := Lib.hid hFV
  have c0 := HI.out.b.cell 0
  have c1 := HI.out.b.cell 1
  have c2 := HI.out.b.cell 2
  have c3 := HI.out.b.cell 3
  have c4 := HI.out.b.cell 4
  have c5 := HI.out.b.cell 5
  have c6 := HI.out.b.cell 6
  have c7 := HI.out.b.cell 7
  simp only [List.getElem?_cons_zero, List.getElem?_cons_succ] at c0 c1 c2 c3 c4 c5 c6 c7
  have l1 := HI.out.b.lt
  go_wp2
  (try rw [hFV])
  clear hFV l1 c0 c1 c2 c3 c4 c5 c6 c7 HI
  go_loopw [12] (TolRel T w) (fun y _ => 8 - (intOf y).toNat)
  case atStart => exact hS.out
  case round =>
    obtain ⟨i, hi, rfl, hR, hL, hA, hb⟩ := hrel
    have HR := Lib.hid hR
    have HL := Lib.hid hL
    have HA := Lib.hid hA
    have HW := Lib.hid hb
    clear hR hA hL
    by_cases h8 : i = 8
    · subst h8
      clear hb
      have hO1 := telC_one T 8
      have hRg : wr.rangeAt (w.heap.size + 3) 0 (telC T 8) := HA.out.range
      have hTh : wr.there w.heap.size 0 (telC T 8).toArray.size := HR.out.midThere 0 8 (by simp [telC])
      have hN : Has (wr.setCells w.heap.size 0 (telC T 8)) w.heap.size (telC T 8) 31 := HR.out.sets _ rfl
      have hBl : Below w.heap.size w (wr.setCells w.heap.size 0 (telC T 8)) := Below.sets HW.out (Nat.le_refl _) _ _
      have s7 : ((Try.prog).info? 31).map (·.size) = some (telC T 8).length := size8
      have hLd0 : (loadVar 31 ⟨w.heap.size, 0, none⟩).run Try.prog (wr.setCells w.heap.size 0 (telC T 8)) = .ok (.agg (telC T 8).toArray) (wr.setCells w.heap.size 0 (telC T 8)) := run_loadVar_mid _ _ _ _ _ _ hN.range Try.underlying31 rfl s7
      have S7 := Lib.hid s7
      have HT := Lib.hid hTh
      have HO := Lib.hid hO1
      have HG := Lib.hid hRg
      clear s7 hTh hO1 hRg
      obtain ⟨L, hLd⟩ : ∃ L, L = telC T 8 := ⟨_, rfl⟩
      rw [← hLd] at S7 HT HO HG hN hBl hLd0
      have HLd := Lib.hid hLd
      clear hLd
      go_wp2_with (first | (refine wpList_load_mid rfl 31 _ rfl (w.heap.size + 3) 0 rfl L _ HG.out Try.underlying31 rfl S7.out ?_) | (refine wpList_store_mid rfl 31 _ _ rfl w.heap.size 0 L.toArray rfl rfl HT.out S7.out HO.out ?_))
      have hLd := HLd.out
      subst hLd
      exact bodyPost_ret (resCellS Try.results25 rfl hLd0) rfl ⟨rfl, hBl⟩
    · have hib : i < 8 := by omega
      have hlt : (i : Int) < 8 := by omega
      have hix : ∀ W, (Instr.index 58 FV (.int .i64 (i : Nat))).run Try.prog W = .ok (.func (.func (ruleF (i + 1))) #[] #[]) W := fun W => by rw [← HFV.out]; exact rules_at i hib W
      have hcl : wr.cell? ⟨w.heap.size + 2, i, none⟩ = some (.int .i64 (longN (i + 1) : Nat)) := (HL.out.cell i).trans (lens_at i hib)
      have hll := HL.out.lt
      have hq15 : longN (i + 1) ≤ 15 := longN_le (i + 1) (by omega)
      have hTF := fun h => MT.out (i + 1) (by omega) (by omega) h wr
      have hT0 := M0.out (i + 1) (by omega) (by omega)
      obtain ⟨K, hK⟩ : ∃ K, ruleF (i + 1) = K := ⟨_, rfl⟩
      obtain ⟨q, hq⟩ : ∃ q, longN (i + 1) = q := ⟨_, rfl⟩
      rw [hK] at hix hTF
      rw [hq] at hcl hTF hq15 hT0
      by_cases hqn : q ≤ n
      · obtain ⟨ao2, hsl, hrd2⟩ := slice_loR ao n cap (n - q) (by omega) hcap
        have hrd3 := hrd2 wr pts (HRD.out.below hb)
        rw [show n - (n - q) = q by omega] at hrd3
        have hsl2 : ∀ W, (Instr.slice 46 (.slice ao n cap) (some (.int .i64 ((n : Int) - (q : Int)))) none none).run Try.prog W = .ok (.slice ao2 q (cap - (n - q))) W := fun W => by
          have := hsl W
          rw [show n - (n - q) = q by omega, show ((n - q : Nat) : Int) = (n : Int) - (q : Int) by omega] at this
          exact this
        obtain ⟨cap2, hcap2⟩ : ∃ c, cap - (n - q) = c := ⟨_, rfl⟩
        rw [hcap2] at hsl2 hrd3
        have HC := Lib.hid (hTF hqn _ hrd3)
        obtain ⟨y, hy⟩ : ∃ y, T (i + 1) = y := ⟨_, rfl⟩
        rw [hy] at HC
        have HS := Lib.hid (show (telC T i).set i (.int .i64 y) = telC T (i + 1) from hy ▸ telC_set T i hib)
        obtain ⟨u, hu⟩ := telC_some T i i hib
        have HU := Lib.hid hu
        have g0 : (0 : Int) ≤ (n : Int) - (q : Int) := by omega
        have g1 : (q : Int) ≤ (n : Int) := by omega
        clear hTF hT0 hK hq hsl hrd2 hrd3 hcap2 hy hu hb h8 hi hqn
        go_wp2_with fail
        refine HC.out.mono ?_
        rintro e w5 ⟨rfl, k5⟩
        have HW5 := Lib.hid (HW.out.trans (k5.mono HW.out.size))
        have HR5 := Lib.hid (HR.out.call k5); have HL5 := Lib.hid (HL.out.call k5); have HA5 := Lib.hid (HA.out.call k5)
        clear k5 hcl hll hix hsl2
        have c0 : w5.cell? ⟨w.heap.size + 3, i, none⟩ = some (.int .i64 u) := (HA5.out.cell i).trans HU.out
        have f0 : w5.frozen? ⟨w.heap.size + 3, i, none⟩ = false := HA5.out.frozen i
        have hal := HA5.out.lt
        go_wp2_with fail
        have hN : Has (w5.setCell ⟨w.heap.size + 3, i, none⟩ (.int .i64 y)) (w.heap.size + 3) (telC T (i + 1)) 31 := by
          rw [← HS.out]
          exact HA5.out.set i (.int .i64 y)
        refine ⟨⟨i + 1, by omega, by go_num, HR5.out.other (by dsimp only; omega) _, HL5.out.other (by dsimp only; omega) _, hN, HW5.out.setCell (by dsimp only; omega) _⟩, ?_⟩
        simp [intOf]
        omega
      · have hT1 := hT0 (by omega)
        have HQ := Lib.hid (show TolRel T w (.int .i64 ((i : Int) + 1)) wr from ⟨i + 1, by omega, by first | rfl | go_num, HR.out, HL.out, by rw [telC_zero T i hib hT1]; exact HA.out, HW.out⟩)
        have g0 : ¬ (0 : Int) ≤ (n : Int) - (q : Int) := by omega
        have g1 : ¬ (q : Int) ≤ (n : Int) := by omega
        clear hTF hT0 hK hq hb h8 hi hqn hT1
        go_wp2
        go_roundw
        case rel => exact HQ.out
        case measure => simp [intOf]; omega
theorem tellC_any (pts : List (List Int)) (hok : ∀ cs ∈ pts, okC cs) (hlen : ∀ cs ∈ pts, cs.length ≤ 100000) (h15 : pts.length ≤ 15) (v : Value) (w : World) (hrd : ReadsR w v pts) :
    Calls Try.prog 25 #[v] w fun e w' => e = .returned (.agg (telC (fun r => toldC r pts) 8).toArray) ∧ Below w.heap.size w w' := by
  obtain ⟨ao, cap, hv, hcap, _⟩ := id hrd
  subst hv
  refine tellC_core (fun r => toldC r pts) pts ao _ cap rfl w (by omega) hcap hrd (fun r _ _ h => by unfold toldC; rw [if_pos h]) (fun r h1 h8 hq W v hv => ?_)
  have e : toldC r pts = followN r (pts.drop (pts.length - longN r)) := by unfold toldC; rw [if_neg (by omega)]
  show Calls Try.prog _ _ W fun e w' => e = .returned (.int .i64 (toldC r pts)) ∧ _
  rw [e]
  exact follow_any r _ (ruleF_rule r h1 h8) _ (fun cs hcs => hok cs (List.mem_of_mem_drop hcs)) (fun cs hcs => hlen cs (List.mem_of_mem_drop hcs)) (by rw [List.length_drop]; omega) v W hv
end Go.Proofs.Ytjonpcpcokapkaa
