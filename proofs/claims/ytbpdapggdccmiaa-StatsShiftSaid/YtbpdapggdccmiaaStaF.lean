/- datumlaw11.some: samples that are within the ends, from any. -/
import Derived.Test.YtbpdapggdccmiaaApI
import Derived.Test.YtbpdapggdccmiaaStaM
namespace Go.Proofs.Ytbpdapggdccmiaa
open Go.RowKit

def clampI (x : Int) : Int := min (max x (-1000000)) 1000000
def someN (l : List Int) (N : Nat) : List Int := (l.take N).map clampI
theorem someN_in (l : List Int) (N : Nat) : inB (someN l N) = true := by
  unfold inB
  rw [List.all_eq_true]
  intro x hx
  obtain ⟨y, _, rfl⟩ := List.mem_map.1 hx
  unfold clampI
  exact decide_eq_true (by omega)
theorem someN_len (l : List Int) (N : Nat) : (someN l N).length ≤ N := by unfold someN; rw [List.length_map, List.length_take]; omega
def SomeRel (l : List Int) (m : Nat) (w : World) (av i : Value) (wr : World) : Prop := ∃ k : Nat, k ≤ m ∧ i = .int .i64 (k : Nat) ∧ IRow w.heap.size av ((l.take k).map clampI) wr ∧ Below w.heap.size w wr
theorem some_snoc (l : List Int) (k : Nat) (x : Int) (hk : k < l.length) (hx : l.getD k 0 = x) : (l.take (k + 1)).map clampI = (l.take k).map clampI ++ [clampI x] := by
  rw [List.take_add_one, List.getElem?_eq_getElem hk, List.map_append, ← hx, List.getD_eq_getElem?_getD, List.getElem?_eq_getElem hk]
  rfl
set_option maxHeartbeats 2000000 in
set_option maxRecDepth 100000 in
theorem some11_any (l : List Int) (v : Value) (N : Nat) (w : World) (hN : N ≤ 1000) (hr : ReadsI w v l) :
    Calls Try.prog 18 #[v, .int .i64 (N : Int)] w fun e w' => ∃ v', e = .returned v' ∧ IRow w.heap.size v' (someN l N) w' ∧ Below w.heap.size w w' := by
  obtain ⟨ao, cap, rfl, hlc, hcm, -⟩ := id hr
  unfold maxLen at hcm
  obtain ⟨n, hn⟩ : ∃ n, l.length = n := ⟨_, rfl⟩
  rw [hn] at hlc hr ⊢
  obtain ⟨m, hm⟩ : ∃ m, m = min n N := ⟨_, rfl⟩
  have HR := Lib.hid (hr.few N m hm)
  have hml : (l.take N).length = m := by rw [List.length_take, hn, hm, Nat.min_comm]
  have hmN : m ≤ 1000 := by omega
  unfold someN
  generalize l.take N = l at *
  have HML := Lib.hid hml
  have HM := Lib.hid hm
  clear hr hml hm hn
  go_enter Try.func18, Try.ntmps18
  go_upto_region 2 with fail
  go_cut [13, 14, 15] (fun s13 s14 s15 wx => s13 = .slice ao m cap ∧ s14 = .int .i64 (m : Nat) ∧ s15 = .int .i64 0 ∧ wx = w)
  case first =>
    have hm := HM.out
    rcases Nat.lt_trichotomy n N with c | c | c
    · obtain rfl : m = n := by omega
      have g1 : (m : Int) < (N : Int) := by omega
      have g2 : ¬ (N : Int) < (m : Int) := by omega
      have g3 : ¬ (N : Int) ≤ (m : Int) := by omega
      have g4 : (m : Int) ≤ (N : Int) := by omega
      have hsl := slice_hi ao m cap m (by omega)
      clear hm
      go_wp2_with fail
      go_meet
      exact ⟨rfl, rfl, rfl, rfl⟩
    · subst c
      obtain rfl : m = n := by omega
      have hsl := slice_hi ao m cap m (by omega)
      clear hm
      go_wp2_with fail
      go_meet
      exact ⟨rfl, rfl, rfl, rfl⟩
    · obtain rfl : m = N := by omega
      have g1 : (m : Int) < (n : Int) := by omega
      have g2 : ¬ (n : Int) < (m : Int) := by omega
      have g3 : ¬ (n : Int) ≤ (m : Int) := by omega
      have g4 : (m : Int) ≤ (n : Int) := by omega
      have hsl := slice_hi ao n cap m (by omega)
      clear hm
      go_wp2_with fail
      go_meet
      exact ⟨rfl, rfl, rfl, rfl⟩
  case rest =>
    obtain ⟨rfl, rfl, rfl, hwx⟩ := hcut
    rw [hwx]
    clear hwx
    go_wp2
    go_loopw [5, 15] (SomeRel l m w) (fun _ i _ => m - (intOf i).toNat)
    case atStart => exact ⟨0, Nat.zero_le _, rfl, IRow.nil _ _, Below.refl _ _⟩
    case round =>
      obtain ⟨k, hk, rfl, hrow, hb⟩ := hrel
      have HROW := Lib.hid hrow
      have HB := Lib.hid hb
      have hsz := hb.size
      clear hrow hb
      by_cases hl : k < m
      · obtain ⟨ao', cp', e0, -, -, hrd⟩ := HR.out.below HB.out
        injection e0 with e1 e2 e3
        subst e1 e3
        obtain ⟨b, off, rfl, hlt, hc⟩ := hrd k (by rw [HML.out]; exact hl)
        obtain ⟨x, hx⟩ : ∃ x, l.getD k 0 = x := ⟨_, rfl⟩
        rw [hx] at hc
        have HSN := Lib.hid (some_snoc l k x (by rw [HML.out]; exact hl) hx)
        have hal : ((l.take k).map clampI).length ≤ 1000 := by rw [List.length_map, List.length_take]; omega
        obtain ⟨acc, hacc⟩ : ∃ acc, (l.take k).map clampI = acc := ⟨_, rfl⟩
        rw [hacc] at HROW HSN hal
        have hkm : (k : Int) < (m : Int) := by omega
        clear hrd hx hacc e2
        rcases Int.lt_trichotomy x (-1000000) with hx | hx | hx
        · skip
          have g1 : ¬ (-1000000 : Int) < x := by omega
          have g2 : ¬ (-1000000 : Int) ≤ x := by omega
          have g3 : x ≤ -1000000 := by omega
          have hcl : clampI x = -1000000 := by unfold clampI; omega
          rw [hcl] at HSN
          have HO := Lib.hid (ReadsI.one wr (-1000000))
          have HWA := Lib.hid (HROW.out.alloc (.cells #[.int .i64 (-1000000)] 3))
          have hsa : (wr.alloc (.cells #[.int .i64 (-1000000)] 3)).heap.size = wr.heap.size + 1 := by simp
          have HSA := Lib.hid hsa
          have HBA := Lib.hid (HB.out.alloc hsz (.cells #[.int .i64 (-1000000)] 3))
          clear hcl hsa
          go_wp2_with (at_builtin; refine wpList_append_ints rfl (.tmp 19) (.tmp 23) rfl w.heap.size _ acc [-1000000] rfl HWA.out (some ⟨wr.heap.size, 0, none⟩) 1 1 rfl HO.out (by show _ + 1 ≤ _; omega) (by rw [HSA.out]; omega) ?_)
          intro v' w' hi' hg'
          have HRW := Lib.hid (show SomeRel l m w v' (.int .i64 ((k : Int) + 1)) w' from
            ⟨k + 1, by omega, by go_num, by rw [HSN.out]; exact hi', HBA.out.grown hg' (by rw [HSA.out]; omega) (fun j hj => (HWA.out.lt' j hj).1)⟩)
          clear hi' hg' hc
          go_wp2
          go_roundw
          case rel => exact HRW.out
          case measure => simp [intOf]; omega
        · subst hx
          have hcl : clampI (-1000000) = -1000000 := by unfold clampI; omega
          rw [hcl] at HSN
          have HO := Lib.hid (ReadsI.one wr (-1000000))
          have HWA := Lib.hid (HROW.out.alloc (.cells #[.int .i64 (-1000000)] 3))
          have hsa : (wr.alloc (.cells #[.int .i64 (-1000000)] 3)).heap.size = wr.heap.size + 1 := by simp
          have HSA := Lib.hid hsa
          have HBA := Lib.hid (HB.out.alloc hsz (.cells #[.int .i64 (-1000000)] 3))
          clear hcl hsa
          go_wp2_with (at_builtin; refine wpList_append_ints rfl (.tmp 19) (.tmp 23) rfl w.heap.size _ acc [-1000000] rfl HWA.out (some ⟨wr.heap.size, 0, none⟩) 1 1 rfl HO.out (by show _ + 1 ≤ _; omega) (by rw [HSA.out]; omega) ?_)
          intro v' w' hi' hg'
          have HRW := Lib.hid (show SomeRel l m w v' (.int .i64 ((k : Int) + 1)) w' from
            ⟨k + 1, by omega, by go_num, by rw [HSN.out]; exact hi', HBA.out.grown hg' (by rw [HSA.out]; omega) (fun j hj => (HWA.out.lt' j hj).1)⟩)
          clear hi' hg' hc
          go_wp2
          go_roundw
          case rel => exact HRW.out
          case measure => simp [intOf]; omega
        · rcases Int.lt_trichotomy x 1000000 with hy | hy | hy
          · skip
            have g1 : ¬ x < (-1000000 : Int) := by omega
            have g2 : ¬ x ≤ (-1000000 : Int) := by omega
            have g3 : -1000000 ≤ x := by omega
            have g4 : ¬ (1000000 : Int) < x := by omega
            have g5 : ¬ (1000000 : Int) ≤ x := by omega
            have g6 : x ≤ 1000000 := by omega
            have hcl : clampI x = x := by unfold clampI; omega
            rw [hcl] at HSN
            have HO := Lib.hid (ReadsI.one wr (x))
            have HWA := Lib.hid (HROW.out.alloc (.cells #[.int .i64 (x)] 3))
            have hsa : (wr.alloc (.cells #[.int .i64 (x)] 3)).heap.size = wr.heap.size + 1 := by simp
            have HSA := Lib.hid hsa
            have HBA := Lib.hid (HB.out.alloc hsz (.cells #[.int .i64 (x)] 3))
            clear hcl hsa
            go_wp2_with (at_builtin; refine wpList_append_ints rfl (.tmp 19) (.tmp 23) rfl w.heap.size _ acc [x] rfl HWA.out (some ⟨wr.heap.size, 0, none⟩) 1 1 rfl HO.out (by show _ + 1 ≤ _; omega) (by rw [HSA.out]; omega) ?_)
            intro v' w' hi' hg'
            have HRW := Lib.hid (show SomeRel l m w v' (.int .i64 ((k : Int) + 1)) w' from
              ⟨k + 1, by omega, by go_num, by rw [HSN.out]; exact hi', HBA.out.grown hg' (by rw [HSA.out]; omega) (fun j hj => (HWA.out.lt' j hj).1)⟩)
            clear hi' hg' hc
            go_wp2
            go_roundw
            case rel => exact HRW.out
            case measure => simp [intOf]; omega
          · subst hy
            have hcl : clampI 1000000 = 1000000 := by unfold clampI; omega
            rw [hcl] at HSN
            have HO := Lib.hid (ReadsI.one wr (1000000))
            have HWA := Lib.hid (HROW.out.alloc (.cells #[.int .i64 (1000000)] 3))
            have hsa : (wr.alloc (.cells #[.int .i64 (1000000)] 3)).heap.size = wr.heap.size + 1 := by simp
            have HSA := Lib.hid hsa
            have HBA := Lib.hid (HB.out.alloc hsz (.cells #[.int .i64 (1000000)] 3))
            clear hcl hsa
            go_wp2_with (at_builtin; refine wpList_append_ints rfl (.tmp 19) (.tmp 23) rfl w.heap.size _ acc [1000000] rfl HWA.out (some ⟨wr.heap.size, 0, none⟩) 1 1 rfl HO.out (by show _ + 1 ≤ _; omega) (by rw [HSA.out]; omega) ?_)
            intro v' w' hi' hg'
            have HRW := Lib.hid (show SomeRel l m w v' (.int .i64 ((k : Int) + 1)) w' from
              ⟨k + 1, by omega, by go_num, by rw [HSN.out]; exact hi', HBA.out.grown hg' (by rw [HSA.out]; omega) (fun j hj => (HWA.out.lt' j hj).1)⟩)
            clear hi' hg' hc
            go_wp2
            go_roundw
            case rel => exact HRW.out
            case measure => simp [intOf]; omega
          · skip
            have g1 : ¬ x < (-1000000 : Int) := by omega
            have g2 : ¬ x ≤ (-1000000 : Int) := by omega
            have g3 : -1000000 ≤ x := by omega
            have g4 : ¬ x < (1000000 : Int) := by omega
            have g5 : ¬ x ≤ (1000000 : Int) := by omega
            have g6 : 1000000 ≤ x := by omega
            have hcl : clampI x = 1000000 := by unfold clampI; omega
            rw [hcl] at HSN
            have HO := Lib.hid (ReadsI.one wr (1000000))
            have HWA := Lib.hid (HROW.out.alloc (.cells #[.int .i64 (1000000)] 3))
            have hsa : (wr.alloc (.cells #[.int .i64 (1000000)] 3)).heap.size = wr.heap.size + 1 := by simp
            have HSA := Lib.hid hsa
            have HBA := Lib.hid (HB.out.alloc hsz (.cells #[.int .i64 (1000000)] 3))
            clear hcl hsa
            go_wp2_with (at_builtin; refine wpList_append_ints rfl (.tmp 19) (.tmp 23) rfl w.heap.size _ acc [1000000] rfl HWA.out (some ⟨wr.heap.size, 0, none⟩) 1 1 rfl HO.out (by show _ + 1 ≤ _; omega) (by rw [HSA.out]; omega) ?_)
            intro v' w' hi' hg'
            have HRW := Lib.hid (show SomeRel l m w v' (.int .i64 ((k : Int) + 1)) w' from
              ⟨k + 1, by omega, by go_num, by rw [HSN.out]; exact hi', HBA.out.grown hg' (by rw [HSA.out]; omega) (fun j hj => (HWA.out.lt' j hj).1)⟩)
            clear hi' hg' hc
            go_wp2
            go_roundw
            case rel => exact HRW.out
            case measure => simp [intOf]; omega
      · obtain rfl : k = m := by omega
        have hfe : l.take k = l := List.take_of_length_le (by rw [HML.out]; exact Nat.le_refl _)
        have hrow := HROW.out
        rw [hfe] at hrow
        have HROW2 := Lib.hid hrow
        clear hrow hfe
        go_wp2
        go_ret
        exact ⟨_, rfl, HROW2.out, HB.out⟩
end Go.Proofs.Ytbpdapggdccmiaa
